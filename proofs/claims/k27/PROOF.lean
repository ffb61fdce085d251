import PyProof.Rows.All
import Wide.All
import OpenK.AllK
import Wide.FinOn
import HandS.ForMost
import HandS.ForExc
import HandS.Walk
import HandS.Deep
import HandS.IsInst
import HandS.TupAny
import HandS.TupLe
import HandS.Strs
import HandS.Conv
import HandS.SortInts
import HandS.Dict
import HandS.DictTup
import HandS.Iter
import HandS.More
import HandS.Star
import HandS.DictComp
import KE.SortData
import KE.DataCmp
import HandS.NoneIn
import KE.GoesEnum
import HandS.Defaults
import KE.KStateDown
import HandS.HeadEnd
import HandS.HeadHook1
import HandS.HeadHook2
import HandS.Head0
import HandS.Head1
import HandS.Head2
import PySem.Challenge.RW_strayplates_k27_read_told
set_option Elab.async false
set_option linter.all false
set_option maxRecDepth 100000
set_option maxHeartbeats 4000007
/-! # CzA -/
namespace Cz
open L2 PyProof.Rows PySem.Spec PySem

/-! ## data, told without the heap -/
inductive D where
  | non | bl (b : Bool) | int (i : Int) | str (x : Str)
  | tup (l : List D) | tuk (l : List D) | lst (l : List D) | rol (l : List D) | dk (l : List (Key × D)) | dt (l : List (List Key × D)) | obj (C : Addr) (l : List (Str × D))
  | ref (a : Addr) | ty (t : String)

/-- a key of a dict as data -/
def kD : Key → D
  | .inl i => .int i
  | .inr x => .str x

mutual
inductive Rp (K : PySem.W.Frag) (F : Hp) : D → V → Prop
  | non : Rp K F .non .non
  | bl (b : Bool) : Rp K F (.bl b) (.bl b)
  | int (i : Int) : Rp K F (.int i) (.int i)
  | str (x : Str) : Rp K F (.str x) (.str x)
  | ref (a : Addr) : Rp K F (.ref a) (.ref a)
  | ty (t : String) : Rp K F (.ty t) (.ty t)
  | tup {a : Addr} {xs : List V} {ds : List D} : F a = some (.tup xs) → RpL K F ds xs → Rp K F (.tup ds) (.ref a)
  | tuk {a : Addr} {xs : List V} {ds : List D} : SqT K F a xs → RpL K F ds xs → Rp K F (.tuk ds) (.ref a)
  | lst {a : Addr} {xs : List V} {ds : List D} : F a = some (.lst xs) → RpL K F ds xs → Rp K F (.lst ds) (.ref a)
  | rol {a : Addr} {xs : List V} {ds : List D} : SqL K F a xs → RpL K F ds xs → Rp K F (.rol ds) (.ref a)
  | dk {a : Addr} {l : List (Key × D)} {kvs : List (Key × V)} : Rd F a (.dK kvs) → RpK K F l kvs → Rp K F (.dk l) (.ref a)
  | dt {a : Addr} {l : List (List Key × D)} {kvs : List (List Key × V)} : Rd F a (.dT kvs) → RpT K F l kvs → Rp K F (.dt l) (.ref a)
  | obj {a C dx : Addr} {l : List (Str × D)} {fs : List (Str × V)} : F a = some (.ins C dx fs) → RpF K F l fs → Rp K F (.obj C l) (.ref a)
inductive RpL (K : PySem.W.Frag) (F : Hp) : List D → List V → Prop
  | nil : RpL K F [] []
  | cons {d : D} {ds : List D} {v : V} {vs : List V} : Rp K F d v → RpL K F ds vs → RpL K F (d :: ds) (v :: vs)
inductive RpF (K : PySem.W.Frag) (F : Hp) : List (Str × D) → List (Str × V) → Prop
  | nil : RpF K F [] []
  | cons {f : Str} {d : D} {ds : List (Str × D)} {v : V} {vs : List (Str × V)} : Rp K F d v → RpF K F ds vs → RpF K F ((f, d) :: ds) ((f, v) :: vs)
inductive RpK (K : PySem.W.Frag) (F : Hp) : List (Key × D) → List (Key × V) → Prop
  | nil : RpK K F [] []
  | cons {k : Key} {d : D} {ds : List (Key × D)} {v : V} {vs : List (Key × V)} : Rp K F d v → RpK K F ds vs → RpK K F ((k, d) :: ds) ((k, v) :: vs)
inductive RpT (K : PySem.W.Frag) (F : Hp) : List (List Key × D) → List (List Key × V) → Prop
  | nil : RpT K F [] []
  | cons {k : List Key} {d : D} {ds : List (List Key × D)} {v : V} {vs : List (List Key × V)} : Rp K F d v → RpT K F ds vs → RpT K F ((k, d) :: ds) ((k, v) :: vs)
end

def Sub (F F' : Hp) : Prop := ∀ a o, F a = some o → F' a = some o
theorem Sub.refl {F : Hp} : Sub F F := fun _ _ h => h
theorem Sub.trans {F F1 F2 : Hp} (a : Sub F F1) (b : Sub F1 F2) : Sub F F2 := fun x o h => b x o (a x o h)
theorem Sub.rd {F F' : Hp} {a : Addr} {u : HO} (s : Sub F F') (h : Rd F a u) : Rd F' a u := by
  rcases h with h | ⟨o, h⟩
  · exact .inl (s _ _ h)
  · exact .inr ⟨o, s _ _ h⟩
theorem Sub.l {K : PySem.W.Frag} {F F' : Hp} {a : Addr} {xs : List V} (s : Sub F F') (h : SqL K F a xs) : SqL K F' a xs := by
  rcases h with h | h
  · exact .inl (s.rd h)
  · exact .inr h
theorem Sub.t {K : PySem.W.Frag} {F F' : Hp} {a : Addr} {xs : List V} (s : Sub F F') (h : SqT K F a xs) : SqT K F' a xs := by
  rcases h with h | h
  · exact .inl (s.rd h)
  · exact .inr h
theorem Sub.free {F F' : Hp} {a : Addr} (s : Sub F F') (h : F' a = none) : F a = none := by
  cases e : F a with
  | none => rfl
  | some o => rw [s a o e] at h; cases h

section
variable {K : PySem.W.Frag} {F F' : Hp}
mutual
theorem Rp.mono (s : Sub F F') : ∀ {d : D} {v : V}, Rp K F d v → Rp K F' d v
  | _, _, .non => .non
  | _, _, .bl b => .bl b
  | _, _, .int i => .int i
  | _, _, .str x => .str x
  | _, _, .ref a => .ref a
  | _, _, .ty t => .ty t
  | _, _, .tup h r => .tup (s _ _ h) (r.mono s)
  | _, _, .tuk h r => .tuk (s.t h) (r.mono s)
  | _, _, .lst h r => .lst (s _ _ h) (r.mono s)
  | _, _, .rol h r => .rol (s.l h) (r.mono s)
  | _, _, .dk h r => .dk (s.rd h) (r.mono s)
  | _, _, .dt h r => .dt (s.rd h) (r.mono s)
  | _, _, .obj h r => .obj (s _ _ h) (r.mono s)
theorem RpL.mono (s : Sub F F') : ∀ {d : List D} {v : List V}, RpL K F d v → RpL K F' d v
  | _, _, .nil => .nil
  | _, _, .cons h r => .cons (h.mono s) (r.mono s)
theorem RpF.mono (s : Sub F F') : ∀ {d : List (Str × D)} {v : List (Str × V)}, RpF K F d v → RpF K F' d v
  | _, _, .nil => .nil
  | _, _, .cons h r => .cons (h.mono s) (r.mono s)
theorem RpK.mono (s : Sub F F') : ∀ {d : List (Key × D)} {v : List (Key × V)}, RpK K F d v → RpK K F' d v
  | _, _, .nil => .nil
  | _, _, .cons h r => .cons (h.mono s) (r.mono s)
theorem RpT.mono (s : Sub F F') : ∀ {d : List (List Key × D)} {v : List (List Key × V)}, RpT K F d v → RpT K F' d v
  | _, _, .nil => .nil
  | _, _, .cons h r => .cons (h.mono s) (r.mono s)
end
/-- the items of a tuple, wherever it stands -/
def tupL : D → Option (List D)
  | .tup l => some l
  | .tuk l => some l
  | _ => none
theorem Rp.sqt {d : D} {v : V} {l : List D} (h : Rp K F d v) (e : tupL d = some l) : ∃ a xs, v = .ref a ∧ SqT K F a xs ∧ RpL K F l xs := by
  cases h with
  | tup h r => cases e; exact ⟨_, _, rfl, SqT.of h, r⟩
  | tuk h r => cases e; exact ⟨_, _, rfl, h, r⟩
  | _ => cases e
theorem RpL.length : ∀ {ds : List D} {vs : List V}, RpL K F ds vs → ds.length = vs.length
  | _, _, .nil => rfl
  | _, _, .cons _ r => congrArg (· + 1) r.length
theorem RpL.get : ∀ {ds : List D} {vs : List V} {i : Nat} {d : D}, RpL K F ds vs → ds[i]? = some d → ∃ v, vs[i]? = some v ∧ Rp K F d v
  | _, _, _, _, .nil, e => by (simp at e)
  | _, _, 0, _, .cons h _, e => by
    simp at e
    subst e
    exact ⟨_, rfl, h⟩
  | _, _, i + 1, _, .cons _ r, e => by
    obtain ⟨v, h1, h2⟩ := r.get (i := i) (by simpa using e)
    exact ⟨v, by simpa using h1, h2⟩
theorem RpL.get' : ∀ {ds : List D} {vs : List V} {i : Nat} {v : V}, RpL K F ds vs → vs[i]? = some v → ∃ d, ds[i]? = some d ∧ Rp K F d v
  | _, _, _, _, .nil, e => by (simp at e)
  | _, _, 0, _, .cons h _, e => by
    simp at e
    subst e
    exact ⟨_, rfl, h⟩
  | _, _, i + 1, _, .cons _ r, e => by
    obtain ⟨v, h1, h2⟩ := r.get' (i := i) (by simpa using e)
    exact ⟨v, by simpa using h1, h2⟩
theorem RpL.append : ∀ {ds es : List D} {vs us : List V}, RpL K F ds vs → RpL K F es us → RpL K F (ds ++ es) (vs ++ us)
  | _, _, _, _, .nil, h => h
  | _, _, _, _, .cons h r, q => .cons h (r.append q)
theorem RpL.set {e : D} {u : V} (hu : Rp K F e u) : ∀ {ds : List D} {vs : List V} (i : Nat), RpL K F ds vs → RpL K F (ds.set i e) (vs.set i u)
  | _, _, _, .nil => .nil
  | _, _, 0, .cons _ r => .cons hu r
  | _, _, i + 1, .cons h r => .cons h (r.set hu i)
theorem RpL.take : ∀ {ds : List D} {vs : List V} (n : Nat), RpL K F ds vs → RpL K F (ds.take n) (vs.take n)
  | _, _, 0, _ => .nil
  | _, _, _ + 1, .nil => .nil
  | _, _, n + 1, .cons h r => .cons h (r.take n)
theorem RpL.drop : ∀ {ds : List D} {vs : List V} (n : Nat), RpL K F ds vs → RpL K F (ds.drop n) (vs.drop n)
  | _, _, 0, h => h
  | _, _, _ + 1, .nil => .nil
  | _, _, n + 1, .cons _ r => r.drop n
theorem RpF.lookup {f : Str} : ∀ {ds : List (Str × D)} {vs : List (Str × V)}, RpF K F ds vs → (ds.lookup f = none ∧ vs.lookup f = none) ∨ ∃ d v, ds.lookup f = some d ∧ vs.lookup f = some v ∧ Rp K F d v
  | _, _, .nil => .inl (And.intro rfl rfl)
  | _, _, .cons (f := g) (d := d) (v := v) h r => by
    simp only [List.lookup]
    cases e : (f == g) with
    | true => exact .inr ⟨d, v, rfl, rfl, h⟩
    | false => exact r.lookup
end
end Cz

/-! # CzB -/
namespace Cz
open L2 PyProof.Rows PySem.Spec PySem

/-! ## what a name holds; what a step gives -/
inductive OD where
  | lst (l : List D) | dk (lk : Bool) (l : List (Key × D)) | dt (lk : Bool) (l : List (List Key × D)) | obj (C : Addr) (l : List (Str × D))
def OD.fz : OD → D
  | .lst l => .lst l
  | .dk _ l => .dk l
  | .dt _ l => .dt l
  | .obj C l => .obj C l
inductive RpO (K : PySem.W.Frag) (F : Hp) : OD → HO → Prop
  | lst {l : List D} {xs : List V} : RpL K F l xs → RpO K F (.lst l) (.lst xs)
  | dk {l : List (Key × D)} {kvs : List (Key × V)} : RpK K F l kvs → RpO K F (.dk false l) (.dK kvs)
  | dt {l : List (List Key × D)} {kvs : List (List Key × V)} : RpT K F l kvs → RpO K F (.dt false l) (.dT kvs)
  | dkl {l : List (Key × D)} {kvs : List (Key × V)} {od : Obj} : RpK K F l kvs → RpO K F (.dk true l) (.frz od (.dK kvs))
  | dtl {l : List (List Key × D)} {kvs : List (List Key × V)} {od : Obj} : RpT K F l kvs → RpO K F (.dt true l) (.frz od (.dT kvs))
  | obj {C dx : Addr} {l : List (Str × D)} {fs : List (Str × V)} : RpF K F l fs → RpO K F (.obj C l) (.ins C dx fs)
/-- fz: data that nobody changes any more; ow: an object of this def's own; br: one that the caller has lent -/
inductive SV where
  | fz (d : D) | ow (o : OD) | br (o : OD)
def SV.own : SV → Option OD
  | .fz _ => none
  | .ow o => some o
  | .br o => some o
abbrev SS := List (Option SV)
inductive R (α : Type) where
  | ok (a : α) (s : SS) | ex (c : Addr) (l : List (Str × D)) (s : SS) | no
abbrev M (α : Type) := SS → R α
def R.bind {α β : Type} (r : R α) (f : α → SS → R β) : R β := match r with
  | .ok a s => f a s
  | .ex c l s => .ex c l s
  | .no => .no
/-- an expression's end: data, a new object of one's own, what the i-th name holds -/
inductive Rv where
  | d (d : D) | o (o : OD) | b (i : Nat)

section
variable {K : PySem.W.Frag}
theorem RpO.mono {F F' : Hp} (s : Sub F F') {o : OD} {h : HO} : RpO K F o h → RpO K F' o h
  | .lst r => .lst (r.mono s)
  | .dk r => .dk (r.mono s)
  | .dt r => .dt (r.mono s)
  | .dkl r => .dkl (r.mono s)
  | .dtl r => .dtl (r.mono s)
  | .obj r => .obj (r.mono s)
theorem RpO.rp {F : Hp} {o : OD} {h : HO} {p : Addr} (e : F p = some h) : RpO K F o h → Rp K F o.fz (.ref p)
  | .lst r => .lst e r
  | .dk r => .dk (.inl e) r
  | .dt r => .dt (.inl e) r
  | .dkl r => .dk (.inr ⟨_, e⟩) r
  | .dtl r => .dt (.inr ⟨_, e⟩) r
  | .obj r => .obj e r
/-- what is owned is no tuple -/
def Tu (H : Hp) (a : Addr) : Prop := ∃ xs, H a = some (.tup xs)
theorem RpO.notTup {F H : Hp} {o : OD} {h : HO} {p : Addr} (e : H p = some h) (r : RpO K F o h) : ¬ Tu H p := by
  rintro ⟨xs, q⟩
  rw [e] at q
  cases q
  cases r

def Ow (σ : L2.St) (s : SS) (a : Addr) : Prop := ∃ (i : Nat) (sv : SV) (o : OD), s[i]? = some (some sv) ∧ SV.own sv = some o ∧ σ[i]? = some (some (.ref a))
structure RS (K : PySem.W.Frag) (F H : Hp) (σ : L2.St) (s : SS) : Prop where
  sub : Sub F H
  len : σ.length = s.length
  fz : ∀ (i : Nat) (d : D), s[i]? = some (some (.fz d)) → ∃ v, σ[i]? = some (some v) ∧ Rp K F d v
  ow : ∀ (i : Nat) (sv : SV) (o : OD), s[i]? = some (some sv) → SV.own sv = some o → ∃ p ho, σ[i]? = some (some (.ref p)) ∧ F p = none ∧ H p = some ho ∧ RpO K F o ho
  ne : ∀ (i j : Nat) (si sj : SV) (oi oj : OD) (p : Addr), s[i]? = some (some si) → SV.own si = some oi → s[j]? = some (some sj) → SV.own sj = some oj → σ[i]? = some (some (.ref p)) → σ[j]? = some (some (.ref p)) → i = j
theorem RS.owF {F H : Hp} {σ : L2.St} {s : SS} (r : RS K F H σ s) {a : Addr} (h : Ow σ s a) : F a = none ∧ ∃ ho, H a = some ho := by
  obtain ⟨i, sv, o, h1, h2, h3⟩ := h
  obtain ⟨p, ho, e1, e2, e3, _⟩ := r.ow i sv o h1 h2
  have e : a = p := by
    rw [h3] at e1
    exact V.ref.inj (Option.some.inj (Option.some.inj e1))
  subst e
  exact ⟨e2, ho, e3⟩

/-- from one state to a later one of the same def -/
structure Go (K : PySem.W.Frag) (F H : Hp) (σ : L2.St) (s : SS) (F' H' : Hp) (σ' : L2.St) (s' : SS) : Prop where
  rs : RS K F' H' σ' s'
  fr : Sub F F'
  kp : ∀ a o, H a = some o → ¬ Ow σ s a → H' a = some o
  nw : ∀ a, F' a ≠ none → F a ≠ none ∨ H a = none ∨ Ow σ s a ∨ Tu H a
  ow : ∀ a, Ow σ' s' a → Ow σ s a ∨ H a = none
  br : ∀ (i : Nat) (o : OD), s[i]? = some (some (.br o)) → σ'[i]? = σ[i]? ∧ ∃ o', s'[i]? = some (some (.br o'))
  dm : ∀ a, H' a = none → H a = none
theorem Go.refl {F H : Hp} {σ : L2.St} {s : SS} (r : RS K F H σ s) : Go K F H σ s F H σ s :=
  ⟨r, Sub.refl, fun _ _ h _ => h, fun _ h => .inl h, fun _ h => .inl h, fun _ o h => ⟨rfl, o, h⟩, fun _ h => h⟩
theorem Go.trans {F H F1 H1 F2 H2 : Hp} {σ σ1 σ2 : L2.St} {s s1 s2 : SS} (a : Go K F H σ s F1 H1 σ1 s1) (b : Go K F1 H1 σ1 s1 F2 H2 σ2 s2) : Go K F H σ s F2 H2 σ2 s2 := by
  have back : ∀ x, H1 x = none → H x = none := a.dm
  refine ⟨b.rs, a.fr.trans b.fr, fun x o h n => b.kp x o (a.kp x o h n) fun w => ?_, fun x h => ?_, fun x h => ?_, fun i o h => ?_, fun x h => a.dm x (b.dm x h)⟩
  · rcases a.ow x w with w | w
    · exact n w
    · rw [h] at w; cases w
  · rcases b.nw x h with h | h | h | h
    · exact a.nw x h
    · exact .inr (.inl (back x h))
    · rcases a.ow x h with h | h
      · exact .inr (.inr (.inl h))
      · exact .inr (.inl h)
    · obtain ⟨xs, h⟩ := h
      cases e : H x with
      | none => exact .inr (.inl rfl)
      | some o =>
        by_cases w : Ow σ s x
        · exact .inr (.inr (.inl w))
        · have q := a.kp x o e w
          rw [h] at q
          cases q
          exact .inr (.inr (.inr ⟨xs, e⟩))
  · rcases b.ow x h with h | h
    · exact a.ow x h
    · exact .inr (back x h)
  · obtain ⟨e1, o1, h1⟩ := a.br i o h
    obtain ⟨e2, o2, h2⟩ := b.br i o1 h1
    exact ⟨e2.trans e1, o2, h2⟩

/-- what an expression's end stands for; H0: the heap ahead of it -/
def RpR (K : PySem.W.Frag) (H0 F H : Hp) (σ : L2.St) (s : SS) : Rv → V → Prop
  | .d d, v => Rp K F d v
  | .o o, v => ∃ p ho, v = .ref p ∧ F p = none ∧ H p = some ho ∧ RpO K F o ho ∧ H0 p = none ∧ ¬ Ow σ s p
  | .b i, v => σ[i]? = some (some v)
theorem RpR.go {H0 F H F' H' : Hp} {σ : L2.St} {s s' : SS} {r : Rv} {v : V} (g : Go K F H σ s F' H' σ s') (h : RpR K H0 F H σ s r v) : RpR K H0 F' H' σ s' r v := by
  cases r with
  | d d => exact Rp.mono g.fr h
  | o o =>
    obtain ⟨p, ho, rfl, e1, e2, e3, e4, e5⟩ := h
    refine ⟨p, ho, rfl, ?_, g.kp p ho e2 e5, e3.mono g.fr, e4, fun w => ?_⟩
    · cases e : F' p with
      | none => rfl
      | some u =>
        rcases g.nw p (by rw [e]; exact fun z => nomatch z) with q | q | q | q
        · exact absurd e1 q
        · rw [e2] at q; cases q
        · exact absurd q e5
        · exact absurd q (e3.notTup e2)
    · rcases g.ow p w with q | q
      · exact e5 q
      · rw [e2] at q; cases q
  | b i => exact h
theorem RpR.back {H0 H1 F H : Hp} {σ : L2.St} {s : SS} {r : Rv} {v : V} (d : ∀ a, H1 a = none → H0 a = none) (h : RpR K H1 F H σ s r v) : RpR K H0 F H σ s r v := by
  cases r with
  | d d => exact h
  | o o =>
    obtain ⟨p, ho, rfl, e1, e2, e3, e4, e5⟩ := h
    exact ⟨p, ho, rfl, e1, e2, e3, d p e4, e5⟩
  | b i => exact h

/-! ### wishes -/
def Wn (K : PySem.W.Frag) (W : WX) (Q : VK) (F H : Hp) (σ : L2.St) (s : SS) : R Rv → Prop
  | .ok r s' => ∀ v F' H', Go K F H σ s F' H' σ s' → RpR K H F' H' σ s' r v → Q v H'
  | .ex c l s' => ∀ dd F' H' xs, Go K F H σ s F' H' σ s' → H' dd = some (.xd xs) → RpF K F' l xs → W (.ref c) (some dd) σ H'
  | .no => False
def EvX (K : PySem.W.Frag) (W : WX) (te : TE) (m : M Rv) : Prop := ∀ F H σ s Q, RS K F H σ s → Wn K W Q F H σ s (m s) → te σ H Q
def WnT (K : PySem.W.Frag) (W : WX) (Q : Bool → Hp → Prop) (F H : Hp) (σ : L2.St) (s : SS) : R Bool → Prop
  | .ok b s' => ∀ F' H', Go K F H σ s F' H' σ s' → Q b H'
  | .ex c l s' => ∀ dd F' H' xs, Go K F H σ s F' H' σ s' → H' dd = some (.xd xs) → RpF K F' l xs → W (.ref c) (some dd) σ H'
  | .no => False
def EvT (K : PySem.W.Frag) (W : WX) (tt : TT) (m : M Bool) : Prop := ∀ F H σ s Q, RS K F H σ s → WnT K W Q F H σ s (m s) → tt σ H Q

/-- a part, with what is still wished of the whole -/
theorem EvX.step {W : WX} {te : TE} {m : M Rv} (h : EvX K W te m) {F0 H0 F H : Hp} {σ : L2.St} {s0 s : SS} {Q Q1 : VK} {f : Rv → SS → R Rv} (g : Go K F0 H0 σ s0 F H σ s) (w : Wn K W Q F0 H0 σ s0 ((m s).bind f))
    (k : ∀ r s1 v F1 H1, Go K F0 H0 σ s0 F1 H1 σ s1 → Go K F H σ s F1 H1 σ s1 → RpR K H F1 H1 σ s1 r v → Wn K W Q F0 H0 σ s0 (f r s1) → Q1 v H1) : te σ H Q1 := by
  refine h F H σ s Q1 g.rs ?_
  cases e : m s with
  | ok r s1 =>
    rw [e] at w
    exact fun v F1 H1 g1 r1 => k r s1 v F1 H1 (g.trans g1) g1 r1 w
  | ex c l s1 =>
    rw [e] at w
    exact fun dd F1 H1 xs g1 => w dd F1 H1 xs (g.trans g1)
  | no =>
    rw [e] at w
    exact w
theorem EvX.stepT {W : WX} {te : TE} {m : M Rv} (h : EvX K W te m) {F0 H0 F H : Hp} {σ : L2.St} {s0 s : SS} {Q : Bool → Hp → Prop} {Q1 : VK} {f : Rv → SS → R Bool} (g : Go K F0 H0 σ s0 F H σ s) (w : WnT K W Q F0 H0 σ s0 ((m s).bind f))
    (k : ∀ r s1 v F1 H1, Go K F0 H0 σ s0 F1 H1 σ s1 → Go K F H σ s F1 H1 σ s1 → RpR K H F1 H1 σ s1 r v → WnT K W Q F0 H0 σ s0 (f r s1) → Q1 v H1) : te σ H Q1 := by
  refine h F H σ s Q1 g.rs ?_
  cases e : m s with
  | ok r s1 =>
    rw [e] at w
    exact fun v F1 H1 g1 r1 => k r s1 v F1 H1 (g.trans g1) g1 r1 w
  | ex c l s1 =>
    rw [e] at w
    exact fun dd F1 H1 xs g1 => w dd F1 H1 xs (g.trans g1)
  | no =>
    rw [e] at w
    exact w
theorem EvT.step {W : WX} {tt : TT} {m : M Bool} (h : EvT K W tt m) {F0 H0 F H : Hp} {σ : L2.St} {s0 s : SS} {Q : VK} {Q1 : Bool → Hp → Prop} {f : Bool → SS → R Rv} (g : Go K F0 H0 σ s0 F H σ s) (w : Wn K W Q F0 H0 σ s0 ((m s).bind f))
    (k : ∀ b s1 F1 H1, Go K F0 H0 σ s0 F1 H1 σ s1 → Go K F H σ s F1 H1 σ s1 → Wn K W Q F0 H0 σ s0 (f b s1) → Q1 b H1) : tt σ H Q1 := by
  refine h F H σ s Q1 g.rs ?_
  cases e : m s with
  | ok r s1 =>
    rw [e] at w
    exact fun F1 H1 g1 => k r s1 F1 H1 (g.trans g1) g1 w
  | ex c l s1 =>
    rw [e] at w
    exact fun dd F1 H1 xs g1 => w dd F1 H1 xs (g.trans g1)
  | no =>
    rw [e] at w
    exact w
theorem EvT.stepT {W : WX} {tt : TT} {m : M Bool} (h : EvT K W tt m) {F0 H0 F H : Hp} {σ : L2.St} {s0 s : SS} {Q Q1 : Bool → Hp → Prop} {f : Bool → SS → R Bool} (g : Go K F0 H0 σ s0 F H σ s) (w : WnT K W Q F0 H0 σ s0 ((m s).bind f))
    (k : ∀ b s1 F1 H1, Go K F0 H0 σ s0 F1 H1 σ s1 → Go K F H σ s F1 H1 σ s1 → WnT K W Q F0 H0 σ s0 (f b s1) → Q1 b H1) : tt σ H Q1 := by
  refine h F H σ s Q1 g.rs ?_
  cases e : m s with
  | ok r s1 =>
    rw [e] at w
    exact fun F1 H1 g1 => k r s1 F1 H1 (g.trans g1) g1 w
  | ex c l s1 =>
    rw [e] at w
    exact fun dd F1 H1 xs g1 => w dd F1 H1 xs (g.trans g1)
  | no =>
    rw [e] at w
    exact w

/-! ### to freeze, to look at -/
/-- data for good -/
def frz : Rv → M D
  | .d d, s => .ok d s
  | .o o, s => .ok o.fz s
  | .b i, s => match s[i]? with
    | some (some (.fz d)) => .ok d s
    | some (some (.ow o)) => .ok o.fz (s.set i (some (.fz o.fz)))
    | _ => .no
/-- a new object is nobody's: data for good; a name's object stays with the name -/
def nrm : Rv → Rv
  | .o o => .d o.fz
  | r => r
theorem lt_of_get {α : Type} {l : List α} {i : Nat} {x : α} (h : l[i]? = some x) : i < l.length := (List.getElem?_eq_some_iff.mp h).1
theorem get_set_eq {α : Type} {l : List α} {i : Nat} {x y : α} (h : l[i]? = some x) : (l.set i y)[i]? = some y := by
  rw [List.getElem?_set_self (lt_of_get h)]
theorem get_set_ne {α : Type} {l : List α} {i j : Nat} {y : α} (h : i ≠ j) : (l.set i y)[j]? = l[j]? := List.getElem?_set_ne h
/-- the heap of what is frozen grows by an object that is there -/
theorem RS.grow {F H : Hp} {σ : L2.St} {s : SS} {p : Addr} {ho : HO} (r : RS K F H σ s) (e1 : F p = none) (e2 : H p = some ho) (e3 : ¬ Ow σ s p) : RS K (upd F p ho) H σ s ∧ Sub F (upd F p ho) := by
  have sb : Sub F (upd F p ho) := fun a o h => by
    rw [upd_ne (ne_of_none h e1)]
    exact h
  refine ⟨⟨fun a o h => ?_, r.len, fun i d h => ?_, fun i sv o h1 h2 => ?_, r.ne⟩, sb⟩
  · by_cases q : a = p
    · subst q
      rw [upd_same] at h
      rw [e2]
      exact h
    · rw [upd_ne q] at h
      exact r.sub _ _ h
  · obtain ⟨v, h1, h2⟩ := r.fz i d h
    exact ⟨v, h1, h2.mono sb⟩
  · obtain ⟨q, hq, a1, a2, a3, a4⟩ := r.ow i sv o h1 h2
    have nq : q ≠ p := fun z => e3 ⟨i, sv, o, h1, h2, by rw [← z]; exact a1⟩
    exact ⟨q, hq, a1, by rw [upd_ne nq]; exact a2, a3, a4.mono sb⟩
/-- a new object, told as data, from where it was not yet there -/
theorem Go.grow {F0 H0 F H : Hp} {σ0 σ : L2.St} {s0 s : SS} {p : Addr} {ho : HO} (g : Go K F0 H0 σ0 s0 F H σ s) (e1 : F p = none) (e2 : H p = some ho) (e3 : ¬ Ow σ s p) (e4 : H0 p = none) : Go K F0 H0 σ0 s0 (upd F p ho) H σ s := by
  obtain ⟨r, sb⟩ := g.rs.grow e1 e2 e3
  refine ⟨r, g.fr.trans sb, g.kp, fun a h => ?_, g.ow, g.br, g.dm⟩
  by_cases q : a = p
  · subst q
    exact .inr (.inl e4)
  · rw [upd_ne q] at h
    exact g.nw a h
theorem nrm_ok {F0 H0 F H : Hp} {σ0 σ : L2.St} {s0 s : SS} {r : Rv} {v : V} (g : Go K F0 H0 σ0 s0 F H σ s) (h : RpR K H0 F H σ s r v) : ∃ F', Go K F0 H0 σ0 s0 F' H σ s ∧ Sub F F' ∧ RpR K H0 F' H σ s (nrm r) v := by
  cases r with
  | d d => exact ⟨F, g, Sub.refl, h⟩
  | o o =>
    obtain ⟨p, ho, rfl, e1, e2, e3, e4, e5⟩ := h
    have g' := g.grow e1 e2 e5 e4
    have sb : Sub F (upd F p ho) := (g.rs.grow e1 e2 e5).2
    exact ⟨_, g', sb, (e3.mono sb).rp upd_same⟩
  | b i => exact ⟨F, g, Sub.refl, h⟩
theorem RS.freeze {F H : Hp} {σ : L2.St} {s : SS} {i : Nat} {o : OD} (r : RS K F H σ s) (h : s[i]? = some (some (.ow o))) : ∃ p ho, σ[i]? = some (some (.ref p)) ∧ F p = none ∧ H p = some ho ∧ RpO K F o ho ∧
    Go K F H σ s (upd F p ho) H σ (s.set i (some (.fz o.fz))) ∧ Rp K (upd F p ho) o.fz (.ref p) := by
  obtain ⟨p, ho, e1, e2, e3, e4⟩ := r.ow i _ o h rfl
  have sb : Sub F (upd F p ho) := fun a u q => by
    rw [upd_ne (ne_of_none q e2)]
    exact q
  have rp := (e4.mono sb).rp (p := p) (upd_same (H := F))
  have sub : Sub (upd F p ho) H := fun a u q => by
    by_cases z : a = p
    · subst z
      rw [upd_same] at q
      rw [e3]
      exact q
    · rw [upd_ne z] at q
      exact r.sub _ _ q
  have old : ∀ j sv, j ≠ i → (s.set i (some (.fz o.fz)))[j]? = some (some sv) → s[j]? = some (some sv) := fun j sv nj q => by
    rw [get_set_ne (Ne.symm nj)] at q
    exact q
  have nown : ∀ j sv u, (s.set i (some (.fz o.fz)))[j]? = some (some sv) → SV.own sv = some u → j ≠ i ∧ s[j]? = some (some sv) := fun j sv u q w => by
    have nj : j ≠ i := fun z => by
      subst z
      rw [get_set_eq h] at q
      cases q
      cases w
    exact ⟨nj, old j sv nj q⟩
  refine ⟨p, ho, e1, e2, e3, e4, ⟨⟨sub, by rw [List.length_set]; exact r.len, fun j d q => ?_, fun j sv u q w => ?_, fun j k sj sk oj ok' q a1 a2 a3 a4 a5 a6 => ?_⟩, sb, fun a u q _ => q, fun a q => ?_, fun a q => ?_, fun j u q => ?_, fun _ q => q⟩, rp⟩
  · by_cases nj : j = i
    · subst nj
      rw [get_set_eq h] at q
      cases q
      exact ⟨_, e1, rp⟩
    · obtain ⟨v, a1, a2⟩ := r.fz j d (old j _ nj q)
      exact ⟨v, a1, a2.mono sb⟩
  · obtain ⟨nj, q'⟩ := nown j sv u q w
    obtain ⟨x, hx, a1, a2, a3, a4⟩ := r.ow j sv u q' w
    have nx : x ≠ p := fun z => nj (r.ne j i sv _ u o p q' w h rfl (by rw [← z]; exact a1) e1)
    exact ⟨x, hx, a1, by rw [upd_ne nx]; exact a2, a3, a4.mono sb⟩
  · exact r.ne j k sj sk oj ok' q (nown j sj oj a1 a2).2 a2 (nown k sk ok' a3 a4).2 a4 a5 a6
  · by_cases z : a = p
    · subst z
      exact .inr (.inr (.inl ⟨i, _, o, h, rfl, e1⟩))
    · rw [upd_ne z] at q
      exact .inl q
  · obtain ⟨j, sv, u, a1, a2, a3⟩ := q
    exact .inl ⟨j, sv, u, (nown j sv u a1 a2).2, a2, a3⟩
  · refine ⟨rfl, u, ?_⟩
    have nj : i ≠ j := fun z => by
      subst z
      rw [h] at q
      cases q
    rw [get_set_ne nj]
    exact q
theorem frz_ok {F0 H0 F H : Hp} {σ : L2.St} {s0 s s' : SS} {r : Rv} {v : V} {d : D} (g : Go K F0 H0 σ s0 F H σ s) (h : RpR K H0 F H σ s r v) (e : frz r s = .ok d s') : ∃ F', Go K F0 H0 σ s0 F' H σ s' ∧ Sub F F' ∧ Rp K F' d v := by
  cases r with
  | d d' =>
    cases e
    exact ⟨F, g, Sub.refl, h⟩
  | o o =>
    cases e
    obtain ⟨F', a, b, c⟩ := nrm_ok g h
    exact ⟨F', a, b, c⟩
  | b i =>
    have hv : σ[i]? = some (some v) := h
    simp only [frz] at e
    cases q : s[i]? with
    | none => (rw [q] at e; cases e)
    | some x =>
      cases x with
      | none => (rw [q] at e; cases e)
      | some sv =>
        cases sv with
        | fz d' =>
          rw [q] at e
          cases e
          obtain ⟨u, a1, a2⟩ := g.rs.fz i _ q
          rw [hv] at a1
          cases a1
          exact ⟨F, g, Sub.refl, a2⟩
        | ow o =>
          rw [q] at e
          cases e
          obtain ⟨p, ho, a1, a2, a3, a4, a5, a6⟩ := g.rs.freeze q
          rw [hv] at a1
          cases a1
          exact ⟨_, g.trans a5, a5.fr, a6⟩
        | br o => rw [q] at e; cases e
theorem frz_ex {r : Rv} {s s' : SS} {c : Addr} {l : List (Str × D)} : frz r s ≠ .ex c l s' := by
  intro e
  cases r with
  | d d => cases e
  | o o => cases e
  | b i =>
    simp only [frz] at e
    split at e <;> cases e
end
end Cz

/-! # CzC -/
namespace Cz
open L2 PyProof.Rows PySem.Spec PySem
variable {K : PySem.W.Frag}

/-! ## to look at a thing as it is now -/
def RpP (K : PySem.W.Frag) (F H : Hp) : D → V → Prop
  | .lst l, v => ∃ a xs, v = .ref a ∧ H a = some (.lst xs) ∧ RpL K F l xs
  | .dk l, v => ∃ a kvs, v = .ref a ∧ Rd H a (.dK kvs) ∧ RpK K F l kvs
  | .dt l, v => ∃ a kvs, v = .ref a ∧ Rd H a (.dT kvs) ∧ RpT K F l kvs
  | .obj C l, v => ∃ a dx fs, v = .ref a ∧ H a = some (.ins C dx fs) ∧ RpF K F l fs
  | d, v => Rp K F d v
theorem Rp.look {F H : Hp} (s : Sub F H) {d : D} {v : V} (h : Rp K F d v) : RpP K F H d v := by
  cases h with
  | lst h r => exact ⟨_, _, rfl, s _ _ h, r⟩
  | dk h r => exact ⟨_, _, rfl, s.rd h, r⟩
  | dt h r => exact ⟨_, _, rfl, s.rd h, r⟩
  | obj h r => exact ⟨_, _, _, rfl, s _ _ h, r⟩
  | non => exact .non
  | bl b => exact .bl b
  | int i => exact .int i
  | str x => exact .str x
  | ref a => exact .ref a
  | ty t => exact .ty t
  | tup h r => exact .tup h r
  | tuk h r => exact .tuk h r
  | rol h r => exact .rol h r
theorem RpO.look {F H : Hp} {o : OD} {ho : HO} {p : Addr} (e : H p = some ho) (h : RpO K F o ho) : RpP K F H o.fz (.ref p) := by
  cases h with
  | lst r => exact ⟨_, _, rfl, e, r⟩
  | dk r => exact ⟨_, _, rfl, .inl e, r⟩
  | dt r => exact ⟨_, _, rfl, .inl e, r⟩
  | dkl r => exact ⟨_, _, rfl, .inr ⟨_, e⟩, r⟩
  | dtl r => exact ⟨_, _, rfl, .inr ⟨_, e⟩, r⟩
  | obj r => exact ⟨_, _, _, rfl, e, r⟩
def pk : Rv → SS → Option D
  | .d d, _ => some d
  | .o o, _ => some o.fz
  | .b i, s => match s[i]? with
    | some (some (.fz d)) => some d
    | some (some (.ow o)) => some o.fz
    | some (some (.br o)) => some o.fz
    | _ => none
theorem pk_ok {H0 F H : Hp} {σ : L2.St} {s : SS} {r : Rv} {v : V} {d : D} (rs : RS K F H σ s) (h : RpR K H0 F H σ s r v) (e : pk r s = some d) : RpP K F H d v := by
  cases r with
  | d d' =>
    cases e
    exact Rp.look rs.sub h
  | o o =>
    cases e
    obtain ⟨p, ho, rfl, e1, e2, e3, _⟩ := h
    exact e3.look e2
  | b i =>
    have hv : σ[i]? = some (some v) := h
    simp only [pk] at e
    cases q : s[i]? with
    | none => (rw [q] at e; cases e)
    | some x =>
      cases x with
      | none => (rw [q] at e; cases e)
      | some sv =>
        cases sv with
        | fz d' =>
          rw [q] at e
          cases e
          obtain ⟨u, a1, a2⟩ := rs.fz i _ q
          rw [hv] at a1
          cases a1
          exact a2.look rs.sub
        | ow o =>
          rw [q] at e
          cases e
          obtain ⟨p, ho, a1, a2, a3, a4⟩ := rs.ow i _ o q rfl
          rw [hv] at a1
          cases a1
          exact a4.look a3
        | br o =>
          rw [q] at e
          cases e
          obtain ⟨p, ho, a1, a2, a3, a4⟩ := rs.ow i _ o q rfl
          rw [hv] at a1
          cases a1
          exact a4.look a3

/-! ## new objects -/
structure Al (F H F' H' : Hp) : Prop where
  f : Sub F F'
  h : Sub H H'
  s : Sub F' H'
  n : ∀ a, F' a ≠ none → F a ≠ none ∨ H a = none ∨ Tu H a
theorem Al.refl {F H : Hp} (s : Sub F H) : Al F H F H := ⟨Sub.refl, Sub.refl, s, fun _ h => .inl h⟩
theorem Al.new {F H : Hp} {p : Addr} {ho : HO} (s : Sub F H) (h : H p = none) : Al F H (upd F p ho) (upd H p ho) := by
  have e : F p = none := s.free h
  refine ⟨fun a o q => by rw [upd_ne (ne_of_none q e)]; exact q, fun a o q => by rw [upd_ne (ne_of_none q h)]; exact q, fun a o q => ?_, fun a q => ?_⟩
  · by_cases z : a = p
    · subst z
      rw [upd_same] at q ⊢
      exact q
    · rw [upd_ne z] at q ⊢
      exact s _ _ q
  · by_cases z : a = p
    · subst z
      exact .inr (.inl h)
    · rw [upd_ne z] at q
      exact .inl q
theorem Go.al {F0 H0 F H F' H' : Hp} {σ0 σ : L2.St} {s0 s : SS} (g : Go K F0 H0 σ0 s0 F H σ s) (a : Al F H F' H') : Go K F0 H0 σ0 s0 F' H' σ s := by
  refine g.trans ⟨⟨a.s, g.rs.len, fun i d h => ?_, fun i sv o h1 h2 => ?_, g.rs.ne⟩, a.f, fun x o h _ => a.h x o h, fun x h => ?_, fun x h => .inl h, fun i o h => ⟨rfl, o, h⟩, fun x h => a.h.free h⟩
  · obtain ⟨v, h1, h2⟩ := g.rs.fz i d h
    exact ⟨v, h1, h2.mono a.f⟩
  · obtain ⟨p, ho, b1, b2, b3, b4⟩ := g.rs.ow i sv o h1 h2
    refine ⟨p, ho, b1, ?_, a.h _ _ b3, b4.mono a.f⟩
    cases e : F' p with
    | none => rfl
    | some u =>
      rcases a.n p (by rw [e]; exact fun z => nomatch z) with q | q | q
      · exact absurd b2 q
      · rw [b3] at q; cases q
      · exact absurd q (b4.notTup b3)
  · rcases a.n x h with q | q | q
    · exact .inl q
    · exact .inr (.inl q)
    · exact .inr (.inr (.inr q))
/-- a fresh object that nobody holds yet -/
theorem Go.fresh {F0 H0 F H : Hp} {σ0 σ : L2.St} {s0 s : SS} {p : Addr} {ho : HO} {o : OD} (g : Go K F0 H0 σ0 s0 F H σ s) (h : H p = none) (r : RpO K F o ho) :
    Go K F0 H0 σ0 s0 F (upd H p ho) σ s ∧ RpR K H0 F (upd H p ho) σ s (.o o) (.ref p) := by
  have sb : Sub H (upd H p ho) := fun a u q => by
    rw [upd_ne (ne_of_none q h)]
    exact q
  have g' := g.al (F' := F) (H' := upd H p ho) ⟨Sub.refl, sb, g.rs.sub.trans sb, fun _ q => .inl q⟩
  refine ⟨g', p, ho, rfl, g.rs.sub.free h, upd_same, r, g.dm p h, fun w => ?_⟩
  obtain ⟨_, u, q⟩ := g.rs.owF w
  rw [h] at q; cases q

/-! ## operations -/
/-- what an operation gives -/
def OutOk (K : PySem.W.Frag) (F H : Hp) (Q : VK) : Option Rv → Prop
  | some (.d d) => ∀ z F' H', Al F H F' H' → Rp K F' d z → Q z H'
  | some (.o o) => ∀ F' p ho, Al F H F' H → H p = none → RpO K F' o ho → Q (.ref p) (upd H p ho)
  | _ => False
def Op2 (K : PySem.W.Frag) (r : R2) (f : D → D → Option Rv) : Prop := ∀ F H x y dx dy Q, Sub F H → RpP K F H dx x → RpP K F H dy y → OutOk K F H Q (f dx dy) → r x y H Q
def Op1 (K : PySem.W.Frag) (r : V → Hp → VK → Prop) (f : D → Option Rv) : Prop := ∀ F H x dx Q, Sub F H → RpP K F H dx x → OutOk K F H Q (f dx) → r x H Q
def outR (o : Option Rv) : M Rv := fun s => match o with
  | some (.d d) => .ok (.d d) s
  | some (.o o) => .ok (.o o) s
  | _ => .no
theorem out_ok {F0 H0 F H : Hp} {σ : L2.St} {s0 s : SS} {W : WX} {Q : VK} {o : Option Rv} (g : Go K F0 H0 σ s0 F H σ s) (w : Wn K W Q F0 H0 σ s0 (outR o s)) : OutOk K F H Q o := by
  match o, w with
  | some (.d d), w => exact fun z F' H' a h => w z F' H' (g.al a) h
  | some (.o o), w => exact fun F' p ho a h r => w _ F' _ ((g.al a).fresh h r).1 ((g.al a).fresh h r).2
  | some (.b i), w => exact w
  | none, w => exact w
def opt {α β : Type} (o : Option α) (f : α → R β) : R β := match o with
  | some a => f a
  | none => .no
theorem opt_wn {α : Type} {F H : Hp} {σ : L2.St} {s : SS} {W : WX} {Q : VK} {o : Option α} {f : α → R Rv} (w : Wn K W Q F H σ s (opt o f)) : ∃ a, o = some a ∧ Wn K W Q F H σ s (f a) := by
  cases o with
  | none => exact w.elim
  | some a => exact ⟨a, rfl, w⟩
theorem opt_wnT {α : Type} {F H : Hp} {σ : L2.St} {s : SS} {W : WX} {Q : Bool → Hp → Prop} {o : Option α} {f : α → R Bool} (w : WnT K W Q F H σ s (opt o f)) : ∃ a, o = some a ∧ WnT K W Q F H σ s (f a) := by
  cases o with
  | none => exact w.elim
  | some a => exact ⟨a, rfl, w⟩

def mOp (f : D → D → Option Rv) (ma mb : M Rv) : M Rv := fun s => (ma s).bind fun r1 s1 => (mb s1).bind fun r2 s2 => opt (pk (nrm r1) s2) fun x => opt (pk r2 s2) fun y => outR (f x y) s2
theorem ev_op {W : WX} {r : R2} {f : D → D → Option Rv} {ta tb : TE} {ma mb : M Rv} (ho : Op2 K r f) (ha : EvX K W ta ma) (hb : EvX K W tb mb) : EvX K W (tOp r ta tb) (mOp f ma mb) := by
  intro F H σ s Q rs w
  refine ha.step (Go.refl rs) w fun r1 s1 v1 F1 H1 g1 _ h1 w1 => ?_
  obtain ⟨F1', g1', sb1, h1'⟩ := nrm_ok g1 h1
  refine hb.step g1' w1 fun r2 s2 v2 F2 H2 g2 g12 h2 w2 => ?_
  obtain ⟨x, ex, w3⟩ := opt_wn w2
  obtain ⟨y, ey, w4⟩ := opt_wn w3
  exact ho F2 H2 v1 v2 x y Q g2.rs.sub (pk_ok g2.rs (h1'.go g12) ex) (pk_ok g2.rs h2 ey) (out_ok g2 w4)
def mUn (f : D → Option Rv) (ma : M Rv) : M Rv := fun s => (ma s).bind fun r1 s1 => opt (pk r1 s1) fun x => outR (f x) s1
theorem ev_un {W : WX} {r : V → Hp → VK → Prop} {f : D → Option Rv} {ta : TE} {ma : M Rv} (ho : Op1 K r f) (ha : EvX K W ta ma) : EvX K W (tUn r ta) (mUn f ma) := by
  intro F H σ s Q rs w
  refine ha.step (Go.refl rs) w fun r1 s1 v1 F1 H1 g1 _ h1 w1 => ?_
  obtain ⟨x, ex, w3⟩ := opt_wn w1
  exact ho F1 H1 v1 x Q g1.rs.sub (pk_ok g1.rs h1 ex) (out_ok g1 w3)

/-! ## names, constants -/
def mVar (i : Nat) : M Rv := fun s => match s[i]? with
  | some (some (.fz d)) => .ok (.d d) s
  | some (some _) => .ok (.b i) s
  | _ => .no
theorem ev_var {W : WX} {i : Nat} : EvX K W (tVar i) (mVar i) := by
  intro F H σ s Q rs w
  unfold mVar at w
  cases q : s[i]? with
  | none => rw [q] at w; exact w.elim
  | some x =>
    cases x with
    | none => rw [q] at w; exact w.elim
    | some sv =>
      cases sv with
      | fz d =>
        rw [q] at w
        obtain ⟨v, h1, h2⟩ := rs.fz i d q
        exact ⟨v, h1, w v F H (Go.refl rs) h2⟩
      | ow o =>
        rw [q] at w
        obtain ⟨p, ho, h1, _⟩ := rs.ow i _ o q rfl
        exact ⟨_, h1, w _ F H (Go.refl rs) h1⟩
      | br o =>
        rw [q] at w
        obtain ⟨p, ho, h1, _⟩ := rs.ow i _ o q rfl
        exact ⟨_, h1, w _ F H (Go.refl rs) h1⟩
def mC (d : D) : M Rv := fun s => .ok (.d d) s
theorem ev_c {W : WX} {v : V} {d : D} (h : ∀ F, Rp K F d v) : EvX K W (tC v) (mC d) := fun F H σ s Q rs w => w v F H (Go.refl rs) (h F)

/-! ## tests -/
def mTr (f : D → Option Bool) (ma : M Rv) : M Bool := fun s => (ma s).bind fun r s1 => opt (pk r s1) fun x => opt (f x) fun b => .ok b s1
/-- a value's truth -/
def trD : D → Option Bool
  | .non => some false
  | .bl b => some b
  | .int i => some (i != 0)
  | .str x => if x.length ≤ sizeLine then some ((x.length : Int) != 0) else none
  | .tup l => some !l.isEmpty
  | .tuk l => some !l.isEmpty
  | .lst l => some !l.isEmpty
  | _ => none
theorem RpL.empty {F : Hp} {l : List D} {xs : List V} (r : RpL K F l xs) : xs.isEmpty = l.isEmpty := by cases r <;> rfl
theorem tru_of {F H : Hp} {d : D} {v : V} {b : Bool} (s : Sub F H) (h : RpP K F H d v) (e : trD d = some b) : TruV K v H b := by
  cases d with
  | non => cases h; cases e; rfl
  | bl b => cases h; cases e; rfl
  | int i => cases h; cases e; rfl
  | str x =>
    cases h
    simp only [trD] at e
    split at e
    · cases e; exact ⟨by assumption, rfl⟩
    · cases e
  | tup l =>
    cases h with
    | tup h r =>
      cases e
      exact .inr (.inl ⟨_, s.t (SqT.of h), by rw [r.empty]⟩)
  | tuk l =>
    cases h with
    | tuk h r =>
      cases e
      exact .inr (.inl ⟨_, s.t h, by rw [r.empty]⟩)
  | lst l =>
    obtain ⟨a, xs, rfl, h, r⟩ := h
    cases e
    exact .inl ⟨_, SqL.of h, by rw [r.empty]⟩
  | _ => cases e
theorem et_tru {W : WX} {ta : TE} {ma : M Rv} (ha : EvX K W ta ma) : EvT K W (fun σ H Q => ta σ H fun x H' => ∃ k, TruV K x H' k ∧ Q k H') (mTr trD ma) := by
  intro F H σ s Q rs w
  refine ha.stepT (Go.refl rs) w fun r s1 v F1 H1 g1 _ h1 w1 => ?_
  obtain ⟨x, ex, w2⟩ := opt_wnT w1
  obtain ⟨b, eb, w3⟩ := opt_wnT w2
  exact ⟨b, tru_of g1.rs.sub (pk_ok g1.rs h1 ex) eb, w3 F1 H1 g1⟩
def blD : D → Option Bool
  | .bl b => some b
  | _ => none
/-- a value that is True or False, as a test -/
theorem et_B {W : WX} {ta : TE} {ma : M Rv} (ha : EvX K W ta ma) : EvT K W (tB ta) (mTr blD ma) := by
  intro F H σ s Q rs w
  refine ha.stepT (Go.refl rs) w fun r s1 v F1 H1 g1 _ h1 w1 => ?_
  obtain ⟨x, ex, w2⟩ := opt_wnT w1
  obtain ⟨b, eb, w3⟩ := opt_wnT w2
  have hp := pk_ok g1.rs h1 ex
  cases x with
  | bl c =>
    cases eb
    cases hp
    exact ⟨_, rfl, w3 F1 H1 g1⟩
  | _ => cases eb
theorem et_test {W : WX} {ta : TE} {ma : M Rv} (ha : EvX K W ta ma) : EvT K W (tTest ta) (mTr blD ma) := by
  intro F H σ s Q rs w
  refine ha.stepT (Go.refl rs) w fun r s1 v F1 H1 g1 _ h1 w1 => ?_
  obtain ⟨x, ex, w2⟩ := opt_wnT w1
  obtain ⟨b, eb, w3⟩ := opt_wnT w2
  have hp := pk_ok g1.rs h1 ex
  cases x with
  | bl c =>
    cases eb
    cases hp
    exact ⟨_, rfl, w3 F1 H1 g1⟩
  | _ => cases eb
def mAnd (ma mb : M Bool) : M Bool := fun s => (ma s).bind fun b s1 => if b then mb s1 else .ok false s1
def mOr (ma mb : M Bool) : M Bool := fun s => (ma s).bind fun b s1 => if b then .ok true s1 else mb s1
def mNot (ma : M Bool) : M Bool := fun s => (ma s).bind fun b s1 => .ok (!b) s1
theorem EvT.at {W : WX} {tt : TT} {m : M Bool} (h : EvT K W tt m) {F0 H0 F H : Hp} {σ : L2.St} {s0 s : SS} {Q : Bool → Hp → Prop} (g : Go K F0 H0 σ s0 F H σ s) (w : WnT K W Q F0 H0 σ s0 (m s)) : tt σ H Q := by
  refine h F H σ s Q g.rs ?_
  cases e : m s with
  | ok r s1 =>
    rw [e] at w
    exact fun F1 H1 g1 => w F1 H1 (g.trans g1)
  | ex c l s1 =>
    rw [e] at w
    exact fun dd F1 H1 xs g1 => w dd F1 H1 xs (g.trans g1)
  | no =>
    rw [e] at w
    exact w
theorem EvX.at {W : WX} {te : TE} {m : M Rv} (h : EvX K W te m) {F0 H0 F H : Hp} {σ : L2.St} {s0 s : SS} {Q : VK} (g : Go K F0 H0 σ s0 F H σ s) (w : Wn K W Q F0 H0 σ s0 (m s)) : te σ H Q := by
  refine h F H σ s Q g.rs ?_
  cases e : m s with
  | ok r s1 =>
    rw [e] at w
    exact fun v F1 H1 g1 r1 => w v F1 H1 (g.trans g1) (r1.back g.dm)
  | ex c l s1 =>
    rw [e] at w
    exact fun dd F1 H1 xs g1 => w dd F1 H1 xs (g.trans g1)
  | no =>
    rw [e] at w
    exact w
theorem et_and {W : WX} {t u : TT} {ma mb : M Bool} (ha : EvT K W t ma) (hb : EvT K W u mb) : EvT K W (tAnd t u) (mAnd ma mb) := by
  intro F H σ s Q rs w
  refine ha.stepT (Go.refl rs) w fun b s1 F1 H1 g1 _ w1 => ?_
  cases b with
  | true => exact hb.at g1 w1
  | false => exact w1 F1 H1 g1
theorem et_or {W : WX} {t u : TT} {ma mb : M Bool} (ha : EvT K W t ma) (hb : EvT K W u mb) : EvT K W (tOr t u) (mOr ma mb) := by
  intro F H σ s Q rs w
  refine ha.stepT (Go.refl rs) w fun b s1 F1 H1 g1 _ w1 => ?_
  cases b with
  | true => exact w1 F1 H1 g1
  | false => exact hb.at g1 w1
theorem et_not {W : WX} {t : TT} {ma : M Bool} (ha : EvT K W t ma) : EvT K W (tNot t) (mNot ma) := by
  intro F H σ s Q rs w
  exact ha.stepT (Go.refl rs) w fun b s1 F1 H1 g1 _ w1 => w1 F1 H1 g1
/-- and, or of values that are True or False -/
def mAndV (ma mb : M Rv) : M Rv := fun s => (ma s).bind fun r s1 => opt ((pk r s1).bind blD) fun b => if b then mb s1 else .ok (.d (.bl false)) s1
def mOrV (ma mb : M Rv) : M Rv := fun s => (ma s).bind fun r s1 => opt ((pk r s1).bind blD) fun b => if b then .ok (.d (.bl true)) s1 else mb s1
def mNotV (ma : M Rv) : M Rv := fun s => (ma s).bind fun r s1 => opt ((pk r s1).bind blD) fun b => .ok (.d (.bl !b)) s1
theorem blD_ok {F H : Hp} {H0 : Hp} {σ : L2.St} {s : SS} {r : Rv} {v : V} {b : Bool} (rs : RS K F H σ s) (h : RpR K H0 F H σ s r v) (e : (pk r s).bind blD = some b) : v = .bl b := by
  cases q : pk r s with
  | none => (rw [q] at e; cases e)
  | some d =>
    rw [q] at e
    have hp := pk_ok rs h q
    cases d with
    | bl c =>
      cases e
      cases hp
      rfl
    | _ => cases e
theorem ev_andV {W : WX} {ta tb : TE} {ma mb : M Rv} (ha : EvX K W ta ma) (hb : EvX K W tb mb) : EvX K W (tAndV ta tb) (mAndV ma mb) := by
  intro F H σ s Q rs w
  refine ha.step (Go.refl rs) w fun r s1 v F1 H1 g1 _ h1 w1 => ?_
  obtain ⟨b, eb, w2⟩ := opt_wn w1
  refine ⟨b, blD_ok g1.rs h1 eb, ?_⟩
  cases b with
  | true => exact hb.at g1 w2
  | false => exact w2 _ F1 H1 g1 (.bl false)
theorem ev_orV {W : WX} {ta tb : TE} {ma mb : M Rv} (ha : EvX K W ta ma) (hb : EvX K W tb mb) : EvX K W (tOrV ta tb) (mOrV ma mb) := by
  intro F H σ s Q rs w
  refine ha.step (Go.refl rs) w fun r s1 v F1 H1 g1 _ h1 w1 => ?_
  obtain ⟨b, eb, w2⟩ := opt_wn w1
  refine ⟨b, blD_ok g1.rs h1 eb, ?_⟩
  cases b with
  | true => exact w2 _ F1 H1 g1 (.bl true)
  | false => exact hb.at g1 w2
theorem ev_notV {W : WX} {ta : TE} {ma : M Rv} (ha : EvX K W ta ma) : EvX K W (tNotV ta) (mNotV ma) := by
  intro F H σ s Q rs w
  refine ha.step (Go.refl rs) w fun r s1 v F1 H1 g1 _ h1 w1 => ?_
  obtain ⟨b, eb, w2⟩ := opt_wn w1
  exact ⟨b, blD_ok g1.rs h1 eb, w2 _ F1 H1 g1 (.bl _)⟩
def mIf (mt : M Bool) (ma mb : M Rv) : M Rv := fun s => (mt s).bind fun b s1 => if b then ma s1 else mb s1
theorem ev_if {W : WX} {t : TT} {ta tb : TE} {mt : M Bool} {ma mb : M Rv} (ht : EvT K W t mt) (ha : EvX K W ta ma) (hb : EvX K W tb mb) : EvX K W (tIf t ta tb) (mIf mt ma mb) := by
  intro F H σ s Q rs w
  refine ht.step (Go.refl rs) w fun b s1 F1 H1 g1 _ w1 => ?_
  cases b with
  | true => exact ha.at g1 w1
  | false => exact hb.at g1 w1

end Cz

/-! # CzD -/
namespace Cz
open L2 PyProof.Rows PySem.Spec PySem
variable {K : PySem.W.Frag}

/-! ## lists of arguments: data, or a name's own object, lent -/
inductive RpA (K : PySem.W.Frag) (F : Hp) (σ : L2.St) (s : SS) : List Rv → List V → Prop
  | nil : RpA K F σ s [] []
  | d {d : D} {v : V} {rs : List Rv} {vs : List V} : Rp K F d v → RpA K F σ s rs vs → RpA K F σ s (.d d :: rs) (v :: vs)
  | b {i : Nat} {v : V} {rs : List Rv} {vs : List V} : σ[i]? = some (some v) → RpA K F σ s rs vs → RpA K F σ s (.b i :: rs) (v :: vs)
def WnA (K : PySem.W.Frag) (W : WX) (Q : List V → Hp → Prop) (F H : Hp) (σ : L2.St) (s : SS) : R (List Rv) → Prop
  | .ok rs s' => ∀ vs F' H', Go K F H σ s F' H' σ s' → RpA K F' σ s' rs vs → Q vs H'
  | .ex c l s' => ∀ dd F' H' xs, Go K F H σ s F' H' σ s' → H' dd = some (.xd xs) → RpF K F' l xs → W (.ref c) (some dd) σ H'
  | .no => False
def EvA (K : PySem.W.Frag) (W : WX) (ta : TA) (m : M (List Rv)) : Prop := ∀ F H σ s Q, RS K F H σ s → WnA K W Q F H σ s (m s) → ta σ H Q
theorem EvA.step {W : WX} {ta : TA} {m : M (List Rv)} (h : EvA K W ta m) {F0 H0 F H : Hp} {σ : L2.St} {s0 s : SS} {Q : VK} {Q1 : List V → Hp → Prop} {f : List Rv → SS → R Rv} (g : Go K F0 H0 σ s0 F H σ s) (w : Wn K W Q F0 H0 σ s0 ((m s).bind f))
    (k : ∀ rs s1 vs F1 H1, Go K F0 H0 σ s0 F1 H1 σ s1 → Go K F H σ s F1 H1 σ s1 → RpA K F1 σ s1 rs vs → Wn K W Q F0 H0 σ s0 (f rs s1) → Q1 vs H1) : ta σ H Q1 := by
  refine h F H σ s Q1 g.rs ?_
  cases e : m s with
  | ok r s1 =>
    rw [e] at w
    exact fun v F1 H1 g1 r1 => k r s1 v F1 H1 (g.trans g1) g1 r1 w
  | ex c l s1 =>
    rw [e] at w
    exact fun dd F1 H1 xs g1 => w dd F1 H1 xs (g.trans g1)
  | no =>
    rw [e] at w
    exact w
theorem EvA.stepA {W : WX} {ta : TA} {m : M (List Rv)} (h : EvA K W ta m) {F0 H0 F H : Hp} {σ : L2.St} {s0 s : SS} {Q Q1 : List V → Hp → Prop} {f : List Rv → SS → R (List Rv)} (g : Go K F0 H0 σ s0 F H σ s) (w : WnA K W Q F0 H0 σ s0 ((m s).bind f))
    (k : ∀ rs s1 vs F1 H1, Go K F0 H0 σ s0 F1 H1 σ s1 → Go K F H σ s F1 H1 σ s1 → RpA K F1 σ s1 rs vs → WnA K W Q F0 H0 σ s0 (f rs s1) → Q1 vs H1) : ta σ H Q1 := by
  refine h F H σ s Q1 g.rs ?_
  cases e : m s with
  | ok r s1 =>
    rw [e] at w
    exact fun v F1 H1 g1 r1 => k r s1 v F1 H1 (g.trans g1) g1 r1 w
  | ex c l s1 =>
    rw [e] at w
    exact fun dd F1 H1 xs g1 => w dd F1 H1 xs (g.trans g1)
  | no =>
    rw [e] at w
    exact w
theorem EvX.stepA {W : WX} {te : TE} {m : M Rv} (h : EvX K W te m) {F0 H0 F H : Hp} {σ : L2.St} {s0 s : SS} {Q : List V → Hp → Prop} {Q1 : VK} {f : Rv → SS → R (List Rv)} (g : Go K F0 H0 σ s0 F H σ s) (w : WnA K W Q F0 H0 σ s0 ((m s).bind f))
    (k : ∀ r s1 v F1 H1, Go K F0 H0 σ s0 F1 H1 σ s1 → Go K F H σ s F1 H1 σ s1 → RpR K H F1 H1 σ s1 r v → WnA K W Q F0 H0 σ s0 (f r s1) → Q1 v H1) : te σ H Q1 := by
  refine h F H σ s Q1 g.rs ?_
  cases e : m s with
  | ok r s1 =>
    rw [e] at w
    exact fun v F1 H1 g1 r1 => k r s1 v F1 H1 (g.trans g1) g1 r1 w
  | ex c l s1 =>
    rw [e] at w
    exact fun dd F1 H1 xs g1 => w dd F1 H1 xs (g.trans g1)
  | no =>
    rw [e] at w
    exact w
theorem frz_wn {W : WX} {Q : VK} {F0 H0 : Hp} {σ : L2.St} {s0 s : SS} {r : Rv} {f : D → SS → R Rv} (w : Wn K W Q F0 H0 σ s0 ((frz r s).bind f)) : ∃ d s', frz r s = .ok d s' ∧ Wn K W Q F0 H0 σ s0 (f d s') := by
  cases e : frz r s with
  | ok d s' => rw [e] at w; exact ⟨d, s', rfl, w⟩
  | ex c l s' => exact absurd e frz_ex
  | no => rw [e] at w; exact w.elim
theorem frz_wnA {W : WX} {Q : List V → Hp → Prop} {F0 H0 : Hp} {σ : L2.St} {s0 s : SS} {r : Rv} {f : D → SS → R (List Rv)} (w : WnA K W Q F0 H0 σ s0 ((frz r s).bind f)) : ∃ d s', frz r s = .ok d s' ∧ WnA K W Q F0 H0 σ s0 (f d s') := by
  cases e : frz r s with
  | ok d s' => rw [e] at w; exact ⟨d, s', rfl, w⟩
  | ex c l s' => exact absurd e frz_ex
  | no => rw [e] at w; exact w.elim
theorem RpA.go {F F' H H' : Hp} {σ : L2.St} {s s' : SS} (g : Sub F F') : ∀ {rs : List Rv} {vs : List V}, RpA K F σ s rs vs → RpA K F' σ s' rs vs
  | _, _, .nil => .nil
  | _, _, .d h r => .d (h.mono g) (r.go (H := H) (H' := H') g)
  | _, _, .b h r => .b h (r.go (H := H) (H' := H') g)

def mANil : M (List Rv) := fun s => .ok [] s
theorem ea_nil {W : WX} : EvA K W tNil mANil := fun F H σ s Q rs w => w [] F H (Go.refl rs) .nil
/-- a value for good -/
def mACons (ma : M Rv) (mr : M (List Rv)) : M (List Rv) := fun s => (ma s).bind fun r s1 => (frz r s1).bind fun d s2 => (mr s2).bind fun rs s3 => .ok (.d d :: rs) s3
theorem ea_cons {W : WX} {te : TE} {t : TA} {ma : M Rv} {mr : M (List Rv)} (ha : EvX K W te ma) (hr : EvA K W t mr) : EvA K W (tCons te t) (mACons ma mr) := by
  intro F H σ s Q rs w
  refine ha.stepA (Go.refl rs) w fun r s1 v F1 H1 g1 _ h1 w1 => ?_
  obtain ⟨d, s2, ed, w2⟩ := frz_wnA w1
  obtain ⟨F2, g2, sb, hd⟩ := frz_ok g1 h1 ed
  refine hr.stepA g2 w2 fun rs s3 vs F3 H3 g3 g23 h3 w3 => ?_
  exact w3 (v :: vs) F3 H3 g3 (.d (hd.mono g23.fr) h3)
/-- a name's object, lent -/
def mARef (i : Nat) (mr : M (List Rv)) : M (List Rv) := fun s => match s[i]? with
  | some (some (.fz d)) => (mr s).bind fun rs s1 => .ok (.d d :: rs) s1
  | some (some _) => (mr s).bind fun rs s1 => .ok (.b i :: rs) s1
  | _ => .no
theorem ea_ref {W : WX} {i : Nat} {t : TA} {mr : M (List Rv)} (hr : EvA K W t mr) : EvA K W (tCons (tVar i) t) (mARef i mr) := by
  intro F H σ s Q rs w
  unfold mARef at w
  cases q : s[i]? with
  | none => rw [q] at w; exact w.elim
  | some x =>
    cases x with
    | none => rw [q] at w; exact w.elim
    | some sv =>
      cases sv with
      | fz d =>
        rw [q] at w
        obtain ⟨v, h1, h2⟩ := rs.fz i d q
        refine ⟨v, h1, hr.stepA (Go.refl rs) w fun rs s3 vs F3 H3 g3 _ h3 w3 => w3 (v :: vs) F3 H3 g3 (.d (h2.mono g3.fr) h3)⟩
      | ow o =>
        rw [q] at w
        obtain ⟨p, ho, h1, _⟩ := rs.ow i _ o q rfl
        refine ⟨_, h1, hr.stepA (Go.refl rs) w fun rs s3 vs F3 H3 g3 _ h3 w3 => w3 (_ :: vs) F3 H3 g3 (.b h1 h3)⟩
      | br o =>
        rw [q] at w
        obtain ⟨p, ho, h1, _⟩ := rs.ow i _ o q rfl
        refine ⟨_, h1, hr.stepA (Go.refl rs) w fun rs s3 vs F3 H3 g3 _ h3 w3 => w3 (_ :: vs) F3 H3 g3 (.b h1 h3)⟩
/-- all of them data -/
def allD : List Rv → Option (List D)
  | [] => some []
  | .d d :: rs => (allD rs).map (d :: ·)
  | _ :: _ => none
theorem allD_ok {F : Hp} {σ : L2.St} {s : SS} : ∀ {rs : List Rv} {vs : List V} {ds : List D}, RpA K F σ s rs vs → allD rs = some ds → RpL K F ds vs
  | _, _, _, .nil, e => by
    cases e
    exact .nil
  | _, _, _, .d h r, e => by
    simp only [allD, Option.map_eq_some_iff] at e
    obtain ⟨ds, e1, rfl⟩ := e
    exact .cons h (allD_ok r e1)
  | _, _, _, .b h r, e => by simp [allD] at e

/-! ## displays -/
def mTup (ma : M (List Rv)) : M Rv := fun s => (ma s).bind fun rs s1 => opt (allD rs) fun ds => if ds.length ≤ 100000 then .ok (.d (.tup ds)) s1 else .no
def mLst (ma : M (List Rv)) : M Rv := fun s => (ma s).bind fun rs s1 => opt (allD rs) fun ds => if ds.length ≤ 100000 then .ok (.o (.lst ds)) s1 else .no
theorem size_le {n : Nat} (h : n ≤ 100000) : n ≤ sizeLine := Nat.le_trans h (by decide)
theorem ev_tup {W : WX} {t : TA} {ma : M (List Rv)} (ha : EvA K W t ma) : EvX K W (tTup t) (mTup ma) := by
  intro F H σ s Q rs w
  refine ha.step (Go.refl rs) w fun rs s1 vs F1 H1 g1 _ h1 w1 => ?_
  obtain ⟨ds, ed, w2⟩ := opt_wn w1
  have hl := allD_ok h1 ed
  split at w2
  · rename_i hz
    refine ⟨size_le (by rw [← hl.length]; exact hz), fun p hp => ?_⟩
    have a := Al.new (ho := .tup vs) g1.rs.sub hp
    exact w2 _ _ _ (g1.al a) (.tup upd_same (hl.mono a.f))
  · exact w2.elim
theorem ev_lst {W : WX} {t : TA} {ma : M (List Rv)} (ha : EvA K W t ma) : EvX K W (tLst t) (mLst ma) := by
  intro F H σ s Q rs w
  refine ha.step (Go.refl rs) w fun rs s1 vs F1 H1 g1 _ h1 w1 => ?_
  obtain ⟨ds, ed, w2⟩ := opt_wn w1
  have hl := allD_ok h1 ed
  split at w2
  · rename_i hz
    refine ⟨size_le (by rw [← hl.length]; exact hz), fun p hp => ?_⟩
    obtain ⟨a, b⟩ := g1.fresh hp (RpO.lst hl)
    exact w2 _ _ _ a b
  · exact w2.elim

/-! ## calls of what is built in -/
def CallOk (K : PySem.W.Frag) (r : List V → Hp → VK → Prop) (f : List D → Option Rv) : Prop := ∀ F H vs ds Q, Sub F H → RpL K F ds vs → OutOk K F H Q (f ds) → r vs H Q
def mCB (f : List D → Option Rv) (ma : M (List Rv)) : M Rv := fun s => (ma s).bind fun rs s1 => opt (allD rs) fun ds => outR (f ds) s1
theorem ev_cb {W : WX} {r : List V → Hp → VK → Prop} {f : List D → Option Rv} {t : TA} {ma : M (List Rv)} (ho : CallOk K r f) (ha : EvA K W t ma) : EvX K W (tCB r t) (mCB f ma) := by
  intro F H σ s Q rs w
  refine ha.step (Go.refl rs) w fun rs s1 vs F1 H1 g1 _ h1 w1 => ?_
  obtain ⟨ds, ed, w2⟩ := opt_wn w1
  exact ho F1 H1 vs ds Q g1.rs.sub (allD_ok h1 ed) (out_ok g1 w2)
/-- one argument, looked at -/
def mCB1 (f : D → Option Rv) (ma : M Rv) : M Rv := mUn f ma
theorem ev_cb1 {W : WX} {r : List V → Hp → VK → Prop} {f : D → Option Rv} {te : TE} {ma : M Rv} (ho : Op1 K (fun x H Q => r [x] H Q) f) (ha : EvX K W te ma) : EvX K W (tCB r (tCons te tNil)) (mCB1 f ma) := by
  intro F H σ s Q rs w
  refine ha.step (Go.refl rs) w fun r1 s1 v1 F1 H1 g1 _ h1 w1 => ?_
  obtain ⟨x, ex, w3⟩ := opt_wn w1
  exact ho F1 H1 v1 x Q g1.rs.sub (pk_ok g1.rs h1 ex) (out_ok g1 w3)

/-! ## calls of defs -/
/-- what the def gets -/
def argS (s : SS) : List Rv → Option (List SV)
  | [] => some []
  | .d d :: rs => (argS s rs).map (.fz d :: ·)
  | .b i :: rs => match s[i]? with
    | some (some (.ow o)) => (argS s rs).map (.br o :: ·)
    | some (some (.br o)) => (argS s rs).map (.br o :: ·)
    | some (some (.fz d)) => (argS s rs).map (.fz d :: ·)
    | _ => none
  | .o _ :: _ => none
def refs : List Rv → List Nat
  | [] => []
  | .b i :: rs => i :: refs rs
  | _ :: rs => refs rs
/-- what the names hold behind it -/
def backS (s : SS) : List Rv → List SV → Option SS
  | [], [] => some s
  | .d _ :: rs, _ :: as => backS s rs as
  | .b i :: rs, a :: as => match s[i]? with
    | some (some (.ow _)) => match a with
      | .br o => (backS s rs as).map fun s' => s'.set i (some (.ow o))
      | _ => none
    | some (some (.br _)) => match a with
      | .br o => (backS s rs as).map fun s' => s'.set i (some (.br o))
      | _ => none
    | some (some (.fz _)) => backS s rs as
    | _ => none
  | _, _ => none
abbrev MF := List SV → R Rv
/-- the promise of a def, by its function f: from the arguments to what it gives, and what the lent ones are behind it -/
def WnF (K : PySem.W.Frag) (Q : VK) (E : XK) (F H : Hp) (vs : List V) (as : List SV) : R Rv → Prop
  | .ok r s' => ∃ as' : List SV, s' = as'.map some ∧ ∀ v F' H', Go K F H (vs.map some) (as.map some) F' H' (vs.map some) s' → RpR K H F' H' (vs.map some) s' r v → (∀ i, r ≠ .b i) → Q v H'
  | .ex c l s' => ∃ as' : List SV, s' = as'.map some ∧ ∀ dd F' H' xs, Go K F H (vs.map some) (as.map some) F' H' (vs.map some) s' → H' dd = some (.xd xs) → RpF K F' l xs → E (.ref c) (some dd) H'
  | .no => False
def spM (K : PySem.W.Frag) (f : MF) : Sp := fun vs H Q E => ∃ F as, RS K F H (vs.map some) (as.map some) ∧ WnF K Q E F H vs as (f as)
end Cz

/-! # CzE -/
namespace Cz
open L2 PyProof.Rows PySem.Spec PySem
variable {K : PySem.W.Frag}

theorem RpA.length {F : Hp} {σ : L2.St} {s : SS} : ∀ {rs : List Rv} {vs : List V}, RpA K F σ s rs vs → rs.length = vs.length
  | _, _, .nil => rfl
  | _, _, .d _ r => congrArg (· + 1) r.length
  | _, _, .b _ r => congrArg (· + 1) r.length
theorem RpA.ref {F : Hp} {σ : L2.St} {s : SS} : ∀ {rs : List Rv} {vs : List V} {j i : Nat}, RpA K F σ s rs vs → rs[j]? = some (.b i) → ∃ v, vs[j]? = some v ∧ σ[i]? = some (some v)
  | _, _, _, _, .nil, e => by (simp at e)
  | _, _, 0, i, .d h r, e => by simp at e
  | _, _, 0, i, .b h r, e => by
    simp at e
    subst e
    exact ⟨_, rfl, h⟩
  | _, _, j + 1, i, .d h r, e => by
    obtain ⟨v, a, b⟩ := r.ref (j := j) (i := i) (by simpa using e)
    exact ⟨v, by simpa using a, b⟩
  | _, _, j + 1, i, .b h r, e => by
    obtain ⟨v, a, b⟩ := r.ref (j := j) (i := i) (by simpa using e)
    exact ⟨v, by simpa using a, b⟩
theorem mem_refs : ∀ {rs : List Rv} {i : Nat}, i ∈ refs rs ↔ ∃ j : Nat, rs[j]? = some (Rv.b i)
  | [], i => by simp [refs]
  | .d d :: rs, i => by
    show i ∈ refs rs ↔ _
    rw [mem_refs (rs := rs)]
    constructor
    · rintro ⟨j, h⟩
      exact ⟨j + 1, by simpa using h⟩
    · rintro ⟨j, h⟩
      cases j with
      | zero => simp at h
      | succ j => exact ⟨j, by simpa using h⟩
  | .o d :: rs, i => by
    show i ∈ refs rs ↔ _
    rw [mem_refs (rs := rs)]
    constructor
    · rintro ⟨j, h⟩
      exact ⟨j + 1, by simpa using h⟩
    · rintro ⟨j, h⟩
      cases j with
      | zero => simp at h
      | succ j => exact ⟨j, by simpa using h⟩
  | .b k :: rs, i => by
    show i ∈ k :: refs rs ↔ _
    rw [List.mem_cons, mem_refs (rs := rs)]
    constructor
    · rintro (rfl | ⟨j, h⟩)
      · exact ⟨0, rfl⟩
      · exact ⟨j + 1, by simpa using h⟩
    · rintro ⟨j, h⟩
      cases j with
      | zero =>
        simp at h
        exact .inl h.symm
      | succ j => exact .inr ⟨j, by simpa using h⟩
theorem refs_inj : ∀ {rs : List Rv} {i j k : Nat}, (refs rs).Nodup → rs[j]? = some (.b i) → rs[k]? = some (.b i) → j = k
  | [], i, j, k, _, h, _ => by simp at h
  | r :: rs, i, 0, 0, _, _, _ => rfl
  | r :: rs, i, 0, k + 1, nd, h1, h2 => by
    simp at h1
    subst h1
    have m : i ∈ refs rs := mem_refs.mpr ⟨k, by simpa using h2⟩
    have nd' : (i :: refs rs).Nodup := nd
    exact absurd m (List.nodup_cons.mp nd').1
  | r :: rs, i, j + 1, 0, nd, h1, h2 => by
    simp at h2
    subst h2
    have m : i ∈ refs rs := mem_refs.mpr ⟨j, by simpa using h1⟩
    have nd' : (i :: refs rs).Nodup := nd
    exact absurd m (List.nodup_cons.mp nd').1
  | r :: rs, i, j + 1, k + 1, nd, h1, h2 => by
    have nd' : (refs rs).Nodup := by
      cases r with
      | b x => exact (List.nodup_cons.mp (show (x :: refs rs).Nodup from nd)).2
      | d x => exact nd
      | o x => exact nd
    exact congrArg (· + 1) (refs_inj (rs := rs) (i := i) nd' (by simpa using h1) (by simpa using h2))
theorem argS_get {F H : Hp} {σ : L2.St} {s : SS} (r0 : RS K F H σ s) : ∀ {rs : List Rv} {vs : List V} {as : List SV}, RpA K F σ s rs vs → argS s rs = some as → as.length = vs.length ∧
    ∀ (j : Nat) (a : SV), as[j]? = some a → ∃ v, vs[j]? = some v ∧ ((∃ d, a = .fz d ∧ Rp K F d v) ∨ ∃ i o sv, a = .br o ∧ rs[j]? = some (.b i) ∧ σ[i]? = some (some v) ∧ s[i]? = some (some sv) ∧ SV.own sv = some o)
  | _, _, _, .nil, e => by
    cases e
    exact ⟨rfl, fun j a h => by simp at h⟩
  | _, _, as, .d (d := d) (v := v) h r, e => by
    simp only [argS, Option.map_eq_some_iff] at e
    obtain ⟨as', e1, rfl⟩ := e
    obtain ⟨hl, hg⟩ := argS_get r0 r e1
    refine ⟨by simp [hl], fun j a ha => ?_⟩
    cases j with
    | zero =>
      simp at ha
      subst ha
      exact ⟨v, rfl, .inl ⟨d, rfl, h⟩⟩
    | succ j =>
      obtain ⟨u, h1, h2⟩ := hg j a (by simpa using ha)
      refine ⟨u, by simpa using h1, ?_⟩
      rcases h2 with h2 | ⟨i, o, sv, b1, b2, b3⟩
      · exact .inl h2
      · exact .inr ⟨i, o, sv, b1, by simpa using b2, b3⟩
  | _, _, as, .b (i := i) (v := v) (rs := rs2) (vs := vs2) h r, e => by
    have key : ∀ (a0 : SV) (as' : List SV), argS s rs2 = some as' → as = a0 :: as' → ((∃ d, a0 = .fz d ∧ Rp K F d v) ∨ ∃ o sv, a0 = .br o ∧ s[i]? = some (some sv) ∧ SV.own sv = some o) → (as.length = (v :: vs2).length ∧ ∀ (j : Nat) (a : SV), as[j]? = some a → ∃ u, (v :: vs2)[j]? = some u ∧ ((∃ d, a = .fz d ∧ Rp K F d u) ∨ ∃ i' o sv, a = .br o ∧ (Rv.b i :: rs2)[j]? = some (.b i') ∧ σ[i']? = some (some u) ∧ s[i']? = some (some sv) ∧ SV.own sv = some o)) := fun a0 as' e1 ea h0 => by
      subst ea
      obtain ⟨hl, hg⟩ := argS_get r0 r e1
      refine ⟨by simp [hl], fun j a ha => ?_⟩
      cases j with
      | zero =>
        simp at ha
        subst ha
        rcases h0 with h0 | ⟨o, sv, b1, b2, b3⟩
        · exact ⟨v, rfl, .inl h0⟩
        · exact ⟨v, rfl, .inr ⟨i, o, sv, b1, rfl, h, b2, b3⟩⟩
      | succ j =>
        obtain ⟨u, h1, h2⟩ := hg j a (by simpa using ha)
        refine ⟨u, by simpa using h1, ?_⟩
        rcases h2 with h2 | ⟨i', o, sv, b1, b2, b3⟩
        · exact .inl h2
        · exact .inr ⟨i', o, sv, b1, by simpa using b2, b3⟩
    simp only [argS] at e
    split at e
    · rename_i o q
      simp only [Option.map_eq_some_iff] at e
      obtain ⟨as', e1, e2⟩ := e
      exact key _ as' e1 e2.symm (.inr ⟨o, _, rfl, q, rfl⟩)
    · rename_i o q
      simp only [Option.map_eq_some_iff] at e
      obtain ⟨as', e1, e2⟩ := e
      exact key _ as' e1 e2.symm (.inr ⟨o, _, rfl, q, rfl⟩)
    · rename_i d q
      simp only [Option.map_eq_some_iff] at e
      obtain ⟨as', e1, e2⟩ := e
      obtain ⟨u, a1, a2⟩ := r0.fz i d q
      rw [h] at a1
      cases a1
      exact key _ as' e1 e2.symm (.inl ⟨d, rfl, a2⟩)
    · cases e
theorem map_get {α β : Type} {l : List α} {f : α → β} {j : Nat} {b : β} (h : (l.map f)[j]? = some b) : ∃ a, l[j]? = some a ∧ f a = b := by
  rw [List.getElem?_map, Option.map_eq_some_iff] at h
  exact h
/-- the def's first state -/
theorem RS.lend {F H : Hp} {σ : L2.St} {s : SS} (r0 : RS K F H σ s) {rs : List Rv} {vs : List V} {as : List SV} (ra : RpA K F σ s rs vs) (ea : argS s rs = some as) (nd : (refs rs).Nodup) : RS K F H (vs.map some) (as.map some) := by
  obtain ⟨hl, hg⟩ := argS_get r0 ra ea
  refine ⟨r0.sub, by simp [hl], fun j d h => ?_, fun j sv o h1 h2 => ?_, fun j k sj sk oj ok' p h1 h2 h3 h4 h5 h6 => ?_⟩
  · obtain ⟨a, e1, e2⟩ := map_get h
    cases e2
    obtain ⟨v, e3, e4⟩ := hg j _ e1
    rcases e4 with ⟨d', e5, e6⟩ | ⟨i, o, sv, e5, _⟩
    · cases e5
      exact ⟨v, by rw [List.getElem?_map, e3]; rfl, e6⟩
    · cases e5
  · obtain ⟨a, e1, e2⟩ := map_get h1
    cases e2
    obtain ⟨v, e3, e4⟩ := hg j _ e1
    rcases e4 with ⟨d', e5, e6⟩ | ⟨i, o', sv', e5, e6, e7, e8, e9⟩
    · subst e5
      cases h2
    · subst e5
      cases h2
      obtain ⟨p, ho, b1, b2, b3, b4⟩ := r0.ow i sv' o e8 e9
      rw [e7] at b1
      cases b1
      exact ⟨p, ho, by rw [List.getElem?_map, e3]; rfl, b2, b3, b4⟩
  · obtain ⟨a, e1, e2⟩ := map_get h1
    obtain ⟨b, f1, f2⟩ := map_get h3
    cases e2
    cases f2
    obtain ⟨v, e3, e4⟩ := hg j _ e1
    obtain ⟨u, f3, f4⟩ := hg k _ f1
    rcases e4 with ⟨d', e5, e6⟩ | ⟨i, o', sv', e5, e6, e7, e8, e9⟩
    · subst e5
      cases h2
    · rcases f4 with ⟨d', f5, f6⟩ | ⟨i', o2, sv2, f5, f6, f7, f8, f9⟩
      · subst f5
        cases h4
      · rw [List.getElem?_map, e3] at h5
        cases h5
        rw [List.getElem?_map, f3] at h6
        cases h6
        have e := r0.ne i i' sv' sv2 _ _ p e8 e9 f8 f9 e7 f7
        subst e
        exact refs_inj nd e6 f6
theorem lend_own {F H : Hp} {σ : L2.St} {s : SS} (r0 : RS K F H σ s) {rs : List Rv} {vs : List V} {as : List SV} (ra : RpA K F σ s rs vs) (ea : argS s rs = some as) {a : Addr} (h : Ow (vs.map some) (as.map some) a) :
    ∃ i sv o, s[i]? = some (some sv) ∧ SV.own sv = some o ∧ σ[i]? = some (some (.ref a)) ∧ i ∈ refs rs := by
  obtain ⟨hl, hg⟩ := argS_get r0 ra ea
  obtain ⟨j, sv, o, h1, h2, h3⟩ := h
  obtain ⟨b, e1, e2⟩ := map_get h1
  cases e2
  obtain ⟨v, e3, e4⟩ := hg j _ e1
  rw [List.getElem?_map, e3] at h3
  cases h3
  rcases e4 with ⟨d', e5, e6⟩ | ⟨i, o', sv', e5, e6, e7, e8, e9⟩
  · subst e5
    cases h2
  · exact ⟨i, sv', o', e8, e9, e7, mem_refs.mpr ⟨j, e6⟩⟩

theorem backS_get {s : SS} : ∀ {rs : List Rv} {as : List SV} {s' : SS}, backS s rs as = some s' → (refs rs).Nodup → s'.length = s.length ∧ (∀ i : Nat, i ∉ refs rs → s'[i]? = s[i]?) ∧
    ∀ (j i : Nat), rs[j]? = some (.b i) → (∃ o o', s[i]? = some (some (.ow o)) ∧ as[j]? = some (.br o') ∧ s'[i]? = some (some (.ow o'))) ∨ (∃ o o', s[i]? = some (some (.br o)) ∧ as[j]? = some (.br o') ∧ s'[i]? = some (some (.br o'))) ∨ ∃ d, s[i]? = some (some (.fz d)) ∧ s'[i]? = s[i]?
  | [], [], s', e, _ => by
    cases e
    exact ⟨rfl, fun _ _ => rfl, fun j i h => by simp at h⟩
  | [], a :: as, s', e, _ => by cases e
  | .o _ :: rs, [], s', e, _ => by cases e
  | .d _ :: rs, [], s', e, _ => by cases e
  | .b _ :: rs, [], s', e, _ => by cases e
  | .o _ :: rs, a :: as, s', e, _ => by cases e
  | .d _ :: rs, a :: as, s', e, nd => by
    obtain ⟨h1, h2, h3⟩ := backS_get (rs := rs) (as := as) e nd
    refine ⟨h1, h2, fun j i h => ?_⟩
    cases j with
    | zero => simp at h
    | succ j => exact (h3 j i (by simpa using h)).imp (fun ⟨o, o', x, y, z⟩ => ⟨o, o', x, by simpa using y, z⟩) (Or.imp (fun ⟨o, o', x, y, z⟩ => ⟨o, o', x, by simpa using y, z⟩) id)
  | .b i :: rs, a :: as, s', e, nd => by
    have nd2 : i ∉ refs rs ∧ (refs rs).Nodup := List.nodup_cons.mp (show (i :: refs rs).Nodup from nd)
    simp only [backS] at e
    split at e
    · rename_i o q
      split at e
      · rename_i o'
        rw [Option.map_eq_some_iff] at e
        obtain ⟨s1, e1, rfl⟩ := e
        obtain ⟨h1, h2, h3⟩ := backS_get e1 nd2.2
        have hi : s1[i]? = some (some (.ow o)) := (h2 i nd2.1).trans q
        refine ⟨by rw [List.length_set]; exact h1, fun k hk => ?_, fun j k h => ?_⟩
        · have hk' : k ≠ i ∧ k ∉ refs rs := by
            have z : k ∉ i :: refs rs := hk
            simpa using z
          rw [get_set_ne (Ne.symm hk'.1)]
          exact h2 k hk'.2
        · cases j with
          | zero =>
            simp at h
            subst h
            exact .inl ⟨o, o', q, rfl, get_set_eq hi⟩
          | succ j =>
            have h' : rs[j]? = some (.b k) := by simpa using h
            have nk : i ≠ k := fun z => nd2.1 (by rw [z]; exact mem_refs.mpr ⟨j, h'⟩)
            rw [get_set_ne nk]
            exact (h3 j k h').imp (fun ⟨o, o', x, y, z⟩ => ⟨o, o', x, by simpa using y, z⟩) (Or.imp (fun ⟨o, o', x, y, z⟩ => ⟨o, o', x, by simpa using y, z⟩) id)
      · cases e
    · rename_i o q
      split at e
      · rename_i o'
        rw [Option.map_eq_some_iff] at e
        obtain ⟨s1, e1, rfl⟩ := e
        obtain ⟨h1, h2, h3⟩ := backS_get e1 nd2.2
        have hi : s1[i]? = some (some (.br o)) := (h2 i nd2.1).trans q
        refine ⟨by rw [List.length_set]; exact h1, fun k hk => ?_, fun j k h => ?_⟩
        · have hk' : k ≠ i ∧ k ∉ refs rs := by
            have z : k ∉ i :: refs rs := hk
            simpa using z
          rw [get_set_ne (Ne.symm hk'.1)]
          exact h2 k hk'.2
        · cases j with
          | zero =>
            simp at h
            subst h
            exact .inr (.inl ⟨o, o', q, rfl, get_set_eq hi⟩)
          | succ j =>
            have h' : rs[j]? = some (.b k) := by simpa using h
            have nk : i ≠ k := fun z => nd2.1 (by rw [z]; exact mem_refs.mpr ⟨j, h'⟩)
            rw [get_set_ne nk]
            exact (h3 j k h').imp (fun ⟨o, o', x, y, z⟩ => ⟨o, o', x, by simpa using y, z⟩) (Or.imp (fun ⟨o, o', x, y, z⟩ => ⟨o, o', x, by simpa using y, z⟩) id)
      · cases e
    · rename_i d q
      obtain ⟨h1, h2, h3⟩ := backS_get e nd2.2
      refine ⟨h1, fun k hk => h2 k fun z => hk (show k ∈ i :: refs rs from List.mem_cons_of_mem _ z), fun j k h => ?_⟩
      cases j with
      | zero =>
        simp at h
        subst h
        exact .inr (.inr ⟨d, q, h2 i nd2.1⟩)
      | succ j =>
        have h' : rs[j]? = some (.b k) := by simpa using h
        exact (h3 j k h').imp (fun ⟨o, o', x, y, z⟩ => ⟨o, o', x, by simpa using y, z⟩) (Or.imp (fun ⟨o, o', x, y, z⟩ => ⟨o, o', x, by simpa using y, z⟩) id)
    · cases e
/-- from the def's last state back to the caller's -/
theorem Go.call {F H F' H' : Hp} {σ : L2.St} {s s' : SS} {rs : List Rv} {vs : List V} {as as' : List SV} (r0 : RS K F H σ s) (ra : RpA K F σ s rs vs) (ea : argS s rs = some as) (nd : (refs rs).Nodup)
    (g : Go K F H (vs.map some) (as.map some) F' H' (vs.map some) (as'.map some)) (eb : backS s rs as' = some s') : Go K F H σ s F' H' σ s' ∧ ∀ a, Ow σ s' a → Ow σ s a := by
  obtain ⟨b1, b2, b3⟩ := backS_get eb nd
  have own : ∀ (i : Nat) (sv : SV) (o : OD), s'[i]? = some (some sv) → SV.own sv = some o → ∃ sv0 o0, s[i]? = some (some sv0) ∧ SV.own sv0 = some o0 := fun i sv o h1 h2 => by
    by_cases hi : i ∈ refs rs
    · obtain ⟨j, hj⟩ := mem_refs.mp hi
      rcases b3 j i hj with ⟨x, y, z, _⟩ | ⟨x, y, z, _⟩ | ⟨d, z, w⟩
      · exact ⟨_, _, z, rfl⟩
      · exact ⟨_, _, z, rfl⟩
      · rw [w, z] at h1
        cases h1
        cases h2
    · rw [b2 i hi] at h1
      exact ⟨_, _, h1, h2⟩
  have co : ∀ a, Ow (vs.map some) (as.map some) a → Ow σ s a := fun a h => by
    obtain ⟨i, sv, o, x, y, z, _⟩ := lend_own r0 ra ea h
    exact ⟨i, sv, o, x, y, z⟩
  have cw : ∀ a, Ow σ s' a → Ow σ s a := fun a ⟨i, sv, o, x, y, z⟩ => by
    obtain ⟨sv0, o0, x0, y0⟩ := own i sv o x y
    exact ⟨i, sv0, o0, x0, y0, z⟩
  refine ⟨⟨⟨g.rs.sub, by rw [b1]; exact r0.len, fun i d h => ?_, fun i sv o h1 h2 => ?_, fun i j si sj oi oj p h1 h2 h3 h4 h5 h6 => ?_⟩, g.fr, fun a o h n => g.kp a o h fun w => n (co a w), fun a h => ?_, fun a h => .inl (cw a h), fun i o h => ?_, g.dm⟩, cw⟩
  · have h0 : s[i]? = some (some (.fz d)) := by
      by_cases hi : i ∈ refs rs
      · obtain ⟨j, hj⟩ := mem_refs.mp hi
        rcases b3 j i hj with ⟨x, y, z, z1, z2⟩ | ⟨x, y, z, z1, z2⟩ | ⟨d, z, w⟩
        · rw [z2] at h; cases h
        · rw [z2] at h; cases h
        · rw [w] at h; exact h
      · rw [b2 i hi] at h; exact h
    obtain ⟨v, h1, h2⟩ := r0.fz i d h0
    exact ⟨v, h1, h2.mono g.fr⟩
  · by_cases hi : i ∈ refs rs
    · obtain ⟨j, hj⟩ := mem_refs.mp hi
      obtain ⟨v, hv1, hv2⟩ := ra.ref hj
      have fin : ∀ o' : OD, as'[j]? = some (.br o') → o = o' → ∃ p ho, σ[i]? = some (some (.ref p)) ∧ F' p = none ∧ H' p = some ho ∧ RpO K F' o ho := fun o' e1 e2 => by
        subst e2
        obtain ⟨p, ho, c1, c2, c3, c4⟩ := g.rs.ow j (.br o) o (by rw [List.getElem?_map, e1]; rfl) rfl
        rw [List.getElem?_map, hv1] at c1
        cases c1
        exact ⟨p, ho, hv2, c2, c3, c4⟩
      rcases b3 j i hj with ⟨x, y, z, z1, z2⟩ | ⟨x, y, z, z1, z2⟩ | ⟨d, z, w⟩
      · rw [z2] at h1
        cases h1
        cases h2
        exact fin _ z1 rfl
      · rw [z2] at h1
        cases h1
        cases h2
        exact fin _ z1 rfl
      · rw [w, z] at h1
        cases h1
        cases h2
    · rw [b2 i hi] at h1
      obtain ⟨p, ho, c1, c2, c3, c4⟩ := r0.ow i sv o h1 h2
      have n : ¬ Ow (vs.map some) (as.map some) p := fun w => by
        obtain ⟨k, sv', o', x, y, z, m⟩ := lend_own r0 ra ea w
        have e := r0.ne i k sv sv' o o' p h1 h2 x y c1 z
        subst e
        exact hi m
      refine ⟨p, ho, c1, ?_, g.kp p ho c3 n, c4.mono g.fr⟩
      cases e : F' p with
      | none => rfl
      | some u =>
        rcases g.nw p (by rw [e]; exact fun z => nomatch z) with q | q | q | q
        · exact absurd c2 q
        · rw [c3] at q; cases q
        · exact absurd q n
        · exact absurd q (c4.notTup c3)
  · obtain ⟨a1, a2, a3, a4⟩ := own i si oi h1 h2
    obtain ⟨c1, c2, c3, c4⟩ := own j sj oj h3 h4
    exact r0.ne i j a1 c1 a2 c2 p a3 a4 c3 c4 h5 h6
  · rcases g.nw a h with q | q | q | q
    · exact .inl q
    · exact .inr (.inl q)
    · exact .inr (.inr (.inl (co a q)))
    · exact .inr (.inr (.inr q))
  · refine ⟨rfl, ?_⟩
    by_cases hi : i ∈ refs rs
    · obtain ⟨j, hj⟩ := mem_refs.mp hi
      rcases b3 j i hj with ⟨x, y, z, z1, z2⟩ | ⟨x, y, z, z1, z2⟩ | ⟨d, z, w⟩
      · rw [h] at z; cases z
      · exact ⟨_, z2⟩
      · rw [h] at z; cases z
    · exact ⟨o, by rw [b2 i hi]; exact h⟩

/-- the slots of a def's parameters behind it -/
def svs : SS → Option (List SV)
  | [] => some []
  | some v :: r => (svs r).map (v :: ·)
  | none :: _ => none
theorem svs_map : ∀ as : List SV, svs (as.map some) = some as
  | [] => rfl
  | a :: as => by
    show (svs (as.map some)).map (a :: ·) = _
    rw [svs_map as]
    rfl
theorem svs_eq : ∀ {s : SS} {as : List SV}, svs s = some as → s = as.map some
  | [], as, e => by
    cases e
    rfl
  | some v :: r, as, e => by
    simp only [svs, Option.map_eq_some_iff] at e
    obtain ⟨l, e1, rfl⟩ := e
    rw [svs_eq e1]
    rfl
  | none :: r, as, e => by cases e
def callS (f : MF) (rs : List Rv) (s1 : SS) : R Rv := opt (argS s1 rs) fun as => if (refs rs).Nodup then
  match f as with
  | .ok r s2 => opt (svs s2) fun as' => opt (backS s1 rs as') fun s3 => match r with
    | .b _ => .no
    | .d d => .ok (.d d) s3
    | .o o => .ok (.o o) s3
  | .ex c l s2 => opt (svs s2) fun as' => opt (backS s1 rs as') fun s3 => .ex c l s3
  | .no => .no else .no
theorem call_ok {W : WX} {Q : VK} {f : MF} {F0 H0 F H : Hp} {σ : L2.St} {s0 s : SS} {rs : List Rv} {vs : List V} (g : Go K F0 H0 σ s0 F H σ s) (ra : RpA K F σ s rs vs) (w : Wn K W Q F0 H0 σ s0 (callS f rs s)) :
    spM K f vs H Q (fun c d H' => W c d σ H') := by
  obtain ⟨as, ea, w1⟩ := opt_wn w
  split at w1
  · rename_i nd
    refine ⟨F, as, g.rs.lend ra ea nd, ?_⟩
    cases e : f as with
    | ok r s2 =>
      rw [e] at w1
      obtain ⟨as', e1, w2⟩ := opt_wn w1
      obtain ⟨s3, e2, w3⟩ := opt_wn w2
      have e3 := svs_eq e1
      subst e3
      refine ⟨as', rfl, fun v F' H' g1 h1 nb => ?_⟩
      obtain ⟨g2, own⟩ := Go.call g.rs ra ea nd g1 e2
      cases r with
      | d d => exact w3 v F' H' (g.trans g2) h1
      | o o =>
        refine w3 v F' H' (g.trans g2) ?_
        obtain ⟨p, ho, rfl, a1, a2, a3, a4, a5⟩ := h1
        refine ⟨p, ho, rfl, a1, a2, a3, g.dm p a4, fun z => ?_⟩
        obtain ⟨_, u, q⟩ := g.rs.owF (own p z)
        rw [a4] at q; cases q
      | b i => exact absurd rfl (nb i)
    | ex c l s2 =>
      rw [e] at w1
      obtain ⟨as', e1, w2⟩ := opt_wn w1
      obtain ⟨s3, e2, w3⟩ := opt_wn w2
      have e3 := svs_eq e1
      subst e3
      refine ⟨as', rfl, fun dd F' H' xs g1 h1 h2 => ?_⟩
      exact w3 dd F' H' xs (g.trans (Go.call g.rs ra ea nd g1 e2).1) h1 h2
    | no =>
      rw [e] at w1
      exact w1
  · exact w1.elim
def noEx : R Rv → R Rv
  | .ex _ _ _ => .no
  | r => r
theorem noEx_wn {W : WX} {Q : VK} {F H : Hp} {σ : L2.St} {s : SS} {r : R Rv} (w : Wn K W Q F H σ s (noEx r)) (W' : WX) : Wn K W' Q F H σ s r := by
  cases r with
  | ok a s' => exact w
  | ex c l s' => exact w.elim
  | no => exact w.elim
theorem RpA.ofL {F : Hp} {σ : L2.St} {s : SS} : ∀ {ds : List D} {us : List V}, RpL K F ds us → RpA K F σ s (ds.map .d) us
  | _, _, .nil => .nil
  | _, _, .cons x y => .d x (RpA.ofL y)
theorem RpA.append {F : Hp} {σ : L2.St} {s : SS} {ds : List D} {us : List V} (h : RpL K F ds us) : ∀ {rs : List Rv} {vs : List V}, RpA K F σ s rs vs → RpA K F σ s (rs ++ ds.map .d) (vs ++ us)
  | _, _, .nil => RpA.ofL h
  | _, _, .d x r => .d x (r.append h)
  | _, _, .b x r => .b x (r.append h)
/-- a def that lets nothing out | one that may raise; ds: its defaults -/
def mCall (f : MF) (ds : List D) (ma : M (List Rv)) : M Rv := fun s => (ma s).bind fun rs s1 => noEx (callS f (rs ++ ds.map .d) s1)
def mCallX (f : MF) (ma : M (List Rv)) : M Rv := fun s => (ma s).bind fun rs s1 => callS f rs s1
theorem ev_call {W : WX} {f : MF} {ds : List D} {dvs : List V} {t : TA} {ma : M (List Rv)} (hd : ∀ F, RpL K F ds dvs) (ha : EvA K W t ma) : EvX K W (tCall (spM K f) dvs (fun _ _ _ => False) t) (mCall f ds ma) := by
  intro F H σ s Q rs w
  refine ha.step (Go.refl rs) w fun rs s1 vs F1 H1 g1 _ h1 w1 => ?_
  exact call_ok (W := fun _ _ _ _ => False) g1 (h1.append (hd F1)) (noEx_wn w1 _)
theorem ev_callX {W : WX} {f : MF} {t : TA} {ma : M (List Rv)} (ha : EvA K W t ma) : EvX K W (tCallS (spM K f) (WE W) t) (mCallX f ma) := by
  intro F H σ s Q rs w
  refine ha.step (Go.refl rs) w fun rs s1 vs F1 H1 g1 _ h1 w1 => ?_
  exact call_ok g1 h1 w1
/-- a method: the receiver is data, or a name's object, lent -/
def mMeth (C : Addr) (m : Str) (f : MF) (ds : List D) (mo : M Rv) (ma : M (List Rv)) : M Rv := fun s => (mo s).bind fun r s1 => opt (pk (nrm r) s1) fun x => match x with
  | .obj C' fs => if C' = C ∧ fs.lookup m = none then (ma s1).bind fun rs s2 => noEx (callS f (nrm r :: (rs ++ ds.map .d)) s2) else .no
  | _ => .no
theorem RpR.arg {H0 F H : Hp} {σ : L2.St} {s : SS} {r : Rv} {v : V} {rs : List Rv} {vs : List V} (h : RpR K H0 F H σ s (nrm r) v) (ra : RpA K F σ s rs vs) : RpA K F σ s (nrm r :: rs) (v :: vs) := by
  cases r with
  | d d => exact .d h ra
  | o o => exact .d h ra
  | b i => exact .b h ra
theorem ev_meth {W : WX} {C : Addr} {m : Str} {f : MF} {ds : List D} {dvs : List V} {ta : TE} {t : TA} {mo : M Rv} {ma : M (List Rv)} (hd : ∀ F, RpL K F ds dvs) (ho : EvX K W ta mo) (ha : EvA K W t ma) :
    EvX K W (tMeth C m (spM K f) dvs (fun _ _ _ => False) ta t) (mMeth C m f ds mo ma) := by
  intro F H σ s Q rs w
  refine ho.step (Go.refl rs) w fun r s1 v F1 H1 g1 _ h1 w1 => ?_
  obtain ⟨F1', g1', sb1, h1'⟩ := nrm_ok g1 h1
  obtain ⟨x, ex, w2⟩ := opt_wn w1
  have hp := pk_ok g1'.rs h1' ex
  cases x with
  | obj C' fs =>
    simp only at w2
    split at w2
    · rename_i hc
      obtain ⟨a, dx, xs, rfl, e1, e2⟩ := hp
      obtain ⟨rfl, l⟩ := hc
      refine ⟨a, dx, xs, rfl, e1, ?_, ?_⟩
      · rcases e2.lookup (f := m) with ⟨_, z⟩ | ⟨d, u, z, _⟩
        · exact z
        · rw [l] at z; cases z
      · refine ha.step g1' w2 fun rs s2 vs F2 H2 g2 g12 h2 w3 => ?_
        exact call_ok (W := fun _ _ _ _ => False) g2 ((h1'.go g12).arg (h2.append (hd F2))) (noEx_wn w3 _)
    · exact w2.elim
  | _ => exact w2.elim
/-- an attribute of an instance of one of these classes -/
def mFld (Cs : List Addr) (f : Str) (mo : M Rv) : M Rv := fun s => (mo s).bind fun r s1 => opt (pk r s1) fun x => match x with
  | .obj C fs => if C ∈ Cs then opt (fs.lookup f) fun d => .ok (.d d) s1 else .no
  | _ => .no
theorem ev_fld {W : WX} {Cs : List Addr} {f : Str} {ta : TE} {mo : M Rv} (hc : ∀ C ∈ Cs, Cls K C ∧ NoAttr K C f) (ho : EvX K W ta mo) : EvX K W (tFld K ta f) (mFld Cs f mo) := by
  intro F H σ s Q rs w
  refine ho.step (Go.refl rs) w fun r s1 v F1 H1 g1 _ h1 w1 => ?_
  obtain ⟨x, ex, w2⟩ := opt_wn w1
  have hp := pk_ok g1.rs h1 ex
  cases x with
  | obj C fs =>
    simp only at w2
    split at w2
    · rename_i hm
      obtain ⟨a, dx, xs, rfl, e1, e2⟩ := hp
      obtain ⟨d, ed, w3⟩ := opt_wn w2
      rcases e2.lookup (f := f) with ⟨z, _⟩ | ⟨d', u, z1, z2, z3⟩
      · rw [ed] at z; cases z
      · rw [ed] at z1
        cases z1
        exact ⟨a, C, dx, xs, u, rfl, e1, (hc C hm).1, (hc C hm).2, z2, w3 u F1 H1 g1 z3⟩
    · exact w2.elim
  | _ => exact w2.elim
end Cz

/-! # CzF -/
namespace Cz
open L2 PyProof.Rows PySem.Spec PySem
variable {K : PySem.W.Frag}

/-! ## statements -/
inductive Out where
  | nx (s : SS) | rt (r : Rv) (s : SS) | bk (s : SS) | ct (s : SS) | ex (c : Addr) (l : List (Str × D)) (s : SS) | no
abbrev MS := SS → Out
def R.out {α : Type} (r : R α) (f : α → SS → Out) : Out := match r with
  | .ok a s => f a s
  | .ex c l s => .ex c l s
  | .no => .no
def optO {α : Type} (o : Option α) (f : α → Out) : Out := match o with
  | some a => f a
  | none => .no
/-- this def's own, not lent -/
def OwW (σ : L2.St) (s : SS) (a : Addr) : Prop := ∃ (i : Nat) (o : OD), s[i]? = some (some (.ow o)) ∧ σ[i]? = some (some (.ref a))
def RpRt (K : PySem.W.Frag) (H0 : Hp) (σ0 : L2.St) (s0 : SS) (F H : Hp) (σ : L2.St) (s : SS) : Rv → V → Prop
  | .d d, v => Rp K F d v
  | .o o, v => ∃ p ho, v = .ref p ∧ F p = none ∧ H p = some ho ∧ RpO K F o ho ∧ (H0 p = none ∨ OwW σ0 s0 p) ∧ ∀ (j : Nat) (o' : OD), s[j]? = some (some (.br o')) → σ[j]? ≠ some (some (.ref p))
  | .b _, _ => False
theorem RpRt.back {H0 H1 F0 F1 F H : Hp} {σ0 σ1 σ : L2.St} {s0 s1 s : SS} {r : Rv} {v : V} (g : Go K F0 H0 σ0 s0 F1 H1 σ1 s1) (h : RpRt K H1 σ1 s1 F H σ s r v) : RpRt K H0 σ0 s0 F H σ s r v := by
  cases r with
  | d d => exact h
  | b i => exact h
  | o o =>
    obtain ⟨p, ho, rfl, e1, e2, e3, e4, e5⟩ := h
    refine ⟨p, ho, rfl, e1, e2, e3, ?_, e5⟩
    rcases e4 with e4 | ⟨i, o', h1, h2⟩
    · exact .inl (g.dm p e4)
    · rcases g.ow p ⟨i, _, o', h1, rfl, h2⟩ with ⟨j, sv, u, a1, a2, a3⟩ | q
      · cases sv with
        | fz d => cases a2
        | ow o2 => exact .inr ⟨j, o2, a1, a3⟩
        | br o2 =>
          obtain ⟨b1, o3, b2⟩ := g.br j o2 a1
          have e := g.rs.ne i j _ _ o' o3 p h1 rfl b2 rfl h2 (b1.trans a3)
          subst e
          rw [h1] at b2
          cases b2
      · exact .inl q
def WnS (K : PySem.W.Frag) (W : WX) (D : Ends) (F H : Hp) (σ : L2.St) (s : SS) : Out → Prop
  | .nx s' => ∀ σ' F' H', Go K F H σ s F' H' σ' s' → D.nx σ' H'
  | .rt r s' => ∀ v σ' F' H', Go K F H σ s F' H' σ' s' → RpRt K H σ s F' H' σ' s' r v → D.rt v H'
  | .bk s' => ∀ σ' F' H', Go K F H σ s F' H' σ' s' → D.bk σ' H'
  | .ct s' => ∀ σ' F' H', Go K F H σ s F' H' σ' s' → D.ct σ' H'
  | .ex c l s' => ∀ dd σ' F' H' xs, Go K F H σ s F' H' σ' s' → H' dd = some (.xd xs) → RpF K F' l xs → W (.ref c) (some dd) σ' H'
  | .no => False
def EvS (K : PySem.W.Frag) (W : WX) (ts : TS) (m : MS) : Prop := ∀ F H σ s D, RS K F H σ s → WnS K W D F H σ s (m s) → ts D σ H
theorem WnS.at {W : WX} {D : Ends} {F0 H0 F H : Hp} {σ0 σ : L2.St} {s0 s : SS} {o : Out} (g : Go K F0 H0 σ0 s0 F H σ s) (w : WnS K W D F0 H0 σ0 s0 o) : WnS K W D F H σ s o := by
  cases o with
  | nx s' => exact fun σ' F' H' g1 => w σ' F' H' (g.trans g1)
  | rt r s' => exact fun v σ' F' H' g1 h => w v σ' F' H' (g.trans g1) (h.back g)
  | bk s' => exact fun σ' F' H' g1 => w σ' F' H' (g.trans g1)
  | ct s' => exact fun σ' F' H' g1 => w σ' F' H' (g.trans g1)
  | ex c l s' => exact fun dd σ' F' H' xs g1 => w dd σ' F' H' xs (g.trans g1)
  | no => exact w
theorem EvS.at {W : WX} {ts : TS} {m : MS} (h : EvS K W ts m) {F0 H0 F H : Hp} {σ0 σ : L2.St} {s0 s : SS} {D : Ends} (g : Go K F0 H0 σ0 s0 F H σ s) (w : WnS K W D F0 H0 σ0 s0 (m s)) : ts D σ H :=
  h F H σ s D g.rs (w.at g)
/-- an expression within a statement -/
theorem EvX.stepS {W : WX} {te : TE} {m : M Rv} (h : EvX K W te m) {F H : Hp} {σ : L2.St} {s : SS} {D : Ends} {Q1 : VK} {f : Rv → SS → Out} (rs : RS K F H σ s) (w : WnS K W D F H σ s ((m s).out f))
    (k : ∀ r s1 v F1 H1, Go K F H σ s F1 H1 σ s1 → RpR K H F1 H1 σ s1 r v → WnS K W D F H σ s (f r s1) → Q1 v H1) : te σ H Q1 := by
  refine h F H σ s Q1 rs ?_
  cases e : m s with
  | ok r s1 =>
    rw [e] at w
    exact fun v F1 H1 g1 r1 => k r s1 v F1 H1 g1 r1 w
  | ex c l s1 =>
    rw [e] at w
    exact fun dd F1 H1 xs g1 => w dd σ F1 H1 xs g1
  | no =>
    rw [e] at w
    exact w
theorem EvT.stepS {W : WX} {tt : TT} {m : M Bool} (h : EvT K W tt m) {F H : Hp} {σ : L2.St} {s : SS} {D : Ends} {Q1 : Bool → Hp → Prop} {f : Bool → SS → Out} (rs : RS K F H σ s) (w : WnS K W D F H σ s ((m s).out f))
    (k : ∀ b s1 F1 H1, Go K F H σ s F1 H1 σ s1 → WnS K W D F H σ s (f b s1) → Q1 b H1) : tt σ H Q1 := by
  refine h F H σ s Q1 rs ?_
  cases e : m s with
  | ok r s1 =>
    rw [e] at w
    exact fun F1 H1 g1 => k r s1 F1 H1 g1 w
  | ex c l s1 =>
    rw [e] at w
    exact fun dd F1 H1 xs g1 => w dd σ F1 H1 xs g1
  | no =>
    rw [e] at w
    exact w
theorem optO_wn {α : Type} {F H : Hp} {σ : L2.St} {s : SS} {W : WX} {D : Ends} {o : Option α} {f : α → Out} (w : WnS K W D F H σ s (optO o f)) : ∃ a, o = some a ∧ WnS K W D F H σ s (f a) := by
  cases o with
  | none => exact w.elim
  | some a => exact ⟨a, rfl, w⟩

def mNext : MS := fun s => .nx s
theorem es_next {W : WX} : EvS K W tNext mNext := fun F H σ s D rs w => w σ F H (Go.refl rs)
def mBreak : MS := fun s => .bk s
theorem es_break {W : WX} : EvS K W tBreak mBreak := fun F H σ s D rs w => w σ F H (Go.refl rs)
def mCont : MS := fun s => .ct s
theorem es_cont {W : WX} : EvS K W tCont mCont := fun F H σ s D rs w => w σ F H (Go.refl rs)
def mNever : MS := fun _ => .no
theorem es_never {W : WX} {t : TS} : EvS K W t mNever := fun F H σ s D rs w => w.elim
def mSeq (a b : MS) : MS := fun s => match a s with
  | .nx s' => b s'
  | o => o
theorem es_seq {W : WX} {t u : TS} {a b : MS} (ha : EvS K W t a) (hb : EvS K W u b) : EvS K W (tSeq t u) (mSeq a b) := by
  intro F H σ s D rs w
  refine ha F H σ s _ rs ?_
  unfold mSeq at w
  cases e : a s with
  | nx s' =>
    rw [e] at w
    exact fun σ' F' H' g => hb.at g w
  | rt r s' => rw [e] at w; exact w
  | bk s' => rw [e] at w; exact w
  | ct s' => rw [e] at w; exact w
  | ex c l s' => rw [e] at w; exact w
  | no => rw [e] at w; exact w
def mIfS (mt : M Bool) (a b : MS) : MS := fun s => (mt s).out fun c s1 => if c then a s1 else b s1
theorem es_if {W : WX} {c : TT} {t u : TS} {mt : M Bool} {a b : MS} (hc : EvT K W c mt) (ha : EvS K W t a) (hb : EvS K W u b) : EvS K W (tIfS c t u) (mIfS mt a b) := by
  intro F H σ s D rs w
  refine hc.stepS rs w fun x s1 F1 H1 g1 w1 => ?_
  cases x with
  | true => exact ha.at g1 w1
  | false => exact hb.at g1 w1
def mRet (me : M Rv) : MS := fun s => (me s).out fun r s1 => match r with
  | .d d => .rt (.d d) s1
  | .o o => .rt (.o o) s1
  | .b i => match s1[i]? with
    | some (some (.fz d)) => .rt (.d d) s1
    | some (some (.ow o)) => .rt (.o o) s1
    | _ => .no
theorem es_ret {W : WX} {te : TE} {me : M Rv} (h : EvX K W te me) : EvS K W (tRet te) (mRet me) := by
  intro F H σ s D rs w
  refine h.stepS rs w fun r s1 v F1 H1 g1 h1 w1 => ?_
  cases r with
  | d d => exact w1 v σ F1 H1 g1 h1
  | o o =>
    refine w1 v σ F1 H1 g1 ?_
    obtain ⟨p, ho, rfl, a1, a2, a3, a4, a5⟩ := h1
    exact ⟨p, ho, rfl, a1, a2, a3, .inl a4, fun j o' z y => a5 ⟨j, _, o', z, rfl, y⟩⟩
  | b i =>
    have hv : σ[i]? = some (some v) := h1
    simp only at w1
    split at w1
    · rename_i d q
      obtain ⟨u, b1, b2⟩ := g1.rs.fz i d q
      rw [hv] at b1
      cases b1
      exact w1 v σ F1 H1 g1 b2
    · rename_i o q
      obtain ⟨p, ho, b1, b2, b3, b4⟩ := g1.rs.ow i _ o q rfl
      rw [hv] at b1
      cases b1
      refine w1 _ σ F1 H1 g1 ⟨p, ho, rfl, b2, b3, b4, ?_, fun j o' z y => ?_⟩
      · rcases g1.ow p ⟨i, _, o, q, rfl, hv⟩ with ⟨j, sv, u, a1, a2, a3⟩ | z
        · cases sv with
          | fz d => cases a2
          | ow o2 => exact .inr ⟨j, o2, a1, a3⟩
          | br o2 =>
            obtain ⟨c1, o3, c2⟩ := g1.br j o2 a1
            have e := g1.rs.ne i j _ _ o o3 p q rfl c2 rfl hv (c1.trans a3)
            subst e
            rw [q] at c2
            cases c2
        · exact .inl z
      · have e := g1.rs.ne i j _ _ o o' p q rfl z rfl hv y
        subst e
        rw [q] at z
        cases z
    · exact w1.elim
def mRetN : MS := fun s => .rt (.d .non) s
theorem es_retN {W : WX} : EvS K W tRetN mRetN := fun F H σ s D rs w => w .non σ F H (Go.refl rs) .non
def mDrop (me : M Rv) : MS := fun s => (me s).out fun _ s1 => .nx s1
theorem es_drop {W : WX} {te : TE} {me : M Rv} (h : EvX K W te me) : EvS K W (tDrop te) (mDrop me) := by
  intro F H σ s D rs w
  exact h.stepS rs w fun r s1 v F1 H1 g1 h1 w1 => w1 σ F1 H1 g1

/-! ## names that get a value -/
/-- may the i-th name be given another value? -/
def free (s : SS) (i : Nat) : Bool := match s[i]? with
  | some (some (.br _)) => false
  | some _ => true
  | none => false
theorem free_lt {s : SS} {i : Nat} (h : free s i = true) : i < s.length ∧ ∀ o, s[i]? ≠ some (some (.br o)) := by
  unfold free at h
  split at h
  · cases h
  · rename_i x q n
    exact ⟨lt_of_get n, fun o z => by rw [n] at z; cases z; exact q o rfl⟩
  · cases h
theorem Go.setD {F0 H0 F H : Hp} {σ0 σ : L2.St} {s0 s : SS} {i : Nat} {d : D} {v : V} (g : Go K F0 H0 σ0 s0 F H σ s) (hf : free s i = true) (h : Rp K F d v) : Go K F0 H0 σ0 s0 F H (σ.set i (some v)) (s.set i (some (.fz d))) := by
  obtain ⟨hl, nb⟩ := free_lt hf
  have hσ : i < σ.length := by rw [g.rs.len]; exact hl
  have si : (s.set i (some (.fz d)))[i]? = some (some (.fz d)) := List.getElem?_set_self hl
  have σi : (σ.set i (some v))[i]? = some (some v) := List.getElem?_set_self hσ
  have old : ∀ (j : Nat) (sv : SV) (o : OD), (s.set i (some (.fz d)))[j]? = some (some sv) → SV.own sv = some o → j ≠ i ∧ s[j]? = some (some sv) ∧ (σ.set i (some v))[j]? = σ[j]? := fun j sv o q w => by
    have nj : j ≠ i := fun z => by
      subst z
      rw [si] at q
      cases q
      cases w
    rw [get_set_ne (Ne.symm nj)] at q
    exact ⟨nj, q, get_set_ne (Ne.symm nj)⟩
  refine ⟨⟨g.rs.sub, by rw [List.length_set, List.length_set]; exact g.rs.len, fun j d' q => ?_, fun j sv o q w => ?_, fun j k sj sk oj ok' p a1 a2 a3 a4 a5 a6 => ?_⟩, g.fr, g.kp, g.nw, fun a w => ?_, fun j o q => ?_, g.dm⟩
  · by_cases nj : j = i
    · subst nj
      rw [si] at q
      cases q
      exact ⟨v, σi, h⟩
    · rw [get_set_ne (Ne.symm nj)] at q ⊢
      exact g.rs.fz j d' q
  · obtain ⟨nj, q', e⟩ := old j sv o q w
    rw [e]
    exact g.rs.ow j sv o q' w
  · obtain ⟨_, q1, e1⟩ := old j sj oj a1 a2
    obtain ⟨_, q2, e2⟩ := old k sk ok' a3 a4
    rw [e1] at a5
    rw [e2] at a6
    exact g.rs.ne j k sj sk oj ok' p q1 a2 q2 a4 a5 a6
  · obtain ⟨j, sv, o, q1, q2, q3⟩ := w
    obtain ⟨_, q', e⟩ := old j sv o q1 q2
    rw [e] at q3
    exact g.ow a ⟨j, sv, o, q', q2, q3⟩
  · obtain ⟨e, o', q'⟩ := g.br j o q
    have nj : i ≠ j := fun z => by
      subst z
      exact nb _ q'
    rw [get_set_ne nj, get_set_ne nj]
    exact ⟨e, o', q'⟩
theorem Go.setO {F0 H0 F H : Hp} {σ0 σ : L2.St} {s0 s : SS} {i : Nat} {o : OD} {v : V} (g : Go K F0 H0 σ0 s0 F H σ s) (hf : free s i = true) (h : RpR K H0 F H σ s (.o o) v) : Go K F0 H0 σ0 s0 F H (σ.set i (some v)) (s.set i (some (.ow o))) := by
  obtain ⟨hl, nb⟩ := free_lt hf
  obtain ⟨p, ho, rfl, b1, b2, b3, b4, b5⟩ := h
  have hσ : i < σ.length := by rw [g.rs.len]; exact hl
  have si : (s.set i (some (.ow o)))[i]? = some (some (.ow o)) := List.getElem?_set_self hl
  have σi : (σ.set i (some (.ref p)))[i]? = some (some (.ref p)) := List.getElem?_set_self hσ
  have old : ∀ (j : Nat) (sv : SV), j ≠ i → (s.set i (some (.ow o)))[j]? = some (some sv) → s[j]? = some (some sv) ∧ (σ.set i (some (.ref p)))[j]? = σ[j]? := fun j sv nj q => by
    rw [get_set_ne (Ne.symm nj)] at q
    exact ⟨q, get_set_ne (Ne.symm nj)⟩
  have np : ∀ (j : Nat) (sv : SV) (u : OD), j ≠ i → (s.set i (some (.ow o)))[j]? = some (some sv) → SV.own sv = some u → (σ.set i (some (.ref p)))[j]? ≠ some (some (.ref p)) := fun j sv u nj q w z => by
    obtain ⟨q', e⟩ := old j sv nj q
    rw [e] at z
    exact b5 ⟨j, sv, u, q', w, z⟩
  refine ⟨⟨g.rs.sub, by rw [List.length_set, List.length_set]; exact g.rs.len, fun j d' q => ?_, fun j sv u q w => ?_, fun j k sj sk oj ok' x a1 a2 a3 a4 a5 a6 => ?_⟩, g.fr, g.kp, g.nw, fun a w => ?_, fun j u q => ?_, g.dm⟩
  · have nj : j ≠ i := fun z => by
      subst z
      rw [si] at q
      cases q
    rw [get_set_ne (Ne.symm nj)] at q ⊢
    exact g.rs.fz j d' q
  · by_cases nj : j = i
    · subst nj
      rw [si] at q
      cases q
      cases w
      exact ⟨p, ho, σi, b1, b2, b3⟩
    · obtain ⟨q', e⟩ := old j sv nj q
      rw [e]
      exact g.rs.ow j sv u q' w
  · by_cases nj : j = i
    · subst nj
      rw [σi] at a5
      cases a5
      by_cases nk : k = j
      · exact nk.symm
      · exact absurd a6 (np k sk ok' nk a3 a4)
    · by_cases nk : k = i
      · subst nk
        rw [σi] at a6
        cases a6
        exact absurd a5 (np j sj oj nj a1 a2)
      · obtain ⟨q1, e1⟩ := old j sj nj a1
        obtain ⟨q2, e2⟩ := old k sk nk a3
        rw [e1] at a5
        rw [e2] at a6
        exact g.rs.ne j k sj sk oj ok' x q1 a2 q2 a4 a5 a6
  · obtain ⟨j, sv, u, q1, q2, q3⟩ := w
    by_cases nj : j = i
    · subst nj
      rw [σi] at q3
      cases q3
      exact .inr b4
    · obtain ⟨q', e⟩ := old j sv nj q1
      rw [e] at q3
      exact g.ow a ⟨j, sv, u, q', q2, q3⟩
  · obtain ⟨e, o', q'⟩ := g.br j u q
    have nj : i ≠ j := fun z => by
      subst z
      exact nb _ q'
    rw [get_set_ne nj, get_set_ne nj]
    exact ⟨e, o', q'⟩
/-- name = e -/
def mAsg (i : Nat) (me : M Rv) : MS := fun s => (me s).out fun r s1 => match r with
  | .d d => if free s1 i then .nx (s1.set i (some (.fz d))) else .no
  | .o o => if free s1 i then .nx (s1.set i (some (.ow o))) else .no
  | .b j => (frz (.b j) s1).out fun d s2 => if free s2 i then .nx (s2.set i (some (.fz d))) else .no
theorem frz_out {W : WX} {D' : Ends} {F0 H0 : Hp} {σ : L2.St} {s0 s : SS} {r : Rv} {f : D → SS → Out} (w : WnS K W D' F0 H0 σ s0 ((frz r s).out f)) : ∃ d s', frz r s = .ok d s' ∧ WnS K W D' F0 H0 σ s0 (f d s') := by
  cases e : frz r s with
  | ok d s' => rw [e] at w; exact ⟨d, s', rfl, w⟩
  | ex c l s' => exact absurd e frz_ex
  | no => rw [e] at w; exact w.elim
theorem es_asg {W : WX} {i : Nat} {te : TE} {me : M Rv} (h : EvX K W te me) : EvS K W (tAsg te (gName i)) (mAsg i me) := by
  intro F H σ s D rs w
  refine h.stepS rs w fun r s1 v F1 H1 g1 h1 w1 => ?_
  show D.nx (σ.set i (some v)) H1
  cases r with
  | d d =>
    simp only at w1
    split at w1
    · rename_i hf
      exact w1 _ F1 H1 (g1.setD hf h1)
    · exact w1.elim
  | o o =>
    simp only at w1
    split at w1
    · rename_i hf
      exact w1 _ F1 H1 (g1.setO hf h1)
    · exact w1.elim
  | b j =>
    obtain ⟨d, s2, e, w2⟩ := frz_out w1
    obtain ⟨F2, g2, _, hd⟩ := frz_ok g1 h1 e
    split at w2
    · rename_i hf
      exact w2 _ F2 H1 (g2.setD hf hd)
    · exact w2.elim
/-! ## targets of data -/
abbrev MG := D → SS → Option SS
/-- tv: the places it stores to -/
def EvG (K : PySem.W.Frag) (g : TG) (f : MG) (tv : List Nat) : Prop := ∀ F0 H0 σ0 s0 F H σ s v d s' Q, Go K F0 H0 σ0 s0 F H σ s → Rp K F d v → f d s = some s' →
  (∀ σ', Go K F0 H0 σ0 s0 F H σ' s' → (∀ j : Nat, j ∉ tv → σ'[j]? = σ[j]?) → σ'.length = σ.length → Q σ' H) → g v σ H Q
def mgName (i : Nat) : MG := fun d s => if free s i then some (s.set i (some (.fz d))) else none
theorem eg_name {i : Nat} : EvG K (gName i) (mgName i) [i] := by
  intro F0 H0 σ0 s0 F H σ s v d s' Q g h e q
  unfold mgName at e
  split at e
  · rename_i hf
    cases e
    exact q _ (g.setD hf h) (fun j hj => get_set_ne (fun z => hj (by rw [z]; exact List.mem_singleton.mpr rfl))) (by rw [List.length_set])
  · cases e
abbrev MGs := List D → SS → Option SS
def EvGs (K : PySem.W.Frag) (g : TGs) (f : MGs) (tv : List Nat) : Prop := ∀ F0 H0 σ0 s0 F H σ s vs ds s' Q, Go K F0 H0 σ0 s0 F H σ s → RpL K F ds vs → f ds s = some s' →
  (∀ σ', Go K F0 H0 σ0 s0 F H σ' s' → (∀ j : Nat, j ∉ tv → σ'[j]? = σ[j]?) → σ'.length = σ.length → Q σ' H) → g vs σ H Q
def mgNil : MGs := fun ds s => match ds with
  | [] => some s
  | _ => none
theorem eg_nil : EvGs K gNil mgNil [] := by
  intro F0 H0 σ0 s0 F H σ s vs ds s' Q g h e q
  cases h with
  | nil =>
    cases e
    exact ⟨rfl, q σ g (fun _ _ => rfl) rfl⟩
  | cons a b => cases e
def mgCons (f : MG) (r : MGs) : MGs := fun ds s => match ds with
  | d :: ds => (f d s).bind fun s1 => r ds s1
  | [] => none
theorem eg_cons {t : TG} {u : TGs} {f : MG} {r : MGs} {tv us : List Nat} (h1 : EvG K t f tv) (h2 : EvGs K u r us) : EvGs K (gCons t u) (mgCons f r) (tv ++ us) := by
  intro F0 H0 σ0 s0 F H σ s vs ds s' Q g h e q
  cases h with
  | nil => cases e
  | cons a b =>
    rename_i d ds v vs
    have e' : (f d s).bind (fun s1 => r ds s1) = some s' := e
    rw [Option.bind_eq_some_iff] at e'
    obtain ⟨s1, e1, e2⟩ := e'
    refine ⟨v, vs, rfl, h1 F0 H0 σ0 s0 F H σ s v d s1 _ g a e1 fun σ' g' k1 l1 => h2 F0 H0 σ0 s0 F H σ' s1 vs ds s' Q g' b e2 fun σ2 g2 k2 l2 => q σ2 g2 (fun j hj => ?_) (l2.trans l1)⟩
    exact (k2 j fun z => hj (List.mem_append_right _ z)).trans (k1 j fun z => hj (List.mem_append_left _ z))
def mgTup (n : Nat) (r : MGs) : MG := fun d s => (tupL d).bind fun ds => if ds.length = n then r ds s else none
theorem eg_tup {n : Nat} {t : TGs} {r : MGs} {tv : List Nat} (h : EvGs K t r tv) : EvG K (gTup K n t) (mgTup n r) tv := by
  intro F0 H0 σ0 s0 F H σ s v d s' Q g hd e q
  unfold mgTup at e
  rw [Option.bind_eq_some_iff] at e
  obtain ⟨ds, e1, e⟩ := e
  obtain ⟨a, xs, rfl, hs, hl⟩ := hd.sqt e1
  split at e
  · rename_i hn
    exact ⟨a, xs, rfl, g.rs.sub.t hs, by rw [← hl.length]; exact hn, h F0 H0 σ0 s0 F H σ s xs ds s' Q g hl e q⟩
  · cases e
/-- target = e, the value made data first -/
def mAsgG (f : MG) (me : M Rv) : MS := fun s => (me s).out fun r s1 => (frz r s1).out fun d s2 => optO (f d s2) fun s3 => .nx s3
theorem es_asgG {W : WX} {g : TG} {f : MG} {tv : List Nat} {te : TE} {me : M Rv} (hg : EvG K g f tv) (h : EvX K W te me) : EvS K W (tAsg te g) (mAsgG f me) := by
  intro F H σ s D rs w
  refine h.stepS rs w fun r s1 v F1 H1 g1 h1 w1 => ?_
  obtain ⟨d, s2, e, w2⟩ := frz_out w1
  obtain ⟨F2, g2, _, hd⟩ := frz_ok g1 h1 e
  obtain ⟨s3, e3, w3⟩ := optO_wn w2
  exact hg F H σ s F2 H1 σ s2 v d s3 _ g2 hd e3 fun σ' g3 _ _ => w3 σ' F2 H1 g3

/-! ## loops -/
def WnI (K : PySem.W.Frag) (W : WX) (Q : It → Hp → Prop) (F H : Hp) (σ : L2.St) (s : SS) : R (List D) → Prop
  | .ok ds s' => ∀ J F' H' G Y, Go K F H σ s F' H' σ s' → Walk J ds.length G Y → (∀ F2 H2 σ2 s2, RS K F2 H2 σ2 s2 → Sub F' F2 → G H2) →
      (∀ i Hc x Hx F2 σ2 s2, i < ds.length → Y i Hc x Hx → RS K F2 Hc σ2 s2 → Sub F' F2 → ∃ F3 d, Al F2 Hc F3 Hx ∧ ds[i]? = some d ∧ Rp K F3 d x) → Q J H'
  | .ex c l s' => ∀ dd F' H' xs, Go K F H σ s F' H' σ s' → H' dd = some (.xd xs) → RpF K F' l xs → W (.ref c) (some dd) σ H'
  | .no => False
def EvI (K : PySem.W.Frag) (W : WX) (wi : TI) (m : M (List D)) : Prop := ∀ F H σ s Q, RS K F H σ s → WnI K W Q F H σ s (m s) → wi σ H Q
def loop (f : MG) (b : MS) : List D → SS → Out
  | [], s => .nx s
  | d :: ds, s => optO (f d s) fun s1 => match b s1 with
    | .nx s2 => loop f b ds s2
    | .ct s2 => loop f b ds s2
    | .bk s2 => .nx s2
    | o => o
def mFor (mi : M (List D)) (f : MG) (b : MS) : MS := fun s => (mi s).out fun ds s1 => loop f b ds s1
theorem es_forAt {W : WX} {wi : TI} {g : TG} {tb : TS} {mi : M (List D)} {f : MG} {tv : List Nat} {b : MS} {F H : Hp} {σ : L2.St} {s : SS} {D : Ends} (hi : ∀ Q, WnI K W Q F H σ s (mi s) → wi σ H Q) (hg : EvG K g f tv) (hb : EvS K W tb b) (w : WnS K W D F H σ s (mFor mi f b s)) : tFor wi g tb D σ H := by
  refine hi _ ?_
  have w' : WnS K W D F H σ s ((mi s).out fun ds s1 => loop f b ds s1) := w
  cases e : mi s with
  | no => rw [e] at w'; exact w'
  | ex c l s1 =>
    rw [e] at w'
    exact fun dd F1 H1 xs g1 => w' dd σ F1 H1 xs g1
  | ok ds s1 =>
    rw [e] at w'
    intro J F1 H1 G Y g1 wk hG hY
    refine for_it wk (fun i σ2 H2 => ∃ F2 s2, Go K F H σ s F2 H2 σ2 s2 ∧ Sub F1 F2 ∧ WnS K W D F H σ s (loop f b (ds.drop i) s2)) ⟨F1, s1, g1, Sub.refl, w'⟩ ?_ ?_ ?_
    · rintro i σ2 H2 _ ⟨F2, s2, g2, sb, _⟩
      exact hG F2 H2 σ2 s2 g2.rs sb
    · rintro i x σ2 H2 H3 hi' ⟨F2, s2, g2, sb, w2⟩ y
      obtain ⟨F3, d, al, ed, rd⟩ := hY i H2 x H3 F2 σ2 s2 hi' y g2.rs sb
      have hd : ds.drop i = d :: ds.drop (i + 1) := by
        obtain ⟨hlt, he⟩ := List.getElem?_eq_some_iff.mp ed
        rw [List.drop_eq_getElem_cons hlt, he]
      rw [hd] at w2
      obtain ⟨s3, e3, w3⟩ := optO_wn w2
      refine hg F H σ s F3 H3 σ2 s2 x d s3 _ (g2.al al) rd e3 fun σ3 g3 _ _ => ?_
      refine hb F3 H3 σ3 s3 _ g3.rs ?_
      cases eb : b s3 with
      | nx s4 =>
        rw [eb] at w3
        exact fun σ4 F4 H4 g4 => ⟨F4, s4, g3.trans g4, (sb.trans al.f).trans g4.fr, w3⟩
      | ct s4 =>
        rw [eb] at w3
        exact fun σ4 F4 H4 g4 => ⟨F4, s4, g3.trans g4, (sb.trans al.f).trans g4.fr, w3⟩
      | bk s4 =>
        rw [eb] at w3
        exact fun σ4 F4 H4 g4 => w3 σ4 F4 H4 (g3.trans g4)
      | rt r s4 =>
        rw [eb] at w3
        exact fun v σ4 F4 H4 g4 h4 => w3 v σ4 F4 H4 (g3.trans g4) (h4.back g3)
      | ex c l s4 =>
        rw [eb] at w3
        exact fun dd σ4 F4 H4 xs g4 => w3 dd σ4 F4 H4 xs (g3.trans g4)
      | no =>
        rw [eb] at w3
        exact w3
    · rintro σ2 H2 ⟨F2, s2, g2, sb, w2⟩
      rw [List.drop_length] at w2
      exact w2 σ2 F2 H2 g2
theorem es_for {W : WX} {wi : TI} {g : TG} {tb : TS} {mi : M (List D)} {f : MG} {tv : List Nat} {b : MS} (hi : EvI K W wi mi) (hg : EvG K g f tv) (hb : EvS K W tb b) : EvS K W (tFor wi g tb) (mFor mi f b) :=
  fun F H σ s D rs w => es_forAt (fun Q => hi F H σ s Q rs) hg hb w
def mWhile (n : Nat) (mc : M Bool) (b : MS) : MS := fun s => match n with
  | 0 => .no
  | n + 1 => (mc s).out fun c s1 => if c then match b s1 with
      | .nx s2 => mWhile n mc b s2
      | .ct s2 => mWhile n mc b s2
      | .bk s2 => .nx s2
      | o => o
    else .nx s1
theorem es_while {W : WX} {c : TT} {tb : TS} {mc : M Bool} {b : MS} (n : Nat) (hc : EvT K W c mc) (hb : EvS K W tb b) : EvS K W (tWhile c tb) (mWhile n mc b) := by
  intro F H σ s D rs w
  refine ⟨fun m σ2 H2 => ∃ F2 s2, Go K F H σ s F2 H2 σ2 s2 ∧ WnS K W D F H σ s (mWhile m mc b s2), ⟨n, F, s, Go.refl rs, w⟩, ?_⟩
  rintro m σ2 H2 ⟨F2, s2, g2, w2⟩
  cases m with
  | zero => exact w2.elim
  | succ m =>
    have w3 : WnS K W D F2 H2 σ2 s2 ((mc s2).out fun c s1 => if c then match b s1 with
      | .nx s2 => mWhile m mc b s2
      | .ct s2 => mWhile m mc b s2
      | .bk s2 => .nx s2
      | o => o
    else .nx s1) := WnS.at g2 w2
    refine hc F2 H2 σ2 s2 _ g2.rs ?_
    have w4 : WnS K W D F H σ s ((mc s2).out fun c s1 => if c then match b s1 with
      | .nx s2 => mWhile m mc b s2
      | .ct s2 => mWhile m mc b s2
      | .bk s2 => .nx s2
      | o => o
    else .nx s1) := w2
    cases e : mc s2 with
    | no => rw [e] at w4; exact w4
    | ex c l s3 =>
      rw [e] at w4
      exact fun dd F3 H3 xs g3 => w4 dd σ2 F3 H3 xs (g2.trans g3)
    | ok x s3 =>
      rw [e] at w4
      intro F3 H3 g3
      have g := g2.trans g3
      cases x with
      | false => exact w4 σ2 F3 H3 g
      | true =>
        refine ⟨fun σ4 H4 => ∃ F4 s4, Go K F H σ s F4 H4 σ4 s4 ∧ WnS K W D F H σ s (mWhile m mc b s4), fun σ4 H4 p => ⟨m, Nat.lt_succ_self m, p⟩, ?_⟩
        refine hb F3 H3 σ2 s3 _ g.rs ?_
        have w5 : WnS K W D F H σ s (match b s3 with
          | .nx s2 => mWhile m mc b s2
          | .ct s2 => mWhile m mc b s2
          | .bk s2 => .nx s2
          | o => o) := w4
        cases eb : b s3 with
        | nx s4 =>
          rw [eb] at w5
          exact fun σ4 F4 H4 g4 => ⟨F4, s4, g.trans g4, w5⟩
        | ct s4 =>
          rw [eb] at w5
          exact fun σ4 F4 H4 g4 => ⟨F4, s4, g.trans g4, w5⟩
        | bk s4 =>
          rw [eb] at w5
          exact fun σ4 F4 H4 g4 => w5 σ4 F4 H4 (g.trans g4)
        | rt r s4 =>
          rw [eb] at w5
          exact fun v σ4 F4 H4 g4 h4 => w5 v σ4 F4 H4 (g.trans g4) (h4.back g)
        | ex c l s4 =>
          rw [eb] at w5
          exact fun dd σ4 F4 H4 xs g4 => w5 dd σ4 F4 H4 xs (g.trans g4)
        | no =>
          rw [eb] at w5
          exact w5
end Cz

/-! # CzG -/
namespace Cz
open L2 PyProof.Rows PySem.Spec PySem
variable {K : PySem.W.Frag}

/-! ## a def by its body -/
def endS : List SV → SS → Option (List SV)
  | [], _ => some []
  | .fz d :: as, _ :: s => (endS as s).map (.fz d :: ·)
  | .br _ :: as, some (.br o) :: s => (endS as s).map (.br o :: ·)
  | _, _ => none
theorem endS_get : ∀ {as : List SV} {s : SS} {as' : List SV}, endS as s = some as' → as'.length = as.length ∧
    ∀ (j : Nat) (a : SV), as[j]? = some a → (∃ d, a = .fz d ∧ as'[j]? = some (.fz d)) ∨ ∃ o o', a = .br o ∧ s[j]? = some (some (.br o')) ∧ as'[j]? = some (.br o')
  | [], s, as', e => by
    cases e
    exact ⟨rfl, fun j a h => by simp at h⟩
  | .fz d :: as, [], as', e => by cases e
  | .fz d :: as, x :: s, as', e => by
    simp only [endS, Option.map_eq_some_iff] at e
    obtain ⟨l, e1, rfl⟩ := e
    obtain ⟨h1, h2⟩ := endS_get e1
    refine ⟨by simp [h1], fun j a h => ?_⟩
    cases j with
    | zero =>
      simp at h
      subst h
      exact .inl ⟨d, rfl, rfl⟩
    | succ j => exact h2 j a (by simpa using h)
  | .br o :: as, [], as', e => by cases e
  | .br o :: as, none :: s, as', e => by cases e
  | .br o :: as, some (.fz d) :: s, as', e => by cases e
  | .br o :: as, some (.ow d) :: s, as', e => by cases e
  | .br o :: as, some (.br u) :: s, as', e => by
    simp only [endS, Option.map_eq_some_iff] at e
    obtain ⟨l, e1, rfl⟩ := e
    obtain ⟨h1, h2⟩ := endS_get e1
    refine ⟨by simp [h1], fun j a h => ?_⟩
    cases j with
    | zero =>
      simp at h
      subst h
      exact .inr ⟨o, u, rfl, rfl, rfl⟩
    | succ j => exact h2 j a (by simpa using h)
  | .ow o :: as, s, as', e => by
    cases s <;> cases e
def runF (np n : Nat) (mb : MS) : MF := fun as => if as.length = np then match mb (as.map some ++ List.replicate (n - np) none) with
    | .rt r s => opt (endS as s) fun as' => .ok r (as'.map some)
    | .nx s => opt (endS as s) fun as' => .ok (.d .non) (as'.map some)
    | .ex c l s => opt (endS as s) fun as' => .ex c l (as'.map some)
    | _ => .no
  else .no
theorem pad_get {α : Type} {l : List α} {n i : Nat} {x : α} (h : (l.map some ++ List.replicate n none)[i]? = some (some x)) : l[i]? = some x := by
  by_cases hi : i < l.length
  · rw [List.getElem?_append_left (by simpa using hi), List.getElem?_map] at h
    cases e : l[i]? with
    | none => (rw [e] at h; cases h)
    | some y => rw [e] at h; cases h; rfl
  · rw [List.getElem?_append_right (by simpa using hi), List.getElem?_replicate] at h
    split at h <;> cases h
theorem pad_of {α : Type} {l : List α} {n i : Nat} {x : α} (h : l[i]? = some x) : (l.map some ++ List.replicate n none)[i]? = some (some x) := by
  have hi := lt_of_get h
  rw [List.getElem?_append_left (by simpa using hi), List.getElem?_map, h]
  rfl
theorem mapS_get {α : Type} {l : List α} {i : Nat} {x : α} (h : (l.map some)[i]? = some (some x)) : l[i]? = some x := by
  obtain ⟨a, e1, e2⟩ := map_get h
  cases e2
  exact e1
theorem mapS_of {α : Type} {l : List α} {i : Nat} {x : α} (h : l[i]? = some x) : (l.map some)[i]? = some (some x) := by
  rw [List.getElem?_map, h]
  rfl
section
variable {F H F' H' : Hp} {vs : List V} {as as' : List SV} {σ : L2.St} {s : SS} {n m : Nat}
theorem RS.pad (r : RS K F H (vs.map some) (as.map some)) (hn : n - vs.length = n - as.length) : RS K F H (vs.map some ++ List.replicate (n - vs.length) none) (as.map some ++ List.replicate (n - as.length) none) := by
  have hl : vs.length = as.length := by simpa using r.len
  refine ⟨r.sub, by simp [hl], fun i d h => ?_, fun i sv o h1 h2 => ?_, fun i j si sj oi oj p h1 h2 h3 h4 h5 h6 => ?_⟩
  · obtain ⟨v, e1, e2⟩ := r.fz i d (mapS_of (pad_get h))
    exact ⟨v, pad_of (mapS_get e1), e2⟩
  · obtain ⟨p, ho, e1, e2⟩ := r.ow i sv o (mapS_of (pad_get h1)) h2
    exact ⟨p, ho, pad_of (mapS_get e1), e2⟩
  · exact r.ne i j si sj oi oj p (mapS_of (pad_get h1)) h2 (mapS_of (pad_get h3)) h4 (mapS_of (pad_get h5)) (mapS_of (pad_get h6))
theorem Go.body (r : RS K F H (vs.map some) (as.map some)) (g : Go K F H (vs.map some ++ List.replicate n none) (as.map some ++ List.replicate m none) F' H' σ s) (e : endS as s = some as') :
    Go K F H (vs.map some) (as.map some) F' H' (vs.map some) (as'.map some) := by
  obtain ⟨hl, hg⟩ := endS_get e
  have hv : vs.length = as.length := by simpa using r.len
  have back : ∀ (j : Nat) (a : SV), as'[j]? = some a → ∃ b, as[j]? = some b ∧ ((∃ d, a = .fz d ∧ b = .fz d) ∨ ∃ o o', b = .br o ∧ a = .br o' ∧ s[j]? = some (some (.br o')) ∧ σ[j]? = (vs.map some)[j]?) := fun j a h => by
    have hj : j < as.length := by rw [← hl]; exact lt_of_get h
    have hb : as[j]? = some as[j] := List.getElem?_eq_getElem hj
    refine ⟨as[j], hb, ?_⟩
    rcases hg j _ hb with ⟨d, e1, e2⟩ | ⟨o, o', e1, e2, e3⟩
    · rw [h] at e2
      cases e2
      exact .inl ⟨d, rfl, e1⟩
    · rw [h] at e3
      cases e3
      obtain ⟨q, _⟩ := g.br j o (pad_of (by rw [hb, e1]))
      refine .inr ⟨o, o', e1, rfl, e2, ?_⟩
      rw [q, List.getElem?_append_left (by rw [List.length_map]; omega)]
  have ow : ∀ a, Ow (vs.map some) (as'.map some) a → Ow (vs.map some) (as.map some) a := fun a ⟨j, sv, o, h1, h2, h3⟩ => by
    obtain ⟨b, e1, e2⟩ := back j sv (mapS_get h1)
    rcases e2 with ⟨d, e2, _⟩ | ⟨o1, o2, e2, e3, _⟩
    · subst e2
      cases h2
    · exact ⟨j, _, o1, mapS_of e1, by rw [e2]; rfl, h3⟩
  have up : ∀ a, Ow (vs.map some ++ List.replicate n none) (as.map some ++ List.replicate m none) a → Ow (vs.map some) (as.map some) a := fun a ⟨j, sv, o, h1, h2, h3⟩ => ⟨j, sv, o, mapS_of (pad_get h1), h2, mapS_of (pad_get h3)⟩
  refine ⟨⟨g.rs.sub, by simp [hv, hl], fun j d h => ?_, fun j sv o h1 h2 => ?_, fun j k sj sk oj ok' p h1 h2 h3 h4 h5 h6 => ?_⟩, g.fr, fun a o h nn => g.kp a o h fun w => nn (up a w), fun a h => ?_, fun a w => .inl (ow a w), fun j o h => ?_, g.dm⟩
  · obtain ⟨b, e1, e2⟩ := back j _ (mapS_get h)
    rcases e2 with ⟨d', e2, e3⟩ | ⟨o1, o2, _, e3, _⟩
    · cases e2
      subst e3
      obtain ⟨v, b1, b2⟩ := r.fz j d (mapS_of e1)
      exact ⟨v, b1, b2.mono g.fr⟩
    · cases e3
  · obtain ⟨b, e1, e2⟩ := back j _ (mapS_get h1)
    rcases e2 with ⟨d, e2, _⟩ | ⟨o1, o2, _, e3, e4, e5⟩
    · subst e2
      cases h2
    · subst e3
      cases h2
      rw [← e5]
      exact g.rs.ow j _ o e4 rfl
  · obtain ⟨b, e1, e2⟩ := back j _ (mapS_get h1)
    obtain ⟨c, f1, f2⟩ := back k _ (mapS_get h3)
    rcases e2 with ⟨d, e2, _⟩ | ⟨o1, o2, _, e3, e4, e5⟩
    · subst e2
      cases h2
    · rcases f2 with ⟨d, f2, _⟩ | ⟨o3, o4, _, f3, f4, f5⟩
      · subst f2
        cases h4
      · rw [← e5] at h5
        rw [← f5] at h6
        exact g.rs.ne j k _ _ o2 o4 p e4 rfl f4 rfl h5 h6
  · rcases g.nw a h with q | q | q | q
    · exact .inl q
    · exact .inr (.inl q)
    · exact .inr (.inr (.inl (up a q)))
    · exact .inr (.inr (.inr q))
  · obtain ⟨d, e1, _⟩ | ⟨o1, o2, e1, e2, e3⟩ := hg j _ (mapS_get h)
    · cases e1
    · exact ⟨rfl, o2, mapS_of e3⟩
theorem RpRt.leave (r : RS K F H (vs.map some) (as.map some)) (g : Go K F H (vs.map some ++ List.replicate n none) (as.map some ++ List.replicate m none) F' H' σ s) (e : endS as s = some as') {rv : Rv} {v : V}
    (h : RpRt K H (vs.map some ++ List.replicate n none) (as.map some ++ List.replicate m none) F' H' σ s rv v) : RpR K H F' H' (vs.map some) (as'.map some) rv v ∧ ∀ i, rv ≠ .b i := by
  obtain ⟨hl, hg⟩ := endS_get e
  have hv : vs.length = as.length := by simpa using r.len
  cases rv with
  | d d => exact ⟨h, fun i z => by cases z⟩
  | b i => exact h.elim
  | o o =>
    refine ⟨?_, fun i z => by cases z⟩
    obtain ⟨p, ho, rfl, e1, e2, e3, e4, e5⟩ := h
    refine ⟨p, ho, rfl, e1, e2, e3, ?_, fun w => ?_⟩
    · rcases e4 with e4 | ⟨i, o', h1, h2⟩
      · exact e4
      · have h1' := pad_get h1
        rcases hg i _ h1' with ⟨d, z, _⟩ | ⟨_, _, z, _⟩ <;> cases z
    · obtain ⟨j, sv, u, h1, h2, h3⟩ := w
      have hj : j < as.length := by
        rw [← hl]
        exact lt_of_get (mapS_get h1)
      have hb : as[j]? = some as[j] := List.getElem?_eq_getElem hj
      rcases hg j _ hb with ⟨d, q1, q2⟩ | ⟨o1, o2, q1, q2, q3⟩
      · rw [mapS_get h1] at q2
        cases q2
        cases h2
      · obtain ⟨q, _⟩ := g.br j o1 (pad_of (by rw [hb, q1]))
        refine e5 j o2 q2 ?_
        rw [q, List.getElem?_append_left (by rw [List.length_map]; omega)]
        exact h3
end
theorem body_ok {W : WX} {ts : TS} {mb : MS} (he : EvS K W ts mb) {N : List Str} {np : Nat} {F H : Hp} {vs : List V} {as : List SV} {Q : VK} {E : XK} (rs : RS K F H (vs.map some) (as.map some)) (w : WnF K Q E F H vs as (runF np N.length mb as))
    (hW : ∀ c d σ H', E c d H' → W c d σ H') : ts { nx := fun _ H' => Q .non H', rt := Q } (L2.start N vs) H := by
  unfold runF at w
  split at w
  · rename_i hl
    subst hl
    have hv : vs.length = as.length := by simpa using rs.len
    have r1 := rs.pad (n := N.length) (by rw [hv])
    have r2 : RS K F H (L2.start N vs) (as.map some ++ List.replicate (N.length - as.length) none) := r1
    refine he F H _ _ _ r2 ?_
    cases e : mb (as.map some ++ List.replicate (N.length - as.length) none) with
    | nx s =>
      rw [e] at w
      dsimp only at w
      intro σ' F' H' g
      cases e2 : endS as s with
      | none => rw [e2] at w; exact w.elim
      | some as' =>
        rw [e2] at w
        obtain ⟨as2, _, w2⟩ := w
        exact w2 .non F' H' (Go.body rs g e2) .non (fun i z => by cases z)
    | rt r s =>
      rw [e] at w
      dsimp only at w
      intro v σ' F' H' g h
      cases e2 : endS as s with
      | none => rw [e2] at w; exact w.elim
      | some as' =>
        rw [e2] at w
        obtain ⟨as2, _, w2⟩ := w
        obtain ⟨h1, h2⟩ := RpRt.leave rs g e2 h
        exact w2 v F' H' (Go.body rs g e2) h1 h2
    | ex c l s =>
      rw [e] at w
      dsimp only at w
      intro dd σ' F' H' xs g h1 h2
      cases e2 : endS as s with
      | none => rw [e2] at w; exact w.elim
      | some as' =>
        rw [e2] at w
        obtain ⟨as2, _, w2⟩ := w
        exact hW _ _ _ _ (w2 dd F' H' xs (Go.body rs g e2) h1 h2)
    | bk s => rw [e] at w; exact w.elim
    | ct s => rw [e] at w; exact w.elim
    | no => rw [e] at w; exact w.elim
  · exact w.elim
theorem runF_len {np n : Nat} {mb : MS} {as : List SV} {Q : VK} {E : XK} {F H : Hp} {vs : List V} (rs : RS K F H (vs.map some) (as.map some)) (w : WnF K Q E F H vs as (runF np n mb as)) : vs.length = np := by
  unfold runF at w
  split at w
  · rename_i hl
    have hv : vs.length = as.length := by simpa using rs.len
    omega
  · exact w.elim
abbrev runN (np n : Nat) (mb : MS) : MF := fun as => noEx (runF np n mb as)
theorem noEx_wf {F H : Hp} {vs : List V} {as : List SV} {Q : VK} {E : XK} {r : R Rv} (w : WnF K Q E F H vs as (noEx r)) (E' : XK) : WnF K Q E' F H vs as r := by
  cases r with
  | ok a s' => exact w
  | ex c l s' => exact w.elim
  | no => exact w.elim
section
variable {P : Program} {w : World} {mg : Str → Option Value} {base : Heap}
/-- a def that lets nothing out -/
theorem fn_okN {x qual : Str} {st : Stmt} {f : Addr} {fd : FuncData} {N ps : List Str} {k : Nat} {mb : MS} (F : Fun K x qual st f fd) (S : FnScope N ps (defScope st))
    (hb : ∀ (cdv : Value) (A : Around) (outer : List Env) (s : Shared) (H : Hp) (E : XK), Room k (A.deeper (envOfC qual (defScope st) s.heap.objs.size f cdv)) →
      ∃ t, PSs (cxOf CX0 P w K mg base N qual (defScope st) f cdv A outer s H E).nox (defBody st) t ∧ EvS K (fun _ _ _ _ => False) t mb) :
    FnOk P w K mg base CX0 (k + 1) f fd ps (spM K (runN ps.length N.length mb)) := by
  refine F.ok S (fun vs H Q E h => ?_) (fun cdv A outer s H vs Q E hr h => ?_)
  · obtain ⟨F0, as, rs, w1⟩ := h
    exact runF_len rs (noEx_wf w1 (fun _ _ _ => False))
  · obtain ⟨t, h1, h2⟩ := hb cdv A outer s H E hr
    obtain ⟨F0, as, rs, w1⟩ := h
    exact ⟨t, h1, body_ok h2 rs (noEx_wf w1 (fun _ _ _ => False)) fun _ _ _ _ z => z⟩
/-- a def that may raise -/
theorem fn_okX {x qual : Str} {st : Stmt} {f : Addr} {fd : FuncData} {N ps : List Str} {k : Nat} {mb : MS} (F : Fun K x qual st f fd) (S : FnScope N ps (defScope st))
    (hb : ∀ (cdv : Value) (A : Around) (outer : List Env) (s : Shared) (H : Hp) (E : XK), Room k (A.deeper (envOfC qual (defScope st) s.heap.objs.size f cdv)) →
      ∃ t, PSs (cxOf (L2.CX P w) P w K mg base N qual (defScope st) f cdv A outer s H E) (defBody st) t ∧ EvS K (fun c d _ H' => E c d H') t mb) :
    FnOk P w K mg base (L2.CX P w) (k + 1) f fd ps (spM K (runF ps.length N.length mb)) := by
  refine F.okX S (fun vs H Q E h => ?_) (fun cdv A outer s H vs Q E hr h => ?_)
  · obtain ⟨F0, as, rs, w1⟩ := h
    exact runF_len rs w1
  · obtain ⟨t, h1, h2⟩ := hb cdv A outer s H E hr
    obtain ⟨F0, as, rs, w1⟩ := h
    exact ⟨t, h1, body_ok h2 rs w1 fun _ _ _ _ z => z⟩
end
end Cz

/-! # CzH -/
namespace Cz
open L2 PyProof.Rows PySem.Spec PySem
variable {K : PySem.W.Frag}

/-! ## what a loop goes over -/
theorem EvX.stepI {W : WX} {te : TE} {m : M Rv} (h : EvX K W te m) {F H : Hp} {σ : L2.St} {s : SS} {Q : It → Hp → Prop} {Q1 : VK} {f : Rv → SS → R (List D)} (rs : RS K F H σ s) (w : WnI K W Q F H σ s ((m s).bind f))
    (k : ∀ r s1 v F1 H1, Go K F H σ s F1 H1 σ s1 → RpR K H F1 H1 σ s1 r v → WnI K W Q F H σ s (f r s1) → Q1 v H1) : te σ H Q1 := by
  refine h F H σ s Q1 rs ?_
  cases e : m s with
  | ok r s1 =>
    rw [e] at w
    exact fun v F1 H1 g1 r1 => k r s1 v F1 H1 g1 r1 w
  | ex c l s1 =>
    rw [e] at w
    exact fun dd F1 H1 xs g1 => w dd F1 H1 xs g1
  | no =>
    rw [e] at w
    exact w
theorem EvA.stepI {W : WX} {ta : TA} {m : M (List Rv)} (h : EvA K W ta m) {F H : Hp} {σ : L2.St} {s : SS} {Q : It → Hp → Prop} {Q1 : List V → Hp → Prop} {f : List Rv → SS → R (List D)} (rs : RS K F H σ s) (w : WnI K W Q F H σ s ((m s).bind f))
    (k : ∀ r s1 v F1 H1, Go K F H σ s F1 H1 σ s1 → RpA K F1 σ s1 r v → WnI K W Q F H σ s (f r s1) → Q1 v H1) : ta σ H Q1 := by
  refine h F H σ s Q1 rs ?_
  cases e : m s with
  | ok r s1 =>
    rw [e] at w
    exact fun v F1 H1 g1 r1 => k r s1 v F1 H1 g1 r1 w
  | ex c l s1 =>
    rw [e] at w
    exact fun dd F1 H1 xs g1 => w dd F1 H1 xs g1
  | no =>
    rw [e] at w
    exact w
theorem opt_wnI {α : Type} {F H : Hp} {σ : L2.St} {s : SS} {W : WX} {Q : It → Hp → Prop} {o : Option α} {f : α → R (List D)} (w : WnI K W Q F H σ s (opt o f)) : ∃ a, o = some a ∧ WnI K W Q F H σ s (f a) := by
  cases o with
  | none => exact w.elim
  | some a => exact ⟨a, rfl, w⟩
theorem frz_wnI {W : WX} {Q : It → Hp → Prop} {F0 H0 : Hp} {σ : L2.St} {s0 s : SS} {r : Rv} {f : D → SS → R (List D)} (w : WnI K W Q F0 H0 σ s0 ((frz r s).bind f)) : ∃ d s', frz r s = .ok d s' ∧ WnI K W Q F0 H0 σ s0 (f d s') := by
  cases e : frz r s with
  | ok d s' => rw [e] at w; exact ⟨d, s', rfl, w⟩
  | ex c l s' => exact absurd e frz_ex
  | no => rw [e] at w; exact w.elim
/-- the items of a list, a tuple, a text -/
def itemsD : D → Option (List D)
  | .lst l => some l
  | .rol l => some l
  | .tup l => some l
  | .tuk l => some l
  | .str z => some (z.cps.toList.map fun c => .str ⟨#[c]⟩)
  | _ => none
def mItems (me : M Rv) : M (List D) := fun s => (me s).bind fun r s1 => (frz r s1).bind fun d s2 => opt (itemsD d) fun l => .ok l s2
def iSeq (K : PySem.W.Frag) (te : TE) : TI := fun σ H Q => te σ H fun x H1 => (∃ a xs, x = .ref a ∧ SqL K H1 a xs ∧ Q (Itl K a) H1) ∨ (∃ a xs, x = .ref a ∧ SqT K H1 a xs ∧ Q (Itt K a) H1) ∨ ∃ z, x = .str z ∧ Q (Its z) H1
theorem pi_seq {X : Cx} {tg l : Expr} {te : TE} (h : PE X l te) : PI X tg l (iSeq X.K te) := by
  refine ⟨fun pins s σ H Q I w => thn (h.run pins s σ H _ I w) ?_⟩
  rintro v s1 ⟨y, H1, I1, ry, ⟨a, xs, rfl, hq, q⟩ | ⟨a, xs, rfl, hq, q⟩ | ⟨z, rfl, q⟩⟩
  · cases ry
    obtain ⟨us, ru, pl, _⟩ := I1.list hq
    exact wpAny_pyIter_list pl.isList (pi_one (tk := s1.toks) I1 _ (turn_list a _) ⟨_, Heap.get?_push_size _ rfl, rfl, rfl⟩ q)
  · cases ry
    obtain ⟨us, ru, pl, _⟩ := I1.tuple hq
    exact wpAny_pyIter_tuple pl (pi_one (tk := s1.toks) I1 _ (turn_tuple a _) ⟨_, Heap.get?_push_size _ rfl, rfl, rfl⟩ q)
  · obtain ⟨t, rfl⟩ := ry
    cases e : z.cps.all (· < 128) with
    | false => exact wpAny_pyIter_wide e (pi_one (tk := s1.toks) I1 _ (turn_str _ z t _ (.inr rfl)) ⟨_, Heap.get?_push_size _ rfl, rfl, rfl⟩ q)
    | true => exact wpAny_pyIter_ascii e (pi_one (tk := s1.toks) I1 _ (turn_str _ z t _ (.inl rfl)) ⟨_, Heap.get?_push_size _ rfl, rfl, rfl⟩ q)
theorem seq_items {F1 : Hp} {l : List D} {xs : List V} (hl : RpL K F1 l xs) : ∀ (i : Nat) (Hc : Hp) (x : V) (Hx F2 : Hp) (σ2 : L2.St) (s2 : SS), i < l.length → YAt xs i Hc x Hx → RS K F2 Hc σ2 s2 → Sub F1 F2 → ∃ F3 d, Al F2 Hc F3 Hx ∧ l[i]? = some d ∧ Rp K F3 d x := by
  intro i Hc x Hx F2 σ2 s2 _ y rs sb
  obtain ⟨rfl, hx⟩ := y
  obtain ⟨d, e1, e2⟩ := hl.get' hx
  exact ⟨F2, d, Al.refl rs.sub, e1, e2.mono sb⟩
theorem seq_wn {W : WX} {Q : It → Hp → Prop} {F H : Hp} {σ : L2.St} {s s2 : SS} {F2 H2 : Hp} {d : D} {v : V} {l : List D} (g : Go K F H σ s F2 H2 σ s2) (h : Rp K F2 d v) (e : itemsD d = some l) (w : WnI K W Q F H σ s (.ok l s2)) :
    (∃ a xs, v = .ref a ∧ SqL K H2 a xs ∧ Q (Itl K a) H2) ∨ (∃ a xs, v = .ref a ∧ SqT K H2 a xs ∧ Q (Itt K a) H2) ∨ ∃ z, v = .str z ∧ Q (Its z) H2 := by
  cases h with
  | lst h r =>
    rename_i a xs ds
    cases e
    refine .inl ⟨a, xs, rfl, SqL.of (g.rs.sub _ _ h), w _ F2 H2 (fun H => SqL K H a xs) (YAt xs) g (by rw [r.length]; exact walk_list) (fun F3 H3 σ3 s3 r3 sb => SqL.of (r3.sub _ _ (sb _ _ h))) (seq_items r)⟩
  | rol h r =>
    rename_i a xs ds
    cases e
    refine .inl ⟨a, xs, rfl, g.rs.sub.l h, w _ F2 H2 (fun H => SqL K H a xs) (YAt xs) g (by rw [r.length]; exact walk_list) (fun F3 H3 σ3 s3 r3 sb => r3.sub.l (sb.l h)) (seq_items r)⟩
  | tup h0 r =>
    rename_i a xs ds
    have h := SqT.of (K := K) h0
    cases e
    refine .inr (.inl ⟨a, xs, rfl, g.rs.sub.t h, w _ F2 H2 (fun H => SqT K H a xs) (YAt xs) g (by rw [r.length]; exact walk_tup) (fun F3 H3 σ3 s3 r3 sb => r3.sub.t (sb.t h)) (seq_items r)⟩)
  | tuk h r =>
    rename_i a xs ds
    cases e
    refine .inr (.inl ⟨a, xs, rfl, g.rs.sub.t h, w _ F2 H2 (fun H => SqT K H a xs) (YAt xs) g (by rw [r.length]; exact walk_tup) (fun F3 H3 σ3 s3 r3 sb => r3.sub.t (sb.t h)) (seq_items r)⟩)
  | str z =>
    cases e
    refine .inr (.inr ⟨z, rfl, w _ F2 H2 (fun _ => True) _ g (by rw [List.length_map]; simpa using walk_str (z := z)) (fun _ _ _ _ _ _ => trivial) ?_⟩)
    rintro i Hc x Hx F3 σ3 s3 hi ⟨rfl, c, hc, rfl⟩ rs sb
    refine ⟨F3, .str ⟨#[c]⟩, Al.refl rs.sub, ?_, .str _⟩
    rw [List.getElem?_map, Array.getElem?_toList, hc]
    rfl
  | non => cases e
  | bl b => cases e
  | int i => cases e
  | ref a => cases e
  | ty t => cases e
  | dk h r => cases e
  | dt h r => cases e
  | obj h r => cases e
theorem ei_seq {W : WX} {te : TE} {me : M Rv} (h : EvX K W te me) : EvI K W (iSeq K te) (mItems me) := by
  intro F H σ s Q rs w
  refine h.stepI rs w fun r s1 v F1 H1 g1 h1 w1 => ?_
  obtain ⟨d, s2, ed, w2⟩ := frz_wnI w1
  obtain ⟨F2, g2, _, hd⟩ := frz_ok g1 h1 ed
  obtain ⟨l, el, w3⟩ := opt_wnI w2
  exact seq_wn g2 hd el w3
/-- range(n), range(a, b) -/
def rng1D : List D → Option (List D)
  | [.int n] => if -(2 ^ 62) ≤ n ∧ n < 2 ^ 62 then some ((List.range n.toNat).map fun i => .int (0 + (i : Nat))) else none
  | _ => none
def rng2D : List D → Option (List D)
  | [.int a, .int b] => if -(2 ^ 62) ≤ a ∧ a < 2 ^ 62 ∧ -(2 ^ 62) ≤ b ∧ b < 2 ^ 62 then some ((List.range (b - a).toNat).map fun i => .int (a + (i : Nat))) else none
  | _ => none
def mRng (f : List D → Option (List D)) (ma : M (List Rv)) : M (List D) := fun s => (ma s).bind fun rs s1 => opt ((allD rs).bind f) fun l => .ok l s1
theorem range_items {lo : Int} {n : Nat} {F1 : Hp} : ∀ (i : Nat) (Hc : Hp) (x : V) (Hx F2 : Hp) (σ2 : L2.St) (s2 : SS), i < ((List.range n).map fun i => D.int (lo + (i : Nat))).length → YFn (fun i => .int (lo + (i : Nat))) i Hc x Hx → RS K F2 Hc σ2 s2 → Sub F1 F2 →
    ∃ F3 d, Al F2 Hc F3 Hx ∧ ((List.range n).map fun i => D.int (lo + (i : Nat)))[i]? = some d ∧ Rp K F3 d x := by
  intro i Hc x Hx F2 σ2 s2 hi y rs sb
  obtain ⟨rfl, rfl⟩ := y
  refine ⟨F2, _, Al.refl rs.sub, ?_, .int _⟩
  have hi' : i < n := by simpa using hi
  rw [List.getElem?_map, List.getElem?_range hi']
  rfl
theorem ei_range1 {W : WX} {ta : TA} {ma : M (List Rv)} (h : EvA K W ta ma) : EvI K W (iRng1 ta) (mRng rng1D ma) := by
  intro F H σ s Q rs w
  refine h.stepI rs w fun rvs s1 vs F1 H1 g1 h1 w1 => ?_
  obtain ⟨l, el, w2⟩ := opt_wnI w1
  rw [Option.bind_eq_some_iff] at el
  obtain ⟨ds, e1, e2⟩ := el
  have hl := allD_ok h1 e1
  unfold rng1D at e2
  split at e2
  · rename_i n
    split at e2
    · rename_i hb
      cases e2
      cases hl with
      | cons a r =>
        cases a
        cases r
        exact ⟨n, rfl, hb.1, hb.2, w2 _ F1 H1 (fun _ => True) (YFn fun i => .int (0 + (i : Nat))) g1 (by rw [List.length_map, List.length_range]; exact walk_range) (fun _ _ _ _ _ _ => trivial) range_items⟩
    · cases e2
  · cases e2
theorem ei_range2 {W : WX} {ta : TA} {ma : M (List Rv)} (h : EvA K W ta ma) : EvI K W (iRng2 ta) (mRng rng2D ma) := by
  intro F H σ s Q rs w
  refine h.stepI rs w fun rvs s1 vs F1 H1 g1 h1 w1 => ?_
  obtain ⟨l, el, w2⟩ := opt_wnI w1
  rw [Option.bind_eq_some_iff] at el
  obtain ⟨ds, e1, e2⟩ := el
  have hl := allD_ok h1 e1
  unfold rng2D at e2
  split at e2
  · rename_i a b
    split at e2
    · rename_i hb
      cases e2
      cases hl with
      | cons x r =>
        cases x
        cases r with
        | cons y r =>
          cases y
          cases r
          exact ⟨a, b, rfl, hb, w2 _ F1 H1 (fun _ => True) (YFn fun i => .int (a + (i : Nat))) g1 (by rw [List.length_map, List.length_range]; exact walk_range) (fun _ _ _ _ _ _ => trivial) range_items⟩
    · cases e2
  · cases e2
/-- enumerate of a list; the pairs are new -/
def pairsD (xs ys : List D) : List D := (xs.zip ys).map fun p => .tup [p.1, p.2]
theorem pair_items {F1 : Hp} {l m : List D} {n : Nat} {f g : Nat → Option V} (hn : (pairsD l m).length = n) (hf : ∀ i x, f i = some x → ∃ d, l[i]? = some d ∧ ∀ F2, Sub F1 F2 → Rp K F2 d x) (hg : ∀ i x, g i = some x → ∃ d, m[i]? = some d ∧ ∀ F2, Sub F1 F2 → Rp K F2 d x) :
    ∀ (i : Nat) (Hc : Hp) (x : V) (Hx F2 : Hp) (σ2 : L2.St) (s2 : SS), i < (pairsD l m).length → YPair f g i Hc x Hx → RS K F2 Hc σ2 s2 → Sub F1 F2 → ∃ F3 d, Al F2 Hc F3 Hx ∧ (pairsD l m)[i]? = some d ∧ Rp K F3 d x := by
  intro i Hc x Hx F2 σ2 s2 hi y rs sb
  obtain ⟨T, a, b, rfl, hT, rfl, ha, hb⟩ := y
  obtain ⟨d, d1, d2⟩ := hf i a ha
  obtain ⟨e, e1, e2⟩ := hg i b hb
  have al := Al.new (ho := .tup [a, b]) rs.sub hT
  refine ⟨_, .tup [d, e], al, ?_, .tup upd_same (.cons (d2 _ (sb.trans al.f)) (.cons (e2 _ (sb.trans al.f)) .nil))⟩
  unfold pairsD
  rw [List.getElem?_map, (List.getElem?_zip_eq_some (z := (d, e))).mpr ⟨d1, e1⟩]
  rfl
def nums (n : Nat) : List D := (List.range n).map fun i => .int (i : Nat)
def enumD (ds : List D) : Option (List D) := match ds with
  | [.lst l] => some (pairsD (nums l.length) l)
  | [.rol l] => some (pairsD (nums l.length) l)
  | _ => none
theorem nums_at {n i : Nat} (h : i < n) : (nums n)[i]? = some (.int (i : Nat)) := by
  unfold nums
  rw [List.getElem?_map, List.getElem?_range h]
  rfl
theorem enum_len (l : List D) : (pairsD (nums l.length) l).length = l.length := by simp [pairsD, nums]
theorem ei_enum {W : WX} {ta : TA} {ma : M (List Rv)} (h : EvA K W ta ma) : EvI K W (iEnum K ta) (mRng enumD ma) := by
  intro F H σ s Q rs w
  refine h.stepI rs w fun rvs s1 vs F1 H1 g1 h1 w1 => ?_
  obtain ⟨l, el, w2⟩ := opt_wnI w1
  rw [Option.bind_eq_some_iff] at el
  obtain ⟨ds, e1, e2⟩ := el
  have hl := allD_ok h1 e1
  have fin : ∀ (a : Addr) (xs : List V) (l' : List D), vs = [.ref a] → l = pairsD (nums l'.length) l' → SqL K F1 a xs → RpL K F1 l' xs → ∃ a xs, vs = [.ref a] ∧ SqL K H1 a xs ∧ Q (Ite K a) H1 := fun a xs l' ev e hq hr => by
    subst e
    refine ⟨a, xs, ev, g1.rs.sub.l hq, w2 _ F1 H1 (fun H => SqL K H a xs) _ g1 (by rw [enum_len, hr.length]; exact walk_enum) (fun F3 H3 σ3 s3 r3 sb => r3.sub.l (sb.l hq)) ?_⟩
    refine fun i Hc x Hx F2 σ2 s2 hi y => ?_
    obtain ⟨T, u, v, h1, h2, h3, h4, h5⟩ := y
    have hi' : i < l'.length := by
      rw [enum_len] at hi
      exact hi
    refine pair_items (f := fun i => if i < l'.length then some (V.int (i : Nat)) else none) (g := fun i => xs[i]?) (n := l'.length) (enum_len l') (fun k z hz => ?_) (fun k z hz => ?_) i Hc x Hx F2 σ2 s2 hi ⟨T, u, v, h1, h2, h3, ?_, h5⟩
    · by_cases hk : k < l'.length
      · rw [if_pos hk] at hz
        cases hz
        exact ⟨_, nums_at hk, fun _ _ => .int _⟩
      · rw [if_neg hk] at hz
        cases hz
    · obtain ⟨d, a1, a2⟩ := hr.get' hz
      exact ⟨d, a1, fun F2 sb => a2.mono sb⟩
    · show (if i < l'.length then some (V.int (i : Nat)) else none) = some u
      rw [if_pos hi']
      exact h4
  unfold enumD at e2
  split at e2
  · cases e2
    cases hl with
    | cons x r =>
      cases r
      cases x with
      | lst hq hr => exact fin _ _ _ rfl rfl (SqL.of hq) hr
  · cases e2
    cases hl with
    | cons x r =>
      cases r
      cases x with
      | rol hq hr => exact fin _ _ _ rfl rfl hq hr
  · cases e2

/-! ## comprehensions -/
def wipeS (s : SS) : List Nat → SS
  | [] => s
  | v :: vs => (wipeS s vs).set v none
/-- none of these places holds an object of its own -/
def loose (s : SS) (vs : List Nat) : Bool := vs.all fun i => match s[i]? with
  | some (some (.fz _)) => true
  | some none => true
  | _ => false
/-- the places vs as they were in s0 -/
def restS (s0 s : SS) : List Nat → SS
  | [] => s
  | v :: vs => (restS s0 s vs).set v ((s0[v]?).getD none)
theorem wipeS_len {s : SS} : ∀ {vs : List Nat}, (wipeS s vs).length = s.length
  | [] => rfl
  | v :: vs => by unfold wipeS; rw [List.length_set, wipeS_len]
theorem restS_len {s0 s : SS} : ∀ {vs : List Nat}, (restS s0 s vs).length = s.length
  | [] => rfl
  | v :: vs => by unfold restS; rw [List.length_set, restS_len]
theorem wipeS_out {s : SS} {j : Nat} : ∀ {vs : List Nat}, j ∉ vs → (wipeS s vs)[j]? = s[j]?
  | [], _ => rfl
  | v :: vs, h => by
    unfold wipeS
    have h' : j ≠ v ∧ j ∉ vs := by simpa using h
    rw [get_set_ne (Ne.symm h'.1), wipeS_out h'.2]
theorem wipeS_in {s : SS} {j : Nat} {x : SV} : ∀ {vs : List Nat}, j ∈ vs → (wipeS s vs)[j]? ≠ some (some x)
  | [], h => by cases h
  | v :: vs, h => by
    unfold wipeS
    intro e
    by_cases hv : v = j
    · subst hv
      rw [List.getElem?_set_self (by have := lt_of_get e; rw [List.length_set] at this; exact this)] at e
      cases e
    · rw [get_set_ne hv] at e
      have h' : j ∈ vs := by
        (rcases List.mem_cons.mp h with z | z)
        · exact absurd z.symm hv
        · exact z
      exact wipeS_in h' e
theorem wipe_out {σ : L2.St} {j : Nat} : ∀ {vs : List Nat}, j ∉ vs → (wipe σ vs)[j]? = σ[j]?
  | [], _ => rfl
  | v :: vs, h => by
    unfold wipe
    have h' : j ≠ v ∧ j ∉ vs := by simpa using h
    rw [get_set_ne (Ne.symm h'.1), wipe_out h'.2]
theorem wipe_in {σ : L2.St} {j : Nat} : ∀ {vs : List Nat}, j ∈ vs → j < σ.length → (wipe σ vs)[j]? = some none
  | [], h, _ => by cases h
  | v :: vs, h, hl => by
    unfold wipe
    by_cases hv : v = j
    · subst hv
      rw [List.getElem?_set_self (by rw [wipe_length]; exact hl)]
    · rw [get_set_ne hv]
      have h' : j ∈ vs := by
        (rcases List.mem_cons.mp h with z | z)
        · exact absurd z.symm hv
        · exact z
      exact wipe_in h' hl
theorem wipe_eq {σ σ' : L2.St} {vs tv : List Nat} (hl : σ'.length = σ.length) (ht : ∀ j ∈ tv, j ∈ vs) (h : ∀ j : Nat, j ∉ tv → σ'[j]? = (wipe σ vs)[j]?) : wipe σ' vs = wipe σ vs := by
  (refine List.ext_getElem? fun j => ?_)
  by_cases hj : j ∈ vs
  · by_cases hlt : j < σ.length
    · rw [wipe_in hj (by rw [hl]; exact hlt), wipe_in hj hlt]
    · rw [List.getElem?_eq_none (by rw [wipe_length]; omega), List.getElem?_eq_none (by rw [wipe_length]; omega)]
  · rw [wipe_out hj, h j fun z => hj (ht j z)]
theorem restS_out {s0 s : SS} {j : Nat} : ∀ {vs : List Nat}, j ∉ vs → (restS s0 s vs)[j]? = s[j]?
  | [], _ => rfl
  | v :: vs, h => by
    unfold restS
    have h' : j ≠ v ∧ j ∉ vs := by simpa using h
    rw [get_set_ne (Ne.symm h'.1), restS_out h'.2]
theorem restS_in {s0 s : SS} {j : Nat} (hj : j < s.length) (h0 : j < s0.length) : ∀ {vs : List Nat}, j ∈ vs → (restS s0 s vs)[j]? = s0[j]?
  | [], h => by cases h
  | v :: vs, h => by
    unfold restS
    by_cases hv : v = j
    · subst hv
      rw [List.getElem?_set_self (by rw [restS_len]; exact hj), List.getElem?_eq_getElem h0]
      rfl
    · rw [get_set_ne hv]
      have h' : j ∈ vs := by
        (rcases List.mem_cons.mp h with z | z)
        · exact absurd z.symm hv
        · exact z
      exact restS_in hj h0 h'
theorem loose_at {s : SS} {vs : List Nat} (h : loose s vs = true) {j : Nat} (hj : j ∈ vs) : j < s.length ∧ ∀ sv o, s[j]? = some (some sv) → SV.own sv ≠ some o := by
  have q := List.all_eq_true.mp h j hj
  split at q
  · rename_i d e
    exact ⟨lt_of_get e, fun sv o h1 h2 => by rw [e] at h1; cases h1; cases h2⟩
  · rename_i e
    exact ⟨lt_of_get e, fun sv o h1 h2 => by rw [e] at h1; cases h1⟩
  · cases q
theorem Go.wipe {F0 H0 F H : Hp} {σ0 σ : L2.St} {s0 s : SS} {vs : List Nat} (g : Go K F0 H0 σ0 s0 F H σ s) (hl : loose s vs = true) : Go K F0 H0 σ0 s0 F H (L2.wipe σ vs) (wipeS s vs) := by
  have at' : ∀ (j : Nat) (sv : SV), (wipeS s vs)[j]? = some (some sv) → j ∉ vs ∧ s[j]? = some (some sv) ∧ (L2.wipe σ vs)[j]? = σ[j]? := fun j sv h => by
    have n : j ∉ vs := fun z => wipeS_in z h
    rw [wipeS_out n] at h
    exact ⟨n, h, wipe_out n⟩
  refine ⟨⟨g.rs.sub, by rw [wipeS_len, wipe_length]; exact g.rs.len, fun j d h => ?_, fun j sv o h1 h2 => ?_, fun i j si sj oi oj p h1 h2 h3 h4 h5 h6 => ?_⟩, g.fr, g.kp, g.nw, fun a w => ?_, fun j o h => ?_, g.dm⟩
  · obtain ⟨_, h', e⟩ := at' j _ h
    rw [e]
    exact g.rs.fz j d h'
  · obtain ⟨_, h', e⟩ := at' j _ h1
    rw [e]
    exact g.rs.ow j sv o h' h2
  · obtain ⟨_, a1, e1⟩ := at' i _ h1
    obtain ⟨_, a2, e2⟩ := at' j _ h3
    rw [e1] at h5
    rw [e2] at h6
    exact g.rs.ne i j si sj oi oj p a1 h2 a2 h4 h5 h6
  · obtain ⟨j, sv, o, h1, h2, h3⟩ := w
    obtain ⟨_, a1, e1⟩ := at' j _ h1
    rw [e1] at h3
    exact g.ow a ⟨j, sv, o, a1, h2, h3⟩
  · obtain ⟨e, o', h'⟩ := g.br j o h
    have n : j ∉ vs := fun z => (loose_at hl z).2 _ o' h' rfl
    exact ⟨(wipe_out n).trans e, o', (wipeS_out n).trans h'⟩
/-- back to the names as they stood, what the others hold as it is now -/
theorem Go.rest {F H F' H' : Hp} {σ : L2.St} {s s' : SS} {vs : List Nat} (rs : RS K F H σ s) (hl : loose s vs = true) (g : Go K F H σ s F' H' (L2.wipe σ vs) s') (hn : ∀ j ∈ vs, s'[j]? = some none) : Go K F H σ s F' H' σ (restS s s' vs) := by
  have len : s'.length = s.length := by
    have := g.rs.len
    rw [wipe_length, rs.len] at this
    exact this.symm
  have at' : ∀ (j : Nat) (sv : SV), (restS s s' vs)[j]? = some (some sv) → (j ∈ vs ∧ s[j]? = some (some sv)) ∨ (j ∉ vs ∧ s'[j]? = some (some sv) ∧ (L2.wipe σ vs)[j]? = σ[j]?) := fun j sv h => by
    by_cases hj : j ∈ vs
    · have h0 := (loose_at hl hj).1
      rw [restS_in (by rw [len]; exact h0) h0 hj] at h
      exact .inl ⟨hj, h⟩
    · rw [restS_out hj] at h
      exact .inr ⟨hj, h, wipe_out hj⟩
  have own : ∀ (j : Nat) (sv : SV) (o : OD), (restS s s' vs)[j]? = some (some sv) → SV.own sv = some o → s'[j]? = some (some sv) ∧ (L2.wipe σ vs)[j]? = σ[j]? := fun j sv o h1 h2 => by
    rcases at' j sv h1 with ⟨hj, h⟩ | ⟨_, h, e⟩
    · exact absurd h2 ((loose_at hl hj).2 sv o h)
    · exact ⟨h, e⟩
  refine ⟨⟨g.rs.sub, by rw [restS_len, len]; exact rs.len, fun j d h => ?_, fun j sv o h1 h2 => ?_, fun i j si sj oi oj p h1 h2 h3 h4 h5 h6 => ?_⟩, g.fr, g.kp, g.nw, fun a w => ?_, fun j o h => ?_, g.dm⟩
  · rcases at' j _ h with ⟨hj, h'⟩ | ⟨_, h', e⟩
    · obtain ⟨v, a1, a2⟩ := rs.fz j d h'
      exact ⟨v, a1, a2.mono g.fr⟩
    · rw [← e]
      exact g.rs.fz j d h'
  · obtain ⟨h', e⟩ := own j sv o h1 h2
    rw [← e]
    exact g.rs.ow j sv o h' h2
  · obtain ⟨a1, e1⟩ := own i si oi h1 h2
    obtain ⟨a2, e2⟩ := own j sj oj h3 h4
    rw [← e1] at h5
    rw [← e2] at h6
    exact g.rs.ne i j si sj oi oj p a1 h2 a2 h4 h5 h6
  · obtain ⟨j, sv, o, h1, h2, h3⟩ := w
    obtain ⟨a1, e1⟩ := own j sv o h1 h2
    rw [← e1] at h3
    exact g.ow a ⟨j, sv, o, a1, h2, h3⟩
  · have n : j ∉ vs := fun z => (loose_at hl z).2 _ o h rfl
    obtain ⟨_, o', h'⟩ := g.br j o h
    exact ⟨rfl, o', (restS_out n).trans h'⟩
/-- an object that is new since F0, H0 and nobody's, stands on -/
theorem Go.still {F H F' H' : Hp} {σ σ' : L2.St} {s s' : SS} {p : Addr} {ho : HO} (g : Go K F H σ s F' H' σ' s') (e1 : F p = none) (e2 : H p = some ho) (e3 : ¬ Ow σ s p) (e4 : ¬ Tu H p) : F' p = none ∧ H' p = some ho ∧ ¬ Ow σ' s' p := by
  refine ⟨?_, g.kp p ho e2 e3, fun w => ?_⟩
  · cases e : F' p with
    | none => rfl
    | some u =>
      rcases g.nw p (by rw [e]; exact fun z => nomatch z) with q | q | q | q
      · exact absurd e1 q
      · rw [e2] at q; cases q
      · exact absurd q e3
      · exact absurd q e4
  · rcases g.ow p w with q | q
    · exact e3 q
    · rw [e2] at q; cases q
theorem Go.pend {F0 H0 F H : Hp} {σ0 σ : L2.St} {s0 s : SS} {p : Addr} (ho : HO) (g : Go K F0 H0 σ0 s0 F H σ s) (e0 : H0 p = none) (e1 : F p = none) (e3 : ¬ Ow σ s p) : Go K F0 H0 σ0 s0 F (upd H p ho) σ s := by
  refine ⟨⟨fun a o h => ?_, g.rs.len, g.rs.fz, fun i sv o h1 h2 => ?_, g.rs.ne⟩, g.fr, fun a o h n => ?_, g.nw, g.ow, g.br, fun a h => ?_⟩
  · rw [upd_ne (ne_of_none h e1)]
    exact g.rs.sub _ _ h
  · obtain ⟨q, hq, a1, a2, a3, a4⟩ := g.rs.ow i sv o h1 h2
    have nq : q ≠ p := fun z => e3 ⟨i, sv, o, h1, h2, by rw [← z]; exact a1⟩
    exact ⟨q, hq, a1, a2, by rw [upd_ne nq]; exact a3, a4⟩
  · rw [upd_ne (ne_of_none h e0)]
    exact g.kp a o h n
  · by_cases z : a = p
    · subst z
      exact e0
    · rw [upd_ne z] at h
      exact g.dm a h
end Cz

/-! # CzI -/
namespace Cz
open L2 PyProof.Rows PySem.Spec PySem
variable {K : PySem.W.Frag}
abbrev W0 : WX := fun _ _ _ _ => False
def noX {α : Type} : R α → R α
  | .ok a s => .ok a s
  | _ => .no
def loopC (f : MG) (mt : M Bool) (me : M Rv) (vs : List Nat) : List D → List D → SS → R (List D)
  | [], acc, s => .ok acc s
  | d :: ds, acc, s => opt (f d s) fun s1 => (noX (mt s1)).bind fun b s2 =>
    if b then (noX (me s2)).bind fun r s3 => (frz r s3).bind fun e s4 => if loose s4 vs = true ∧ acc.length < 100000 then loopC f mt me vs ds (acc ++ [e]) (wipeS s4 vs) else .no
    else if loose s2 vs then loopC f mt me vs ds acc (wipeS s2 vs) else .no
def mLc (mi : M (List D)) (f : MG) (mt : M Bool) (me : M Rv) (vs : List Nat) : M Rv := fun s => (mi s).bind fun ds s1 =>
  if loose s1 vs then (loopC f mt me vs ds [] (wipeS s1 vs)).bind fun acc s2 => .ok (.o (.lst acc)) (restS s1 s2 vs) else .no
theorem wipeS_none {s : SS} {j : Nat} : ∀ {vs : List Nat}, j ∈ vs → j < s.length → (wipeS s vs)[j]? = some none
  | [], h, _ => by cases h
  | v :: vs, h, hl => by
    unfold wipeS
    by_cases hv : v = j
    · subst hv
      rw [List.getElem?_set_self (by rw [wipeS_len]; exact hl)]
    · rw [get_set_ne hv]
      have h' : j ∈ vs := by
        (rcases List.mem_cons.mp h with z | z)
        · exact absurd z.symm hv
        · exact z
      exact wipeS_none h' hl
theorem rest_own {σ : L2.St} {s s' : SS} {vs : List Nat} (hl : loose s vs = true) (len : s'.length = s.length) {a : Addr} (h : Ow σ (restS s s' vs) a) : Ow (L2.wipe σ vs) s' a := by
  obtain ⟨j, sv, o, h1, h2, h3⟩ := h
  by_cases hj : j ∈ vs
  · have h0 := (loose_at hl hj).1
    rw [restS_in (by rw [len]; exact h0) h0 hj] at h1
    exact absurd h2 ((loose_at hl hj).2 sv o h1)
  · rw [restS_out hj] at h1
    exact ⟨j, sv, o, h1, h2, by rw [wipe_out hj]; exact h3⟩
def mYes : M Bool := fun s => .ok true s
theorem tYes_ev {W : WX} : EvT K W tYes mYes := fun F H σ s Q rs w => w F H (Go.refl rs)
theorem ev_lcAt {W : WX} {wi : TI} {g : TG} {tt : TT} {te : TE} {vs tv : List Nat} {mi : M (List D)} {f : MG} {mt : M Bool} {me : M Rv} {F H : Hp} {σ : L2.St} {s : SS} {Q : VK} (hi : ∀ Q, WnI K W Q F H σ s (mi s) → wi σ H Q) (hg : EvG K g f tv) (ht : ∀ j ∈ tv, j ∈ vs) (htt : EvT K W0 tt mt) (he : EvX K W0 te me) (w : Wn K W Q F H σ s (mLc mi f mt me vs s)) : tLc wi g tt te vs σ H Q := by
  refine hi _ ?_
  unfold mLc at w
  cases e : mi s with
  | no => rw [e] at w; exact w
  | ex c l s1 =>
    rw [e] at w
    exact fun dd F1 H1 xs g1 => w dd F1 H1 xs g1
  | ok ds s1 =>
    rw [e] at w
    have w1 : Wn K W Q F H σ s (if loose s1 vs then (loopC f mt me vs ds [] (wipeS s1 vs)).bind fun acc s2 => .ok (.o (.lst acc)) (restS s1 s2 vs) else .no) := w
    intro J F1 H1 G Y g1 wk hG hY Dl hD
    by_cases hls : loose s1 vs = true
    · rw [if_pos hls] at w1
      have hF : F1 Dl = none := g1.rs.sub.free hD
      have hO : ¬ Ow σ s1 Dl := fun z => by
        obtain ⟨_, u, q⟩ := g1.rs.owF z
        rw [hD] at q; cases q
      have wow : ∀ (σ2 : L2.St) (s2 : SS) (a : Addr), Ow (L2.wipe σ2 vs) (wipeS s2 vs) a → Ow σ2 s2 a := fun σ2 s2 a ⟨j, sv, o, h1, h2, h3⟩ => by
        have n : j ∉ vs := fun z => wipeS_in z h1
        rw [wipeS_out n] at h1
        rw [wipe_out n] at h3
        exact ⟨j, sv, o, h1, h2, h3⟩
      refine lc_it wk (fun i Hc => ∃ Fc sc acc xs, Go K F1 H1 σ s1 Fc Hc (L2.wipe σ vs) sc ∧ Fc Dl = none ∧ Hc Dl = some (.lst xs) ∧ ¬ Ow (L2.wipe σ vs) sc Dl ∧ RpL K Fc acc xs ∧ (∀ j ∈ vs, sc[j]? = some none) ∧
        Wn K W Q F H σ s ((loopC f mt me vs (ds.drop i) acc sc).bind fun acc s2 => .ok (.o (.lst acc)) (restS s1 s2 vs)))
        ⟨F1, wipeS s1 vs, [], [], ((Go.refl g1.rs).wipe hls).pend _ hD hF (fun z => hO (wow σ s1 Dl z)), hF, upd_same, fun z => hO (wow σ s1 Dl z), .nil, fun j hj => wipeS_none hj (loose_at hls hj).1, w1⟩ ?_ ?_ ?_
      · rintro i Hc _ ⟨Fc, sc, acc, xs, gc, _⟩
        exact hG Fc Hc _ sc gc.rs gc.fr
      · rintro i x Hc Hx hi' ⟨Fc, sc, acc, xs, gc, c1, c2, c3, c4, c5, c6⟩ y
        obtain ⟨F3, d, al, ed, rd⟩ := hY i Hc x Hx Fc _ sc hi' y gc.rs gc.fr
        have hd : ds.drop i = d :: ds.drop (i + 1) := by
          obtain ⟨hlt, hx⟩ := List.getElem?_eq_some_iff.mp ed
          rw [List.drop_eq_getElem_cons hlt, hx]
        rw [hd] at c6
        have c7 : Wn K W Q F H σ s ((opt (f d sc) fun s1 => (noX (mt s1)).bind fun b s2 =>
          if b then (noX (me s2)).bind fun r s3 => (frz r s3).bind fun e s4 => if loose s4 vs = true ∧ acc.length < 100000 then loopC f mt me vs (ds.drop (i + 1)) (acc ++ [e]) (wipeS s4 vs) else .no
          else if loose s2 vs then loopC f mt me vs (ds.drop (i + 1)) acc (wipeS s2 vs) else .no).bind fun acc s2 => .ok (.o (.lst acc)) (restS s1 s2 vs)) := c6
        cases ef : f d sc with
        | none => rw [ef] at c7; exact c7.elim
        | some s3 =>
          rw [ef] at c7
          let finC : List D → SS → R Rv := fun acc s2 => .ok (.o (.lst acc)) (restS s1 s2 vs)
          let elC : Rv → SS → R (List D) := fun r s3 => (frz r s3).bind fun e s4 => if loose s4 vs = true ∧ acc.length < 100000 then loopC f mt me vs (ds.drop (i + 1)) (acc ++ [e]) (wipeS s4 vs) else .no
          let tailC : Bool → SS → R (List D) := fun b s2 => if b then (noX (me s2)).bind elC else if loose s2 vs then loopC f mt me vs (ds.drop (i + 1)) acc (wipeS s2 vs) else .no
          have c7 : Wn K W Q F H σ s (((noX (mt s3)).bind tailC).bind finC) := c7
          refine hg Fc Hc _ sc F3 Hx _ sc x d s3 _ ((Go.refl gc.rs).al al) rd ef fun σ2 g3 k3 l3 => ?_
          have hw : L2.wipe σ2 vs = L2.wipe σ vs := wipe_eq (by rw [l3, wipe_length]) ht k3
          refine ⟨hw, htt F3 Hx σ2 s3 _ g3.rs ?_⟩
          cases et : mt s3 with
          | no => rw [et] at c7; exact c7.elim
          | ex c l s4 => rw [et] at c7; exact c7.elim
          | ok b s4 =>
            rw [et] at c7
            intro F4 H4 g4
            cases b with
            | false =>
              have c8 : Wn K W Q F H σ s ((if loose s4 vs then loopC f mt me vs (ds.drop (i + 1)) acc (wipeS s4 vs) else .no).bind fun acc s2 => .ok (.o (.lst acc)) (restS s1 s2 vs)) := c7
              show ∃ Fc sc acc xs, _
              by_cases h4 : loose s4 vs = true
              · rw [if_pos h4] at c8
                have gt : Go K Fc Hc (L2.wipe σ vs) sc F4 H4 (L2.wipe σ vs) (wipeS s4 vs) := by
                  have z := (g3.trans g4).wipe h4
                  rw [hw] at z
                  exact z
                obtain ⟨b1, b2, b3⟩ := gt.still c1 c2 c3 (fun ⟨_, z⟩ => by rw [c2] at z; cases z)
                exact ⟨F4, wipeS s4 vs, acc, xs, gc.trans gt, b1, b2, b3, c4.mono gt.fr, fun j hj => wipeS_none hj (loose_at h4 hj).1, c8⟩
              · rw [if_neg h4] at c8
                exact c8.elim
            | true =>
              show te σ2 H4 _
              refine he F4 H4 σ2 s4 _ g4.rs ?_
              cases ee : me s4 with
              | no => 
                have c8 : Wn K W Q F H σ s (((noX (me s4)).bind elC).bind finC) := c7
                rw [ee] at c8
                exact c8.elim
              | ex c l s5 =>
                have c8 : Wn K W Q F H σ s (((noX (me s4)).bind elC).bind finC) := c7
                rw [ee] at c8
                exact c8.elim
              | ok r s5 =>
                have c8 : Wn K W Q F H σ s (((noX (me s4)).bind elC).bind finC) := c7
                rw [ee] at c8
                intro v F5 H5 g5 r5
                cases ez : frz r s5 with
                | no =>
                  have c8 : Wn K W Q F H σ s (((frz r s5).bind fun e s4 => if loose s4 vs = true ∧ acc.length < 100000 then loopC f mt me vs (ds.drop (i + 1)) (acc ++ [e]) (wipeS s4 vs) else .no).bind finC) := c8
                  rw [ez] at c8
                  exact c8.elim
                | ex c l s6 => exact absurd ez frz_ex
                | ok e' s6 =>
                  have c8 : Wn K W Q F H σ s (((frz r s5).bind fun e s4 => if loose s4 vs = true ∧ acc.length < 100000 then loopC f mt me vs (ds.drop (i + 1)) (acc ++ [e]) (wipeS s4 vs) else .no).bind finC) := c8
                  rw [ez] at c8
                  have c9 : Wn K W Q F H σ s ((if loose s6 vs = true ∧ acc.length < 100000 then loopC f mt me vs (ds.drop (i + 1)) (acc ++ [e']) (wipeS s6 vs) else .no).bind fun acc s2 => .ok (.o (.lst acc)) (restS s1 s2 vs)) := c8
                  obtain ⟨F6, g6, _, hv⟩ := frz_ok g5 r5 ez
                  by_cases h6 : loose s6 vs = true ∧ acc.length < 100000
                  · rw [if_pos h6] at c9
                    have gt : Go K Fc Hc (L2.wipe σ vs) sc F6 H5 (L2.wipe σ vs) (wipeS s6 vs) := by
                      have z := ((g3.trans g4).trans g6).wipe h6.1
                      rw [hw] at z
                      exact z
                    obtain ⟨b1, b2, b3⟩ := gt.still c1 c2 c3 (fun ⟨_, z⟩ => by rw [c2] at z; cases z)
                    have lz : xs.length < sizeLine := by
                      rw [← c4.length]
                      exact Nat.lt_of_lt_of_le h6.2 (by decide)
                    exact ⟨xs, b2, lz, F6, wipeS s6 vs, acc ++ [e'], xs ++ [v], (gc.trans gt).pend _ hD b1 b3, b1, upd_same, b3, (c4.mono gt.fr).append (.cons hv .nil), fun j hj => wipeS_none hj (loose_at h6.1 hj).1, c9⟩
                  · rw [if_neg h6] at c9
                    exact c9.elim
      · rintro Hc ⟨Fc, sc, acc, xs, gc, c1, c2, c3, c4, c5, c6⟩
        rw [List.drop_length] at c6
        have len : sc.length = s1.length := by
          have q := gc.rs.len
          rw [wipe_length, g1.rs.len] at q
          exact q.symm
        exact c6 (.ref Dl) Fc Hc (g1.trans (Go.rest g1.rs hls gc c5)) ⟨Dl, .lst xs, rfl, c1, c2, .lst c4, g1.dm Dl hD, fun z => c3 (rest_own hls len z)⟩
    · rw [if_neg hls] at w1
      exact w1.elim
theorem ev_lc {W : WX} {wi : TI} {g : TG} {tt : TT} {te : TE} {vs tv : List Nat} {mi : M (List D)} {f : MG} {mt : M Bool} {me : M Rv} (hi : EvI K W wi mi) (hg : EvG K g f tv) (ht : ∀ j ∈ tv, j ∈ vs) (htt : EvT K W0 tt mt) (he : EvX K W0 te me) : EvX K W (tLc wi g tt te vs) (mLc mi f mt me vs) :=
  fun F H σ s Q rs w => ev_lcAt (fun Q => hi F H σ s Q rs) hg ht htt he w
end Cz

/-! # CzJ -/
namespace Cz
open L2 PyProof.Rows PySem.Spec PySem
variable {K : PySem.W.Frag}

/-! ## operators -/
theorem opr_or {X : Cx} {f : Value → Value → Sem Value} {r r' : R2} (h : OpR X f r) (h' : OpR X f r') : OpR X f (fun x y H Q => r x y H Q ∨ r' x y H Q) := by
  (intro pins s σ H x y v u Q I rx ry q)
  rcases q with q | q
  · (exact h pins s σ H x y v u Q I rx ry q)
  · (exact h' pins s σ H x y v u Q I rx ry q)
theorem callr_or {X : Cx} {f : Value} {r r' : List V → Hp → VK → Prop} (h : CallR X f r) (h' : CallR X f r') : CallR X f (fun x H Q => r x H Q ∨ r' x H Q) := by
  intro pins s σ H xs us Q I rx q
  rcases q with q | q
  · exact h pins s σ H xs us Q I rx q
  · exact h' pins s σ H xs us Q I rx q
theorem outD {F H : Hp} {Q : VK} {d : D} {z : V} (s : Sub F H) (h : OutOk K F H Q (some (.d d))) (r : Rp K F d z) : Q z H := h z F H (Al.refl s) r
theorem outN {F H : Hp} {Q : VK} {l : List D} {xs : List V} (s : Sub F H) (h : OutOk K F H Q (some (.d (.tup l)))) (r : RpL K F l xs) : ∀ p, H p = none → Q (.ref p) (upd H p (.tup xs)) := fun p hp => by
  have a := Al.new (ho := .tup xs) s hp
  exact h (.ref p) _ _ a (.tup upd_same (r.mono a.f))
theorem outL {F H : Hp} {Q : VK} {l : List D} {xs : List V} (s : Sub F H) (h : OutOk K F H Q (some (.o (.lst l)))) (r : RpL K F l xs) : ∀ p, H p = none → Q (.ref p) (upd H p (.lst xs)) := fun p hp => h F p _ (Al.refl s) hp (.lst r)
def small (n : Nat) : Bool := decide (n ≤ 100000)
theorem small_le {n : Nat} (h : small n = true) : n ≤ sizeLine := size_le (of_decide_eq_true h)
def addD : D → D → Option Rv
  | .int a, .int b => some (.d (.int (a + b)))
  | .str a, .str b => if small (a.length + b.length) then some (.d (.str (a ++ b))) else none
  | .lst a, .lst b => if small (a.length + b.length) then some (.o (.lst (a ++ b))) else none
  | x, y => (tupL x).bind fun a => (tupL y).bind fun b => if small (a.length + b.length) then some (.d (if a.isEmpty then y else if b.isEmpty then x else .tup (a ++ b))) else none
def rStrCat : R2 := fun x y H Q => ∃ i j, x = .str i ∧ y = .str j ∧ i.length + j.length ≤ sizeLine ∧ Q (.str (i ++ j)) H
def rAddA (K : PySem.W.Frag) : R2 := fun x y H Q => rI0 (fun i j => .int (i + j)) x y H Q ∨ rStrCat x y H Q ∨ rCat x y H Q ∨ rCatA K x y H Q
theorem op_addA {X : Cx} : OpR X (binaryOp .Add) (rAddA X.K) := opr_or op_add (opr_or op_add_str (opr_or op_cat op_catA))
theorem RpP.sqt {F H : Hp} {d : D} {v : V} {l : List D} (s : Sub F H) (h : RpP K F H d v) (e : tupL d = some l) : ∃ a xs, v = .ref a ∧ SqT K H a xs ∧ RpL K F l xs := by
  cases d with
  | tup m =>
    obtain ⟨a, xs, h1, h2, h3⟩ := Rp.sqt (show Rp K F (.tup m) v from h) e
    exact ⟨a, xs, h1, s.t h2, h3⟩
  | tuk m =>
    obtain ⟨a, xs, h1, h2, h3⟩ := Rp.sqt (show Rp K F (.tuk m) v from h) e
    exact ⟨a, xs, h1, s.t h2, h3⟩
  | _ => cases e
theorem RpP.rp {F H : Hp} {d : D} {v : V} {l : List D} (h : RpP K F H d v) (e : tupL d = some l) : Rp K F d v := by
  cases d with
  | tup m => exact h
  | tuk m => exact h
  | _ => cases e
theorem o2_addT {F H : Hp} {x y : V} {dx dy : D} {Q : VK} (s : Sub F H) (hx : RpP K F H dx x) (hy : RpP K F H dy y)
    (ho : OutOk K F H Q ((tupL dx).bind fun a => (tupL dy).bind fun b => if small (a.length + b.length) then some (.d (if a.isEmpty then dy else if b.isEmpty then dx else .tup (a ++ b))) else none)) : rCatA K x y H Q := by
  cases ea : tupL dx with
  | none => rw [ea] at ho; exact ho.elim
  | some a =>
    cases eb : tupL dy with
    | none => rw [ea, eb] at ho; exact ho.elim
    | some b =>
      rw [ea, eb] at ho
      have ho2 : OutOk K F H Q (if small (a.length + b.length) then some (.d (if a.isEmpty then dy else if b.isEmpty then dx else .tup (a ++ b))) else none) := ho
      obtain ⟨p, xs, rfl, h1, r1⟩ := hx.sqt s ea
      obtain ⟨q, ys, rfl, h2, r2⟩ := hy.sqt s eb
      split at ho2
      · rename_i hz
        refine ⟨p, q, xs, ys, rfl, rfl, h1, h2, ?_, fun e => ?_, fun n e => ?_, fun n m => ?_⟩
        · rw [← r1.length, ← r2.length]
          exact small_le hz
        · subst e
          cases r1
          exact outD s ho2 (hy.rp eb)
        · subst e
          cases r2
          have na : a.isEmpty = false := by
            cases a with
            | nil => cases r1; exact absurd rfl n
            | cons _ _ => rfl
          rw [na] at ho2
          exact outD s ho2 (hx.rp ea)
        · have na : a.isEmpty = false := by
            cases a with
            | nil => cases r1; exact absurd rfl n
            | cons _ _ => rfl
          have nb : b.isEmpty = false := by
            cases b with
            | nil => cases r2; exact absurd rfl m
            | cons _ _ => rfl
          rw [na, nb] at ho2
          exact outN s ho2 (r1.append r2)
      · exact ho2.elim
theorem o2_add : Op2 K (rAddA K) addD := by
  intro F H x y dx dy Q s hx hy ho
  cases dx with
  | int a =>
    cases dy with
    | int b => cases hx; cases hy; exact .inl ⟨a, b, rfl, rfl, outD s ho (.int _)⟩
    | _ => exact ho.elim
  | str a =>
    cases dy with
    | str b =>
      cases hx
      cases hy
      simp only [addD] at ho
      split at ho
      · rename_i hz
        exact .inr (.inl ⟨a, b, rfl, rfl, small_le hz, outD s ho (.str _)⟩)
      · exact ho.elim
    | _ => exact ho.elim
  | lst a =>
    cases dy with
    | lst b =>
      obtain ⟨p, xs, rfl, h1, r1⟩ := hx
      obtain ⟨q, ys, rfl, h2, r2⟩ := hy
      simp only [addD] at ho
      split at ho
      · rename_i hz
        refine .inr (.inr (.inl ⟨p, q, xs, ys, rfl, rfl, h1, h2, ?_, outL s ho (r1.append r2)⟩))
        rw [← r1.length, ← r2.length]
        exact small_le hz
      · exact ho.elim
    | _ => exact ho.elim
  | tup a => exact .inr (.inr (.inr (o2_addT s hx hy ho)))
  | tuk a => exact .inr (.inr (.inr (o2_addT s hx hy ho)))
  | _ => exact ho.elim
/-- two ints to something -/
def intD (c : Int → Int → Bool) (f : Int → Int → D) : D → D → Option Rv
  | .int a, .int b => if c a b then some (.d (f a b)) else none
  | _, _ => none
theorem o2_int {c : Int → Int → Bool} {f : Int → Int → D} {C : Int → Int → Prop} {g : Int → Int → V} (hc : ∀ a b, c a b = true → C a b) (hg : ∀ F a b, Rp K F (f a b) (g a b)) : Op2 K (rI C g) (intD c f) := by
  intro F H x y dx dy Q s hx hy ho
  cases dx with
  | int a =>
    cases dy with
    | int b =>
      cases hx
      cases hy
      simp only [intD] at ho
      split at ho
      · rename_i h
        exact ⟨a, b, rfl, rfl, hc a b h, outD s ho (hg F a b)⟩
      · exact ho.elim
    | _ => exact ho.elim
  | _ => exact ho.elim
def intD0 (f : Int → Int → D) : D → D → Option Rv
  | .int a, .int b => some (.d (f a b))
  | _, _ => none
theorem o2_int0 {f : Int → Int → D} {g : Int → Int → V} (hg : ∀ F a b, Rp K F (f a b) (g a b)) : Op2 K (rI0 g) (intD0 f) := by
  intro F H x y dx dy Q s hx hy ho
  cases dx with
  | int a =>
    cases dy with
    | int b => cases hx; cases hy; exact ⟨a, b, rfl, rfl, outD s ho (hg F a b)⟩
    | _ => exact ho.elim
  | _ => exact ho.elim
abbrev subD : D → D → Option Rv := intD0 fun a b => .int (a - b)
theorem o2_sub : Op2 K (rI0 fun i j => .int (i - j)) subD := o2_int0 fun _ _ _ => .int _
def mulOk (a b : Int) : Bool := decide (-(2 ^ 64) < a ∧ a < 2 ^ 64) || decide (-(2 ^ 64) < b ∧ b < 2 ^ 64)
abbrev mulD : D → D → Option Rv := intD mulOk fun a b => .int (a * b)
theorem o2_mul : Op2 K (rI CMul fun i j => .int (i * j)) mulD := o2_int (fun a b h => by
  unfold mulOk at h
  (rw [Bool.or_eq_true, decide_eq_true_eq, decide_eq_true_eq] at h)
  exact h) fun _ _ _ => .int _
abbrev fdivD : D → D → Option Rv := intD (fun _ b => decide (0 < b ∧ b < 1073741824)) fun a b => .int (a / b)
theorem o2_fdiv : Op2 K (rI CDiv fun i j => .int (i / j)) fdivD := o2_int (fun a b h => (of_decide_eq_true h : 0 < b ∧ b < 1073741824)) fun _ _ _ => .int _
abbrev modD : D → D → Option Rv := intD (fun _ b => decide (0 < b)) fun a b => .int (a % b)
theorem o2_mod : Op2 K (rI (fun _ j => 0 < j) fun i j => .int (i % j)) modD := o2_int (fun a b h => of_decide_eq_true h) fun _ _ _ => .int _
abbrev powD : D → D → Option Rv := intD (fun a b => decide (0 ≤ b ∧ b ≤ 1000000 ∧ a.natAbs < 2 ^ 64)) fun a b => .int (a ^ b.toNat)
theorem o2_pow : Op2 K (rI CPow fun i j => .int (i ^ j.toNat)) powD := o2_int (fun a b h => (of_decide_eq_true h : 0 ≤ b ∧ b ≤ 1000000 ∧ a.natAbs < 2 ^ 64)) fun _ _ _ => .int _
def negD : D → Option Rv
  | .int a => some (.d (.int (-a)))
  | _ => none
theorem o1_neg : Op1 K (rU fun i => .int (-i)) negD := by
  intro F H x dx Q s hx ho
  cases dx with
  | int a => cases hx; exact ⟨a, rfl, outD s ho (.int _)⟩
  | _ => exact ho.elim

/-! ## order -/
def rStrCmp (p : Str → Str → Bool) : R2 := fun x y H Q => ∃ i j, x = .str i ∧ y = .str j ∧ Q (.bl (p i j)) H
def cmpD (f : Int → Int → Bool) (g : Str → Str → Bool) : D → D → Option Rv
  | .int a, .int b => some (.d (.bl (f a b)))
  | .str a, .str b => some (.d (.bl (g a b)))
  | _, _ => none
def rCmpA (f : Int → Int → Bool) (g : Str → Str → Bool) : R2 := fun x y H Q => rI0 (fun i j => .bl (f i j)) x y H Q ∨ rStrCmp g x y H Q
theorem o2_cmp {f : Int → Int → Bool} {g : Str → Str → Bool} : Op2 K (rCmpA f g) (cmpD f g) := by
  intro F H x y dx dy Q s hx hy ho
  cases dx with
  | int a =>
    cases dy with
    | int b => cases hx; cases hy; exact .inl ⟨a, b, rfl, rfl, outD s ho (.bl _)⟩
    | _ => exact ho.elim
  | str a =>
    cases dy with
    | str b => cases hx; cases hy; exact .inr ⟨a, b, rfl, rfl, outD s ho (.bl _)⟩
    | _ => exact ho.elim
  | _ => exact ho.elim
abbrev sLt (i j : Str) : Bool := decide (i.cps.toList < j.cps.toList)
abbrev ltD := cmpD (fun i j => decide (i < j)) sLt
abbrev leD := cmpD (fun i j => decide (i ≤ j)) (fun i j => !sLt j i)
abbrev gtD := cmpD (fun i j => decide (j < i)) (fun i j => sLt j i)
abbrev geD := cmpD (fun i j => decide (j ≤ i)) (fun i j => !sLt i j)
theorem op_ltA {X : Cx} : OpR X (compareOp .Lt) (rCmpA (fun i j => decide (i < j)) sLt) := opr_or op_lt op_lt_str
theorem op_leA {X : Cx} : OpR X (compareOp .LtE) (rCmpA (fun i j => decide (i ≤ j)) (fun i j => !sLt j i)) := opr_or op_le op_le_str
theorem op_gtA {X : Cx} : OpR X (compareOp .Gt) (rCmpA (fun i j => decide (j < i)) (fun i j => sLt j i)) := opr_or op_gt op_gt_str
theorem op_geA {X : Cx} : OpR X (compareOp .GtE) (rCmpA (fun i j => decide (j ≤ i)) (fun i j => !sLt i j)) := opr_or op_ge op_ge_str

/-! ## equality -/
mutual
def deq : D → D → Bool
  | .non, .non => true
  | .bl a, .bl b => a == b
  | .bl a, .int j => (if a then 1 else 0) == j
  | .int i, .bl b => i == (if b then 1 else 0)
  | .int i, .int j => i == j
  | .str x, .str y => x == y
  | .tup xs, .tup ys => deqs xs ys
  | .tup xs, .tuk ys => deqs xs ys
  | .tuk xs, .tup ys => deqs xs ys
  | .tuk xs, .tuk ys => deqs xs ys
  | .lst xs, .lst ys => deqs xs ys
  | .lst xs, .rol ys => deqs xs ys
  | .rol xs, .lst ys => deqs xs ys
  | .rol xs, .rol ys => deqs xs ys
  | _, _ => false
def deqs : List D → List D → Bool
  | [], [] => true
  | x :: xs, y :: ys => deq x y && deqs xs ys
  | _, _ => false
end
mutual
def toPy : D → Option PyData
  | .non => some .none
  | .bl b => some (.bool b)
  | .int i => some (.int i)
  | .str x => some (.str x)
  | .tup l => (toPys l).map .tuple
  | .tuk l => (toPys l).map .tuple
  | .lst l => (toPys l).map .list
  | .rol l => (toPys l).map .list
  | _ => none
def toPys : List D → Option (List PyData)
  | [] => some []
  | d :: ds => (toPy d).bind fun p => (toPys ds).map (p :: ·)
end
mutual
theorem dp_of {F H : Hp} (s : Sub F H) : ∀ {d : D} {v : V} {p : PyData}, Rp K F d v → toPy d = some p → Dp K H v p
  | _, _, _, .non, e => by simp only [toPy] at e; cases e; exact .non
  | _, _, _, .bl b, e => by simp only [toPy] at e; cases e; exact .bl b
  | _, _, _, .int i, e => by simp only [toPy] at e; cases e; exact .int i
  | _, _, _, .str x, e => by simp only [toPy] at e; cases e; exact .str x
  | _, _, _, .ref a, e => by simp only [toPy] at e; cases e
  | _, _, _, .ty t, e => by simp only [toPy] at e; cases e
  | _, _, _, .dk h r, e => by simp only [toPy] at e; cases e
  | _, _, _, .dt h r, e => by simp only [toPy] at e; cases e
  | _, _, _, .obj h r, e => by simp only [toPy] at e; cases e
  | _, _, _, .tup h r, e => by
    simp only [toPy, Option.map_eq_some_iff] at e
    obtain ⟨l, e1, rfl⟩ := e
    exact .tup (s.t (SqT.of h)) (dps_of s r e1)
  | _, _, _, .tuk h r, e => by
    simp only [toPy, Option.map_eq_some_iff] at e
    obtain ⟨l, e1, rfl⟩ := e
    exact .tup (s.t h) (dps_of s r e1)
  | _, _, _, .lst h r, e => by
    simp only [toPy, Option.map_eq_some_iff] at e
    obtain ⟨l, e1, rfl⟩ := e
    exact .lst (SqL.of (s _ _ h)) (dps_of s r e1)
  | _, _, _, .rol h r, e => by
    simp only [toPy, Option.map_eq_some_iff] at e
    obtain ⟨l, e1, rfl⟩ := e
    exact .lst (s.l h) (dps_of s r e1)
theorem dps_of {F H : Hp} (s : Sub F H) : ∀ {d : List D} {v : List V} {p : List PyData}, RpL K F d v → toPys d = some p → DpAll K H v p
  | _, _, _, .nil, e => by simp only [toPys] at e; cases e; exact .nil
  | _, _, _, .cons h r, e => by
    simp only [toPys, Option.bind_eq_some_iff, Option.map_eq_some_iff] at e
    obtain ⟨p, e1, l, e2, rfl⟩ := e
    exact .cons (dp_of s h e1) (dps_of s r e2)
end
theorem dpp_of {F H : Hp} (s : Sub F H) {d : D} {v : V} {p : PyData} (h : RpP K F H d v) (e : toPy d = some p) : Dp K H v p := by
  cases d with
  | lst l =>
    obtain ⟨a, xs, rfl, h1, r⟩ := h
    simp only [toPy, Option.map_eq_some_iff] at e
    obtain ⟨q, e1, rfl⟩ := e
    exact .lst (SqL.of h1) (dps_of s r e1)
  | dk l => simp only [toPy] at e; cases e
  | dt l => simp only [toPy] at e; cases e
  | obj C l => simp only [toPy] at e; cases e
  | non => exact dp_of s h e
  | bl b => exact dp_of s h e
  | int i => exact dp_of s h e
  | str x => exact dp_of s h e
  | ref a => exact dp_of s h e
  | ty t => exact dp_of s h e
  | tup l => exact dp_of s h e
  | tuk l => exact dp_of s h e
  | rol l => exact dp_of s h e
mutual
theorem deq_py : ∀ {d e : D} {p q : PyData}, toPy d = some p → toPy e = some q → PyData.eqv p q = deq d e
  | d, e, p, q, h1, h2 => by
    cases d <;> cases e <;> simp only [toPy, Option.map_eq_some_iff, reduceCtorEq, Option.some.injEq] at h1 h2 <;> first
      | (obtain ⟨l, a1, rfl⟩ := h1; obtain ⟨m, a2, rfl⟩ := h2; simp only [deq, PyData.eqv]; done)
      | (obtain ⟨l, a1, rfl⟩ := h1; obtain ⟨m, a2, rfl⟩ := h2; simp only [deq, PyData.eqv]; exact deqs_py a1 a2)
      | (obtain ⟨l, a1, rfl⟩ := h1; subst h2; simp only [deq, PyData.eqv])
      | (subst h1; obtain ⟨m, a2, rfl⟩ := h2; simp only [deq, PyData.eqv])
      | (subst h1; subst h2; simp only [deq, PyData.eqv])
theorem deqs_py : ∀ {d e : List D} {p q : List PyData}, toPys d = some p → toPys e = some q → PyData.eqvAll p q = deqs d e
  | [], [], p, q, h1, h2 => by simp only [toPys] at h1 h2; cases h1; cases h2; simp only [PyData.eqvAll, deqs]
  | [], y :: ys, p, q, h1, h2 => by
    simp only [toPys, Option.bind_eq_some_iff, Option.map_eq_some_iff] at h1 h2
    cases h1
    obtain ⟨a, a1, l, a2, rfl⟩ := h2
    simp only [PyData.eqvAll, deqs]
  | x :: xs, [], p, q, h1, h2 => by
    simp only [toPys, Option.bind_eq_some_iff, Option.map_eq_some_iff] at h1 h2
    cases h2
    obtain ⟨a, a1, l, a2, rfl⟩ := h1
    simp only [PyData.eqvAll, deqs]
  | x :: xs, y :: ys, p, q, h1, h2 => by
    simp only [toPys, Option.bind_eq_some_iff, Option.map_eq_some_iff] at h1 h2
    obtain ⟨a, a1, l, a2, rfl⟩ := h1
    obtain ⟨b, b1, m, b2, rfl⟩ := h2
    simp only [PyData.eqvAll, deqs]
    rw [deq_py a1 b1, deqs_py a2 b2]
end
/-- both may be compared -/
def cmpb (d : D) : Bool := match toPy d with
  | some p => SeqAt.shaped p
  | none => false
theorem cmpb_ok {d : D} (h : cmpb d = true) : ∃ p, toPy d = some p ∧ SeqAt.shaped p = true := by
  unfold cmpb at h
  split at h
  · exact ⟨_, by assumption, h⟩
  · cases h
/-- texts and the like, whatever stands in them -/
def flatE : D → D → Option Bool
  | .non, .non => some true
  | .str a, .str b => some (decide (a = b))
  | .int a, .int b => some (decide (a = b))
  | .bl a, .bl b => some (decide (a = b))
  | .non, .str _ => some false
  | .str _, .non => some false
  | .non, .int _ => some false
  | .int _, .non => some false
  | .non, .bl _ => some false
  | .bl _, .non => some false
  | .int _, .str _ => some false
  | .str _, .int _ => some false
  | .bl _, .str _ => some false
  | .str _, .bl _ => some false
  | _, _ => none
def eqB (x y : D) : Option Bool := match flatE x y with
  | some b => some b
  | none => if cmpb x && cmpb y then some (deq x y) else none
def eqD (x y : D) : Option Rv := (eqB x y).map fun b => .d (.bl b)
def neD (x y : D) : Option Rv := (eqB x y).map fun b => .d (.bl !b)
def rEqA (K : PySem.W.Frag) : R2 := fun x y H Q => rEq x y H Q ∨ rEqD K x y H Q
def rNeA (K : PySem.W.Frag) : R2 := fun x y H Q => rNe x y H Q ∨ rNeD K x y H Q
theorem op_eqA {X : Cx} (hu : X.A.units + 64 < cLine) : OpR X (compareOp .Eq) (rEqA X.K) := opr_or op_eq (op_eqD hu)
theorem op_neA {X : Cx} (hu : X.A.units + 64 < cLine) : OpR X (compareOp .NotEq) (rNeA X.K) := opr_or op_ne (op_neD hu)
theorem flatE_ok {F H : Hp} {x y : V} {dx dy : D} {b : Bool} (hx : RpP K F H dx x) (hy : RpP K F H dy y) (e : flatE dx dy = some b) : scal x y = true ∧ decide (x = y) = b := by
  cases dx <;> cases dy <;> simp only [flatE, reduceCtorEq, Option.some.injEq] at e <;> cases hx <;> cases hy <;> subst e <;> refine ⟨rfl, ?_⟩ <;> simp
theorem o2_eq : Op2 K (rEqA K) eqD := by
  intro F H x y dx dy Q s hx hy ho
  unfold eqD eqB at ho
  cases e : flatE dx dy with
  | some b =>
    rw [e] at ho
    obtain ⟨h1, h2⟩ := flatE_ok hx hy e
    refine .inl ⟨h1, ?_⟩
    rw [h2]
    exact outD s ho (.bl _)
  | none =>
    rw [e] at ho
    dsimp only at ho
    split at ho
    · rename_i hc
      rw [Bool.and_eq_true] at hc
      obtain ⟨p, p1, p2⟩ := cmpb_ok hc.1
      obtain ⟨q, q1, q2⟩ := cmpb_ok hc.2
      refine .inr ⟨p, q, dpp_of s hx p1, dpp_of s hy q1, p2, q2, ?_⟩
      rw [deq_py p1 q1]
      exact outD s ho (.bl _)
    · exact ho.elim
theorem o2_ne : Op2 K (rNeA K) neD := by
  intro F H x y dx dy Q s hx hy ho
  unfold neD eqB at ho
  cases e : flatE dx dy with
  | some b =>
    rw [e] at ho
    obtain ⟨h1, h2⟩ := flatE_ok hx hy e
    refine .inl ⟨h1, ?_⟩
    rw [h2]
    exact outD s ho (.bl _)
  | none =>
    rw [e] at ho
    dsimp only at ho
    split at ho
    · rename_i hc
      rw [Bool.and_eq_true] at hc
      obtain ⟨p, p1, p2⟩ := cmpb_ok hc.1
      obtain ⟨q, q1, q2⟩ := cmpb_ok hc.2
      refine .inr ⟨p, q, dpp_of s hx p1, dpp_of s hy q1, p2, q2, ?_⟩
      rw [deq_py p1 q1]
      exact outD s ho (.bl _)
    · exact ho.elim
end Cz

/-! # CzK -/
namespace Cz
open L2 PyProof.Rows PySem.Spec PySem
variable {K : PySem.W.Frag}

/-! ## a sequence's items -/
/-- the items of what may be indexed -/
def seqD : D → Option (List D)
  | .lst l => some l
  | .rol l => some l
  | .tup l => some l
  | .tuk l => some l
  | _ => none
theorem RpP.seq {F H : Hp} {d : D} {v : V} {l : List D} (s : Sub F H) (h : RpP K F H d v) (e : seqD d = some l) : ∃ a xs, v = .ref a ∧ RpL K F l xs ∧ ((SqL K H a xs ∧ ((∃ l', d = .lst l') ∨ ∃ l', d = .rol l')) ∨ (SqT K H a xs ∧ tupL d = some l)) := by
  cases d with
  | lst m =>
    cases e
    obtain ⟨a, xs, rfl, h1, r⟩ := h
    exact ⟨a, xs, rfl, r, .inl ⟨SqL.of h1, .inl ⟨_, rfl⟩⟩⟩
  | rol m =>
    cases e
    cases h with
    | rol h1 r => exact ⟨_, _, rfl, r, .inl ⟨s.l h1, .inr ⟨_, rfl⟩⟩⟩
  | tup m =>
    cases e
    obtain ⟨a, xs, h1, h2, h3⟩ := h.sqt s rfl
    exact ⟨a, xs, h1, h3, .inr ⟨h2, rfl⟩⟩
  | tuk m =>
    cases e
    obtain ⟨a, xs, h1, h2, h3⟩ := h.sqt s rfl
    exact ⟨a, xs, h1, h3, .inr ⟨h2, rfl⟩⟩
  | _ => cases e
theorem RpL.atI {F : Hp} {l : List D} {xs : List V} {i : Int} {d : D} (r : RpL K F l xs) (e : atI l i = some d) : ∃ v, L2.atI xs i = some v ∧ Rp K F d v := by
  unfold L2.atI at e ⊢
  rw [Option.bind_eq_some_iff] at e
  obtain ⟨j, e1, e2⟩ := e
  obtain ⟨v, h1, h2⟩ := r.get e2
  rw [r.length] at e1
  rw [e1]
  exact ⟨v, h1, h2⟩

/-! ## x[i] -/
def ixD : D → D → Option Rv
  | .str z, .int i => if small z.length then (atI z.cps.toList i).map fun c => .d (.str ⟨#[c]⟩) else none
  | d, .int i => (seqD d).bind fun l => (atI l i).map fun e => .d e
  | _, _ => none
theorem o2_ixS {F H : Hp} {x y : V} {dx : D} {i : Int} {l : List D} {e : D} {Q : VK} (s : Sub F H) (hx : RpP K F H dx x) (hy : RpP K F H (.int i) y) (h1 : seqD dx = some l) (h2 : atI l i = some e) (ho : OutOk K F H Q (some (.d e))) : rIx K x y H Q := by
  cases hy
  obtain ⟨a, xs, rfl, r, h⟩ := hx.seq s h1
  obtain ⟨v, e1, e2⟩ := r.atI h2
  rcases h with ⟨h, _⟩ | ⟨h, _⟩
  · exact .inl ⟨a, xs, i, v, rfl, rfl, h, e1, outD s ho e2⟩
  · exact .inr (.inl ⟨a, xs, i, v, rfl, rfl, h, e1, outD s ho e2⟩)
theorem o2_ix : Op2 K (rIx K) ixD := by
  intro F H x y dx dy Q s hx hy ho
  cases dy with
  | int i =>
    have seq : ∀ l, seqD dx = some l → OutOk K F H Q ((atI l i).map fun e => .d e) → rIx K x y H Q := fun l h1 ho => by
      cases h2 : atI l i with
      | none => rw [h2] at ho; exact ho.elim
      | some e => rw [h2] at ho; exact o2_ixS s hx hy h1 h2 ho
    cases dx with
    | str z =>
      simp only [ixD] at ho
      split at ho
      · rename_i hz
        cases h2 : atI z.cps.toList i with
        | none => rw [h2] at ho; exact ho.elim
        | some c =>
          rw [h2] at ho
          cases hx
          cases hy
          exact .inr (.inr ⟨z, i, c, rfl, rfl, small_le hz, h2, outD s ho (.str _)⟩)
      · exact ho.elim
    | lst l => exact seq l rfl ho
    | rol l => exact seq l rfl ho
    | tup l => exact seq l rfl ho
    | tuk l => exact seq l rfl ho
    | _ => exact ho.elim
  | _ => cases dx <;> exact ho.elim

/-! ## x[lo:hi] -/
def WnO (K : PySem.W.Frag) (W : WX) (Q : Option Int → Hp → Prop) (F H : Hp) (σ : L2.St) (s : SS) : R (Option Int) → Prop
  | .ok o s' => ∀ F' H', Go K F H σ s F' H' σ s' → Q o H'
  | .ex c l s' => ∀ dd F' H' xs, Go K F H σ s F' H' σ s' → H' dd = some (.xd xs) → RpF K F' l xs → W (.ref c) (some dd) σ H'
  | .no => False
def EvO (K : PySem.W.Frag) (W : WX) (t : TO) (m : M (Option Int)) : Prop := ∀ F H σ s Q, RS K F H σ s → WnO K W Q F H σ s (m s) → t σ H Q
def mNoPart : M (Option Int) := fun s => .ok none s
theorem eo_none {W : WX} : EvO K W tNoPart mNoPart := fun F H σ s Q rs w => w F H (Go.refl rs)
def intOf : D → Option Int
  | .int i => some i
  | _ => none
def mPart (me : M Rv) : M (Option Int) := fun s => (me s).bind fun r s1 => opt ((pk r s1).bind intOf) fun i => .ok (some i) s1
theorem opt_wnO {α : Type} {F H : Hp} {σ : L2.St} {s : SS} {W : WX} {Q : Option Int → Hp → Prop} {o : Option α} {f : α → R (Option Int)} (w : WnO K W Q F H σ s (opt o f)) : ∃ a, o = some a ∧ WnO K W Q F H σ s (f a) := by
  cases o with
  | none => exact w.elim
  | some a => exact ⟨a, rfl, w⟩
theorem eo_some {W : WX} {te : TE} {me : M Rv} (h : EvX K W te me) : EvO K W (tPart te) (mPart me) := by
  intro F H σ s Q rs w
  refine h F H σ s _ rs ?_
  have w' : WnO K W Q F H σ s ((me s).bind fun r s1 => opt ((pk r s1).bind intOf) fun i => .ok (some i) s1) := w
  cases e : me s with
  | no => rw [e] at w'; exact w'
  | ex c l s1 =>
    rw [e] at w'
    exact fun dd F1 H1 xs g1 => w' dd F1 H1 xs g1
  | ok r s1 =>
    rw [e] at w'
    intro v F1 H1 g1 h1
    obtain ⟨i, e1, w2⟩ := opt_wnO w'
    rw [Option.bind_eq_some_iff] at e1
    obtain ⟨d, e2, e3⟩ := e1
    have hp := pk_ok g1.rs h1 e2
    cases d with
    | int j =>
      cases e3
      cases hp
      exact ⟨_, rfl, w2 F1 H1 g1⟩
    | _ => cases e3
theorem EvO.step {W : WX} {t : TO} {m : M (Option Int)} (h : EvO K W t m) {F0 H0 F H : Hp} {σ : L2.St} {s0 s : SS} {Q : VK} {Q1 : Option Int → Hp → Prop} {f : Option Int → SS → R Rv} (g : Go K F0 H0 σ s0 F H σ s) (w : Wn K W Q F0 H0 σ s0 ((m s).bind f))
    (k : ∀ r s1 F1 H1, Go K F0 H0 σ s0 F1 H1 σ s1 → Go K F H σ s F1 H1 σ s1 → Wn K W Q F0 H0 σ s0 (f r s1) → Q1 r H1) : t σ H Q1 := by
  refine h F H σ s Q1 g.rs ?_
  cases e : m s with
  | ok r s1 =>
    rw [e] at w
    exact fun F1 H1 g1 => k r s1 F1 H1 (g.trans g1) g1 w
  | ex c l s1 =>
    rw [e] at w
    exact fun dd F1 H1 xs g1 => w dd F1 H1 xs (g.trans g1)
  | no =>
    rw [e] at w
    exact w
def cutL {α : Type} (l : List α) (lo hi : Option Int) : List α := (l.drop (HT.sIx l.length 0 lo)).take (HT.sIx l.length l.length hi - HT.sIx l.length 0 lo)
theorem RpL.cut {F : Hp} {l : List D} {xs : List V} (r : RpL K F l xs) (lo hi : Option Int) : RpL K F (cutL l lo hi) (cutV xs lo hi) := by
  unfold cutL cutV
  rw [r.length]
  exact (r.drop _).take _
def slD : D → Option Int → Option Int → Option Rv
  | .lst l, lo, hi => some (.o (.lst (cutL l lo hi)))
  | .rol l, lo, hi => some (.o (.lst (cutL l lo hi)))
  | .tup l, lo, hi => some (.d (.tup (cutL l lo hi)))
  | .tuk l, lo, hi => some (.d (if HT.sIx l.length 0 lo = 0 ∧ HT.sIx l.length l.length hi = l.length then .tuk l else .tup (cutL l lo hi)))
  | .str z, lo, hi => if small z.length then some (.d (.str (cutS z lo hi))) else none
  | _, _, _ => none
def rSlAll (K : PySem.W.Frag) : V → Option Int → Option Int → Hp → VK → Prop := fun x lo hi H Q => rSlL K x lo hi H Q ∨ rSlA K x lo hi H Q ∨ rSlS x lo hi H Q
theorem sl_all {X : Cx} : SlR X (rSlAll X.K) := sl_list.or (sl_tupA.or sl_str)
theorem sl_ok {F H : Hp} {x : V} {dx : D} {lo hi : Option Int} {Q : VK} (s : Sub F H) (hx : RpP K F H dx x) (ho : OutOk K F H Q (slD dx lo hi)) : rSlAll K x lo hi H Q := by
  cases dx with
  | lst l =>
    obtain ⟨a, xs, rfl, h1, r⟩ := hx
    exact .inl ⟨a, xs, rfl, SqL.of h1, outL s ho (r.cut lo hi)⟩
  | rol l =>
    cases hx with
    | rol h1 r => exact .inl ⟨_, _, rfl, s.l h1, outL s ho (r.cut lo hi)⟩
  | tup l =>
    have hx0 := hx
    cases hx with
    | tup h1 r =>
      rename_i a xs
      refine .inr (.inl ⟨a, xs, rfl, s.t (SqT.of h1), fun hw => ?_, fun hw => outN s ho (r.cut lo hi)⟩)
      have e : cutL l lo hi = l := by
        unfold cutL
        rw [r.length, hw.1, hw.2, List.drop_zero, Nat.sub_zero, ← r.length, List.take_length]
      have ho' : OutOk K F H Q (some (.d (.tup (cutL l lo hi)))) := ho
      rw [e] at ho'
      exact outD s ho' hx0
  | tuk l =>
    have hx0 := hx
    cases hx with
    | tuk h1 r =>
      rename_i a xs
      have ho' : OutOk K F H Q (some (.d (if HT.sIx l.length 0 lo = 0 ∧ HT.sIx l.length l.length hi = l.length then .tuk l else .tup (cutL l lo hi)))) := ho
      rw [r.length] at ho'
      refine .inr (.inl ⟨a, xs, rfl, s.t h1, fun hw => ?_, fun hw => ?_⟩)
      · rw [if_pos hw] at ho'
        exact outD s ho' hx0
      · rw [if_neg hw] at ho'
        exact outN s ho' (r.cut lo hi)
  | str z =>
    simp only [slD] at ho
    split at ho
    · rename_i hz
      cases hx
      exact .inr (.inr ⟨z, rfl, small_le hz, outD s ho (.str _)⟩)
    · exact ho.elim
  | _ => exact ho.elim
def mSl (me : M Rv) (ml mh : M (Option Int)) : M Rv := fun s => (me s).bind fun r s1 => (ml s1).bind fun lo s2 => (mh s2).bind fun hi s3 => opt (pk (nrm r) s3) fun d => outR (slD d lo hi) s3
theorem ev_sl {W : WX} {te : TE} {tl th : TO} {me : M Rv} {ml mh : M (Option Int)} (he : EvX K W te me) (hl : EvO K W tl ml) (hh : EvO K W th mh) : EvX K W (tSl (rSlAll K) te tl th) (mSl me ml mh) := by
  intro F H σ s Q rs w
  refine he.step (Go.refl rs) w fun r1 s1 v1 F1 H1 g1 _ h1 w1 => ?_
  obtain ⟨F1', g1', sb1, h1'⟩ := nrm_ok g1 h1
  refine hl.step g1' w1 fun lo s2 F2 H2 g2 g12 w2 => ?_
  refine hh.step g2 w2 fun hi s3 F3 H3 g3 g23 w3 => ?_
  obtain ⟨d, ed, w4⟩ := opt_wn w3
  exact sl_ok g3.rs.sub (pk_ok g3.rs (h1'.go (g12.trans g23)) ed) (out_ok g3 w4)

/-! ## len -/
def lenD : D → Option Rv
  | .str z => if small z.length then some (.d (.int (z.length : Nat))) else none
  | d => (seqD d).map fun l => .d (.int (l.length : Nat))
theorem c1_len : Op1 K (fun x H Q => (fun xs H Q => ∃ x n, xs = [x] ∧ LenV K x H n ∧ Q (.int n) H) [x] H Q) lenD := by
  intro F H x dx Q s hx ho
  have seq : ∀ l, seqD dx = some l → OutOk K F H Q (some (.d (.int (l.length : Nat)))) → ∃ y n, [x] = [y] ∧ LenV K y H n ∧ Q (.int n) H := fun l h1 ho => by
    obtain ⟨a, xs, rfl, r, h⟩ := hx.seq s h1
    refine ⟨_, xs.length, rfl, ?_, outD s (by rw [r.length] at ho; exact ho) (.int _)⟩
    rcases h with ⟨h, _⟩ | ⟨h, _⟩
    · exact .inl ⟨xs, h, rfl⟩
    · exact .inr ⟨xs, h, rfl⟩
  cases dx with
  | str z =>
    simp only [lenD] at ho
    split at ho
    · rename_i hz
      cases hx
      exact ⟨_, _, rfl, ⟨small_le hz, rfl⟩, outD s ho (.int _)⟩
    · exact ho.elim
  | lst l => exact seq l rfl ho
  | rol l => exact seq l rfl ho
  | tup l => exact seq l rfl ho
  | tuk l => exact seq l rfl ho
  | _ => exact ho.elim

/-! ## is -/
theorem plain_none {u : Value} (h : plainIs Value.none u = true) : True := trivial
def rIsA : R2 := fun x y H Q => (y = .non ∧ Q (.bl (decide (x = .non))) H) ∨ ∃ b, y = .bl b ∧ (x = .non ∨ (∃ c, x = .bl c) ∨ (∃ i, x = .int i) ∨ (∃ z, x = .str z)) ∧ Q (.bl (decide (x = .bl b))) H
end Cz

/-! # CzL -/
namespace Cz
open L2 PyProof.Rows PySem.Spec PySem
variable {K : PySem.W.Frag}

/-! ## is, is not -/
def flatX : V → Bool
  | .byt _ => false
  | .flt _ => false
  | _ => true
def rIsA2 : R2 := fun x y H Q => (y = .non ∧ Q (.bl (decide (x = .non))) H) ∨ ∃ b, y = .bl b ∧ flatX x = true ∧ Q (.bl (decide (x = .bl b))) H
def rNotA2 : R2 := fun x y H Q => (y = .non ∧ Q (.bl (!decide (x = .non))) H) ∨ ∃ b, y = .bl b ∧ flatX x = true ∧ Q (.bl (!decide (x = .bl b))) H
theorem rel_bool {x : V} {u : Value} {b : Bool} (h : flatX x = true) (r : RelV x u) : plainIs u (.bool b) = true ∧ (u = .bool b ↔ x = .bl b) := by
  cases x with
  | non => cases (show u = Value.none from r); exact ⟨rfl, by constructor <;> intro z <;> cases z⟩
  | bl c => cases (show u = Value.bool c from r); exact ⟨rfl, by constructor <;> intro z <;> cases z <;> rfl⟩
  | int i => obtain ⟨t, rfl⟩ := (show ∃ t, u = Value.int i t from r); exact ⟨rfl, by constructor <;> intro z <;> cases z⟩
  | str i => obtain ⟨t, rfl⟩ := (show ∃ t, u = Value.str i t from r); exact ⟨rfl, by constructor <;> intro z <;> cases z⟩
  | ref a => cases (show u = Value.ref a from r); exact ⟨rfl, by constructor <;> intro z <;> cases z⟩
  | ty n => cases (show u = Value.type n from r); exact ⟨rfl, by constructor <;> intro z <;> cases z⟩
  | byt b => cases h
  | flt b => cases h
theorem op_isA {X : Cx} : OpR X (compareOp .Is) rIsA2 := by
  refine opr_or op_isN ?_
  (intro pins s σ H x y v u Q I rx ry h)
  obtain ⟨b, rfl, hf, q⟩ := h
  (cases (show u = Value.bool b from ry))
  obtain ⟨h1, h2⟩ := rel_bool (b := b) hf rx
  by_cases e : x = .bl b
  · rw [decide_eq_true e] at q
    rw [h2.mpr e]
    exact wpAny_is_self rfl ⟨.bl true, H, I, rfl, q⟩
  · rw [decide_eq_false e] at q
    exact wpAny_is_other h1 (fun z => e (h2.mp z)) ⟨.bl false, H, I, rfl, q⟩
theorem op_isNotA {X : Cx} : OpR X (compareOp .IsNot) rNotA2 := by
  refine opr_or op_notN ?_
  (intro pins s σ H x y v u Q I rx ry h)
  obtain ⟨b, rfl, hf, q⟩ := h
  (cases (show u = Value.bool b from ry))
  obtain ⟨h1, h2⟩ := rel_bool (b := b) hf rx
  by_cases e : x = .bl b
  · rw [decide_eq_true e] at q
    rw [h2.mpr e]
    exact wpAny_isNot_self rfl ⟨.bl false, H, I, rfl, q⟩
  · rw [decide_eq_false e] at q
    exact wpAny_isNot_other h1 (fun z => e (h2.mp z)) ⟨.bl true, H, I, rfl, q⟩
def isB : D → D → Option Bool
  | .non, .non => some true
  | _, .non => some false
  | .bl a, .bl b => some (decide (a = b))
  | _, .bl _ => some false
  | _, _ => none
def isD (x y : D) : Option Rv := (isB x y).map fun b => .d (.bl b)
def isNotD (x y : D) : Option Rv := (isB x y).map fun b => .d (.bl !b)
theorem isB_ok {F H : Hp} {x y : V} {dx dy : D} {b : Bool} (hx : RpP K F H dx x) (hy : RpP K F H dy y) (e : isB dx dy = some b) : (y = .non ∧ decide (x = .non) = b) ∨ ∃ c, y = .bl c ∧ flatX x = true ∧ decide (x = .bl c) = b := by
  cases dy with
  | non =>
    cases hy
    refine .inl ⟨rfl, ?_⟩
    cases dx with
    | non => cases hx; cases e; rfl
    | lst l => obtain ⟨_, _, rfl, _⟩ := hx; cases e; rfl
    | dk l => obtain ⟨_, _, rfl, _⟩ := hx; cases e; rfl
    | dt l => obtain ⟨_, _, rfl, _⟩ := hx; cases e; rfl
    | obj C l => obtain ⟨_, _, _, rfl, _⟩ := hx; cases e; rfl
    | _ => cases hx <;> cases e <;> rfl
  | bl c =>
    cases hy
    refine .inr ⟨c, rfl, ?_⟩
    cases dx with
    | bl a => cases hx; cases e; refine ⟨rfl, ?_⟩; by_cases h : a = c <;> simp [h]
    | lst l => obtain ⟨_, _, rfl, _⟩ := hx; cases e; exact ⟨rfl, rfl⟩
    | dk l => obtain ⟨_, _, rfl, _⟩ := hx; cases e; exact ⟨rfl, rfl⟩
    | dt l => obtain ⟨_, _, rfl, _⟩ := hx; cases e; exact ⟨rfl, rfl⟩
    | obj C l => obtain ⟨_, _, _, rfl, _⟩ := hx; cases e; exact ⟨rfl, rfl⟩
    | _ => cases hx <;> cases e <;> exact ⟨rfl, rfl⟩
  | _ => cases dx <;> cases e
theorem o2_is : Op2 K rIsA2 isD := by
  intro F H x y dx dy Q s hx hy ho
  unfold isD at ho
  cases e : isB dx dy with
  | none => rw [e] at ho; exact ho.elim
  | some b =>
    rw [e] at ho
    rcases isB_ok hx hy e with ⟨h1, h2⟩ | ⟨c, h1, h2, h3⟩
    · exact .inl ⟨h1, by rw [h2]; exact outD s ho (.bl _)⟩
    · exact .inr ⟨c, h1, h2, by rw [h3]; exact outD s ho (.bl _)⟩
theorem o2_isNot : Op2 K rNotA2 isNotD := by
  intro F H x y dx dy Q s hx hy ho
  unfold isNotD at ho
  cases e : isB dx dy with
  | none => rw [e] at ho; exact ho.elim
  | some b =>
    rw [e] at ho
    rcases isB_ok hx hy e with ⟨h1, h2⟩ | ⟨c, h1, h2, h3⟩
    · exact .inl ⟨h1, by rw [h2]; exact outD s ho (.bl _)⟩
    · exact .inr ⟨c, h1, h2, by rw [h3]; exact outD s ho (.bl _)⟩

/-! ## in, not in -/
section
variable {X : Cx}
def rInT (K : PySem.W.Frag) : R2 := fun x y H Q => ∃ d ds, Dp K H x d ∧ Dp K H y (.tuple ds) ∧ SeqAt.shaped d = true ∧ SeqAt.shaped (.tuple ds) = true ∧ Q (.bl (ds.any fun z => PyData.eqv z d)) H
def rNotInT (K : PySem.W.Frag) : R2 := fun x y H Q => ∃ d ds, Dp K H x d ∧ Dp K H y (.tuple ds) ∧ SeqAt.shaped d = true ∧ SeqAt.shaped (.tuple ds) = true ∧ Q (.bl (!ds.any fun z => PyData.eqv z d)) H
theorem room_tup {d : PyData} {ds : List PyData} (se : SeqAt.shaped d = true) {n : Nat} (hu : n + 65 < cLine) : n + 1 + min (PyData.depthAll ds) d.depth < cLine := by
  have h : d.depth ≤ 64 := by
    unfold SeqAt.shaped at se
    rw [Bool.and_eq_true, decide_eq_true_eq] at se
    exact se.2
  have := Nat.min_le_right (PyData.depthAll ds) d.depth
  omega
theorem layall_tup {ds : List PyData} (h : SeqAt.shaped (.tuple ds) = true) : PyData.canLayAll0 ds = true := by
  unfold SeqAt.shaped at h
  rw [Bool.and_eq_true] at h
  simpa only [PyData.canLay0] using h.1
theorem lay_of {d : PyData} (h : SeqAt.shaped d = true) : d.canLay0 = true := by
  unfold SeqAt.shaped at h
  rw [Bool.and_eq_true] at h
  exact h.1
theorem op_inT (hu : X.A.units + 65 < cLine) : OpR X (compareOp .In) (rInT X.K) := by
  (intro pins s σ H x y v u Q I rx ry h)
  (obtain ⟨d, ds, hd, he, sd, se, q⟩ := h)
  (obtain ⟨as, r1⟩ := Dp.reads I d x v hd rx)
  obtain ⟨bs, r2⟩ := Dp.reads I (.tuple ds) y u he ry
  exact SeqAt.in_tuple_reads r2 r1 (layall_tup se) (lay_of sd) (room_tup sd hu) ⟨.bl _, H, I, rfl, q⟩
theorem op_notInT (hu : X.A.units + 65 < cLine) : OpR X (compareOp .NotIn) (rNotInT X.K) := by
  (intro pins s σ H x y v u Q I rx ry h)
  (obtain ⟨d, ds, hd, he, sd, se, q⟩ := h)
  (obtain ⟨as, r1⟩ := Dp.reads I d x v hd rx)
  obtain ⟨bs, r2⟩ := Dp.reads I (.tuple ds) y u he ry
  exact SeqAt.notIn_tuple_reads r2 r1 (layall_tup se) (lay_of sd) (room_tup sd hu) ⟨.bl _, H, I, rfl, q⟩
end
def rInSgn : R2 := fun x y H Q => ∃ (c : Nat) (z : Str), x = .str ⟨#[c]⟩ ∧ y = .str z ∧ Q (.bl (decide (c ∈ z.cps.toList))) H
def rNotInSgn : R2 := fun x y H Q => ∃ (c : Nat) (z : Str), x = .str ⟨#[c]⟩ ∧ y = .str z ∧ Q (.bl (!decide (c ∈ z.cps.toList))) H
def rInA (K : PySem.W.Frag) : R2 := fun x y H Q => rInSgn x y H Q ∨ rInD K x y H Q ∨ rInT K x y H Q
def rNotInA (K : PySem.W.Frag) : R2 := fun x y H Q => rNotInSgn x y H Q ∨ rNotInD K x y H Q ∨ rNotInT K x y H Q
theorem op_inA {X : Cx} (hu : X.A.units + 65 < cLine) : OpR X (compareOp .In) (rInA X.K) := opr_or op_in_sign (opr_or (op_inD hu) (op_inT hu))
theorem op_notInA {X : Cx} (hu : X.A.units + 65 < cLine) : OpR X (compareOp .NotIn) (rNotInA X.K) := opr_or op_notIn_sign (opr_or (op_notInD hu) (op_notInT hu))
/-- x in y: a sign in a text, a thing in a row of things -/
def inB (x y : D) : Option Bool := match y with
  | .str z => match x with
    | .str w => match w.cps.toList with
      | [c] => some (decide (c ∈ z.cps.toList))
      | _ => none
    | _ => none
  | _ => match seqD y with
    | some l => if cmpb x && cmpb y then some (l.any fun e => deq e x) else none
    | none => none
theorem sgn_of {w : Str} {c : Nat} (h : w.cps.toList = [c]) : w = ⟨#[c]⟩ := by
  obtain ⟨a⟩ := w
  have : a = #[c] := by
    apply Array.ext'
    simpa using h
  rw [this]
theorem any_py {x : D} {q : PyData} (hq : toPy x = some q) : ∀ {l : List D} {p : List PyData}, toPys l = some p → (p.any fun z => PyData.eqv z q) = l.any fun e => deq e x
  | [], p, e => by
    simp only [toPys] at e
    cases e
    rfl
  | d :: l, p, e => by
    simp only [toPys, Option.bind_eq_some_iff, Option.map_eq_some_iff] at e
    obtain ⟨a, a1, r, a2, rfl⟩ := e
    rw [List.any_cons, List.any_cons, deq_py a1 hq, any_py hq a2]
theorem inB_ok {F H : Hp} (s : Sub F H) {x y : V} {dx dy : D} {b : Bool} (hx : RpP K F H dx x) (hy : RpP K F H dy y) (e : inB dx dy = some b) :
    (∃ (c : Nat) (z : Str), x = .str ⟨#[c]⟩ ∧ y = .str z ∧ decide (c ∈ z.cps.toList) = b) ∨ (∃ d ds, Dp K H x d ∧ Dp K H y (.list ds) ∧ SeqAt.shaped d = true ∧ SeqAt.shaped (.list ds) = true ∧ (ds.any fun z => PyData.eqv z d) = b) ∨
    ∃ d ds, Dp K H x d ∧ Dp K H y (.tuple ds) ∧ SeqAt.shaped d = true ∧ SeqAt.shaped (.tuple ds) = true ∧ (ds.any fun z => PyData.eqv z d) = b := by
  have rows : ∀ l, seqD dy = some l → (if cmpb dx && cmpb dy then some (l.any fun e => deq e dx) else none) = some b → (∃ ps, toPy dy = (toPys l).map ps ∧ (ps = .list ∨ ps = .tuple)) →
      ((∃ d ds, Dp K H x d ∧ Dp K H y (.list ds) ∧ SeqAt.shaped d = true ∧ SeqAt.shaped (.list ds) = true ∧ (ds.any fun z => PyData.eqv z d) = b) ∨
    ∃ d ds, Dp K H x d ∧ Dp K H y (.tuple ds) ∧ SeqAt.shaped d = true ∧ SeqAt.shaped (.tuple ds) = true ∧ (ds.any fun z => PyData.eqv z d) = b) := fun l hl e ⟨ps, hp, hk⟩ => by
    split at e
    · rename_i hc
      cases e
      rw [Bool.and_eq_true] at hc
      obtain ⟨p, p1, p2⟩ := cmpb_ok hc.1
      obtain ⟨q, q1, q2⟩ := cmpb_ok hc.2
      have hq := q1
      rw [hp, Option.map_eq_some_iff] at hq
      obtain ⟨ds, d1, d2⟩ := hq
      rcases hk with hk | hk
      · subst hk
        subst d2
        exact .inl ⟨p, ds, dpp_of s hx p1, dpp_of s hy q1, p2, q2, any_py p1 d1⟩
      · subst hk
        subst d2
        exact .inr ⟨p, ds, dpp_of s hx p1, dpp_of s hy q1, p2, q2, any_py p1 d1⟩
    · cases e
  cases dy with
  | str z =>
    left
    cases dx with
    | str w =>
      simp only [inB] at e
      split at e
      · rename_i c hc
        cases e
        cases hx
        cases hy
        exact ⟨c, z, by rw [sgn_of hc], rfl, rfl⟩
      · cases e
    | _ => cases e
  | lst l => exact .inr (rows l rfl e ⟨.list, by simp only [toPy], .inl rfl⟩)
  | rol l => exact .inr (rows l rfl e ⟨.list, by simp only [toPy], .inl rfl⟩)
  | tup l => exact .inr (rows l rfl e ⟨.tuple, by simp only [toPy], .inr rfl⟩)
  | tuk l => exact .inr (rows l rfl e ⟨.tuple, by simp only [toPy], .inr rfl⟩)
  | _ => cases e
def inD (x y : D) : Option Rv := (inB x y).map fun b => .d (.bl b)
def notInD (x y : D) : Option Rv := (inB x y).map fun b => .d (.bl !b)
theorem o2_in : Op2 K (rInA K) inD := by
  intro F H x y dx dy Q s hx hy ho
  unfold inD at ho
  cases e : inB dx dy with
  | none => rw [e] at ho; exact ho.elim
  | some b =>
    rw [e] at ho
    rcases inB_ok s hx hy e with ⟨c, z, h1, h2, h3⟩ | ⟨d, ds, h1, h2, h3, h4, h5⟩ | ⟨d, ds, h1, h2, h3, h4, h5⟩
    · exact .inl ⟨c, z, h1, h2, by rw [h3]; exact outD s ho (.bl _)⟩
    · exact .inr (.inl ⟨d, ds, h1, h2, h3, h4, by rw [h5]; exact outD s ho (.bl _)⟩)
    · exact .inr (.inr ⟨d, ds, h1, h2, h3, h4, by rw [h5]; exact outD s ho (.bl _)⟩)
theorem o2_notIn : Op2 K (rNotInA K) notInD := by
  intro F H x y dx dy Q s hx hy ho
  unfold notInD at ho
  cases e : inB dx dy with
  | none => rw [e] at ho; exact ho.elim
  | some b =>
    rw [e] at ho
    rcases inB_ok s hx hy e with ⟨c, z, h1, h2, h3⟩ | ⟨d, ds, h1, h2, h3, h4, h5⟩ | ⟨d, ds, h1, h2, h3, h4, h5⟩
    · exact .inl ⟨c, z, h1, h2, by rw [h3]; exact outD s ho (.bl _)⟩
    · exact .inr (.inl ⟨d, ds, h1, h2, h3, h4, by rw [h5]; exact outD s ho (.bl _)⟩)
    · exact .inr (.inr ⟨d, ds, h1, h2, h3, h4, by rw [h5]; exact outD s ho (.bl _)⟩)

/-! ## isinstance -/
/-- a value's type, as a name of a built-in one -/
def tyD : D → Option String
  | .non => some "NoneType"
  | .bl _ => some "bool"
  | .int _ => some "int"
  | .str _ => some "str"
  | .tup _ => some "tuple"
  | .tuk _ => some "tuple"
  | .lst _ => some "list"
  | .rol _ => some "list"
  | _ => none
theorem sqT_ty {H : Hp} {a : Addr} {xs : List V} (h : SqT K H a xs) : TyX K H (.ref a) (.type "tuple") := by
  rcases h with (h | ⟨o, h⟩) | ⟨o, its, n, h1, h2, _⟩
  · exact .base (.tup h)
  · exact .fTuple h
  · exact .kTuple h1 h2
theorem sqL_ty {H : Hp} {a : Addr} {xs : List V} (h : SqL K H a xs) : TyX K H (.ref a) (.type "list") := by
  rcases h with (h | ⟨o, h⟩) | ⟨o, its, n, h1, h2, _⟩
  · exact .base (.lst h)
  · exact .base (.frz h)
  · exact .kList h1 h2
theorem tyD_ok {F H : Hp} (s : Sub F H) {d : D} {v : V} {t : String} (h : RpP K F H d v) (e : tyD d = some t) : TyX K H v (.type t) := by
  cases d with
  | non => cases h; cases e; exact .base .non
  | bl b => cases h; cases e; exact .base (.bl b)
  | int b => cases h; cases e; exact .base (.int b)
  | str b => cases h; cases e; exact .base (.str b)
  | tup l =>
    cases h with
    | tup h1 r => cases e; exact sqT_ty (s.t (SqT.of h1))
  | tuk l =>
    cases h with
    | tuk h1 r => cases e; exact sqT_ty (s.t h1)
  | lst l =>
    obtain ⟨a, xs, rfl, h1, r⟩ := h
    cases e
    exact .base (.lst h1)
  | rol l =>
    cases h with
    | rol h1 r => cases e; exact sqL_ty (s.l h1)
  | _ => cases e
/-- own classes whose instances may be asked about, with all they are -/
structure ClsI (K : PySem.W.Frag) (C : Addr) : Prop where
  cl : Cls K C
  all : PySem.W.findIn K (.ref C) "__class__" = some (some (.builtin "object.__class__")) ∧ PySem.W.specialIn K (.builtin "object.__class__") "__get__" = some (some (.builtin "getset_descriptor.__get__")) ∧ PySem.W.takesIn K (.builtin "object.__class__") = some true ∧ PySem.W.mroIn K C (.type "object") = some true
/-- a table of answers: by the type's name | by the class -/
structure IsTab where
  b : List (String × Bool)
  c : List (Addr × Bool)
def IsTab.ok (K : PySem.W.Frag) (T : IsTab) (us : List Value) : Prop := (∀ p ∈ T.b, PySem.W.kitAny K (.type p.1) us = some p.2) ∧ ∀ p ∈ T.c, ClsI K p.1 ∧ PySem.W.kitAny K (.ref p.1) us = some p.2
def isiB (T : IsTab) : D → Option Bool
  | .obj C _ => T.c.lookup C
  | d => (tyD d).bind fun t => T.b.lookup t
theorem lookup_mem {α β : Type} [BEq α] [LawfulBEq α] {a : α} {b : β} : ∀ {l : List (α × β)}, l.lookup a = some b → (a, b) ∈ l
  | [], h => by cases h
  | (x, y) :: l, h => by
    simp only [List.lookup] at h
    cases e : (a == x) with
    | true =>
      rw [e] at h
      cases h
      rw [eq_of_beq e]
      exact List.mem_cons_self
    | false =>
      rw [e] at h
      exact List.mem_cons_of_mem _ (lookup_mem h)
theorem isi_ok {F H : Hp} (s : Sub F H) {T : IsTab} {us : List Value} (hT : T.ok K us) {d : D} {v : V} {b : Bool} (h : RpP K F H d v) (e : isiB T d = some b) : ∃ t, TyX K H v t ∧ PySem.W.kitAny K t us = some b := by
  have flat : (tyD d).bind (fun t => T.b.lookup t) = some b → ∃ t, TyX K H v t ∧ PySem.W.kitAny K t us = some b := fun e => by
    rw [Option.bind_eq_some_iff] at e
    obtain ⟨t, e1, e2⟩ := e
    exact ⟨_, tyD_ok s h e1, hT.1 _ (lookup_mem e2)⟩
  cases d with
  | obj C l =>
    obtain ⟨a, dx, fs, rfl, h1, r⟩ := h
    obtain ⟨c, k⟩ := hT.2 _ (lookup_mem (show T.c.lookup C = some b from e))
    exact ⟨_, .base (.ins h1 c.cl c.all.1 c.all.2.1 c.all.2.2.1 c.all.2.2.2), k⟩
  | _ => exact flat e
def mIsi (T : IsTab) (me : M Rv) : M Rv := mUn (fun d => (isiB T d).map fun b => .d (.bl b)) me
theorem kitAny_one {t u : Value} {b : Bool} (h : PySem.W.kitAny K t [u] = some b) : PySem.W.kitOne K t u = some b := by
  unfold PySem.W.kitAny at h
  cases e : PySem.W.kitOne K t u with
  | none => (rw [e] at h; cases h)
  | some c =>
    rw [e] at h
    cases c with
    | true => cases h; rfl
    | false => exact h
/-- isinstance(x, c) -/
theorem ev_isi1 {W : WX} {T : IsTab} {c : V} {u : Value} {te : TE} {me : M Rv} (hc : ClsV c u) (hT : T.ok K [u]) (h : EvX K W te me) : EvX K W (tCB (rIsi K) (tCons te (tCons (tC c) tNil))) (mIsi T me) := by
  intro F H σ s Q rs w
  refine h.step (Go.refl rs) w fun r1 s1 v1 F1 H1 g1 _ h1 w1 => ?_
  obtain ⟨x, ex, w3⟩ := opt_wn w1
  have ho : OutOk K F1 H1 Q ((isiB T x).map fun b => .d (.bl b)) := out_ok g1 w3
  cases e : isiB T x with
  | none => rw [e] at ho; exact ho.elim
  | some b =>
    rw [e] at ho
    obtain ⟨t, t1, t2⟩ := isi_ok g1.rs.sub hT (pk_ok g1.rs h1 ex) e
    exact ⟨v1, c, t, u, b, rfl, hc, t1, kitAny_one t2, outD g1.rs.sub ho (.bl _)⟩
/-- all of them constants -/
def tCs : List V → TA
  | [] => tNil
  | c :: cs => tCons (tC c) (tCs cs)
theorem tCs_run {σ : L2.St} {H : Hp} : ∀ {cs : List V} {Q : List V → Hp → Prop}, Q cs H → tCs cs σ H Q
  | [], Q, h => h
  | c :: cs, Q, h => tCs_run (cs := cs) (Q := fun vs H1 => Q (c :: vs) H1) h
/-- isinstance(x, (c1, c2, ..)) -/
theorem ev_isiT {W : WX} {T : IsTab} {cs : List V} {us : List Value} {te : TE} {me : M Rv} (hc : Paired ClsV cs us) (hz : cs.length ≤ sizeLine) (hT : T.ok K us) (h : EvX K W te me) : EvX K W (tCB (rIsiT K) (tCons te (tCons (tTup (tCs cs)) tNil))) (mIsi T me) := by
  intro F H σ s Q rs w
  refine h.step (Go.refl rs) w fun r1 s1 v1 F1 H1 g1 _ h1 w1 => ?_
  obtain ⟨x, ex, w3⟩ := opt_wn w1
  refine tCs_run ⟨hz, fun p hp => ?_⟩
  have al := Al.new (ho := .tup cs) g1.rs.sub hp
  have g2 := g1.al al
  have ho : OutOk K (upd F1 p (.tup cs)) (upd H1 p (.tup cs)) Q ((isiB T x).map fun b => .d (.bl b)) := out_ok g2 w3
  cases e : isiB T x with
  | none => rw [e] at ho; exact ho.elim
  | some b =>
    rw [e] at ho
    have hx := pk_ok g2.rs (h1.go ((Go.refl g1.rs).al al)) ex
    obtain ⟨t, t1, t2⟩ := isi_ok g2.rs.sub hT hx e
    exact ⟨v1, p, cs, t, us, b, rfl, upd_same, hc, t1, t2, outD g2.rs.sub ho (.bl _)⟩
end Cz

/-! # CzM -/
namespace Cz
open L2 PyProof.Rows PySem.Spec PySem
variable {K : PySem.W.Frag}

/-! ## to sort -/
section
variable {α : Type} (lt : α → α → Bool)
def insr (x : α) : List α → List α
  | [] => [x]
  | y :: ys => if lt y x then y :: insr x ys else x :: y :: ys
def srt : List α → List α
  | [] => []
  | x :: xs => insr lt x (srt xs)
theorem insr_perm (x : α) : ∀ l : List α, (insr lt x l).Perm (x :: l)
  | [] => List.Perm.refl _
  | y :: ys => by
    unfold insr
    split
    · exact ((insr_perm x ys).cons y).trans (List.Perm.swap x y ys)
    · exact List.Perm.refl _
theorem srt_perm : ∀ l : List α, (srt lt l).Perm l
  | [] => List.Perm.refl _
  | x :: xs => (insr_perm lt x _).trans ((srt_perm xs).cons x)
variable {lt}
theorem insr_srt (tr : ∀ a b c, lt b a = false → lt c b = false → lt c a = false) (as : ∀ a b, lt a b = true → lt b a = false) (x : α) : ∀ {l : List α}, l.Pairwise (fun a b => lt b a = false) → (insr lt x l).Pairwise (fun a b => lt b a = false)
  | [], _ => List.pairwise_singleton _ _
  | y :: ys, h => by
    rw [List.pairwise_cons] at h
    unfold insr
    split
    · rename_i e
      rw [List.pairwise_cons]
      refine ⟨fun z hz => ?_, insr_srt tr as x h.2⟩
      rcases List.mem_cons.mp ((insr_perm lt x ys).mem_iff.mp hz) with rfl | hz
      · exact as _ _ e
      · exact h.1 z hz
    · rename_i e
      have e' : lt y x = false := by simpa using e
      rw [List.pairwise_cons]
      refine ⟨fun z hz => ?_, List.pairwise_cons.mpr h⟩
      (rcases List.mem_cons.mp hz with rfl | hz)
      · exact e'
      · exact tr _ _ _ e' (h.1 z hz)
theorem srt_srt (tr : ∀ a b c, lt b a = false → lt c b = false → lt c a = false) (as : ∀ a b, lt a b = true → lt b a = false) : ∀ l : List α, (srt lt l).Pairwise (fun a b => lt b a = false)
  | [] => .nil
  | x :: xs => insr_srt tr as x (srt_srt tr as xs)
theorem srt_eq (tr : ∀ a b c, lt b a = false → lt c b = false → lt c a = false) (as : ∀ a b, lt a b = true → lt b a = false) (an : ∀ a b, lt a b = false → lt b a = false → a = b) {l m : List α} (p : m.Perm l) (h : m.Pairwise (fun a b => lt b a = false)) : m = srt lt l :=
  List.Perm.eq_of_pairwise (fun a b _ _ h1 h2 => an a b h2 h1) h (srt_srt tr as l) (p.trans (srt_perm lt l).symm)
end
abbrev iLt (a b : Int) : Bool := decide (a < b)
theorem srtI_eq {l m : List Int} (p : m.Perm l) (h : m.Pairwise (· ≤ ·)) : m = srt iLt l :=
  srt_eq (lt := iLt) (fun a b c h1 h2 => by simp at h1 h2 ⊢; omega) (fun a b h => by simp at h ⊢; omega) (fun a b h1 h2 => by simp at h1 h2; omega) p (h.imp fun {a b} q => by simp; omega)
theorem cps_eq {a b : Str} (h : a.cps.toList = b.cps.toList) : a = b := by
  obtain ⟨x⟩ := a
  obtain ⟨y⟩ := b
  congr 1
  exact Array.ext' h
theorem sLt_tr {a b c : Str} (h1 : sLt b a = false) (h2 : sLt c b = false) : sLt c a = false := by
  simp only [sLt, decide_eq_false_iff_not, List.not_lt] at h1 h2 ⊢
  exact List.le_trans h1 h2
theorem sLt_as {a b : Str} (h : sLt a b = true) : sLt b a = false := by
  simp only [sLt, decide_eq_true_eq, decide_eq_false_iff_not] at h ⊢
  exact List.lt_asymm h
theorem sLt_an {a b : Str} (h1 : sLt a b = false) (h2 : sLt b a = false) : a = b := by
  simp only [sLt, decide_eq_false_iff_not, List.not_lt] at h1 h2
  exact cps_eq (List.le_antisymm h2 h1)
theorem rising_pw : ∀ {l : List Str} {p : Str}, risingS p l = true → (p :: l).Pairwise (fun a b => sLt b a = false)
  | [], p, _ => List.pairwise_singleton _ _
  | x :: r, p, h => by
    unfold risingS at h
    rw [Bool.and_eq_true] at h
    have hx : sLt x p = false := by
      have h1 := h.1
      rw [Bool.not_eq_true', ltCps_eq] at h1
      exact h1
    have hr := rising_pw h.2
    refine List.pairwise_cons.mpr ⟨fun z hz => ?_, hr⟩
    (rcases List.mem_cons.mp hz with rfl | hz)
    · exact hx
    · exact sLt_tr hx ((List.pairwise_cons.mp hr).1 z hz)
theorem srtS_eq {l m : List Str} (p : m.Perm l) (h : sortedS m = true) : m = srt sLt l := by
  refine srt_eq (lt := sLt) (fun _ _ _ => sLt_tr) (fun _ _ => sLt_as) (fun _ _ => sLt_an) p ?_
  cases m with
  | nil => exact .nil
  | cons x r => exact rising_pw h

/-! ## rows of intsD, texts, truths -/
def intsD : List D → Option (List Int)
  | [] => some []
  | .int i :: r => (intsD r).map (i :: ·)
  | _ :: _ => none
def strsD : List D → Option (List Str)
  | [] => some []
  | .str i :: r => (strsD r).map (i :: ·)
  | _ :: _ => none
def blsD : List D → Option (List Bool)
  | [] => some []
  | .bl i :: r => (blsD r).map (i :: ·)
  | _ :: _ => none
theorem ints_ok {F : Hp} : ∀ {l : List D} {xs : List V} {ns : List Int}, RpL K F l xs → intsD l = some ns → xs = ns.map V.int ∧ l = ns.map D.int
  | _, _, ns, .nil, e => by cases e; exact ⟨rfl, rfl⟩
  | d :: ds, _, ns, .cons h r, e => by
    cases d with
    | int i =>
      simp only [intsD, Option.map_eq_some_iff] at e
      obtain ⟨m, e1, rfl⟩ := e
      cases h
      obtain ⟨h1, h2⟩ := ints_ok r e1
      rw [h1, h2]
      exact ⟨rfl, rfl⟩
    | _ => cases e
theorem strs_ok {F : Hp} : ∀ {l : List D} {xs : List V} {ns : List Str}, RpL K F l xs → strsD l = some ns → xs = ns.map V.str ∧ l = ns.map D.str
  | _, _, ns, .nil, e => by cases e; exact ⟨rfl, rfl⟩
  | d :: ds, _, ns, .cons h r, e => by
    cases d with
    | str i =>
      simp only [strsD, Option.map_eq_some_iff] at e
      obtain ⟨m, e1, rfl⟩ := e
      cases h
      obtain ⟨h1, h2⟩ := strs_ok r e1
      rw [h1, h2]
      exact ⟨rfl, rfl⟩
    | _ => cases e
theorem bls_ok {F : Hp} : ∀ {l : List D} {xs : List V} {ns : List Bool}, RpL K F l xs → blsD l = some ns → xs = ns.map V.bl
  | _, _, ns, .nil, e => by cases e; rfl
  | d :: ds, _, ns, .cons h r, e => by
    cases d with
    | bl i =>
      simp only [blsD, Option.map_eq_some_iff] at e
      obtain ⟨m, e1, rfl⟩ := e
      cases h
      rw [bls_ok r e1]
      rfl
    | _ => cases e
theorem rpI {F : Hp} : ∀ ns : List Int, RpL K F (ns.map D.int) (ns.map V.int)
  | [] => .nil
  | n :: ns => .cons (.int n) (rpI ns)
theorem rpS {F : Hp} : ∀ ns : List Str, RpL K F (ns.map D.str) (ns.map V.str)
  | [] => .nil
  | n :: ns => .cons (.str n) (rpS ns)
/-- a list, as it stands -/
def lstD : D → Option (List D)
  | .lst l => some l
  | .rol l => some l
  | _ => none
theorem lst_ok {F H : Hp} (s : Sub F H) {d : D} {v : V} {l : List D} (h : RpP K F H d v) (e : lstD d = some l) : ∃ a xs, v = .ref a ∧ SqL K H a xs ∧ RpL K F l xs := by
  cases d with
  | lst m =>
    cases e
    obtain ⟨a, xs, rfl, h1, r⟩ := h
    exact ⟨a, xs, rfl, SqL.of h1, r⟩
  | rol m =>
    cases e
    cases h with
    | rol h1 r => exact ⟨_, _, rfl, s.l h1, r⟩
  | _ => cases e

/-! ## tuple(x), list(x) -/
def tupD : D → Option Rv
  | .lst l => some (.d (.tup l))
  | .rol l => some (.d (.tup l))
  | .tup l => some (.d (.tup l))
  | .tuk l => some (.d (.tuk l))
  | _ => none
def rTupOf (K : PySem.W.Frag) : List V → Hp → VK → Prop := fun xs H Q => ∃ p ys, xs = [.ref p] ∧ ((SqL K H p ys ∧ ∀ l, H l = none → Q (.ref l) (upd H l (.tup ys))) ∨ (SqT K H p ys ∧ Q (.ref p) H))
theorem cr_tupOf {X : Cx} : CallR X (.type "tuple") (rTupOf X.K) := call_tuple_of
theorem c1_tup : Op1 K (fun x H Q => rTupOf K [x] H Q) tupD := by
  intro F H x dx Q s hx ho
  have hx0 := hx
  have seq : ∀ l, lstD dx = some l → OutOk K F H Q (some (.d (.tup l))) → rTupOf K [x] H Q := fun l h1 ho => by
    obtain ⟨a, xs, rfl, h, r⟩ := lst_ok s hx h1
    exact ⟨a, xs, rfl, .inl ⟨h, outN s ho r⟩⟩
  cases dx with
  | lst l => exact seq l rfl ho
  | rol l => exact seq l rfl ho
  | tup l =>
    cases hx with
    | tup h1 r => exact ⟨_, _, rfl, .inr ⟨s.t (SqT.of h1), outD s ho hx0⟩⟩
  | tuk l =>
    cases hx with
    | tuk h1 r => exact ⟨_, _, rfl, .inr ⟨s.t h1, outD s ho hx0⟩⟩
  | _ => exact ho.elim
def listD (d : D) : Option Rv := (seqD d).map fun l => .o (.lst l)
def rLstOf (K : PySem.W.Frag) : List V → Hp → VK → Prop := fun xs H Q => ∃ p ys, xs = [.ref p] ∧ (SqL K H p ys ∨ SqT K H p ys) ∧ ∀ l, H l = none → Q (.ref l) (upd H l (.lst ys))
theorem cr_lstOf {X : Cx} : CallR X (.type "list") (rLstOf X.K) := call_list_of
theorem c1_lst : Op1 K (fun x H Q => rLstOf K [x] H Q) listD := by
  intro F H x dx Q s hx ho
  unfold listD at ho
  cases e : seqD dx with
  | none => rw [e] at ho; exact ho.elim
  | some l =>
    rw [e] at ho
    obtain ⟨a, xs, rfl, r, h⟩ := hx.seq s e
    refine ⟨a, xs, rfl, ?_, outL s ho r⟩
    rcases h with ⟨h, _⟩ | ⟨h, _⟩
    · exact .inl h
    · exact .inr h

/-! ## int(x), abs(x) -/
def rInt1 : List V → Hp → VK → Prop := fun xs H Q => (∃ i, xs = [.int i] ∧ Q (.int i) H) ∨ ∃ k, xs = [.bl k] ∧ Q (.int (if k then 1 else 0)) H
theorem cr_int1 {X : Cx} : CallR X (.type "int") rInt1 := call_int1
def int1D : D → Option Rv
  | .int i => some (.d (.int i))
  | .bl k => some (.d (.int (if k then 1 else 0)))
  | _ => none
theorem c1_int : Op1 K (fun x H Q => rInt1 [x] H Q) int1D := by
  intro F H x dx Q s hx ho
  cases dx with
  | int i => cases hx; exact .inl ⟨i, rfl, outD s ho (.int _)⟩
  | bl i => cases hx; exact .inr ⟨i, rfl, outD s ho (.int _)⟩
  | _ => exact ho.elim
def rAbs1 : List V → Hp → VK → Prop := fun xs H Q => ∃ i, xs = [.int i] ∧ Q (.int (if i < 0 then -i else i)) H
theorem cr_abs1 {X : Cx} : CallR X (.builtin "abs") rAbs1 := call_abs
def absD : D → Option Rv
  | .int i => some (.d (.int (if i < 0 then -i else i)))
  | _ => none
theorem c1_abs : Op1 K (fun x H Q => rAbs1 [x] H Q) absD := by
  intro F H x dx Q s hx ho
  cases dx with
  | int i => cases hx; exact ⟨i, rfl, outD s ho (.int _)⟩
  | _ => exact ho.elim

/-! ## min, max, sum, all, any, sorted -/
def rMin2 : List V → Hp → VK → Prop := fun xs H Q => ∃ i j, xs = [.int i, .int j] ∧ Q (.int (if j < i then j else i)) H
def rMax2 : List V → Hp → VK → Prop := fun vs H Q => ∃ i j, vs = [.int i, .int j] ∧ Q (.int (if j > i then j else i)) H
theorem cr_min2 {X : Cx} (hc : X.calm = true) : CallR X (.builtin "min") rMin2 := call_min2 hc
theorem cr_max2 {X : Cx} (hc : X.calm = true) : CallR X (.builtin "max") rMax2 := call_max2 hc
def min2D : List D → Option Rv
  | [.int i, .int j] => some (.d (.int (if j < i then j else i)))
  | _ => none
def max2D : List D → Option Rv
  | [.int i, .int j] => some (.d (.int (if j > i then j else i)))
  | _ => none
theorem two_ok {F : Hp} {ds : List D} {vs : List V} {i j : Int} (h : RpL K F ds vs) (e : ds = [.int i, .int j]) : vs = [.int i, .int j] := by
  subst e
  cases h with
  | cons a r =>
    cases a
    cases r with
    | cons b r =>
      cases b
      cases r
      rfl
theorem co_min2 : CallOk K rMin2 min2D := by
  intro F H vs ds Q s h ho
  unfold min2D at ho
  split at ho
  · rename_i i j
    exact ⟨i, j, two_ok h rfl, outD s ho (.int _)⟩
  · exact ho.elim
theorem co_max2 : CallOk K rMax2 max2D := by
  intro F H vs ds Q s h ho
  unfold max2D at ho
  split at ho
  · rename_i i j
    exact ⟨i, j, two_ok h rfl, outD s ho (.int _)⟩
  · exact ho.elim
def least (n : Int) : List Int → Int
  | [] => n
  | m :: r => least (if m < n then m else n) r
def most (n : Int) : List Int → Int
  | [] => n
  | m :: r => most (if m > n then m else n) r
theorem least_le : ∀ (l : List Int) (n : Int), (least n l = n ∨ least n l ∈ l) ∧ least n l ≤ n ∧ ∀ y ∈ l, least n l ≤ y
  | [], n => ⟨.inl rfl, Int.le_refl _, fun _ h => by cases h⟩
  | m :: r, n => by
    obtain ⟨h1, h2, h3⟩ := least_le r (if m < n then m else n)
    simp only [least]
    refine ⟨?_, ?_, fun y hy => ?_⟩
    · rcases h1 with h1 | h1
      · rw [h1]
        split
        · exact .inr List.mem_cons_self
        · exact .inl rfl
      · exact .inr (List.mem_cons_of_mem _ h1)
    · have q : (if m < n then m else n) ≤ n := by split <;> omega
      omega
    · (rcases List.mem_cons.mp hy with rfl | hy)
      · have q : (if y < n then y else n) ≤ y := by split <;> omega
        omega
      · exact h3 y hy
theorem most_le : ∀ (l : List Int) (n : Int), (most n l = n ∨ most n l ∈ l) ∧ n ≤ most n l ∧ ∀ y ∈ l, y ≤ most n l
  | [], n => ⟨.inl rfl, Int.le_refl _, fun _ h => by cases h⟩
  | m :: r, n => by
    obtain ⟨h1, h2, h3⟩ := most_le r (if m > n then m else n)
    simp only [most]
    refine ⟨?_, ?_, fun y hy => ?_⟩
    · rcases h1 with h1 | h1
      · rw [h1]
        split
        · exact .inr List.mem_cons_self
        · exact .inl rfl
      · exact .inr (List.mem_cons_of_mem _ h1)
    · have q : n ≤ (if m > n then m else n) := by split <;> omega
      omega
    · (rcases List.mem_cons.mp hy with rfl | hy)
      · have q : y ≤ (if y > n then y else n) := by split <;> omega
        omega
      · exact h3 y hy
def minD (d : D) : Option Rv := (lstD d).bind fun l => (intsD l).bind fun ns => match ns with
  | [] => none
  | n :: r => some (.d (.int (least n r)))
def maxD (d : D) : Option Rv := (lstD d).bind fun l => (intsD l).bind fun ns => match ns with
  | [] => none
  | n :: r => some (.d (.int (most n r)))
theorem c1_min : Op1 K (fun x H Q => rMin K [x] H Q) minD := by
  intro F H x dx Q s hx ho
  unfold minD at ho
  cases e : lstD dx with
  | none => rw [e] at ho; exact ho.elim
  | some l =>
    cases e2 : intsD l with
    | none => rw [e, Option.bind_some, e2] at ho; exact ho.elim
    | some ns =>
      rw [e, Option.bind_some, e2, Option.bind_some] at ho
      obtain ⟨a, xs, rfl, h, r⟩ := lst_ok s hx e
      obtain ⟨rfl, _⟩ := ints_ok r e2
      cases ns with
      | nil => exact ho.elim
      | cons n r' =>
        refine ⟨a, n :: r', rfl, h, Nat.succ_pos _, fun m hm hle => ?_⟩
        obtain ⟨h1, h2, h3⟩ := least_le r' n
        have : m = least n r' := by
          have a1 : m ≤ least n r' := by
            rcases h1 with h1 | h1
            · rw [h1]; exact hle _ List.mem_cons_self
            · exact hle _ (List.mem_cons_of_mem _ h1)
          have a2 : least n r' ≤ m := by
            (rcases List.mem_cons.mp hm with rfl | hm)
            · exact h2
            · exact h3 m hm
          omega
        rw [this]
        exact outD s ho (.int _)
theorem c1_max : Op1 K (fun x H Q => rMax K [x] H Q) maxD := by
  intro F H x dx Q s hx ho
  unfold maxD at ho
  cases e : lstD dx with
  | none => rw [e] at ho; exact ho.elim
  | some l =>
    cases e2 : intsD l with
    | none => rw [e, Option.bind_some, e2] at ho; exact ho.elim
    | some ns =>
      rw [e, Option.bind_some, e2, Option.bind_some] at ho
      obtain ⟨a, xs, rfl, h, r⟩ := lst_ok s hx e
      obtain ⟨rfl, _⟩ := ints_ok r e2
      cases ns with
      | nil => exact ho.elim
      | cons n r' =>
        refine ⟨a, n :: r', rfl, h, Nat.succ_pos _, fun m hm hle => ?_⟩
        obtain ⟨h1, h2, h3⟩ := most_le r' n
        have : m = most n r' := by
          have a1 : most n r' ≤ m := by
            rcases h1 with h1 | h1
            · rw [h1]; exact hle _ List.mem_cons_self
            · exact hle _ (List.mem_cons_of_mem _ h1)
          have a2 : m ≤ most n r' := by
            (rcases List.mem_cons.mp hm with rfl | hm)
            · exact h2
            · exact h3 m hm
          omega
        rw [this]
        exact outD s ho (.int _)
def sumD (d : D) : Option Rv := (lstD d).bind fun l => (intsD l).map fun ns => .d (.int ns.sum)
theorem c1_sum : Op1 K (fun x H Q => rSum K [x] H Q) sumD := by
  intro F H x dx Q s hx ho
  unfold sumD at ho
  cases e : lstD dx with
  | none => rw [e] at ho; exact ho.elim
  | some l =>
    cases e2 : intsD l with
    | none => rw [e, Option.bind_some, e2] at ho; exact ho.elim
    | some ns =>
      rw [e, Option.bind_some, e2] at ho
      obtain ⟨a, xs, rfl, h, r⟩ := lst_ok s hx e
      obtain ⟨rfl, _⟩ := ints_ok r e2
      exact ⟨a, ns, rfl, h, outD s ho (.int _)⟩
def allB (d : D) : Option Rv := (lstD d).bind fun l => (blsD l).map fun ns => .d (.bl (ns.all id))
def anyB (d : D) : Option Rv := (lstD d).bind fun l => (blsD l).map fun ns => .d (.bl (ns.any id))
theorem c1_all : Op1 K (fun x H Q => rAll K [x] H Q) allB := by
  intro F H x dx Q s hx ho
  unfold allB at ho
  cases e : lstD dx with
  | none => rw [e] at ho; exact ho.elim
  | some l =>
    cases e2 : blsD l with
    | none => rw [e, Option.bind_some, e2] at ho; exact ho.elim
    | some ns =>
      rw [e, Option.bind_some, e2] at ho
      obtain ⟨a, xs, rfl, h, r⟩ := lst_ok s hx e
      have hr := bls_ok r e2
      subst hr
      exact ⟨a, ns, rfl, h, outD s ho (.bl _)⟩
theorem c1_any : Op1 K (fun x H Q => rAny K [x] H Q) anyB := by
  intro F H x dx Q s hx ho
  unfold anyB at ho
  cases e : lstD dx with
  | none => rw [e] at ho; exact ho.elim
  | some l =>
    cases e2 : blsD l with
    | none => rw [e, Option.bind_some, e2] at ho; exact ho.elim
    | some ns =>
      rw [e, Option.bind_some, e2] at ho
      obtain ⟨a, xs, rfl, h, r⟩ := lst_ok s hx e
      have hr := bls_ok r e2
      subst hr
      exact ⟨a, ns, rfl, h, outD s ho (.bl _)⟩
/-- sorted of intsD, of fewer than 64 texts -/
def sortD (d : D) : Option Rv := (lstD d).bind fun l => match intsD l with
  | some ns => some (.o (.lst ((srt iLt ns).map .int)))
  | none => (strsD l).bind fun zs => if zs.length < 64 then some (.o (.lst ((srt sLt zs).map .str))) else none
def rSortA (K : PySem.W.Frag) : List V → Hp → VK → Prop := fun vs H Q => rSortedI K vs H Q ∨ rSortedS K vs H Q
theorem cr_sortA {X : Cx} : CallR X (.builtin "sorted") (rSortA X.K) := callr_or cr_sortedI cr_sortedS
theorem c1_sort : Op1 K (fun x H Q => rSortA K [x] H Q) sortD := by
  intro F H x dx Q s hx ho
  unfold sortD at ho
  cases e : lstD dx with
  | none => rw [e] at ho; exact ho.elim
  | some l =>
    rw [e, Option.bind_some] at ho
    obtain ⟨a, xs, rfl, h, r⟩ := lst_ok s hx e
    cases e2 : intsD l with
    | some ns =>
      rw [e2] at ho
      obtain ⟨rfl, _⟩ := ints_ok r e2
      refine .inl ⟨a, ns, rfl, h, fun ns' p h1 h2 hp => ?_⟩
      rw [srtI_eq h1 h2]
      exact outL s ho (rpI _) p hp
    | none =>
      rw [e2] at ho
      cases e3 : strsD l with
      | none => rw [e3] at ho; exact ho.elim
      | some zs =>
        rw [e3] at ho
        obtain ⟨rfl, _⟩ := strs_ok r e3
        have ho' : OutOk K F H Q (if zs.length < 64 then some (.o (.lst ((srt sLt zs).map .str))) else none) := ho
        split at ho'
        · rename_i hz
          refine .inr ⟨a, zs, rfl, h, hz, fun ys p h1 h2 hp => ?_⟩
          rw [srtS_eq h1 h2]
          exact outL s ho' (rpS _) p hp
        · exact ho'.elim

/-! ## sep.join(texts), the separator a constant -/
def joinD (a : Str) (y : D) : Option Rv := (seqD y).bind fun l => (strsD l).bind fun zs => if (zs.map (·.length)).sum + zs.length * a.length ≤ 16777216 then some (.d (.str (Txt.join a zs))) else none
def rJoin (K : PySem.W.Frag) : V → List V → Hp → VK → Prop := fun x xs H Q => ∃ a p, ∃ ys : List Str, x = .str a ∧ xs = [.ref p] ∧ (SqL K H p (ys.map V.str) ∨ SqT K H p (ys.map V.str)) ∧
      (ys.map (·.length)).sum + ys.length * a.length ≤ 16777216 ∧ Q (.str (Txt.join a ys)) H
theorem ev_join {W : WX} {a : Str} {tb : TE} {mb : M Rv} (hb : EvX K W tb mb) : EvX K W (tM1 (rJoin K) (tC (.str a)) tb) (mUn (joinD a) mb) := by
  intro F H σ s Q rs w
  refine ⟨⟨a, rfl⟩, hb.step (Go.refl rs) w fun r1 s1 v1 F1 H1 g1 _ h1 w1 => ?_⟩
  obtain ⟨x, ex, w3⟩ := opt_wn w1
  have ho := out_ok g1 w3
  have hp := pk_ok g1.rs h1 ex
  unfold joinD at ho
  cases e : seqD x with
  | none => rw [e] at ho; exact ho.elim
  | some l =>
    rw [e, Option.bind_some] at ho
    obtain ⟨p, xs, rfl, r, h⟩ := hp.seq g1.rs.sub e
    cases e3 : strsD l with
    | none => rw [e3] at ho; exact ho.elim
    | some zs =>
      rw [e3, Option.bind_some] at ho
      obtain ⟨rfl, _⟩ := strs_ok r e3
      split at ho
      · rename_i hz
        refine ⟨a, p, zs, rfl, rfl, ?_, hz, outD g1.rs.sub ho (.str _)⟩
        rcases h with ⟨h, _⟩ | ⟨h, _⟩
        · exact .inl h
        · exact .inr h
      · exact ho.elim
end Cz

/-! # CzN -/
namespace Cz
open L2 PyProof.Rows PySem.Spec PySem
variable {K : PySem.W.Frag}

/-! ## to write to what a name holds -/
def SV.put : SV → OD → SV
  | .fz d, _ => .fz d
  | .ow _, o => .ow o
  | .br _, o => .br o
theorem SV.put_own {sv : SV} {o o' : OD} (h : SV.own sv = some o) : SV.own (sv.put o') = some o' := by
  cases sv with
  | fz d => cases h
  | ow _ => rfl
  | br _ => rfl
theorem Go.put {F0 H0 F H : Hp} {σ0 σ : L2.St} {s0 s : SS} {i : Nat} {sv : SV} {o o' : OD} {p : Addr} {ho : HO} (g : Go K F0 H0 σ0 s0 F H σ s) (hs : s[i]? = some (some sv)) (hw : SV.own sv = some o) (hσ : σ[i]? = some (some (.ref p))) (r : RpO K F o' ho) :
    Go K F0 H0 σ0 s0 F (upd H p ho) σ (s.set i (some (sv.put o'))) := by
  obtain ⟨p', ho0, b1, b2, b3, _⟩ := g.rs.ow i sv o hs hw
  rw [hσ] at b1
  cases b1
  have si : (s.set i (some (sv.put o')))[i]? = some (some (sv.put o')) := get_set_eq hs
  have own : ∀ (j : Nat) (sj : SV) (oj : OD), (s.set i (some (sv.put o')))[j]? = some (some sj) → SV.own sj = some oj → ∃ sk ok', s[j]? = some (some sk) ∧ SV.own sk = some ok' := fun j sj oj h1 h2 => by
    by_cases nj : j = i
    · subst nj
      exact ⟨_, _, hs, hw⟩
    · rw [get_set_ne (Ne.symm nj)] at h1
      exact ⟨_, _, h1, h2⟩
  refine ⟨⟨fun a u h => ?_, by rw [List.length_set]; exact g.rs.len, fun j d h => ?_, fun j sj oj h1 h2 => ?_, fun j k sj sk oj ok' q h1 h2 h3 h4 h5 h6 => ?_⟩, g.fr, fun a u h n => ?_, g.nw, fun a w => ?_, fun j u h => ?_, fun a h => ?_⟩
  · have na : a ≠ p := fun z => by
      subst z
      rw [b2] at h
      cases h
    rw [upd_ne na]
    exact g.rs.sub _ _ h
  · have nj : j ≠ i := fun z => by
      subst z
      rw [si] at h
      cases sv with
      | fz d => cases hw
      | ow _ => cases h
      | br _ => cases h
    rw [get_set_ne (Ne.symm nj)] at h
    exact g.rs.fz j d h
  · by_cases nj : j = i
    · subst nj
      rw [si] at h1
      cases h1
      rw [SV.put_own hw] at h2
      cases h2
      exact ⟨p, ho, hσ, b2, upd_same, r⟩
    · rw [get_set_ne (Ne.symm nj)] at h1
      obtain ⟨q, hq, c1, c2, c3, c4⟩ := g.rs.ow j sj oj h1 h2
      have nq : q ≠ p := fun z => nj (g.rs.ne j i sj sv oj o p h1 h2 hs hw (by rw [← z]; exact c1) hσ)
      exact ⟨q, hq, c1, c2, by rw [upd_ne nq]; exact c3, c4⟩
  · obtain ⟨_, _, a1, a2⟩ := own j sj oj h1 h2
    obtain ⟨_, _, c1, c2⟩ := own k sk ok' h3 h4
    exact g.rs.ne j k _ _ _ _ q a1 a2 c1 c2 h5 h6
  · have na : a ≠ p := fun z => by
      subst z
      rcases g.ow a ⟨i, sv, o, hs, hw, hσ⟩ with q | q
      · exact n q
      · rw [h] at q; cases q
    rw [upd_ne na]
    exact g.kp a u h n
  · obtain ⟨j, sj, oj, h1, h2, h3⟩ := w
    obtain ⟨sk, ok', a1, a2⟩ := own j sj oj h1 h2
    exact g.ow a ⟨j, sk, ok', a1, a2, h3⟩
  · obtain ⟨e, o2, h2⟩ := g.br j u h
    refine ⟨e, ?_⟩
    by_cases nj : j = i
    · subst nj
      rw [hs] at h2
      cases h2
      exact ⟨o', si⟩
    · exact ⟨o2, by rw [get_set_ne (Ne.symm nj)]; exact h2⟩
  · have na : a ≠ p := fun z => by
      subst z
      rw [upd_same] at h
      cases h
    rw [upd_ne na] at h
    exact g.dm a h
/-- what the i-th name holds of its own, or lent -/
def ownAt (s : SS) (i : Nat) : Option (SV × OD) := match s[i]? with
  | some (some sv) => (SV.own sv).map fun o => (sv, o)
  | _ => none
theorem ownAt_ok {F H : Hp} {σ : L2.St} {s : SS} {i : Nat} {sv : SV} {o : OD} (r : RS K F H σ s) (h : ownAt s i = some (sv, o)) : s[i]? = some (some sv) ∧ SV.own sv = some o ∧ ∃ p ho, σ[i]? = some (some (.ref p)) ∧ F p = none ∧ H p = some ho ∧ RpO K F o ho := by
  unfold ownAt at h
  split at h
  · rename_i sv' e
    rw [Option.map_eq_some_iff] at h
    obtain ⟨o', e1, e2⟩ := h
    cases e2
    exact ⟨e, e1, r.ow i sv o e e1⟩
  · cases h
def lstAt (s : SS) (i : Nat) : Option (SV × List D) := (ownAt s i).bind fun p => match p.2 with
  | .lst l => some (p.1, l)
  | _ => none
theorem lstAt_ok {F H : Hp} {σ : L2.St} {s : SS} {i : Nat} {sv : SV} {l : List D} (r : RS K F H σ s) (h : lstAt s i = some (sv, l)) : s[i]? = some (some sv) ∧ SV.own sv = some (.lst l) ∧ ∃ p xs, σ[i]? = some (some (.ref p)) ∧ F p = none ∧ H p = some (.lst xs) ∧ RpL K F l xs := by
  unfold lstAt at h
  rw [Option.bind_eq_some_iff] at h
  obtain ⟨⟨sv', o⟩, h1, h2⟩ := h
  cases o with
  | lst m =>
    cases h2
    obtain ⟨a1, a2, p, ho, a3, a4, a5, a6⟩ := ownAt_ok r h1
    cases a6 with
    | lst r => exact ⟨a1, a2, p, _, a3, a4, a5, r⟩
  | _ => cases h2

/-! ### x[i] = e, x a name's list -/
def mSetL (i : Nat) (me mi : M Rv) : MS := fun s => (me s).out fun r s1 => (frz r s1).out fun d s2 => optO (ownAt s2 i) fun _ => (mi s2).out fun k s3 => optO ((pk k s3).bind intOf) fun k => optO (lstAt s3 i) fun p => optO (ixN p.2.length k) fun j => .nx (s3.set i (some (p.1.put (.lst (p.2.set j d)))))
theorem EvX.stepS2 {W : WX} {te : TE} {m : M Rv} (h : EvX K W te m) {F0 H0 F H : Hp} {σ : L2.St} {s0 s : SS} {D : Ends} {Q1 : VK} {f : Rv → SS → Out} (g : Go K F0 H0 σ s0 F H σ s) (w : WnS K W D F0 H0 σ s0 ((m s).out f))
    (k : ∀ r s1 v F1 H1, Go K F0 H0 σ s0 F1 H1 σ s1 → Go K F H σ s F1 H1 σ s1 → RpR K H F1 H1 σ s1 r v → WnS K W D F0 H0 σ s0 (f r s1) → Q1 v H1) : te σ H Q1 := by
  refine h F H σ s Q1 g.rs ?_
  cases e : m s with
  | ok r s1 =>
    rw [e] at w
    exact fun v F1 H1 g1 r1 => k r s1 v F1 H1 (g.trans g1) g1 r1 w
  | ex c l s1 =>
    rw [e] at w
    exact fun dd F1 H1 xs g1 => w dd σ F1 H1 xs (g.trans g1)
  | no =>
    rw [e] at w
    exact w
theorem int_ok {H0 F H : Hp} {σ : L2.St} {s : SS} {r : Rv} {v : V} {k : Int} (rs : RS K F H σ s) (h : RpR K H0 F H σ s r v) (e : (pk r s).bind intOf = some k) : v = .int k := by
  rw [Option.bind_eq_some_iff] at e
  obtain ⟨d, e1, e2⟩ := e
  have hp := pk_ok rs h e1
  cases d with
  | int j =>
    cases e2
    cases hp
    rfl
  | _ => cases e2
theorem es_setL {W : WX} {i : Nat} {te ti : TE} {me mi : M Rv} (he : EvX K W te me) (hi : EvX K W ti mi) : EvS K W (tAsg te (gSub (tVar i) ti rSetL)) (mSetL i me mi) := by
  intro F H σ s D rs w
  refine he.stepS2 (Go.refl rs) w fun r s1 v F1 H1 g1 _ h1 w1 => ?_
  obtain ⟨d, s2, e, w2⟩ := frz_out w1
  obtain ⟨F2, g2, _, hd⟩ := frz_ok g1 h1 e
  obtain ⟨⟨sv0, o0⟩, e0, w3⟩ := optO_wn w2
  obtain ⟨_, _, p0, _, hp0, _⟩ := ownAt_ok g2.rs e0
  refine ⟨.ref p0, hp0, hi.stepS2 g2 w3 fun k s3 u F3 H3 g3 g23 h3 w4 => ?_⟩
  obtain ⟨kk, ek, w5⟩ := optO_wn w4
  obtain ⟨⟨sv, l⟩, el, w6⟩ := optO_wn w5
  obtain ⟨j, ej, w7⟩ := optO_wn w6
  obtain ⟨a1, a2, p, xs, a3, a4, a5, a6⟩ := lstAt_ok g3.rs el
  rw [hp0] at a3
  cases a3
  have ej' : ixN xs.length kk = some j := by rw [← a6.length]; exact ej
  refine ⟨p0, xs, kk, j, rfl, int_ok g3.rs h3 ek, a5, ej', ?_⟩
  exact w7 σ F3 _ (g3.put a1 a2 hp0 (RpO.lst (a6.set (hd.mono g23.fr) j)))

/-! ### methods of a name's list -/
/-- f: the arguments and the list, to what is given and the list behind it -/
def LmOk (K : PySem.W.Frag) (r : V → List V → Hp → VK → Prop) (f : List D → List D → Option (D × List D)) : Prop := ∀ F H (p : Addr) (as l : List D) (vs xs : List V) (d : D) (l' : List D) Q, Sub F H → F p = none → H p = some (.lst xs) → RpL K F as vs → RpL K F l xs → f as l = some (d, l') →
  (∀ y ys, Rp K F d y → RpL K F l' ys → Q y (upd H p (.lst ys))) → r (.ref p) vs H Q
def mLm (i : Nat) (f : List D → List D → Option (D × List D)) (ma : M (List Rv)) : M Rv := fun s => opt (lstAt s i) fun _ => (ma s).bind fun rs s1 => opt (allD rs) fun as => opt (lstAt s1 i) fun p => opt (f as p.2) fun q => .ok (.d q.1) (s1.set i (some (p.1.put (.lst q.2))))
theorem ev_lm {W : WX} {i : Nat} {r : V → List V → Hp → VK → Prop} {f : List D → List D → Option (D × List D)} {t : TA} {ma : M (List Rv)} (hr : LmOk K r f) (ha : EvA K W t ma) : EvX K W (tBM K "list" r (tVar i) t) (mLm i f ma) := by
  intro F H σ s Q rs w
  obtain ⟨⟨sv0, l0⟩, e0, w1⟩ := opt_wn w
  obtain ⟨_, _, p0, xs0, hp0, _, hq0, _⟩ := lstAt_ok rs e0
  refine ⟨.ref p0, hp0, .inl ⟨rfl, xs0, SqL.of hq0⟩, ha.step (Go.refl rs) w1 fun rvs s1 vs F1 H1 g1 _ h1 w2 => ?_⟩
  obtain ⟨as, ea, w3⟩ := opt_wn w2
  obtain ⟨⟨sv, l⟩, el, w4⟩ := opt_wn w3
  obtain ⟨⟨d, l'⟩, ef, w5⟩ := opt_wn w4
  obtain ⟨a1, a2, p, xs, a3, a4, a5, a6⟩ := lstAt_ok g1.rs el
  rw [hp0] at a3
  cases a3
  exact hr F1 H1 p0 as l vs xs d l' Q g1.rs.sub a4 a5 (allD_ok h1 ea) a6 ef fun y ys hy hys => w5 y F1 _ (g1.put a1 a2 hp0 (RpO.lst hys)) hy
def appendF : List D → List D → Option (D × List D)
  | [d], l => if l.length < 100000 then some (.non, l ++ [d]) else none
  | _, _ => none
theorem lm_append : LmOk K rAppend appendF := by
  intro F H p as l vs xs d l' Q s hF hH ha hl e q
  unfold appendF at e
  split at e
  · split at e
    · rename_i a hz
      cases e
      cases ha with
      | cons h r =>
        cases r
        refine ⟨p, xs, _, rfl, rfl, hH, ?_, q _ _ .non (hl.append (.cons h .nil))⟩
        rw [← hl.length]
        exact Nat.lt_of_lt_of_le hz (by decide)
    · cases e
  · cases e
def extendF : List D → List D → Option (D × List D)
  | [.lst m], l => if small (l.length + m.length) then some (.non, l ++ m) else none
  | _, _ => none
theorem lm_extend : LmOk K rExtend extendF := by
  intro F H p as l vs xs d l' Q s hF hH ha hl e q
  unfold extendF at e
  split at e
  · split at e
    · rename_i m hz
      cases e
      cases ha with
      | cons h r =>
        cases r
        cases h with
        | lst h1 r1 =>
          refine ⟨p, _, xs, _, rfl, rfl, hH, s _ _ h1, ?_, q _ _ .non (hl.append r1)⟩
          rw [← hl.length, ← r1.length]
          exact small_le hz
    · cases e
  · cases e
theorem RpL.eraseIdx {F : Hp} : ∀ {l : List D} {xs : List V} (i : Nat), RpL K F l xs → RpL K F (l.eraseIdx i) (xs.eraseIdx i)
  | _, _, _, .nil => .nil
  | _, _, 0, .cons _ r => r
  | _, _, i + 1, .cons h r => .cons h (r.eraseIdx i)
theorem RpL.dropLast {F : Hp} : ∀ {l : List D} {xs : List V}, RpL K F l xs → RpL K F l.dropLast xs.dropLast
  | _, _, .nil => .nil
  | _, _, .cons _ .nil => .nil
  | _, _, .cons h (.cons h2 r) => .cons h (RpL.dropLast (.cons h2 r))
def popF : List D → List D → Option (D × List D)
  | [], l => match l.getLast? with
    | some d => some (d, l.dropLast)
    | none => none
  | [.int i], l => if -(2 ^ 63) ≤ i ∧ i < 2 ^ 63 then (seqIndex? i l.length).bind fun k => (l[k]?).map fun d => (d, l.eraseIdx k) else none
  | _, _ => none
def rPopA : V → List V → Hp → VK → Prop := fun x vs H Q => rPop x vs H Q ∨ rPopAt x vs H Q
theorem mt_popA {X : Cx} : MtR X "list.pop" rPopA := MtR.or mt_pop mt_popAt
theorem mt_appendA {X : Cx} : MtR X "list.append" rAppend := mt_append
theorem mt_extendA {X : Cx} : MtR X "list.extend" rExtend := mt_extend
theorem lm_pop : LmOk K rPopA popF := by
  intro F H p as l vs xs d l' Q s hF hH ha hl e q
  unfold popF at e
  split at e
  · cases ha
    split at e
    · rename_i d' hd
      cases e
      left
      rw [List.getLast?_eq_getElem?] at hd
      obtain ⟨v, h1, h2⟩ := hl.get hd
      rw [hl.length] at h1
      exact ⟨p, xs, v, rfl, rfl, hH, h1, q _ _ h2 hl.dropLast⟩
    · cases e
  · rename_i i
    split at e
    · rename_i hb
      rw [Option.bind_eq_some_iff] at e
      obtain ⟨k, e1, e2⟩ := e
      rw [Option.map_eq_some_iff] at e2
      obtain ⟨d', e3, e4⟩ := e2
      cases e4
      cases ha with
      | cons h r =>
        cases r
        cases h
        obtain ⟨v, h1, h2⟩ := hl.get e3
        rw [hl.length] at e1
        exact .inr ⟨p, xs, i, k, v, rfl, rfl, hH, hb.1, hb.2, e1, h1, q _ _ h2 (hl.eraseIdx k)⟩
    · cases e
  · cases e

/-! ### x op= e, ints -/
def mAugI (i : Nat) (f : Int → Int → Int) (me : M Rv) : MS := fun s => match s[i]? with
  | some (some (.fz (.int a))) => (me s).out fun r s1 => optO ((pk r s1).bind intOf) fun b => if free s1 i then .nx (s1.set i (some (.fz (.int (f a b))))) else .no
  | _ => .no
theorem es_augI {W : WX} {i : Nat} {f : Int → Int → Int} {te : TE} {me : M Rv} (h : EvX K W te me) : EvS K W (tAug i te (ipI f)) (mAugI i f me) := by
  intro F H σ s D rs w
  unfold mAugI at w
  split at w
  · rename_i a e
    obtain ⟨v, e1, e2⟩ := rs.fz i _ e
    cases e2
    refine ⟨_, e1, h.stepS rs w fun r s1 u F1 H1 g1 h1 w1 => ?_⟩
    obtain ⟨b, eb, w2⟩ := optO_wn w1
    refine ⟨a, b, rfl, int_ok g1.rs h1 eb, ?_⟩
    split at w2
    · rename_i hf
      exact w2 _ F1 H1 (g1.setD hf (.int _))
    · exact w2.elim
  · exact w.elim
end Cz

/-! # CzO -/
namespace Cz
open L2 PyProof.Rows PySem.Spec PySem
variable {K : PySem.W.Frag}

/-! ## tables of data -/
theorem paired_app {α β : Type} {R : α → β → Prop} {a a' : List α} {b b' : List β} (h : Paired R a b) (h' : Paired R a' b') : Paired R (a ++ a') (b ++ b') := by
  induction h with
  | nil => exact h'
  | cons x t ih => exact .cons x ih
section
variable {κ : Type} [q0 : DecidableEq κ]
def valD (l : List (κ × D)) (k : κ) : Option D := (l.find? fun kv => decide (kv.1 = k)).map (·.2)
def putD (l : List (κ × D)) (k : κ) (d : D) : List (κ × D) :=
  if (l.any fun kv => decide (kv.1 = k)) = true then l.map (fun kv => if kv.1 = k then (kv.1, d) else kv) else l ++ [(k, d)]
/-- keys alike, values told -/
def RpX (K : PySem.W.Frag) (F : Hp) (l : List (κ × D)) (kvs : List (κ × V)) : Prop := Paired (fun (p : κ × D) (q : κ × V) => p.1 = q.1 ∧ Rp K F p.2 q.2) l kvs
theorem RpX.val {F : Hp} {l : List (κ × D)} {kvs : List (κ × V)} (r : RpX K F l kvs) (k : κ) : (valD l k = none ∧ valV kvs k = none) ∨ ∃ d v, valD l k = some d ∧ valV kvs k = some v ∧ Rp K F d v := by
  unfold RpX at r
  induction r with
  | nil => (exact .inl ⟨rfl, rfl⟩)
  | @cons p q ps qs h t ih =>
    obtain ⟨h1, h2⟩ := h
    by_cases e : p.1 = k
    · refine .inr ⟨p.2, q.2, ?_, valV_pos (h1.symm.trans e), h2⟩
      simp [valD, List.find?_cons, e]
    · have e1 : valD (p :: ps) k = valD ps k := by simp [valD, List.find?_cons, e]
      rw [e1, valV_neg (fun z => e (h1.trans z))]
      exact ih
theorem RpX.any {F : Hp} {l : List (κ × D)} {kvs : List (κ × V)} (r : RpX K F l kvs) (k : κ) : (l.any fun kv => decide (kv.1 = k)) = (kvs.any fun kv => decide (kv.1 = k)) := by
  unfold RpX at r
  induction r with
  | nil => rfl
  | @cons p q ps qs h t ih =>
    obtain ⟨h1, h2⟩ := h
    rw [List.any_cons, List.any_cons, ih, h1]
theorem RpX.put {F : Hp} {l : List (κ × D)} {kvs : List (κ × V)} {d : D} {v : V} (r : RpX K F l kvs) (k : κ) (h : Rp K F d v) : RpX K F (putD l k d) (putK kvs k v) := by
  unfold putD putK
  rw [r.any k]
  by_cases e : (kvs.any fun kv => decide (kv.1 = k)) = true
  · rw [if_pos e, if_pos e]
    unfold RpX at r ⊢
    induction r with
    | nil => exact .nil
    | @cons p q ps qs hq t ih =>
      obtain ⟨h1, h2⟩ := hq
      (rw [List.map_cons, List.map_cons])
      have ih' : Paired (fun (p : κ × D) (q : κ × V) => p.1 = q.1 ∧ Rp K F p.2 q.2) (ps.map fun kv => if kv.1 = k then (kv.1, d) else kv) (qs.map fun kv => if kv.1 = k then (kv.1, v) else kv) := by
        clear ih e
        induction t with
        | nil => exact .nil
        | @cons p q ps qs hq t ih =>
          obtain ⟨h1, h2⟩ := hq
          (rw [List.map_cons, List.map_cons])
          refine .cons ?_ ih
          by_cases z : p.1 = k
          · rw [if_pos z, if_pos (h1.symm.trans z)]
            exact ⟨h1, h⟩
          · rw [if_neg z, if_neg (fun y => z (h1.trans y))]
            exact ⟨h1, h2⟩
      refine .cons ?_ ih'
      by_cases z : p.1 = k
      · rw [if_pos z, if_pos (h1.symm.trans z)]
        exact ⟨h1, h⟩
      · rw [if_neg z, if_neg (fun y => z (h1.trans y))]
        exact ⟨h1, h2⟩
  · rw [if_neg e, if_neg e]
    exact paired_app r (.cons ⟨rfl, h⟩ .nil)
end
theorem RpK.x {F : Hp} : ∀ {l : List (Key × D)} {kvs : List (Key × V)}, RpK K F l kvs → RpX K F l kvs
  | _, _, .nil => .nil
  | _, _, .cons h r => .cons ⟨rfl, h⟩ r.x
theorem RpK.of {F : Hp} : ∀ {l : List (Key × D)} {kvs : List (Key × V)}, RpX K F l kvs → RpK K F l kvs
  | _, _, .nil => .nil
  | (_, _) :: _, (_, _) :: _, .cons ⟨rfl, h⟩ r => .cons h (RpK.of r)
theorem RpT.x {F : Hp} : ∀ {l : List (List Key × D)} {kvs : List (List Key × V)}, RpT K F l kvs → RpX K F l kvs
  | _, _, .nil => .nil
  | _, _, .cons h r => .cons ⟨rfl, h⟩ r.x
theorem RpT.of {F : Hp} : ∀ {l : List (List Key × D)} {kvs : List (List Key × V)}, RpX K F l kvs → RpT K F l kvs
  | _, _, .nil => .nil
  | (_, _) :: _, (_, _) :: _, .cons ⟨rfl, h⟩ r => .cons h (RpT.of r)
theorem RpX.length {κ : Type} {F : Hp} {l : List (κ × D)} {kvs : List (κ × V)} (r : RpX K F l kvs) : l.length = kvs.length := Paired.length r

/-! ## keys -/
def keyK : D → Option Key
  | .int i => some (.inl i)
  | .str x => some (.inr x)
  | _ => none
def keysK : List D → Option (List Key)
  | [] => some []
  | d :: ds => (keyK d).bind fun k => (keysK ds).map (k :: ·)
def keyT : D → Option (List Key)
  | .tup l => keysK l
  | _ => none
theorem keyK_ok {F H : Hp} {d : D} {v : V} {k : Key} (h : RpP K F H d v) (e : keyK d = some k) : v = kV k := by
  cases d with
  | int i => cases e; cases h; rfl
  | str i => cases e; cases h; rfl
  | _ => cases e
theorem keyK_rp {F : Hp} {d : D} {v : V} {k : Key} (h : Rp K F d v) (e : keyK d = some k) : v = kV k := by
  cases d with
  | int i => cases e; cases h; rfl
  | str i => cases e; cases h; rfl
  | _ => cases e
theorem keysK_ok {F : Hp} : ∀ {l : List D} {xs : List V} {ks : List Key}, RpL K F l xs → keysK l = some ks → xs = ks.map kV
  | _, _, ks, .nil, e => by cases e; rfl
  | _, _, ks, .cons h r, e => by
    simp only [keysK, Option.bind_eq_some_iff, Option.map_eq_some_iff] at e
    obtain ⟨k, e1, m, e2, rfl⟩ := e
    rw [keyK_rp h e1, keysK_ok r e2]
    rfl
theorem keyT_ok {F H : Hp} (s : Sub F H) {d : D} {v : V} {ks : List Key} (h : RpP K F H d v) (e : keyT d = some ks) : ∃ b, v = .ref b ∧ H b = some (.tup (ks.map kV)) := by
  cases d with
  | tup l =>
    cases h with
    | tup h1 r =>
      have q := keysK_ok r e
      subst q
      exact ⟨_, rfl, s _ _ h1⟩
  | _ => cases e

/-! ## to look things up -/
/-- what the dict x has at y: none: nothing can be told; some none: nothing -/
def dgetD (x y : D) : Option (Option D) := match x with
  | .dk l => (keyK y).map fun k => valD l k
  | .dt l => (keyT y).map fun k => valD l k
  | _ => none
theorem dget_ok {F H : Hp} (s : Sub F H) {x y : V} {dx dy : D} {o : Option D} (hx : RpP K F H dx x) (hy : RpP K F H dy y) (e : dgetD dx dy = some o) : ∃ a ov, x = .ref a ∧ IsD H a ∧ DGet H a y ov ∧ ((o = none ∧ ov = none) ∨ ∃ d v, o = some d ∧ ov = some v ∧ Rp K F d v) := by
  cases dx with
  | dk l =>
    obtain ⟨a, kvs, rfl, h1, r⟩ := hx
    simp only [dgetD, Option.map_eq_some_iff] at e
    obtain ⟨k, e1, e2⟩ := e
    subst e2
    exact ⟨a, valV kvs k, rfl, .inl ⟨_, h1⟩, .inl ⟨kvs, k, h1, keyK_ok hy e1, rfl⟩, r.x.val k⟩
  | dt l =>
    obtain ⟨a, kvs, rfl, h1, r⟩ := hx
    simp only [dgetD, Option.map_eq_some_iff] at e
    obtain ⟨k, e1, e2⟩ := e
    subst e2
    obtain ⟨b, rfl, hb⟩ := keyT_ok s hy e1
    exact ⟨a, valV kvs k, rfl, .inr ⟨_, h1⟩, .inr ⟨kvs, k, b, h1, rfl, hb, rfl⟩, r.x.val k⟩
  | _ => cases e
def rDGet : R2 := fun x y H Q => ∃ a v, x = .ref a ∧ DGet H a y (some v) ∧ Q v H
def ixDk (x y : D) : Option Rv := (dgetD x y).bind fun o => o.map .d
theorem o2_dget : Op2 K rDGet ixDk := by
  intro F H x y dx dy Q s hx hy ho
  unfold ixDk at ho
  cases e : dgetD dx dy with
  | none => rw [e] at ho; exact ho.elim
  | some o =>
    rw [e] at ho
    obtain ⟨a, ov, e1, _, e2, e3⟩ := dget_ok s hx hy e
    rcases e3 with ⟨e4, _⟩ | ⟨d, v, e4, e5, e6⟩
    · subst e4; exact ho.elim
    · subst e4
      subst e5
      exact ⟨a, v, e1, e2, outD s ho e6⟩
theorem ev_dget {W : WX} {ta tb : TE} {ma mb : M Rv} (ha : EvX K W ta ma) (hb : EvX K W tb mb) : EvX K W (tDGet ta tb) (mOp ixDk ma mb) := ev_op (r := rDGet) o2_dget ha hb
def rDIn : R2 := fun y x H Q => ∃ a o, x = .ref a ∧ DGet H a y o ∧ Q (.bl o.isSome) H
def rDNotIn : R2 := fun y x H Q => ∃ a o, x = .ref a ∧ DGet H a y o ∧ Q (.bl (!o.isSome)) H
def dinD (y x : D) : Option Rv := (dgetD x y).map fun o => .d (.bl o.isSome)
def dnotD (y x : D) : Option Rv := (dgetD x y).map fun o => .d (.bl !o.isSome)
theorem some_eq {o : Option D} {ov : Option V} {F : Hp} (h : (o = none ∧ ov = none) ∨ ∃ d v, o = some d ∧ ov = some v ∧ Rp K F d v) : ov.isSome = o.isSome := by
  rcases h with ⟨rfl, rfl⟩ | ⟨d, v, rfl, rfl, _⟩ <;> rfl
theorem o2_din : Op2 K rDIn dinD := by
  intro F H y x dy dx Q s hy hx ho
  unfold dinD at ho
  cases e : dgetD dx dy with
  | none => rw [e] at ho; exact ho.elim
  | some o =>
    rw [e] at ho
    obtain ⟨a, ov, e1, _, e2, e3⟩ := dget_ok s hx hy e
    refine ⟨a, ov, e1, e2, ?_⟩
    rw [some_eq e3]
    exact outD s ho (.bl _)
theorem o2_dnot : Op2 K rDNotIn dnotD := by
  intro F H y x dy dx Q s hy hx ho
  unfold dnotD at ho
  cases e : dgetD dx dy with
  | none => rw [e] at ho; exact ho.elim
  | some o =>
    rw [e] at ho
    obtain ⟨a, ov, e1, _, e2, e3⟩ := dget_ok s hx hy e
    refine ⟨a, ov, e1, e2, ?_⟩
    rw [some_eq e3]
    exact outD s ho (.bl _)
theorem ev_din {W : WX} {ta tb : TE} {ma mb : M Rv} (ha : EvX K W ta ma) (hb : EvX K W tb mb) : EvX K W (tDIn ta tb) (mOp dinD ma mb) := ev_op (r := rDIn) o2_din ha hb
theorem ev_dnot {W : WX} {ta tb : TE} {ma mb : M Rv} (ha : EvX K W ta ma) (hb : EvX K W tb mb) : EvX K W (tDNotIn ta tb) (mOp dnotD ma mb) := ev_op (r := rDNotIn) o2_dnot ha hb
/-- d.get(k), d.get(k, x) -/
def isDD : D → Bool
  | .dk _ => true
  | .dt _ => true
  | _ => false
def mGet1 (ma mb : M Rv) : M Rv := fun s => (ma s).bind fun r1 s1 => opt (pk r1 s1) fun x0 => if isDD x0 then (mb s1).bind fun r2 s2 => opt (pk (nrm r1) s2) fun x => opt (pk r2 s2) fun y => opt (dgetD x y) fun o => .ok (.d (o.getD .non)) s2 else .no
def mGet2 (ma mb mc : M Rv) : M Rv := fun s => (ma s).bind fun r1 s1 => opt (pk r1 s1) fun x0 => if isDD x0 then (mb s1).bind fun r2 s2 => (mc s2).bind fun r3 s3 => (frz r3 s3).bind fun z s4 => opt (pk (nrm r1) s4) fun x => opt (pk (nrm r2) s4) fun y => opt (dgetD x y) fun o => .ok (.d (o.getD z)) s4 else .no
theorem isDD_ok {F H : Hp} {d : D} {v : V} (h : RpP K F H d v) (e : isDD d = true) : ∃ a, v = .ref a ∧ IsD H a := by
  cases d with
  | dk l => obtain ⟨a, kvs, rfl, h1, _⟩ := h; exact ⟨a, rfl, .inl ⟨_, h1⟩⟩
  | dt l => obtain ⟨a, kvs, rfl, h1, _⟩ := h; exact ⟨a, rfl, .inr ⟨_, h1⟩⟩
  | _ => cases e
theorem ev_get1 {W : WX} {ta tb : TE} {ma mb : M Rv} (ha : EvX K W ta ma) (hb : EvX K W tb mb) : EvX K W (tDGet1 ta tb) (mGet1 ma mb) := by
  intro F H σ s Q rs w
  refine ha.step (Go.refl rs) w fun r1 s1 v1 F1 H1 g1 _ h1 w1 => ?_
  obtain ⟨x0, e0, w2⟩ := opt_wn w1
  split at w2
  · rename_i hd
    obtain ⟨a, rfl, ia⟩ := isDD_ok (pk_ok g1.rs h1 e0) hd
    obtain ⟨F1', g1', sb1, h1'⟩ := nrm_ok g1 h1
    refine ⟨a, rfl, ia, hb.step g1' w2 fun r2 s2 v2 F2 H2 g2 g12 h2 w3 => ?_⟩
    obtain ⟨x, ex, w4⟩ := opt_wn w3
    obtain ⟨y, ey, w5⟩ := opt_wn w4
    obtain ⟨o, eo, w6⟩ := opt_wn w5
    obtain ⟨a', ov, e1, _, e2, e3⟩ := dget_ok g2.rs.sub (pk_ok g2.rs (h1'.go g12) ex) (pk_ok g2.rs h2 ey) eo
    cases e1
    refine ⟨ov, e2, ?_⟩
    rcases e3 with ⟨rfl, rfl⟩ | ⟨d, v, rfl, rfl, h⟩
    · exact w6 _ F2 H2 g2 .non
    · exact w6 _ F2 H2 g2 h
  · exact w2.elim
theorem ev_get2 {W : WX} {ta tb tc : TE} {ma mb mc : M Rv} (ha : EvX K W ta ma) (hb : EvX K W tb mb) (hc : EvX K W tc mc) : EvX K W (tDGet2 ta tb tc) (mGet2 ma mb mc) := by
  intro F H σ s Q rs w
  refine ha.step (Go.refl rs) w fun r1 s1 v1 F1 H1 g1 _ h1 w1 => ?_
  obtain ⟨x0, e0, w2⟩ := opt_wn w1
  split at w2
  · rename_i hd
    obtain ⟨a, rfl, ia⟩ := isDD_ok (pk_ok g1.rs h1 e0) hd
    obtain ⟨F1', g1', sb1, h1'⟩ := nrm_ok g1 h1
    refine ⟨a, rfl, ia, hb.step g1' w2 fun r2 s2 v2 F2 H2 g2 g12 h2 w3 => ?_⟩
    obtain ⟨F2', g12', sb2, h2'⟩ := nrm_ok g12 h2
    have g2' := g1'.trans g12'
    refine hc.step g2' w3 fun r3 s3 v3 F3 H3 g3 g23 h3 w4 => ?_
    obtain ⟨z, s4, ez, w5⟩ := frz_wn w4
    obtain ⟨F4, g24, sb4, hz⟩ := frz_ok g23 h3 ez
    have g4 := g2'.trans g24
    obtain ⟨x, ex, w6⟩ := opt_wn w5
    obtain ⟨y, ey, w7⟩ := opt_wn w6
    obtain ⟨o, eo, w8⟩ := opt_wn w7
    obtain ⟨a', ov, e1, _, e2, e3⟩ := dget_ok g4.rs.sub (pk_ok g4.rs ((h1'.go g12').go g24) ex) (pk_ok g4.rs (h2'.go g24) ey) eo
    cases e1
    refine ⟨ov, e2, ?_⟩
    rcases e3 with ⟨rfl, rfl⟩ | ⟨d, v, rfl, rfl, h⟩
    · exact w8 _ F4 H3 g4 hz
    · exact w8 _ F4 H3 g4 h
  · exact w2.elim

/-! ## d[k] = v, d a name's dict -/
/-- the dict behind it -/
def oputD : OD → D → D → Option OD
  | .dk false l, y, d => if l.length < 100000 then (keyK y).map fun k => .dk false (putD l k d) else none
  | .dt false l, y, d => if l.length < 100000 then (keyT y).map fun k => .dt false (putD l k d) else none
  | _, _, _ => none
theorem lt_size {n : Nat} (h : n < 100000) : n < sizeLine := Nat.lt_of_lt_of_le h (by decide)
theorem oput_ok {F H : Hp} (s : Sub F H) {p : Addr} {ho : HO} {y v : V} {o o' : OD} {dy d : D} (hp : H p = some ho) (r : RpO K F o ho) (hy : RpP K F H dy y) (hd : Rp K F d v) (e : oputD o dy d = some o') : ∃ ho', DPut H p y v (upd H p ho') ∧ RpO K F o' ho' := by
  cases r with
  | dk r =>
    rename_i l kvs
    simp only [oputD] at e
    split at e
    · rename_i hl
      rw [Option.map_eq_some_iff] at e
      obtain ⟨k, e1, rfl⟩ := e
      exact ⟨_, .inl ⟨kvs, k, hp, keyK_ok hy e1, by rw [← r.x.length]; exact lt_size hl, rfl⟩, .dk (RpK.of (r.x.put k hd))⟩
    · cases e
  | dt r =>
    rename_i l kvs
    simp only [oputD] at e
    split at e
    · rename_i hl
      rw [Option.map_eq_some_iff] at e
      obtain ⟨k, e1, rfl⟩ := e
      obtain ⟨b, rfl, hb⟩ := keyT_ok s hy e1
      exact ⟨_, .inr ⟨kvs, k, b, hp, rfl, hb, by rw [← r.x.length]; exact lt_size hl, rfl⟩, .dt (RpT.of (r.x.put k hd))⟩
    · cases e
  | lst r => cases e
  | obj r => cases e
  | dkl r => cases e
  | dtl r => cases e
def mDPut (i : Nat) (mk me : M Rv) : MS := fun s => (me s).out fun r s1 => (frz r s1).out fun d s2 => optO (ownAt s2 i) fun _ => (mk s2).out fun k s3 => optO (pk k s3) fun y => optO (ownAt s3 i) fun p => optO (oputD p.2 y d) fun o => .nx (s3.set i (some (p.1.put o)))
theorem es_dput {W : WX} {i : Nat} {te tk : TE} {me mk : M Rv} (he : EvX K W te me) (hk : EvX K W tk mk) : EvS K W (sDPut (tVar i) tk te) (mDPut i mk me) := by
  intro F H σ s D rs w
  refine he.stepS2 (Go.refl rs) w fun r s1 v F1 H1 g1 _ h1 w1 => ?_
  obtain ⟨d, s2, e, w2⟩ := frz_out w1
  obtain ⟨F2, g2, _, hd⟩ := frz_ok g1 h1 e
  obtain ⟨⟨sv0, o0⟩, e0, w3⟩ := optO_wn w2
  obtain ⟨_, _, p0, _, hp0, _⟩ := ownAt_ok g2.rs e0
  refine ⟨.ref p0, hp0, hk.stepS2 g2 w3 fun k s3 u F3 H3 g3 g23 h3 w4 => ?_⟩
  obtain ⟨y, ey, w5⟩ := optO_wn w4
  obtain ⟨⟨sv, o⟩, el, w6⟩ := optO_wn w5
  obtain ⟨o', ej, w7⟩ := optO_wn w6
  obtain ⟨a1, a2, p, ho, a3, a4, a5, a6⟩ := ownAt_ok g3.rs el
  rw [hp0] at a3
  cases a3
  obtain ⟨ho', b1, b2⟩ := oput_ok g3.rs.sub a5 a6 (pk_ok g3.rs h3 ey) (hd.mono g23.fr) ej
  exact ⟨p0, _, rfl, b1, w7 σ F3 _ (g3.put a1 a2 hp0 b2)⟩

/-! ## new dicts -/
def mDNewK : M Rv := fun s => .ok (.o (.dk false [])) s
def mDNewT : M Rv := fun s => .ok (.o (.dt false [])) s
theorem ev_dnewK {W : WX} : EvX K W tDNewK mDNewK := fun F H σ s Q rs w p hp => by
  obtain ⟨a, b⟩ := (Go.refl rs).fresh hp (RpO.dk (K := K) (F := F) .nil)
  exact w _ _ _ a b
theorem ev_dnewT {W : WX} : EvX K W tDNewT mDNewT := fun F H σ s Q rs w p hp => by
  obtain ⟨a, b⟩ := (Go.refl rs).fresh hp (RpO.dt (K := K) (F := F) .nil)
  exact w _ _ _ a b
def mPairs : List (Key × M Rv) → M (List (Key × D))
  | [], s => .ok [] s
  | (k, m) :: r, s => (m s).bind fun v s1 => (frz v s1).bind fun d s2 => (mPairs r s2).bind fun ps s3 => .ok ((k, d) :: ps) s3
def mergeD (l more : List (Key × D)) : List (Key × D) := more.foldl (fun acc kv => putD acc kv.1 kv.2) l
def mDisp (ps : List (Key × M Rv)) : M Rv := fun s => if ps.length ≤ 15 then (mPairs ps s).bind fun l s1 => .ok (.o (.dk false (mergeD [] l))) s1 else .no
theorem RpX.merge {F : Hp} {more : List (Key × D)} {rs : List (Key × V)} (h : RpX K F more rs) : ∀ {l : List (Key × D)} {kvs : List (Key × V)}, RpX K F l kvs → RpX K F (mergeD l more) (mergeK kvs rs) := by
  unfold RpX at h
  induction h with
  | nil => exact fun q => q
  | @cons p q ps qs h t ih =>
    intro l kvs r
    obtain ⟨h1, h2⟩ := h
    have e : RpX K F (putD l p.1 p.2) (putK kvs q.1 q.2) := by
      rw [← h1]
      exact r.put _ h2
    exact ih e
/-- the readings of the pairs -/
inductive EvP (K : PySem.W.Frag) (W : WX) : List (TE × TE) → List (Key × M Rv) → Prop
  | nil : EvP K W [] []
  | cons {k : Key} {te : TE} {m : M Rv} {ts : List (TE × TE)} {ps : List (Key × M Rv)} : EvX K W te m → EvP K W ts ps → EvP K W ((tC (kV k), te) :: ts) ((k, m) :: ps)
theorem EvP.run {W : WX} : ∀ {ts : List (TE × TE)} {ps : List (Key × M Rv)}, EvP K W ts ps → ∀ {F0 H0 F H : Hp} {σ : L2.St} {s0 s : SS} {Q : VK} {Q1 : List (V × V) → Hp → Prop} {f : List (Key × D) → SS → R Rv}, Go K F0 H0 σ s0 F H σ s → Wn K W Q F0 H0 σ s0 ((mPairs ps s).bind f) →
    (∀ l s1 kvs F1 H1, Go K F0 H0 σ s0 F1 H1 σ s1 → Go K F H σ s F1 H1 σ s1 → RpX K F1 l kvs → l.length = ps.length → Wn K W Q F0 H0 σ s0 (f l s1) → Q1 (kvs.map fun kv => (kV kv.1, kv.2)) H1) → tPairs ts σ H Q1
  | _, _, .nil, F0, H0, F, H, σ, s0, s, Q, Q1, f, g, w, k => k [] s [] F H g (Go.refl g.rs) .nil rfl w
  | _, _, .cons (k := key) (ps := ps) (m := m) he hr, F0, H0, F, H, σ, s0, s, Q, Q1, f, g, w, k => by
    have w0 : Wn K W Q F0 H0 σ s0 ((m s).bind fun v s1 => ((frz v s1).bind fun d s2 => (mPairs ps s2).bind fun ps s3 => .ok ((key, d) :: ps) s3).bind f) := by
      have w' : Wn K W Q F0 H0 σ s0 (((m s).bind fun v s1 => (frz v s1).bind fun d s2 => (mPairs ps s2).bind fun ps s3 => .ok ((key, d) :: ps) s3).bind f) := w
      cases e : m s with
      | ok r s1 => rw [e] at w'; exact w'
      | ex c l s1 => rw [e] at w'; exact w'
      | no => rw [e] at w'; exact w'
    refine he.step g w0 fun r s1 v F1 H1 g1 g01 h1 w1 => ?_
    cases ez : frz r s1 with
    | ex c l s2 => exact absurd ez frz_ex
    | no => rw [ez] at w1; exact w1.elim
    | ok d s2 =>
      rw [ez] at w1
      obtain ⟨F2, g02, sb, hd⟩ := frz_ok g01 h1 ez
      have w2 : Wn K W Q F0 H0 σ s0 ((mPairs ps s2).bind fun ps s3 => f ((key, d) :: ps) s3) := by
        have w' : Wn K W Q F0 H0 σ s0 (((mPairs ps s2).bind fun ps s3 => .ok ((key, d) :: ps) s3).bind f) := w1
        cases e : mPairs ps s2 with
        | ok r s1 => rw [e] at w'; exact w'
        | ex c l s1 => rw [e] at w'; exact w'
        | no => rw [e] at w'; exact w'
      refine EvP.run hr (g.trans g02) w2 fun l s3 kvs F3 H3 g3 g23 h3 hl w3 => ?_
      exact k ((key, d) :: l) s3 ((key, v) :: kvs) F3 H3 g3 (g02.trans g23) (.cons ⟨rfl, hd.mono g23.fr⟩ h3) (by rw [List.length_cons, List.length_cons, hl]) w3
theorem ev_disp {W : WX} {ts : List (TE × TE)} {ps : List (Key × M Rv)} (h : EvP K W ts ps) : EvX K W (tDisp ts) (mDisp ps) := by
  intro F H σ s Q rs w p hp
  unfold mDisp at w
  split at w
  · rename_i h15
    have hF : F p = none := rs.sub.free hp
    have hO : ¬ Ow σ s p := fun z => by
      obtain ⟨_, u, q⟩ := rs.owF z
      rw [hp] at q; cases q
    have gp := (Go.refl rs).pend (.dK []) hp hF hO
    refine h.run gp w fun l s1 kvs F1 H1 g1 g01 h1 hl w1 => ?_
    obtain ⟨b1, b2, b3⟩ := g01.still hF upd_same hO (fun ⟨_, z⟩ => by rw [upd_same] at z; cases z)
    refine ⟨b2, kvs, rfl, by rw [← h1.length, hl]; exact h15, ?_⟩
    have g2 := g1.pend (.dK (mergeK [] kvs)) hp b1 b3
    exact w1 _ F1 _ g2 ⟨p, _, rfl, b1, upd_same, .dk (RpK.of (h1.merge .nil)), hp, b3⟩
  · exact w.elim

/-! ## tuples that stand in the heap -/
open Classical in
/-- the data with all tuples that stand there -/
noncomputable def adopt (F H : Hp) : Hp := fun a => match F a with
  | some o => some o
  | none => if Tu H a then H a else none
theorem Al.adopt {F H : Hp} (s : Sub F H) : Al F H (adopt F H) H := by
  have e1 : ∀ a o, F a = some o → Cz.adopt F H a = some o := fun a o h => by unfold Cz.adopt; rw [h]
  refine ⟨e1, Sub.refl, fun a o h => ?_, fun a h => ?_⟩
  · unfold Cz.adopt at h
    split at h
    · rename_i u e
      cases h
      exact s _ _ e
    · split at h
      · exact h
      · cases h
  · unfold Cz.adopt at h
    split at h
    · rename_i u e
      exact .inl (by rw [e]; exact fun z => nomatch z)
    · split at h
      · rename_i q
        exact .inr (.inr q)
      · exact absurd rfl h
theorem adopt_at {F H : Hp} (s : Sub F H) {a : Addr} {xs : List V} (h : H a = some (.tup xs)) : Cz.adopt F H a = some (.tup xs) := by
  unfold Cz.adopt
  split
  · rename_i u e
    rw [s _ _ e] at h
    exact h
  · rw [if_pos ⟨xs, h⟩]
    exact h
def kDs (k : List Key) : D := .tup (k.map kD)
theorem rp_key {F : Hp} : ∀ k : Key, Rp K F (kD k) (kV k)
  | .inl i => .int i
  | .inr x => .str x
theorem rp_keys {F : Hp} : ∀ ks : List Key, RpL K F (ks.map kD) (ks.map kV)
  | [] => .nil
  | k :: ks => .cons (rp_key k) (rp_keys ks)
theorem adopt_key {F H : Hp} (s : Sub F H) {a : Addr} {ks : List Key} (h : H a = some (.tup (ks.map kV))) : Rp K (Cz.adopt F H) (kDs ks) (.ref a) := .tup (adopt_at s h) (rp_keys ks)

/-! ## list(d) -/
def rListDA : List V → Hp → VK → Prop := fun xs H Q => (∃ (a : Addr) (kvs : List (Key × V)), xs = [.ref a] ∧ Rd H a (.dK kvs) ∧ ∀ p, H p = none → Q (.ref p) (upd H p (.lst (kvs.map fun kv => kV kv.1)))) ∨
  ∃ d kvs, xs = [V.ref d] ∧ Rd H d (.dT kvs) ∧ ∀ p bs, H p = none → IsKeys H kvs bs → Q (.ref p) (upd H p (.lst (bs.map V.ref)))
theorem cr_listDA {X : Cx} (hc : X.calm = true) : CallR X (.type "list") rListDA := callr_or (call_listD hc) (call_list_dT hc)
def listDD : D → Option Rv
  | .dk l => some (.o (.lst (l.map fun p => kD p.1)))
  | .dt l => some (.o (.lst (l.map fun p => kDs p.1)))
  | _ => none
theorem rpx_keys {F : Hp} {l : List (Key × D)} {kvs : List (Key × V)} (r : RpX K F l kvs) : RpL K F (l.map fun p => kD p.1) (kvs.map fun kv => kV kv.1) := by
  unfold RpX at r
  induction r with
  | nil => exact .nil
  | @cons p q ps qs h t ih =>
    obtain ⟨e, _⟩ := h
    rw [List.map_cons, List.map_cons, e]
    exact .cons (rp_key _) ih
theorem rpt_keys {F H : Hp} (s : Sub F H) {l : List (List Key × D)} {kvs : List (List Key × V)} (r : RpX K F l kvs) : ∀ {bs : List Addr}, IsKeys H kvs bs → RpL K (Cz.adopt F H) (l.map fun p => kDs p.1) (bs.map V.ref) := by
  unfold RpX at r
  unfold IsKeys
  induction r with
  | nil =>
    intro bs h
    cases h
    exact .nil
  | @cons p q ps qs h t ih =>
    intro bs k
    obtain ⟨e, _⟩ := h
    cases k with
    | cons hb k =>
      rw [List.map_cons, List.map_cons, e]
      exact .cons (adopt_key s hb) (ih k)
theorem c1_listD : Op1 K (fun x H Q => rListDA [x] H Q) listDD := by
  intro F H x dx Q s hx ho
  cases dx with
  | dk l =>
    obtain ⟨a, kvs, rfl, h1, r⟩ := hx
    exact .inl ⟨a, kvs, rfl, h1, fun p hp => ho F p _ (Al.refl s) hp (.lst (rpx_keys r.x))⟩
  | dt l =>
    obtain ⟨a, kvs, rfl, h1, r⟩ := hx
    exact .inr ⟨a, kvs, rfl, h1, fun p bs hp hb => ho _ p _ (Al.adopt s) hp (.lst (rpt_keys s r.x hb))⟩
  | _ => exact ho.elim
end Cz

/-! # CzQ -/
namespace Cz
open L2 PyProof.Rows PySem.Spec PySem

/-! ## the code and its mirror together -/
structure CE (X : Cx) (K : PySem.W.Frag) (W : WX) (e : Expr) (t : TE) (m : M Rv) : Prop where
  p : PE X e t
  v : EvX K W t m
structure CT (X : Cx) (K : PySem.W.Frag) (W : WX) (e : Expr) (t : TT) (m : M Bool) : Prop where
  p : PT X e t
  v : EvT K W t m
structure CW (X : Cx) (K : PySem.W.Frag) (W : WX) (e : Expr) (t : TT) (m : M Bool) : Prop where
  p : PW X e t
  v : EvT K W t m
structure CTs (X : Cx) (K : PySem.W.Frag) (W : WX) (es : List Expr) (t : TT) (m : M Bool) : Prop where
  p : PTs X es t
  v : EvT K W t m
structure CA (X : Cx) (K : PySem.W.Frag) (W : WX) (es : List Expr) (t : TA) (m : M (List Rv)) : Prop where
  p : PA X es t
  v : EvA K W t m
structure CO (X : Cx) (K : PySem.W.Frag) (W : WX) (e : Option Expr) (t : TO) (m : M (Option Int)) : Prop where
  p : PO X e t
  v : EvO K W t m
structure CI (X : Cx) (K : PySem.W.Frag) (W : WX) (tg e : Expr) (t : TI) (m : M (List D)) : Prop where
  p : PI X tg e t
  v : EvI K W t m
structure CG (X : Cx) (K : PySem.W.Frag) (e : Expr) (t : TG) (m : MG) (tv : List Nat) : Prop where
  p : PG X e t
  v : EvG K t m tv
structure CGs (X : Cx) (K : PySem.W.Frag) (es : List Expr) (t : TGs) (m : MGs) (tv : List Nat) : Prop where
  p : PGs X es t
  v : EvGs K t m tv
structure CS (X : Cx) (K : PySem.W.Frag) (W : WX) (st : Stmt) (t : TS) (m : MS) : Prop where
  p : PS X st t
  v : EvS K W t m
structure CSs (X : Cx) (K : PySem.W.Frag) (W : WX) (st : List Stmt) (t : TS) (m : MS) : Prop where
  p : PSs X st t
  v : EvS K W t m

section
variable {X : Cx} {K : PySem.W.Frag} {W : WX} {a b c e : Expr} {es : List Expr} {pos p1 p2 p3 : Pos} {ta tb tc te : TE} {ma mb mc me : M Rv} {t : TA} {m : M (List Rv)} {k n : Nat}
theorem hu65 {A : Around} (r : Room k A) : A.units + 65 < cLine := by have := r.un; omega
theorem hu64 {A : Around} (r : Room k A) : A.units + 64 < cLine := r.units
theorem hu1 {A : Around} (r : Room k A) : A.units + 1 < cLine := by have := r.un; omega

/-! ### expressions -/
theorem c_v (i : Nat) {x : Str} {pos : Pos} (hN : X.N[i]? = some x := by rfl) (hv : Vis X.env.scope x := by first | exact Or.inl rfl | exact Or.inr (Or.inl rfl) | exact Or.inr (Or.inr rfl)) (hd : (x == ("__debug__" : Str)) = false := by decide)
    (hcd : (x == ("__classdict__" : Str)) = false := by decide) : CE X K W (.Name x pos) (tVar i) (mVar i) := ⟨pv i hN hv hd hcd, ev_var⟩
theorem c_i {i : Int} {j : Nat} : CE X K W (.Constant (.int i) j pos) (tC (.int i)) (mC (.int i)) := ⟨pe_int, ev_c fun F => .int i⟩
theorem c_b {i : Bool} {j : Nat} : CE X K W (.Constant (.bool i) j pos) (tC (.bl i)) (mC (.bl i)) := ⟨pe_bl, ev_c fun F => .bl i⟩
theorem c_n {j : Nat} : CE X K W (.Constant .none j pos) (tC .non) (mC .non) := ⟨pe_non, ev_c fun F => .non⟩
theorem c_s {i : Str} {j : Nat} : CE X K W (.Constant (.str i) j pos) (tC (.str i)) (mC (.str i)) := ⟨pe_str, ev_c fun F => .str i⟩
theorem c_op {op : Operator} {r : R2} {f : D → D → Option Rv} (ho : OpR X (binaryOp op) r) (hf : Op2 K r f) (ha : CE X K W a ta ma) (hb : CE X K W b tb mb) : CE X K W (.BinOp a op b pos) (tOp r ta tb) (mOp f ma mb) := ⟨pe_op ho ha.p hb.p, ev_op hf ha.v hb.v⟩
theorem c_add (hK : X.K = K := by rfl) (ha : CE X K W a ta ma) (hb : CE X K W b tb mb) : CE X K W (.BinOp a .Add b pos) (tOp (rAddA K) ta tb) (mOp addD ma mb) := by subst hK; exact c_op op_addA o2_add ha hb
theorem c_sub (ha : CE X K W a ta ma) (hb : CE X K W b tb mb) : CE X K W (.BinOp a .Sub b pos) (tOp (rI0 fun i j => .int (i - j)) ta tb) (mOp subD ma mb) := c_op op_sub o2_sub ha hb
theorem c_mul (ha : CE X K W a ta ma) (hb : CE X K W b tb mb) : CE X K W (.BinOp a .Mult b pos) (tOp (rI CMul fun i j => .int (i * j)) ta tb) (mOp mulD ma mb) := c_op op_mul o2_mul ha hb
theorem c_fdiv (ha : CE X K W a ta ma) (hb : CE X K W b tb mb) : CE X K W (.BinOp a .FloorDiv b pos) (tOp (rI CDiv fun i j => .int (i / j)) ta tb) (mOp fdivD ma mb) := c_op op_fdiv o2_fdiv ha hb
theorem c_mod (ha : CE X K W a ta ma) (hb : CE X K W b tb mb) : CE X K W (.BinOp a .Mod b pos) (tOp (rI (fun _ j => 0 < j) fun i j => .int (i % j)) ta tb) (mOp modD ma mb) := c_op op_mod o2_mod ha hb
theorem c_pow (ha : CE X K W a ta ma) (hb : CE X K W b tb mb) : CE X K W (.BinOp a .Pow b pos) (tOp (rI CPow fun i j => .int (i ^ j.toNat)) ta tb) (mOp powD ma mb) := c_op op_pow o2_pow ha hb
theorem c_neg (ha : CE X K W a ta ma) : CE X K W (.UnaryOp .USub a pos) (tUn (rU fun i => .int (-i)) ta) (mUn negD ma) := ⟨pe_un un_neg ha.p, ev_un o1_neg ha.v⟩
theorem c_cmp {op : CmpOp} {r : R2} {f : D → D → Option Rv} (ho : OpR X (compareOp op) r) (hf : Op2 K r f) (hm : behindInMarks op b = false) (ha : CE X K W a ta ma) (hb : CE X K W b tb mb) : CE X K W (.Compare a [op] [b] pos) (tOp r ta tb) (mOp f ma mb) := ⟨pe_cmpR ho ha.p hb.p hm, ev_op hf ha.v hb.v⟩
theorem c_lt (ha : CE X K W a ta ma) (hb : CE X K W b tb mb) : CE X K W (.Compare a [.Lt] [b] pos) (tOp (rCmpA (fun i j => decide (i < j)) sLt) ta tb) (mOp ltD ma mb) := c_cmp op_ltA o2_cmp (nomark _) ha hb
theorem c_le (ha : CE X K W a ta ma) (hb : CE X K W b tb mb) : CE X K W (.Compare a [.LtE] [b] pos) (tOp (rCmpA (fun i j => decide (i ≤ j)) (fun i j => !sLt j i)) ta tb) (mOp leD ma mb) := c_cmp op_leA o2_cmp (nomark _) ha hb
theorem c_gt (ha : CE X K W a ta ma) (hb : CE X K W b tb mb) : CE X K W (.Compare a [.Gt] [b] pos) (tOp (rCmpA (fun i j => decide (j < i)) (fun i j => sLt j i)) ta tb) (mOp gtD ma mb) := c_cmp op_gtA o2_cmp (nomark _) ha hb
theorem c_ge (ha : CE X K W a ta ma) (hb : CE X K W b tb mb) : CE X K W (.Compare a [.GtE] [b] pos) (tOp (rCmpA (fun i j => decide (j ≤ i)) (fun i j => !sLt i j)) ta tb) (mOp geD ma mb) := c_cmp op_geA o2_cmp (nomark _) ha hb
theorem c_eq (hr : Room k X.A) (hK : X.K = K := by rfl) (ha : CE X K W a ta ma) (hb : CE X K W b tb mb) : CE X K W (.Compare a [.Eq] [b] pos) (tOp (rEqA K) ta tb) (mOp eqD ma mb) := by subst hK; exact c_cmp (op_eqA (hu64 hr)) o2_eq (nomark _) ha hb
theorem c_ne (hr : Room k X.A) (hK : X.K = K := by rfl) (ha : CE X K W a ta ma) (hb : CE X K W b tb mb) : CE X K W (.Compare a [.NotEq] [b] pos) (tOp (rNeA K) ta tb) (mOp neD ma mb) := by subst hK; exact c_cmp (op_neA (hu64 hr)) o2_ne (nomark _) ha hb
theorem c_in (hr : Room k X.A) (hm : behindInMarks .In b = false) (hK : X.K = K := by rfl) (ha : CE X K W a ta ma) (hb : CE X K W b tb mb) : CE X K W (.Compare a [.In] [b] pos) (tOp (rInA K) ta tb) (mOp inD ma mb) := by subst hK; exact c_cmp (op_inA (hu65 hr)) o2_in hm ha hb
theorem c_notIn (hr : Room k X.A) (hm : behindInMarks .NotIn b = false) (hK : X.K = K := by rfl) (ha : CE X K W a ta ma) (hb : CE X K W b tb mb) : CE X K W (.Compare a [.NotIn] [b] pos) (tOp (rNotInA K) ta tb) (mOp notInD ma mb) := by subst hK; exact c_cmp (op_notInA (hu65 hr)) o2_notIn hm ha hb
theorem c_is (ha : CE X K W a ta ma) (hb : CE X K W b tb mb) : CE X K W (.Compare a [.Is] [b] pos) (tOp rIsA2 ta tb) (mOp isD ma mb) := c_cmp op_isA o2_is (nomark _) ha hb
theorem c_isNot (ha : CE X K W a ta ma) (hb : CE X K W b tb mb) : CE X K W (.Compare a [.IsNot] [b] pos) (tOp rNotA2 ta tb) (mOp isNotD ma mb) := c_cmp op_isNotA o2_isNot (nomark _) ha hb
theorem c_dget (hr : Room k X.A) (hs : NoSl b) (ha : CE X K W a ta ma) (hb : CE X K W b tb mb) : CE X K W (.Subscript a b pos) (tDGet ta tb) (mOp ixDk ma mb) := ⟨pe_dget (hu1 hr) ha.p hb.p hs, ev_dget ha.v hb.v⟩
theorem c_din (hr : Room k X.A) (hm : behindInMarks .In b = false) (ha : CE X K W a ta ma) (hb : CE X K W b tb mb) : CE X K W (.Compare a [.In] [b] pos) (tDIn ta tb) (mOp dinD ma mb) := ⟨pe_cmp (pc_din (hu1 hr) ha.p hb.p) hm, ev_din ha.v hb.v⟩
theorem c_dnot (hr : Room k X.A) (hm : behindInMarks .NotIn b = false) (ha : CE X K W a ta ma) (hb : CE X K W b tb mb) : CE X K W (.Compare a [.NotIn] [b] pos) (tDNotIn ta tb) (mOp dnotD ma mb) := ⟨pe_cmp (pc_dnotin (hu1 hr) ha.p hb.p) hm, ev_dnot ha.v hb.v⟩
theorem c_ix (hs : PlainIx b) (hK : X.K = K := by rfl) (ha : CE X K W a ta ma) (hb : CE X K W b tb mb) : CE X K W (.Subscript a b pos) (tOp (rIx K) ta tb) (mOp ixD ma mb) := by subst hK; exact ⟨pe_ix ix_seq ha.p hb.p hs, ev_op o2_ix ha.v hb.v⟩
theorem c_o0 : CO X K W none tNoPart mNoPart := ⟨po_none, eo_none⟩
theorem c_o1 (ha : CE X K W a ta ma) : CO X K W (some a) (tPart ta) (mPart ma) := ⟨po_some ha.p, eo_some ha.v⟩
theorem c_sl {lo hi : Option Expr} {tl th : TO} {ml mh : M (Option Int)} (hK : X.K = K := by rfl) (ha : CE X K W a ta ma) (hl : CO X K W lo tl ml) (hh : CO X K W hi th mh) : CE X K W (.Subscript a (.Slice lo hi none p2) pos) (tSl (rSlAll K) ta tl th) (mSl ma ml mh) := by subst hK; exact ⟨pe_slice sl_all ha.p hl.p hh.p, ev_sl ha.v hl.v hh.v⟩
theorem c_if {t : TT} {mt : M Bool} (hc : CT X K W c t mt) (ha : CE X K W a ta ma) (hb : CE X K W b tb mb) : CE X K W (.IfExp c a b pos) (tIf t ta tb) (mIf mt ma mb) := ⟨pe_ifExp hc.p ha.p hb.p, ev_if hc.v ha.v hb.v⟩
theorem c_one {op : BoolOp} (ha : CE X K W a ta ma) : CE X K W (.BoolOp op [a] pos) ta ma := ⟨pe_one ha.p, ha.v⟩
theorem c_and {rest : List Expr} (ha : CE X K W a ta ma) (hb : CE X K W (.BoolOp .And (b :: rest) pos) tb mb) : CE X K W (.BoolOp .And (a :: b :: rest) pos) (tAndV ta tb) (mAndV ma mb) := ⟨pe_and ha.p hb.p, ev_andV ha.v hb.v⟩
theorem c_or {rest : List Expr} (ha : CE X K W a ta ma) (hb : CE X K W (.BoolOp .Or (b :: rest) pos) tb mb) : CE X K W (.BoolOp .Or (a :: b :: rest) pos) (tOrV ta tb) (mOrV ma mb) := ⟨pe_or ha.p hb.p, ev_orV ha.v hb.v⟩
theorem c_not (ha : CE X K W a ta ma) : CE X K W (.UnaryOp .Not a pos) (tNotV ta) (mNotV ma) := ⟨pe_not ha.p, ev_notV ha.v⟩
/-- a op b op c, the middle one looked at twice -/
def mChain (f g : D → D → Option Rv) (ma mb mc : M Rv) : M Rv := fun s => (ma s).bind fun r1 s1 => (mb s1).bind fun r2 s2 => opt (pk (nrm r1) s2) fun x => opt (pk (nrm r2) s2) fun y => match f x y with
  | some (.d (.bl true)) => (mc s2).bind fun r3 s3 => opt (pk (nrm r2) s3) fun y => opt (pk r3 s3) fun z => outR (g y z) s3
  | some (.d (.bl false)) => .ok (.d (.bl false)) s2
  | _ => .no
theorem ev_chain {r r' : R2} {f g : D → D → Option Rv} (hf : Op2 K r f) (hg : Op2 K r' g) (ha : EvX K W ta ma) (hb : EvX K W tb mb) (hc : EvX K W tc mc) : EvX K W (tChain r r' ta tb tc) (mChain f g ma mb mc) := by
  intro F H σ s Q rs w
  refine ha.step (Go.refl rs) w fun r1 s1 v1 F1 H1 g1 _ h1 w1 => ?_
  obtain ⟨F1', g1', sb1, h1'⟩ := nrm_ok g1 h1
  refine hb.step g1' w1 fun r2 s2 v2 F2 H2 g2 g12 h2 w2 => ?_
  obtain ⟨F2', g12', sb2, h2'⟩ := nrm_ok g12 h2
  have g2' := g1'.trans g12'
  obtain ⟨x, ex, w3⟩ := opt_wn w2
  obtain ⟨y, ey, w4⟩ := opt_wn w3
  refine hf F2' H2 v1 v2 x y _ g2'.rs.sub (pk_ok g2'.rs (h1'.go g12') ex) (pk_ok g2'.rs h2' ey) ?_
  split at w4
  · rename_i e
    rw [e]
    intro z F' H' al hz
    cases hz
    refine ⟨true, rfl, ?_⟩
    rw [if_pos rfl]
    have g3 := g2'.al al
    have g3' := (Go.refl g2'.rs).al al
    refine hc.step g3 w4 fun r3 s3 v3 F3 H3 g4 g34 h3 w5 => ?_
    obtain ⟨y2, ey2, w6⟩ := opt_wn w5
    obtain ⟨z2, ez2, w7⟩ := opt_wn w6
    exact hg F3 H3 v2 v3 y2 z2 Q g4.rs.sub (pk_ok g4.rs ((h2'.go g3').go g34) ey2) (pk_ok g4.rs h3 ez2) (out_ok g4 w7)
  · rename_i e
    rw [e]
    intro z F' H' al hz
    cases hz
    refine ⟨false, rfl, ?_⟩
    rw [if_neg (by decide)]
    exact w4 _ F' H' (g2'.al al) (.bl false)
  · exact w4.elim
theorem c_chain {op op' : CmpOp} {r r' : R2} {f g : D → D → Option Rv} (ho : OpR X (compareOp op) r) (ho' : OpR X (compareOp op') r') (hf : Op2 K r f) (hg : Op2 K r' g) (ha : CE X K W a ta ma) (hb : CE X K W b tb mb) (hc : CE X K W c tc mc)
    (hm : lastMarks [op, op'] [b, c] = false := by with_unfolding_all rfl) : CE X K W (.Compare a [op, op'] [b, c] pos) (tChain r r' ta tb tc) (mChain f g ma mb mc) := ⟨pe_chain ho ho' ha.p hb.p hc.p hm, ev_chain hf hg ha.v hb.v hc.v⟩
theorem c_lele (ha : CE X K W a ta ma) (hb : CE X K W b tb mb) (hc : CE X K W c tc mc) (hm : lastMarks [.LtE, .LtE] [b, c] = false := by with_unfolding_all rfl) :
    CE X K W (.Compare a [.LtE, .LtE] [b, c] pos) (tChain (rCmpA (fun i j => decide (i ≤ j)) (fun i j => !sLt j i)) (rCmpA (fun i j => decide (i ≤ j)) (fun i j => !sLt j i)) ta tb tc) (mChain leD leD ma mb mc) := c_chain op_leA op_leA o2_cmp o2_cmp ha hb hc hm

/-! ### tests -/
theorem t_val (ha : CE X K W e te me) (he : ∀ whole, isTrue e X.env whole = (do let v ← whole; standAt e.pos; holding [v] (truthy v)) := by intro _; rfl) : CT X K W e (tB te) (mTr blD me) := ⟨pt_val ha.p he, et_B ha.v⟩
theorem t_tru (hK : X.K = K := by rfl) (ha : CE X K W e te me) (he : ∀ whole, isTrue e X.env whole = (do let v ← whole; standAt e.pos; holding [v] (truthy v)) := by intro _; rfl) : CT X K W e (fun σ H Q => te σ H fun x H' => ∃ k, TruV K x H' k ∧ Q k H') (mTr trD me) := by subst hK; exact ⟨pt_truth ha.p he, et_tru ha.v⟩
theorem t_cmp {op : CmpOp} {r : R2} {f : D → D → Option Rv} (ho : OpR X (compareOp op) r) (hf : Op2 K r f) (hm : behindInMarks op b = false) (ha : CE X K W a ta ma) (hb : CE X K W b tb mb) : CT X K W (.Compare a [op] [b] pos) (tTest (tOp r ta tb)) (mTr blD (mOp f ma mb)) := ⟨pt_cmpR ho ha.p hb.p hm, et_test (ev_op hf ha.v hb.v)⟩
theorem t_lt (ha : CE X K W a ta ma) (hb : CE X K W b tb mb) : CT X K W (.Compare a [.Lt] [b] pos) (tTest (tOp (rCmpA (fun i j => decide (i < j)) sLt) ta tb)) (mTr blD (mOp ltD ma mb)) := t_cmp op_ltA o2_cmp (nomark _) ha hb
theorem t_le (ha : CE X K W a ta ma) (hb : CE X K W b tb mb) : CT X K W (.Compare a [.LtE] [b] pos) (tTest (tOp (rCmpA (fun i j => decide (i ≤ j)) (fun i j => !sLt j i)) ta tb)) (mTr blD (mOp leD ma mb)) := t_cmp op_leA o2_cmp (nomark _) ha hb
theorem t_gt (ha : CE X K W a ta ma) (hb : CE X K W b tb mb) : CT X K W (.Compare a [.Gt] [b] pos) (tTest (tOp (rCmpA (fun i j => decide (j < i)) (fun i j => sLt j i)) ta tb)) (mTr blD (mOp gtD ma mb)) := t_cmp op_gtA o2_cmp (nomark _) ha hb
theorem t_ge (ha : CE X K W a ta ma) (hb : CE X K W b tb mb) : CT X K W (.Compare a [.GtE] [b] pos) (tTest (tOp (rCmpA (fun i j => decide (j ≤ i)) (fun i j => !sLt i j)) ta tb)) (mTr blD (mOp geD ma mb)) := t_cmp op_geA o2_cmp (nomark _) ha hb
theorem t_eq (hr : Room k X.A) (hK : X.K = K := by rfl) (ha : CE X K W a ta ma) (hb : CE X K W b tb mb) : CT X K W (.Compare a [.Eq] [b] pos) (tTest (tOp (rEqA K) ta tb)) (mTr blD (mOp eqD ma mb)) := by subst hK; exact t_cmp (op_eqA (hu64 hr)) o2_eq (nomark _) ha hb
theorem t_ne (hr : Room k X.A) (hK : X.K = K := by rfl) (ha : CE X K W a ta ma) (hb : CE X K W b tb mb) : CT X K W (.Compare a [.NotEq] [b] pos) (tTest (tOp (rNeA K) ta tb)) (mTr blD (mOp neD ma mb)) := by subst hK; exact t_cmp (op_neA (hu64 hr)) o2_ne (nomark _) ha hb
theorem t_in (hr : Room k X.A) (hm : behindInMarks .In b = false) (hK : X.K = K := by rfl) (ha : CE X K W a ta ma) (hb : CE X K W b tb mb) : CT X K W (.Compare a [.In] [b] pos) (tTest (tOp (rInA K) ta tb)) (mTr blD (mOp inD ma mb)) := by subst hK; exact t_cmp (op_inA (hu65 hr)) o2_in hm ha hb
theorem t_notIn (hr : Room k X.A) (hm : behindInMarks .NotIn b = false) (hK : X.K = K := by rfl) (ha : CE X K W a ta ma) (hb : CE X K W b tb mb) : CT X K W (.Compare a [.NotIn] [b] pos) (tTest (tOp (rNotInA K) ta tb)) (mTr blD (mOp notInD ma mb)) := by subst hK; exact t_cmp (op_notInA (hu65 hr)) o2_notIn hm ha hb
theorem t_is (ha : CE X K W a ta ma) (hb : CE X K W b tb mb) : CT X K W (.Compare a [.Is] [b] pos) (tTest (tOp rIsA2 ta tb)) (mTr blD (mOp isD ma mb)) := t_cmp op_isA o2_is (nomark _) ha hb
theorem t_isNot (ha : CE X K W a ta ma) (hb : CE X K W b tb mb) : CT X K W (.Compare a [.IsNot] [b] pos) (tTest (tOp rNotA2 ta tb)) (mTr blD (mOp isNotD ma mb)) := t_cmp op_isNotA o2_isNot (nomark _) ha hb
theorem t_din (hr : Room k X.A) (hm : behindInMarks .In b = false) (ha : CE X K W a ta ma) (hb : CE X K W b tb mb) : CT X K W (.Compare a [.In] [b] pos) (tB (tDIn ta tb)) (mTr blD (mOp dinD ma mb)) := ⟨pt_cmp (pc_din (hu1 hr) ha.p hb.p) hm, et_B (ev_din ha.v hb.v)⟩
theorem t_dnot (hr : Room k X.A) (hm : behindInMarks .NotIn b = false) (ha : CE X K W a ta ma) (hb : CE X K W b tb mb) : CT X K W (.Compare a [.NotIn] [b] pos) (tB (tDNotIn ta tb)) (mTr blD (mOp dnotD ma mb)) := ⟨pt_cmp (pc_dnotin (hu1 hr) ha.p hb.p) hm, et_B (ev_dnot ha.v hb.v)⟩
theorem t_chain {op op' : CmpOp} {r r' : R2} {f g : D → D → Option Rv} (ho : OpR X (compareOp op) r) (ho' : OpR X (compareOp op') r') (hf : Op2 K r f) (hg : Op2 K r' g) (ha : CE X K W a ta ma) (hb : CE X K W b tb mb) (hc : CE X K W c tc mc)
    (hm : lastMarks [op, op'] [b, c] = false := by with_unfolding_all rfl) : CT X K W (.Compare a [op, op'] [b, c] pos) (tTest (tChain r r' ta tb tc)) (mTr blD (mChain f g ma mb mc)) := ⟨pt_chain ho ho' ha.p hb.p hc.p hm, et_test (ev_chain hf hg ha.v hb.v hc.v)⟩
theorem t_lele (ha : CE X K W a ta ma) (hb : CE X K W b tb mb) (hc : CE X K W c tc mc) (hm : lastMarks [.LtE, .LtE] [b, c] = false := by with_unfolding_all rfl) :
    CT X K W (.Compare a [.LtE, .LtE] [b, c] pos) (tTest (tChain (rCmpA (fun i j => decide (i ≤ j)) (fun i j => !sLt j i)) (rCmpA (fun i j => decide (i ≤ j)) (fun i j => !sLt j i)) ta tb tc)) (mTr blD (mChain leD leD ma mb mc)) := t_chain op_leA op_leA o2_cmp o2_cmp ha hb hc hm
variable {u v : TT} {mu mv : M Bool}
theorem t_not (ha : CT X K W a u mu) : CT X K W (.UnaryOp .Not a pos) (tNot u) (mNot mu) := ⟨pt_not ha.p, et_not ha.v⟩
theorem w_and1 (ha : CT X K W a u mu) : CW X K W (.BoolOp .And [a] pos) u mu := ⟨pw_and1 ha.p, ha.v⟩
theorem w_or1 (ha : CT X K W a u mu) : CW X K W (.BoolOp .Or [a] pos) u mu := ⟨pw_or1 ha.p, ha.v⟩
theorem w_and {rest : List Expr} (ha : CT X K W a u mu) (hb : CW X K W (.BoolOp .And (b :: rest) pos) v mv) : CW X K W (.BoolOp .And (a :: b :: rest) pos) (tAnd u v) (mAnd mu mv) := ⟨pw_and ha.p hb.p, et_and ha.v hb.v⟩
theorem w_or {rest : List Expr} (ha : CT X K W a u mu) (hb : CW X K W (.BoolOp .Or (b :: rest) pos) v mv) : CW X K W (.BoolOp .Or (a :: b :: rest) pos) (tOr u v) (mOr mu mv) := ⟨pw_or ha.p hb.p, et_or ha.v hb.v⟩
theorem t_w (h : CW X K W a u mu) : CT X K W a u mu := ⟨h.p.pt, h.v⟩
theorem ts_nil : CTs X K W [] tYes mYes := ⟨pts_nil, tYes_ev⟩
theorem ts_one (h : CT X K W a u mu) : CTs X K W [a] u mu := ⟨pts_one h.p, h.v⟩

/-! ### arguments, displays, calls -/
theorem a_nil : CA X K W [] tNil mANil := ⟨pa_nil, ea_nil⟩
theorem a_cons (ha : CE X K W e te me) (hr : CA X K W es t m) (hs : starEach (e :: es) X.env = (false, eval e X.env) :: starEach es X.env := by rfl) : CA X K W (e :: es) (tCons te t) (mACons me m) := ⟨pa_cons ha.p hr.p hs, ea_cons ha.v hr.v⟩
theorem a_ref (i : Nat) {x : Str} (hr : CA X K W es t m) (hN : X.N[i]? = some x := by rfl) (hv : Vis X.env.scope x := by first | exact Or.inl rfl | exact Or.inr (Or.inl rfl) | exact Or.inr (Or.inr rfl)) (hd : (x == ("__debug__" : Str)) = false := by decide)
    (hcd : (x == ("__classdict__" : Str)) = false := by decide) (hs : starEach (.Name x pos :: es) X.env = (false, eval (.Name x pos) X.env) :: starEach es X.env := by rfl) : CA X K W (.Name x pos :: es) (tCons (tVar i) t) (mARef i m) := ⟨pa_cons (pv i hN hv hd hcd) hr.p hs, ea_ref hr.v⟩
theorem c_tup {n : Nat} (ha : CA X K W es t m) : CE X K W (.Tuple es n pos) (tTup t) (mTup m) := ⟨pe_tup ha.p, ev_tup ha.v⟩
theorem c_lst (ha : CA X K W es t m) : CE X K W (.List es pos) (tLst t) (mLst m) := ⟨pe_lst ha.p, ev_lst ha.v⟩
theorem c_cb1 {x : Str} {id : String} {r : List V → Hp → VK → Prop} {f : D → Option Rv} (hc : CallR X (.builtin id) r) (hf : Op1 K (fun x H Q => r [x] H Q) f) (hg : Gl X x) (hm : X.mg x = none) (hv : bootBuiltins x = some (.builtin id)) (ha : CE X K W e te me) (hn : x ≠ "__name__" := by decide) (hdb : (x == ("__debug__" : Str)) = false := by decide)
    (he : starEach (e :: []) X.env = (false, eval e X.env) :: starEach [] X.env := by rfl) (hpl : (backTo pos (starEach [] X.env)).any (·.1) = false := by rfl) : CE X K W (.Call (.Name x p1) [e] [] pos) (tCB r (tCons te tNil)) (mCB1 f me) := ⟨pe_callB hc hg hm hv (pa_cons ha.p pa_nil he) hn hdb he hpl, ev_cb1 hf ha.v⟩
theorem c_ct1 {x : Str} {id : String} {r : List V → Hp → VK → Prop} {f : D → Option Rv} (hc : CallR X (.type id) r) (hf : Op1 K (fun x H Q => r [x] H Q) f) (hg : Gl X x) (hm : X.mg x = none) (hv : bootBuiltins x = some (.type id)) (ha : CE X K W e te me) (hn : x ≠ "__name__" := by decide) (hdb : (x == ("__debug__" : Str)) = false := by decide)
    (he : starEach (e :: []) X.env = (false, eval e X.env) :: starEach [] X.env := by rfl) (hpl : (backTo pos (starEach [] X.env)).any (·.1) = false := by rfl) : CE X K W (.Call (.Name x p1) [e] [] pos) (tCB r (tCons te tNil)) (mCB1 f me) := ⟨pe_callTy hc hg hm hv (pa_cons ha.p pa_nil he) hn hdb he hpl, ev_cb1 hf ha.v⟩
theorem c_cb {x : Str} {id : String} {r : List V → Hp → VK → Prop} {f : List D → Option Rv} (hc : CallR X (.builtin id) r) (hf : CallOk K r f) (hg : Gl X x) (hm : X.mg x = none) (hv : bootBuiltins x = some (.builtin id)) (ha : CA X K W (e :: es) t m) (hn : x ≠ "__name__" := by decide) (hdb : (x == ("__debug__" : Str)) = false := by decide)
    (he : starEach (e :: es) X.env = (false, eval e X.env) :: starEach es X.env := by rfl) (hpl : (backTo pos (starEach es X.env)).any (·.1) = false := by rfl) : CE X K W (.Call (.Name x p1) (e :: es) [] pos) (tCB r t) (mCB f m) := ⟨pe_callB hc hg hm hv ha.p hn hdb he hpl, ev_cb hf ha.v⟩
theorem c_len (hg : Gl X "len") (hm : X.mg "len" = none) (hK : X.K = K := by rfl) (ha : CE X K W e te me) (he : starEach (e :: []) X.env = (false, eval e X.env) :: starEach [] X.env := by rfl) (hpl : (backTo pos (starEach [] X.env)).any (·.1) = false := by rfl) :
    CE X K W (.Call (.Name "len" p1) [e] [] pos) (tCB (fun xs H Q => ∃ x n, xs = [x] ∧ LenV K x H n ∧ Q (.int n) H) (tCons te tNil)) (mCB1 lenD me) := by subst hK; exact c_cb1 call_len c1_len hg hm PySem.boot_len ha (by decide) (by decide) he hpl
end
end Cz

/-! # CzR -/
namespace Cz
open L2 PyProof.Rows PySem.Spec PySem
section
variable {X : Cx} {K : PySem.W.Frag} {W : WX} {a b c e o : Expr} {es : List Expr} {pos p1 p2 p3 : Pos} {ta tb tc te : TE} {ma mb mc me : M Rv} {t : TA} {m : M (List Rv)} {k n : Nat}

/-! ### calls of what is built in -/
theorem c_abs (hg : Gl X "abs") (hm : X.mg "abs" = none) (ha : CE X K W e te me) (he : starEach (e :: []) X.env = (false, eval e X.env) :: starEach [] X.env := by rfl) (hpl : (backTo pos (starEach [] X.env)).any (·.1) = false := by rfl) :
    CE X K W (.Call (.Name "abs" p1) [e] [] pos) (tCB rAbs1 (tCons te tNil)) (mCB1 absD me) := c_cb1 cr_abs1 c1_abs hg hm boot_abs ha (by decide) (by decide) he hpl
theorem c_int (hg : Gl X "int") (hm : X.mg "int" = none) (ha : CE X K W e te me) (he : starEach (e :: []) X.env = (false, eval e X.env) :: starEach [] X.env := by rfl) (hpl : (backTo pos (starEach [] X.env)).any (·.1) = false := by rfl) :
    CE X K W (.Call (.Name "int" p1) [e] [] pos) (tCB rInt1 (tCons te tNil)) (mCB1 int1D me) := c_ct1 cr_int1 c1_int hg hm boot_int ha (by decide) (by decide) he hpl
theorem c_tupOf (hg : Gl X "tuple") (hm : X.mg "tuple" = none) (hK : X.K = K := by rfl) (ha : CE X K W e te me) (he : starEach (e :: []) X.env = (false, eval e X.env) :: starEach [] X.env := by rfl) (hpl : (backTo pos (starEach [] X.env)).any (·.1) = false := by rfl) :
    CE X K W (.Call (.Name "tuple" p1) [e] [] pos) (tCB (rTupOf K) (tCons te tNil)) (mCB1 tupD me) := by subst hK; exact c_ct1 cr_tupOf c1_tup hg hm boot_tuple ha (by decide) (by decide) he hpl
theorem c_lstOf (hg : Gl X "list") (hm : X.mg "list" = none) (hK : X.K = K := by rfl) (ha : CE X K W e te me) (he : starEach (e :: []) X.env = (false, eval e X.env) :: starEach [] X.env := by rfl) (hpl : (backTo pos (starEach [] X.env)).any (·.1) = false := by rfl) :
    CE X K W (.Call (.Name "list" p1) [e] [] pos) (tCB (rLstOf K) (tCons te tNil)) (mCB1 listD me) := by subst hK; exact c_ct1 cr_lstOf c1_lst hg hm boot_list ha (by decide) (by decide) he hpl
theorem c_listD (hc : X.calm = true) (hg : Gl X "list") (hm : X.mg "list" = none) (ha : CE X K W e te me) (he : starEach (e :: []) X.env = (false, eval e X.env) :: starEach [] X.env := by rfl) (hpl : (backTo pos (starEach [] X.env)).any (·.1) = false := by rfl) :
    CE X K W (.Call (.Name "list" p1) [e] [] pos) (tCB rListDA (tCons te tNil)) (mCB1 listDD me) := c_ct1 (cr_listDA hc) c1_listD hg hm boot_list ha (by decide) (by decide) he hpl
theorem c_min2 (hc : X.calm = true) (hg : Gl X "min") (hm : X.mg "min" = none) (ha : CA X K W (e :: es) t m) (he : starEach (e :: es) X.env = (false, eval e X.env) :: starEach es X.env := by rfl) (hpl : (backTo pos (starEach es X.env)).any (·.1) = false := by rfl) :
    CE X K W (.Call (.Name "min" p1) (e :: es) [] pos) (tCB rMin2 t) (mCB min2D m) := c_cb (cr_min2 hc) co_min2 hg hm boot_min ha (by decide) (by decide) he hpl
theorem c_max2 (hc : X.calm = true) (hg : Gl X "max") (hm : X.mg "max" = none) (ha : CA X K W (e :: es) t m) (he : starEach (e :: es) X.env = (false, eval e X.env) :: starEach es X.env := by rfl) (hpl : (backTo pos (starEach es X.env)).any (·.1) = false := by rfl) :
    CE X K W (.Call (.Name "max" p1) (e :: es) [] pos) (tCB rMax2 t) (mCB max2D m) := c_cb (cr_max2 hc) co_max2 hg hm boot_max ha (by decide) (by decide) he hpl
theorem c_min (hc : X.calm = true) (hg : Gl X "min") (hm : X.mg "min" = none) (hK : X.K = K := by rfl) (ha : CE X K W e te me) (he : starEach (e :: []) X.env = (false, eval e X.env) :: starEach [] X.env := by rfl) (hpl : (backTo pos (starEach [] X.env)).any (·.1) = false := by rfl) :
    CE X K W (.Call (.Name "min" p1) [e] [] pos) (tCB (rMin K) (tCons te tNil)) (mCB1 minD me) := by subst hK; exact c_cb1 (cr_min hc) c1_min hg hm boot_min ha (by decide) (by decide) he hpl
theorem c_max (hc : X.calm = true) (hg : Gl X "max") (hm : X.mg "max" = none) (hK : X.K = K := by rfl) (ha : CE X K W e te me) (he : starEach (e :: []) X.env = (false, eval e X.env) :: starEach [] X.env := by rfl) (hpl : (backTo pos (starEach [] X.env)).any (·.1) = false := by rfl) :
    CE X K W (.Call (.Name "max" p1) [e] [] pos) (tCB (rMax K) (tCons te tNil)) (mCB1 maxD me) := by subst hK; exact c_cb1 (cr_max hc) c1_max hg hm boot_max ha (by decide) (by decide) he hpl
theorem c_sum (hc : X.calm = true) (hg : Gl X "sum") (hm : X.mg "sum" = none) (hK : X.K = K := by rfl) (ha : CE X K W e te me) (he : starEach (e :: []) X.env = (false, eval e X.env) :: starEach [] X.env := by rfl) (hpl : (backTo pos (starEach [] X.env)).any (·.1) = false := by rfl) :
    CE X K W (.Call (.Name "sum" p1) [e] [] pos) (tCB (rSum K) (tCons te tNil)) (mCB1 sumD me) := by subst hK; exact c_cb1 (cr_sum hc) c1_sum hg hm boot_sum ha (by decide) (by decide) he hpl
theorem c_all (hc : X.calm = true) (hg : Gl X "all") (hm : X.mg "all" = none) (hK : X.K = K := by rfl) (ha : CE X K W e te me) (he : starEach (e :: []) X.env = (false, eval e X.env) :: starEach [] X.env := by rfl) (hpl : (backTo pos (starEach [] X.env)).any (·.1) = false := by rfl) :
    CE X K W (.Call (.Name "all" p1) [e] [] pos) (tCB (rAll K) (tCons te tNil)) (mCB1 allB me) := by subst hK; exact c_cb1 (cr_all hc) c1_all hg hm boot_all ha (by decide) (by decide) he hpl
theorem c_any (hc : X.calm = true) (hg : Gl X "any") (hm : X.mg "any" = none) (hK : X.K = K := by rfl) (ha : CE X K W e te me) (he : starEach (e :: []) X.env = (false, eval e X.env) :: starEach [] X.env := by rfl) (hpl : (backTo pos (starEach [] X.env)).any (·.1) = false := by rfl) :
    CE X K W (.Call (.Name "any" p1) [e] [] pos) (tCB (rAny K) (tCons te tNil)) (mCB1 anyB me) := by subst hK; exact c_cb1 (cr_any hc) c1_any hg hm boot_any ha (by decide) (by decide) he hpl
theorem c_sorted (hg : Gl X "sorted") (hm : X.mg "sorted" = none) (hK : X.K = K := by rfl) (ha : CE X K W e te me) (he : starEach (e :: []) X.env = (false, eval e X.env) :: starEach [] X.env := by rfl) (hpl : (backTo pos (starEach [] X.env)).any (·.1) = false := by rfl) :
    CE X K W (.Call (.Name "sorted" p1) [e] [] pos) (tCB (rSortA K) (tCons te tNil)) (mCB1 sortD me) := by subst hK; exact c_cb1 cr_sortA c1_sort hg hm boot_sorted ha (by decide) (by decide) he hpl
/-- isinstance(x, c); the class: a constant's reading -/
theorem c_isi1 {T : IsTab} {cv : V} {u : Value} (hc : ClsV cv u) (hT : T.ok K [u]) (hg : Gl X "isinstance") (hm : X.mg "isinstance" = none) (pc : PE X c (tC cv)) (hK : X.K = K := by rfl) (ha : CE X K W e te me)
    (he : starEach (e :: [c]) X.env = (false, eval e X.env) :: starEach [c] X.env := by rfl) (hs2 : starEach (c :: []) X.env = (false, eval c X.env) :: starEach [] X.env := by rfl) (hpl : (backTo pos (starEach [c] X.env)).any (·.1) = false := by rfl) :
    CE X K W (.Call (.Name "isinstance" p1) [e, c] [] pos) (tCB (rIsi K) (tCons te (tCons (tC cv) tNil))) (mIsi T me) := by subst hK; exact ⟨pe_callB call_isi hg hm boot_isinstance (pa_cons ha.p (pa_cons pc pa_nil hs2) he) (by decide) (by decide) he hpl, ev_isi1 hc hT ha.v⟩
theorem c_isiT {T : IsTab} {cs : List V} {us : List Value} {nn : Nat} (hc : Paired ClsV cs us) (hz : cs.length ≤ sizeLine) (hT : T.ok K us) (hg : Gl X "isinstance") (hm : X.mg "isinstance" = none) (pc : PA X es (tCs cs)) (hK : X.K = K := by rfl) (ha : CE X K W e te me)
    (he : starEach (e :: [.Tuple es nn p2]) X.env = (false, eval e X.env) :: starEach [.Tuple es nn p2] X.env := by rfl) (hs2 : starEach (.Tuple es nn p2 :: []) X.env = (false, eval (.Tuple es nn p2) X.env) :: starEach [] X.env := by rfl) (hpl : (backTo pos (starEach [.Tuple es nn p2] X.env)).any (·.1) = false := by rfl) :
    CE X K W (.Call (.Name "isinstance" p1) [e, .Tuple es nn p2] [] pos) (tCB (rIsiT K) (tCons te (tCons (tTup (tCs cs)) tNil))) (mIsi T me) := by subst hK; exact ⟨pe_callB call_isiT hg hm boot_isinstance (pa_cons ha.p (pa_cons (pe_tup pc) pa_nil hs2) he) (by decide) (by decide) he hpl, ev_isiT hc hz hT ha.v⟩
theorem c_join {x : Str} {j : Nat} (hK : X.K = K := by rfl) (ha : CE X K W e te me) (hs : starEach [e] X.env = [(false, eval e X.env)] := by rfl) (hbase : attributeBase (.Constant (.str x) j p2) "join" X.env (eval (.Constant (.str x) j p2) X.env) = eval (.Constant (.str x) j p2) X.env := by rfl) (hline : (p1.endLine == pos.line) = true := by rfl) :
    CE X K W (.Call (.Attribute (.Constant (.str x) j p2) "join" p1) [e] [] pos) (tM1 (rJoin K) (tC (.str x)) te) (mUn (joinD x) me) := by subst hK; exact ⟨pe_join pe_str ha.p hs hbase hline, ev_join ha.v⟩

/-! ### calls of defs -/
theorem c_call {kk : Nat} {x : Str} {g : Addr} {fd : FuncData} {ps : List Str} {f : MF} {dvs : List V} {ds : List Value} {dd : List D} (F : FnOk X.prog X.w X.K X.mg X.base CX0 kk g fd ps (spM K f)) (hr : Room kk X.A) (hg : Gl X x) (hm : X.mg x = some (.ref g)) (hk : PySem.W.keepIn X.K (.ref g) = true) (hb : Binds X.K fd ps ds) (hv : Vals dvs ds) (hd : ∀ F, RpL K F dd dvs)
    (ha : CA X K W (e :: es) t m) (hdb : (x == ("__debug__" : Str)) = false := by decide) (he : starEach (e :: es) X.env = (false, eval e X.env) :: starEach es X.env := by rfl) (hpl : (backTo pos (starEach es X.env)).any (·.1) = false := by rfl) :
    CE X K W (.Call (.Name x p1) (e :: es) [] pos) (tCall (spM K f) dvs (fun _ _ _ => False) t) (mCall f dd m) := ⟨pe_call F hr hg hm hk hb hv (fun _ _ _ _ _ _ _ h => h.elim) ha.p hdb he hpl, ev_call hd ha.v⟩

/-! ### comprehensions -/
theorem c_lc {tg iter elt : Expr} {ifs : List Expr} {scope : Scope} {own : List (Str × Nat)} {wi : TI} {g : TG} {tt : TT} {mi : M (List D)} {f : MG} {tv : List Nat} {mt : M Bool} (hc : X.calm = true) (hN : X.N.Nodup) (ok : BlkOk X.N X.env.scope scope own) (ht : ∀ j ∈ tv, j ∈ own.map (·.2)) (hi : CI X K W tg iter wi mi)
    (hg : ∀ (s : Shared) (H : Hp) (C : Addr) (cl : List (Str × Addr)) (fp : List Addr), CG (X.blk s H scope (compEnvC scope cl C X.env) fp) K tg g f tv) (hts : ∀ (s : Shared) (H : Hp) (C : Addr) (cl : List (Str × Addr)) (fp : List Addr), CTs (X.blk s H scope (compEnvC scope cl C X.env) fp) K W0 ifs tt mt)
    (he : ∀ (s : Shared) (H : Hp) (C : Addr) (cl : List (Str × Addr)) (fp : List Addr), CE (X.blk s H scope (compEnvC scope cl C X.env) fp) K W0 elt te me) (hs : ∀ x, foldedSetIterable iter X.env x = pure x := by intro _; rfl) (s0 : Shared) (H0 : Hp) :
    CE X K W (.ListComp elt [⟨tg, iter, ifs, 0⟩] scope pos) (tLc wi g tt te (own.map (·.2))) (mLc mi f mt me (own.map (·.2))) :=
  ⟨pe_lc hc hN hi.p ok (fun s H C cl fp => (hg s H C cl fp).p) (fun s H C cl fp => (hts s H C cl fp).p) (fun s H C cl fp => (he s H C cl fp).p) hs, ev_lc hi.v (hg s0 H0 0 [] []).v ht (hts s0 H0 0 [] []).v (he s0 H0 0 [] []).v⟩

/-! ### sources, targets -/
theorem i_seq {tg : Expr} (hK : X.K = K := by rfl) (ha : CE X K W e te me) : CI X K W tg e (iSeq K te) (mItems me) := by subst hK; exact ⟨pi_seq ha.p, ei_seq ha.v⟩
theorem i_r1 {tg : Expr} (hg : Gl X "range") (hm : X.mg "range" = none) (ha : CA X K W [a] t m) (hs : starEach [a] X.env = [(false, eval a X.env)] := by rfl) : CI X K W tg (.Call (.Name "range" p1) [a] [] pos) (iRng1 t) (mRng rng1D m) := ⟨pi_range1 hg hm ha.p hs, ei_range1 ha.v⟩
theorem i_r2 {tg : Expr} (hg : Gl X "range") (hm : X.mg "range" = none) (ha : CA X K W [a, b] t m) (hs : starEach [a, b] X.env = [(false, eval a X.env), (false, eval b X.env)] := by rfl) (hs2 : starEach [b] X.env = [(false, eval b X.env)] := by rfl) : CI X K W tg (.Call (.Name "range" p1) [a, b] [] pos) (iRng2 t) (mRng rng2D m) := ⟨pi_range2 hg hm ha.p hs hs2, ei_range2 ha.v⟩
theorem i_enum {elts : List Expr} {kk : Nat} (hg : Gl X "enumerate") (hm : X.mg "enumerate" = none) (hK : X.K = K := by rfl) (ha : CA X K W [e] t m) (hs : starEach [e] X.env = [(false, eval e X.env)] := by rfl) : CI X K W (.Tuple elts kk p2) (.Call (.Name "enumerate" p1) [e] [] pos) (iEnum K t) (mRng enumD m) := by subst hK; exact ⟨pi_enum hg hm ha.p hs, ei_enum ha.v⟩
theorem g_n (i : Nat) {x : Str} (hN : X.N.Nodup) (hi : X.N[i]? = some x) (hx : Loc X.env.scope x) (hf : X.fn x = true ∨ X.env.scope.names.lookup x = some .local := by first | exact .inl rfl | exact .inr rfl | assumption) : CG X K (.Name x pos) (gName i) (mgName i) [i] := ⟨pg_name hN hi hx hf, eg_name⟩
theorem g_nil : CGs X K [] gNil mgNil [] := ⟨pgs_nil, eg_nil⟩
theorem g_cons {g : TG} {gs : TGs} {f : MG} {fs : MGs} {tv us : List Nat} (h1 : CG X K e g f tv) (h2 : CGs X K es gs fs us) (hs : (assignEach (e :: es) X.env).map (·.2) = assign e X.env :: (assignEach es X.env).map (·.2) := by rfl) : CGs X K (e :: es) (gCons g gs) (mgCons f fs) (tv ++ us) := ⟨pgs_cons h1.p h2.p hs, eg_cons h1.v h2.v⟩
theorem g_tup {kk n : Nat} {gs : TGs} {fs : MGs} {tv : List Nat} (hc : X.calm = true) (hK : X.K = K := by rfl) (h : CGs X K es gs fs tv) (hn : (assignEach es X.env).length = n := by rfl) (hst : (assignEach es X.env).findIdx? (·.1) = none := by rfl) : CG X K (.Tuple es kk pos) (gTup K n gs) (mgTup n fs) tv := by subst hK; exact ⟨pg_tup hc h.p hn hst, eg_tup h.v⟩

/-! ### statements -/
variable {st : Stmt} {rest body els : List Stmt} {u v : TS} {mu mv : MS}
theorem s_nil : CSs X K W [] tNext mNext := ⟨pss_nil, es_next⟩
theorem s_cons (h1 : CS X K W st u mu) (h2 : CSs X K W rest v mv) : CSs X K W (st :: rest) (tSeq u v) (mSeq mu mv) := ⟨pss_cons h1.p h2.p, es_seq h1.v h2.v⟩
theorem s_one (h1 : CS X K W st u mu) : CSs X K W [st] u mu := ⟨pss_one h1.p, h1.v⟩
theorem s_pass : CS X K W (.Pass pos) tNext mNext := ⟨ps_pass, es_next⟩
theorem s_break : CS X K W (.Break pos) tBreak mBreak := ⟨ps_break, es_break⟩
theorem s_cont : CS X K W (.Continue pos) tCont mCont := ⟨ps_continue, es_cont⟩
theorem s_ret (ha : CE X K W e te me) : CS X K W (.Return (some e) pos) (tRet te) (mRet me) := ⟨ps_ret ha.p, es_ret ha.v⟩
theorem s_retN : CS X K W (.Return none pos) tRetN mRetN := ⟨ps_retN, es_retN⟩
theorem s_expr (ha : CE X K W e te me) (hs : swapsWith e none pos.line X.env = pure false := by rfl) : CS X K W (.Expr e pos) (tDrop te) (mDrop me) := ⟨ps_expr ha.p hs, es_drop ha.v⟩
theorem s_if {tt : TT} {mt : M Bool} (hc : CT X K W c tt mt) (ha : CSs X K W body u mu) (hb : CSs X K W els v mv) : CS X K W (.If c body els pos) (tIfS tt u v) (mIfS mt mu mv) := ⟨ps_if hc.p ha.p hb.p, es_if hc.v ha.v hb.v⟩
theorem s_set (i : Nat) {x : Str} (hN : X.N.Nodup) (hi : X.N[i]? = some x) (hx : Loc X.env.scope x) (he : CE X K W e te me) (hs : swapsWith e (some (.Name x p1)) pos.line X.env = pure false := by rfl) (hf : X.fn x = true ∨ X.env.scope.names.lookup x = some .local := by first | exact .inl rfl | exact .inr rfl | assumption) :
    CS X K W (.Assign [.Name x p1] e pos) (tAsg te (gName i)) (mAsg i me) := ⟨ps_set hN hi hx he.p hs hf, es_asg he.v⟩
theorem s_setG {tg : Expr} {g : TG} {f : MG} {tv : List Nat} (he : CE X K W e te me) (hg : CG X K tg g f tv) (hs : swapsWithSole [tg] e pos.line X.env = pure false := by rfl) (hw : swappedStores [tg] e X.env = pure none := by rfl) (h1 : (assignEach [tg] X.env).map (·.2) = [assign tg X.env] := by rfl) :
    CS X K W (.Assign [tg] e pos) (tAsg te g) (mAsgG f me) := ⟨ps_asg he.p hg.p hs hw h1, es_asgG hg.v he.v⟩
theorem s_setL (i : Nat) {x : Str} {ti : TE} {mi : M Rv} (hN : X.N[i]? = some x) (hv : Vis X.env.scope x) (he : CE X K W e te me) (hi : CE X K W a ti mi)
    (ha : ∀ v, assign (.Subscript (.Name x p1) a p2) X.env v = (do
      let ov ← holding [v] (eval (.Name x p1) X.env)
      let iv ← holding [v, ov] (eval a X.env)
      standAt p2; holding [v, ov, iv] (setItem ov iv v)
      release [v, ov, iv] []) := by intro _; rfl) (hs : swapsWithSole [.Subscript (.Name x p1) a p2] e pos.line X.env = pure false := by rfl) (hw : swappedStores [.Subscript (.Name x p1) a p2] e X.env = pure none := by rfl)
    (h1 : (assignEach [.Subscript (.Name x p1) a p2] X.env).map (·.2) = [assign (.Subscript (.Name x p1) a p2) X.env] := by rfl) (hd : (x == ("__debug__" : Str)) = false := by decide) (hcd : (x == ("__classdict__" : Str)) = false := by decide) :
    CS X K W (.Assign [.Subscript (.Name x p1) a p2] e pos) (tAsg te (gSub (tVar i) ti rSetL)) (mSetL i me mi) := ⟨ps_asg he.p (pg_sub (pe_var hN hv hd hcd) hi.p set_list ha) hs hw h1, es_setL he.v hi.v⟩
theorem s_dput (i : Nat) {x : Str} {tk : TE} {mk : M Rv} (hr : Room k X.A) (hN : X.N[i]? = some x) (hv : Vis X.env.scope x) (he : CE X K W e te me) (hk : CE X K W a tk mk) (hs : swapsWith e (some (.Subscript (.Name x p1) a p2)) pos.line X.env = pure false := by rfl) (hd : (x == ("__debug__" : Str)) = false := by decide) (hcd : (x == ("__classdict__" : Str)) = false := by decide) :
    CS X K W (.Assign [.Subscript (.Name x p1) a p2] e pos) (sDPut (tVar i) tk te) (mDPut i mk me) := ⟨ps_dput (hu1 hr) (pe_var hN hv hd hcd) hk.p he.p hs, es_dput he.v hk.v⟩
theorem s_aug (i : Nat) {x : Str} {op : Operator} {f : Int → Int → Int} (hN : X.N.Nodup) (hi : X.N[i]? = some x) (hx : Loc X.env.scope x) (ho : PIp X op (ipI f)) (he : CE X K W e te me) (hf : X.fn x = true ∨ X.env.scope.names.lookup x = some .local := by first | exact .inl rfl | exact .inr rfl | assumption) :
    CS X K W (.AugAssign (.Name x p1) op e pos) (tAug i te (ipI f)) (mAugI i f me) := ⟨ps_aug hN hi hx he.p ho hf, es_augI he.v⟩
theorem s_for {tg iter : Expr} {wi : TI} {mi : M (List D)} {g : TG} {f : MG} {tv : List Nat} (hp : PassesOwn (model X.prog X.w) X.A X.env X.xe) (hc : X.calm = true) (hi : CI X K W tg iter wi mi) (hg : CG X K tg g f tv) (hb : CSs X K W body u mu) (hs : ∀ x, foldedSetIterable iter X.env x = pure x := by intro _; rfl) :
    CS X K W (.For tg iter body [] pos) (tFor wi g u) (mFor mi f mu) := ⟨ps_for hp hc hi.p hg.p hb.p hs, es_for hi.v hg.v hb.v⟩
theorem s_while (n : Nat) {tt : TT} {mt : M Bool} (hp : PassesOwn (model X.prog X.w) X.A X.env X.xe) (hc : CT X K W c tt mt) (hb : CSs X K W body u mu) : CS X K W (.While c body [] pos) (tWhile tt u) (mWhile n mt mu) := ⟨ps_while hp hc.p hb.p, es_while n hc.v hb.v⟩
theorem s_never : CS X K W st tNever mNever := ⟨ps_never, es_never⟩
/-- x = [..] on one line -/
theorem s_setLc (i : Nat) {y : Str} {tg iter elt : Expr} {ifs : List Expr} {scope : Scope} {own : List (Str × Nat)} {wi : TI} {g : TG} {tt : TT} {mi : M (List D)} {f : MG} {tv : List Nat} {mt : M Bool} (hc : X.calm = true) (hN : X.N.Nodup) (hy : X.N[i]? = some y) (hyl : X.env.scope.names.lookup y = some .local)
    (hsw : swapsWith (.ListComp elt [⟨tg, iter, ifs, 0⟩] scope p2) (some (.Name y p1)) pos.line X.env = pure true) (ok : BlkOk X.N X.env.scope scope own) (ht : ∀ j ∈ tv, j ∈ own.map (·.2)) (hi : CI X K W tg iter wi mi)
    (hg : ∀ (s : Shared) (H : Hp) (C : Addr) (cl : List (Str × Addr)) (fp : List Addr), CG (X.blk s H scope (compEnvC scope cl C X.env) fp) K tg g f tv) (hts : ∀ (s : Shared) (H : Hp) (C : Addr) (cl : List (Str × Addr)) (fp : List Addr), CTs (X.blk s H scope (compEnvC scope cl C X.env) fp) K W0 ifs tt mt)
    (he : ∀ (s : Shared) (H : Hp) (C : Addr) (cl : List (Str × Addr)) (fp : List Addr), CE (X.blk s H scope (compEnvC scope cl C X.env) fp) K W0 elt te me) (hs : ∀ x, foldedSetIterable iter X.env x = pure x := by intro _; rfl) (s0 : Shared) (H0 : Hp) :
    CS X K W (.Assign [.Name y p1] (.ListComp elt [⟨tg, iter, ifs, 0⟩] scope p2) pos) (tAsg (tLc wi g tt te (own.map (·.2))) (gName i)) (mAsg i (mLc mi f mt me (own.map (·.2)))) :=
  ⟨ps_setLc hc hN hy hyl hsw hi.p ok (fun s H C cl fp => (hg s H C cl fp).p) (fun s H C cl fp => (hts s H C cl fp).p) (fun s H C cl fp => (he s H C cl fp).p) hs, es_asg (ev_lc hi.v (hg s0 H0 0 [] []).v ht (hts s0 H0 0 [] []).v (he s0 H0 0 [] []).v)⟩
/-- x.append(..) and the like, x a name's list -/
theorem c_lm (i : Nat) {x name : Str} {id : String} {r : V → List V → Hp → VK → Prop} {f : List D → List D → Option (D × List D)} (slot : Slot "list" name id) (hty : typeOf (.builtin id) = pure (.type "method_descriptor")) (hm : MtR X id r) (hr : LmOk K r f) (hN : X.N[i]? = some x) (hv : Vis X.env.scope x) (hK : X.K = K := by rfl) (ha : CA X K W (e :: es) t m)
    (hbase : attributeBase (.Name x p2) name X.env (eval (.Name x p2) X.env) = eval (.Name x p2) X.env := by rfl)
    (hfew : ((backTo pos (starEach (e :: es) X.env)).all (fun x => !x.1) && (backToKw pos (keywordEach [] X.env)).all (fun x => x.1.isSome) && decide ((e :: es).length + ([] : List Keyword).length + (if ([] : List Keyword).isEmpty then 0 else 1) < 30)) = true := by rfl)
    (hline : (p1.endLine == pos.line) = true := by rfl) (hs : starEach (e :: es) X.env = (false, eval e X.env) :: starEach es X.env := by rfl) (hplain : (backTo pos (starEach es X.env)).any (·.1) = false := by rfl) (hd : (x == ("__debug__" : Str)) = false := by decide) (hcd : (x == ("__classdict__" : Str)) = false := by decide) :
    CE X K W (.Call (.Attribute (.Name x p2) name p1) (e :: es) [] pos) (tBM K "list" r (tVar i) t) (mLm i f m) := by subst hK; exact ⟨pe_bm PySem.F.plainAttrs_list slot hty hm (pe_var hN hv hd hcd) ha.p hbase hfew hline hs hplain, ev_lm hr ha.v⟩
end
end Cz

/-! # CzV -/
namespace Cz
open L2 PyProof.Rows PySem.Spec PySem
variable {K : PySem.W.Frag}

/-! ## objects: made, stored to -/
/-- one more slot at the head, for an object just made -/
theorem RS.cons {F H : Hp} {σ : L2.St} {s : SS} {x dx : Addr} {u ho : HO} {o : OD} (r : RS K F H σ s) (h1 : H x = none) (h2 : H dx = none) (hn : dx ≠ x) (ro : RpO K F o ho) : RS K F (upd (upd H dx u) x ho) (some (.ref x) :: σ) (some (.br o) :: s) := by
  have keep : ∀ a z, H a = some z → (upd (upd H dx u) x ho) a = some z := fun a z h => by
    rw [upd_ne (ne_of_none h h1), upd_ne (ne_of_none h h2)]
    exact h
  refine ⟨fun a z h => keep a z (r.sub _ _ h), by rw [List.length_cons, List.length_cons, r.len], fun i d h => ?_, fun i sv o' e1 e2 => ?_, fun i j si sj oi oj p e1 e2 e3 e4 e5 e6 => ?_⟩
  · cases i with
    | zero => cases h
    | succ i => exact r.fz i d h
  · cases i with
    | zero =>
      cases e1
      cases e2
      exact ⟨x, ho, rfl, r.sub.free h1, upd_same, ro⟩
    | succ i =>
      obtain ⟨p, hp, a1, a2, a3, a4⟩ := r.ow i sv o' e1 e2
      exact ⟨p, hp, a1, a2, keep _ _ a3, a4⟩
  · have no : ∀ (k : Nat) (sk : SV) (ok' : OD), s[k]? = some (some sk) → SV.own sk = some ok' → σ[k]? ≠ some (some (.ref x)) := fun k sk ok' q1 q2 q3 => by
      obtain ⟨p, hp, a1, a2, a3, a4⟩ := r.ow k sk ok' q1 q2
      rw [q3] at a1
      cases a1
      rw [h1] at a3
      cases a3
    cases i with
    | zero =>
      cases e5
      cases j with
      | zero => rfl
      | succ j => exact absurd e6 (no j sj oj e3 e4)
    | succ i =>
      cases j with
      | zero =>
        cases e6
        exact absurd e5 (no i si oi e1 e2)
      | succ j => exact congrArg (· + 1) (r.ne i j si sj oi oj p e1 e2 e3 e4 e5 e6)
theorem Go.tail {F H F' H' : Hp} {σ : L2.St} {s s' : SS} {x dx : Addr} {u ho : HO} {o o' : OD} (h1 : H x = none) (h2 : H dx = none) (hn : dx ≠ x) (g : Go K F (upd (upd H dx u) x ho) (some (.ref x) :: σ) (some (.br o) :: s) F' H' (some (.ref x) :: σ) (some (.br o') :: s')) :
    Go K F H σ s F' H' σ s' ∧ F' x = none ∧ (∃ ho', H' x = some ho' ∧ RpO K F' o' ho') ∧ ¬ Ow σ s' x := by
  have up : ∀ a z, H a = some z → (upd (upd H dx u) x ho) a = some z := fun a z h => by
    rw [upd_ne (ne_of_none h h1), upd_ne (ne_of_none h h2)]
    exact h
  have dn : ∀ a, (upd (upd H dx u) x ho) a = none → H a = none := fun a h => by
    cases e : H a with
    | none => rfl
    | some z => rw [up a z e] at h; cases h
  have ow1 : ∀ a, Ow (some (.ref x) :: σ) (some (.br o) :: s) a → a = x ∨ Ow σ s a := fun a ⟨i, sv, o2, e1, e2, e3⟩ => by
    cases i with
    | zero => cases e3; exact .inl rfl
    | succ i => exact .inr ⟨i, sv, o2, e1, e2, e3⟩
  have ow2 : ∀ a, Ow σ s' a → Ow (some (.ref x) :: σ) (some (.br o') :: s') a := fun a ⟨i, sv, o2, e1, e2, e3⟩ => ⟨i + 1, sv, o2, e1, e2, e3⟩
  obtain ⟨p, ho', a1, a2, a3, a4⟩ := g.rs.ow 0 (.br o') o' rfl rfl
  cases a1
  have nox : ¬ Ow σ s' x := fun ⟨i, sv, o2, e1, e2, e3⟩ => by
    have q := g.rs.ne 0 (i + 1) (.br o') sv o' o2 x rfl rfl e1 e2 rfl e3
    cases q
  refine ⟨⟨⟨g.rs.sub, ?_, fun i d h => g.rs.fz (i + 1) d h, fun i sv o2 e1 e2 => g.rs.ow (i + 1) sv o2 e1 e2, fun i j si sj oi oj q e1 e2 e3 e4 e5 e6 => ?_⟩, g.fr, fun a z h n => ?_, fun a h => ?_, fun a w => ?_, fun i o2 h => ?_, fun a h => dn a (g.dm a h)⟩, a2, ⟨ho', a3, a4⟩, nox⟩
  · have q := g.rs.len
    rw [List.length_cons, List.length_cons] at q
    omega
  · have q := g.rs.ne (i + 1) (j + 1) si sj oi oj q e1 e2 e3 e4 e5 e6
    omega
  · refine g.kp a z (up a z h) fun w => ?_
    rcases ow1 a w with q | q
    · subst q
      rw [h1] at h
      cases h
    · exact n q
  · rcases g.nw a h with q | q | q | ⟨xs, q⟩
    · exact .inl q
    · exact .inr (.inl (dn a q))
    · rcases ow1 a q with q | q
      · subst q
        exact .inr (.inl h1)
      · exact .inr (.inr (.inl q))
    · by_cases e1 : a = x
      · subst e1
        exact .inr (.inl h1)
      · by_cases e2 : a = dx
        · subst e2
          exact .inr (.inl h2)
        · rw [upd_ne e1, upd_ne e2] at q
          exact .inr (.inr (.inr ⟨xs, q⟩))
  · rcases g.ow a (ow2 a w) with q | q
    · rcases ow1 a q with q | q
      · subst q
        exact .inr h1
      · exact .inl q
    · exact .inr (dn a q)
  · obtain ⟨e, o3, q⟩ := g.br (i + 1) o2 h
    exact ⟨e, o3, q⟩
def makeS (C : Addr) (f : MF) (rs : List Rv) (s1 : SS) : R Rv := opt (argS s1 rs) fun as => if (refs rs).Nodup then
  match f (.br (.obj C []) :: as) with
  | .ok (.d .non) s2 => opt (svs s2) fun as' => match as' with
    | .br o :: as2 => opt (backS s1 rs as2) fun s3 => .ok (.o o) s3
    | _ => .no
  | .ok _ _ => .no
  | .ex _ _ _ => .no
  | .no => .no else .no
def mMake (C : Addr) (f : MF) (ds : List D) (ma : M (List Rv)) : M Rv := fun s => (ma s).bind fun rs s1 => makeS C f (rs ++ ds.map .d) s1
theorem ev_make {W : WX} {C : Addr} {f : MF} {ds : List D} {dvs : List V} {t : TA} {ma : M (List Rv)} (hd : ∀ F, RpL K F ds dvs) (ha : EvA K W t ma) : EvX K W (tMake C (spM K f) dvs (fun _ _ _ => False) t) (mMake C f ds ma) := by
  intro F H σ s Q rs w
  refine ha.step (Go.refl rs) w fun rvs s1 vs F1 H1 g1 _ h1 w1 => ?_
  intro x dx hx hdx hn
  have ra := h1.append (hd F1)
  obtain ⟨as, ea, w2⟩ := opt_wn w1
  split at w2
  · rename_i nd
    have r0 := g1.rs.lend ra ea nd
    have r1 := r0.cons (o := .obj C []) (u := .own x) hx hdx hn (RpO.obj (dx := dx) .nil)
    refine ⟨F1, .br (.obj C []) :: as, r1, ?_⟩
    cases e : f (.br (.obj C []) :: as) with
    | no => rw [e] at w2; exact w2.elim
    | ex c l s2 => rw [e] at w2; exact w2.elim
    | ok r s2 =>
      rw [e] at w2
      cases r with
      | b i => exact w2.elim
      | o o => exact w2.elim
      | d d =>
        cases d with
        | non =>
          obtain ⟨as', e1, w3⟩ := opt_wn w2
          have e2 := svs_eq e1
          subst e2
          refine ⟨as', rfl, fun v F' H' g h nb => ?_⟩
          cases as' with
          | nil => exact w3.elim
          | cons a as2 =>
            cases a with
            | fz d => exact w3.elim
            | ow d => exact w3.elim
            | br o' =>
              obtain ⟨s3, e3, w4⟩ := opt_wn w3
              have hv : v = .non := by cases h; rfl
              refine ⟨hv, ?_⟩
              obtain ⟨gt, b1, ⟨ho', b2, b3⟩, b4⟩ := Go.tail hx hdx hn g
              obtain ⟨gc, own⟩ := Go.call g1.rs ra ea nd gt e3
              exact w4 _ F' H' (g1.trans gc) ⟨x, ho', rfl, b1, b2, b3, g1.dm x hx, fun z => by
                obtain ⟨_, u2, q⟩ := g1.rs.owF (own x z)
                rw [hx] at q
                cases q⟩
        | _ => exact w2.elim
  · exact w2.elim
/-! ### an attribute stored -/
def putA (f : Str) (d : D) : List (Str × D) → List (Str × D)
  | [] => [(f, d)]
  | (g, x) :: r => if g = f then (g, d) :: r else (g, x) :: putA f d r
theorem RpF.put {F : Hp} {f : Str} {d : D} {v : V} (h : Rp K F d v) : ∀ {l : List (Str × D)} {fs : List (Str × V)}, RpF K F l fs → RpF K F (putA f d l) (putF f v fs)
  | _, _, .nil => .cons h .nil
  | _, _, .cons (f := g) q r => by
    unfold putA putF
    split
    · exact .cons h r
    · exact .cons q (RpF.put h r)
theorem RpF.length {F : Hp} : ∀ {l : List (Str × D)} {fs : List (Str × V)}, RpF K F l fs → l.length = fs.length
  | _, _, .nil => rfl
  | _, _, .cons _ r => congrArg (· + 1) (RpF.length r)
def mSetA (Cs : List Addr) (i : Nat) (f : Str) (me : M Rv) : MS := fun s => (me s).out fun r s1 => (frz r s1).out fun d s2 => optO (ownAt s2 i) fun p => match p.2 with
  | .obj C l => if C ∈ Cs ∧ l.length < 1000 then .nx (s2.set i (some (p.1.put (.obj C (putA f d l))))) else .no
  | _ => .no
theorem es_setA {W : WX} {Cs : List Addr} {i : Nat} {f : Str} {te : TE} {me : M Rv} (hc : ∀ C ∈ Cs, Cls K C ∧ NoAttr K C f) (he : EvX K W te me) : EvS K W (sFld K (tVar i) te f) (mSetA Cs i f me) := by
  intro F H σ s D rs w
  refine he.stepS2 (Go.refl rs) w fun r s1 v F1 H1 g1 _ h1 w1 => ?_
  obtain ⟨d, s2, e, w2⟩ := frz_out w1
  obtain ⟨F2, g2, _, hd⟩ := frz_ok g1 h1 e
  obtain ⟨⟨sv, o⟩, e0, w3⟩ := optO_wn w2
  obtain ⟨a1, a2, p, ho, a3, a4, a5, a6⟩ := ownAt_ok g2.rs e0
  cases o with
  | obj C l =>
    simp only at w3
    split at w3
    · rename_i hm
      cases a6 with
      | obj rf =>
        rename_i dx fs
        exact ⟨.ref p, a3, p, C, dx, fs, rfl, a5, (hc C hm.1).1, (hc C hm.1).2, by rw [← rf.length]; exact hm.2, w3 σ F2 _ (g2.put a1 a2 a3 (RpO.obj (rf.put hd)))⟩
    · exact w3.elim
  | _ => exact w3.elim

section
variable {X : Cx} {W : WX} {a b c e o : Expr} {es : List Expr} {pos p1 p2 p3 : Pos} {ta tb tc te : TE} {ma mb mc me : M Rv} {t : TA} {m : M (List Rv)} {k n : Nat}
theorem c_fld {Cs : List Addr} {f : Str} (hc : ∀ C ∈ Cs, Cls K C ∧ NoAttr K C f) (hK : X.K = K := by rfl) (he : CE X K W e te me) (hb : attributeBase e f X.env (eval e X.env) = eval e X.env := by rfl) : CE X K W (.Attribute e f pos) (tFld K te f) (mFld Cs f me) := by subst hK; exact ⟨pe_fld he.p hb, ev_fld hc he.v⟩
theorem s_setA {Cs : List Addr} {f : Str} (i : Nat) {x : Str} (hc : ∀ C ∈ Cs, Cls K C ∧ NoAttr K C f) (hN : X.N[i]? = some x) (hv : Vis X.env.scope x) (hK : X.K = K := by rfl) (he : CE X K W e te me) (hs : swapsWith e (some (.Attribute (.Name x p1) f p2)) pos.line X.env = pure false := by rfl) (hd : (x == ("__debug__" : Str)) = false := by decide) (hcd : (x == ("__classdict__" : Str)) = false := by decide) :
    CS X K W (.Assign [.Attribute (.Name x p1) f p2] e pos) (sFld K (tVar i) te f) (mSetA Cs i f me) := by subst hK; exact ⟨ps_fld (pe_var hN hv hd hcd) he.p hs, es_setA hc he.v⟩
theorem c_make {kk : Nat} {x : Str} {C g : Addr} {fd : FuncData} {ps : List Str} {f : MF} {dvs : List V} {ds : List Value} {dd : List D} (Mm : Mk X.K C g) (F : FnOk X.prog X.w X.K X.mg X.base CX0 kk g fd ps (spM K f)) (hr : Room (kk + 1) X.A) (hg : Gl X x) (hm : X.mg x = some (.ref C)) (hb : Binds X.K fd ps ds) (hv : Vals dvs ds) (hd : ∀ F, RpL K F dd dvs)
    (ha : CA X K W (e :: es) t m) (hdb : (x == ("__debug__" : Str)) = false := by decide) (he : starEach (e :: es) X.env = (false, eval e X.env) :: starEach es X.env := by rfl) (hpl : (backTo pos (starEach es X.env)).any (·.1) = false := by rfl) :
    CE X K W (.Call (.Name x p1) (e :: es) [] pos) (tMake C (spM K f) dvs (fun _ _ _ => False) t) (mMake C f dd m) := ⟨pe_make Mm F hr hg hm hb hv (fun _ _ _ _ _ _ _ h => h.elim) ha.p hdb he hpl, ev_make hd ha.v⟩
theorem c_make0 {kk : Nat} {x : Str} {C g : Addr} {fd : FuncData} {ps : List Str} {f : MF} {dvs : List V} {ds : List Value} {dd : List D} (Mm : Mk X.K C g) (F : FnOk X.prog X.w X.K X.mg X.base CX0 kk g fd ps (spM K f)) (hr : Room (kk + 1) X.A) (hg : Gl X x) (hm : X.mg x = some (.ref C)) (hb : Binds X.K fd ps ds) (hv : Vals dvs ds) (hd : ∀ F, RpL K F dd dvs)
    (hdb : (x == ("__debug__" : Str)) = false := by decide) : CE X K W (.Call (.Name x p1) [] [] pos) (tMake C (spM K f) dvs (fun _ _ _ => False) tNil) (mMake C f dd mANil) := ⟨pe_make0 Mm F hr hg hm hb hv (fun _ _ _ _ _ _ _ h => h.elim) hdb, ev_make hd ea_nil⟩
end
end Cz

/-! # CzW -/
namespace Cz
open L2 PyProof.Rows PySem.Spec PySem
variable {K : PySem.W.Frag}

/-! ## a dict that is walked: locked, and not any more -/
/-- all that data ask of a heap goes over -/
structure Ext (K : PySem.W.Frag) (F F' : Hp) : Prop where
  t : ∀ x xs, F x = some (.tup xs) → F' x = some (.tup xs)
  l : ∀ x xs, F x = some (.lst xs) → F' x = some (.lst xs)
  i : ∀ x C dx fs, F x = some (.ins C dx fs) → F' x = some (.ins C dx fs)
  tk : ∀ x xs, SqT K F x xs → SqT K F' x xs
  lk : ∀ x xs, SqL K F x xs → SqL K F' x xs
  k : ∀ x kvs, Rd F x (.dK kvs) → Rd F' x (.dK kvs)
  d : ∀ x kvs, Rd F x (.dT kvs) → Rd F' x (.dT kvs)
section
variable {F F' : Hp}
mutual
theorem Rp.ext (s : Ext K F F') : ∀ {d : D} {v : V}, Rp K F d v → Rp K F' d v
  | _, _, .non => .non
  | _, _, .bl b => .bl b
  | _, _, .int i => .int i
  | _, _, .str x => .str x
  | _, _, .ref a => .ref a
  | _, _, .ty t => .ty t
  | _, _, .tup h r => .tup (s.t _ _ h) (r.ext s)
  | _, _, .tuk h r => .tuk (s.tk _ _ h) (r.ext s)
  | _, _, .lst h r => .lst (s.l _ _ h) (r.ext s)
  | _, _, .rol h r => .rol (s.lk _ _ h) (r.ext s)
  | _, _, .dk h r => .dk (s.k _ _ h) (r.ext s)
  | _, _, .dt h r => .dt (s.d _ _ h) (r.ext s)
  | _, _, .obj h r => .obj (s.i _ _ _ _ h) (r.ext s)
theorem RpL.ext (s : Ext K F F') : ∀ {d : List D} {v : List V}, RpL K F d v → RpL K F' d v
  | _, _, .nil => .nil
  | _, _, .cons h r => .cons (h.ext s) (r.ext s)
theorem RpF.ext (s : Ext K F F') : ∀ {d : List (Str × D)} {v : List (Str × V)}, RpF K F d v → RpF K F' d v
  | _, _, .nil => .nil
  | _, _, .cons h r => .cons (h.ext s) (r.ext s)
theorem RpK.ext (s : Ext K F F') : ∀ {d : List (Key × D)} {v : List (Key × V)}, RpK K F d v → RpK K F' d v
  | _, _, .nil => .nil
  | _, _, .cons h r => .cons (h.ext s) (r.ext s)
theorem RpT.ext (s : Ext K F F') : ∀ {d : List (List Key × D)} {v : List (List Key × V)}, RpT K F d v → RpT K F' d v
  | _, _, .nil => .nil
  | _, _, .cons h r => .cons (h.ext s) (r.ext s)
end
theorem RpO.ext (s : Ext K F F') {o : OD} {h : HO} : RpO K F o h → RpO K F' o h
  | .lst r => .lst (r.ext s)
  | .dk r => .dk (r.ext s)
  | .dt r => .dt (r.ext s)
  | .dkl r => .dkl (r.ext s)
  | .dtl r => .dtl (r.ext s)
  | .obj r => .obj (r.ext s)
end
/-- a dict -/
def IsDo (u : HO) : Prop := (∃ kvs, u = .dK kvs) ∨ ∃ kvs, u = .dT kvs
theorem IsDo.mut {u : HO} (h : IsDo u) : Mut (some u) := by
  rcases h with ⟨_, rfl⟩ | ⟨_, rfl⟩ <;> exact True.intro
theorem ext_lock {F : Hp} {a : Addr} {u : HO} {od : Obj} (hu : IsDo u) (ha : F a = some u) : Ext K F (upd F a (.frz od u)) := by
  have ne : ∀ x o, F x = some o → ¬ IsDo o → x ≠ a := fun x o h n z => by
    subst z
    rw [ha] at h
    cases h
    exact n hu
  have rd : ∀ x o, Rd F x o → (x = a → IsDo o) → Rd (upd F a (.frz od u)) x o := fun x o h n => by
    by_cases z : x = a
    · subst z
      rcases h with h | ⟨o', h⟩
      · rw [ha] at h
        cases h
        exact .inr ⟨od, upd_same⟩
      · rw [ha] at h
        cases h
        rcases hu with ⟨_, z⟩ | ⟨_, z⟩ <;> cases z
    · rcases h with h | ⟨o', h⟩
      · exact .inl (by rw [upd_ne z]; exact h)
      · exact .inr ⟨o', by rw [upd_ne z]; exact h⟩
  have nt : ∀ xs, ¬ IsDo (.tup xs) := fun xs h => by rcases h with ⟨_, z⟩ | ⟨_, z⟩ <;> cases z
  have nl : ∀ xs, ¬ IsDo (.lst xs) := fun xs h => by rcases h with ⟨_, z⟩ | ⟨_, z⟩ <;> cases z
  have ni : ∀ C dx fs, ¬ IsDo (.ins C dx fs) := fun C dx fs h => by rcases h with ⟨_, z⟩ | ⟨_, z⟩ <;> cases z
  have rdn : ∀ x o, Rd F x o → ¬ IsDo o → x ≠ a := fun x o h n z => by
    subst z
    rcases h with h | ⟨o', h⟩
    · exact ne _ _ h n rfl
    · rw [ha] at h
      cases h
      rcases hu with ⟨_, z⟩ | ⟨_, z⟩ <;> cases z
  refine ⟨fun x xs h => by rw [upd_ne (ne _ _ h (nt xs))]; exact h, fun x xs h => by rw [upd_ne (ne _ _ h (nl xs))]; exact h, fun x C dx fs h => by rw [upd_ne (ne _ _ h (ni C dx fs))]; exact h, fun x xs h => ?_, fun x xs h => ?_,
    fun x kvs h => rd x _ h fun _ => .inl ⟨_, rfl⟩, fun x kvs h => rd x _ h fun _ => .inr ⟨_, rfl⟩⟩
  · rcases h with h | h
    · exact .inl (rd x _ h fun z => absurd z (rdn x _ h (nt xs)))
    · exact .inr h
  · rcases h with h | h
    · exact .inl (rd x _ h fun z => absurd z (rdn x _ h (nl xs)))
    · exact .inr h
theorem ext_unlock {F : Hp} {a : Addr} {u : HO} {od : Obj} (hu : IsDo u) (ha : F a = some (.frz od u)) : Ext K F (upd F a u) := by
  have ne : ∀ x o, F x = some o → (∀ od' v, o ≠ .frz od' v) → x ≠ a := fun x o h n z => by
    subst z
    rw [ha] at h
    cases h
    exact n _ _ rfl
  have rd : ∀ x o, Rd F x o → (x = a → o = u) → Rd (upd F a u) x o := fun x o h n => by
    by_cases z : x = a
    · have q := n z
      subst q
      subst z
      exact .inl upd_same
    · rcases h with h | ⟨o', h⟩
      · exact .inl (by rw [upd_ne z]; exact h)
      · exact .inr ⟨o', by rw [upd_ne z]; exact h⟩
  have at' : ∀ x o, Rd F x o → (∀ od' v, o ≠ .frz od' v) → x = a → o = u := fun x o h n z => by
    subst z
    rcases h with h | ⟨o', h⟩
    · rw [ha] at h
      cases h
      exact absurd rfl (n _ _)
    · rw [ha] at h
      cases h
      rfl
  have nt : ∀ xs (u' : HO), IsDo u' → HO.tup xs ≠ u' := fun xs u' h z => by subst z; rcases h with ⟨_, z⟩ | ⟨_, z⟩ <;> cases z
  refine ⟨fun x xs h => by rw [upd_ne (ne _ _ h (fun _ _ z => by cases z))]; exact h, fun x xs h => by rw [upd_ne (ne _ _ h (fun _ _ z => by cases z))]; exact h, fun x C dx fs h => by rw [upd_ne (ne _ _ h (fun _ _ z => by cases z))]; exact h, fun x xs h => ?_, fun x xs h => ?_,
    fun x kvs h => rd x _ h (at' x _ h fun _ _ z => by cases z), fun x kvs h => rd x _ h (at' x _ h fun _ _ z => by cases z)⟩
  · rcases h with h | h
    · exact .inl (rd x _ h (at' x _ h fun _ _ z => by cases z))
    · exact .inr h
  · rcases h with h | h
    · exact .inl (rd x _ h (at' x _ h fun _ _ z => by cases z))
    · exact .inr h
theorem RS.lock {F H : Hp} {σ : L2.St} {s : SS} {a : Addr} {u : HO} {od : Obj} (r : RS K F H σ s) (hu : IsDo u) (ha : F a = some u) : RS K (upd F a (.frz od u)) (upd H a (.frz od u)) σ s := by
  have e := ext_lock (K := K) (od := od) hu ha
  refine ⟨fun x o h => ?_, r.len, fun i d h => ?_, fun i sv o h1 h2 => ?_, r.ne⟩
  · by_cases z : x = a
    · subst z
      rw [upd_same] at h ⊢
      exact h
    · rw [upd_ne z] at h ⊢
      exact r.sub _ _ h
  · obtain ⟨v, h1, h2⟩ := r.fz i d h
    exact ⟨v, h1, h2.ext e⟩
  · obtain ⟨p, ho, a1, a2, a3, a4⟩ := r.ow i sv o h1 h2
    have np : p ≠ a := fun z => by
      subst z
      rw [ha] at a2
      cases a2
    exact ⟨p, ho, a1, by rw [upd_ne np]; exact a2, by rw [upd_ne np]; exact a3, a4.ext e⟩
theorem Go.unlock {F H F' H' : Hp} {σ σ' : L2.St} {s s' : SS} {a : Addr} {u : HO} {od : Obj} (hu : IsDo u) (ha : F a = some u) (hs : Sub F H) (g : Go K (upd F a (.frz od u)) (upd H a (.frz od u)) σ s F' H' σ' s') :
    Go K F H σ s (upd F' a u) (upd H' a u) σ' s' ∧ F' a = some (.frz od u) ∧ H' a = some (.frz od u) ∧ Ext K F' (upd F' a u) := by
  have fa : F' a = some (.frz od u) := g.fr _ _ upd_same
  have ha' : H' a = some (.frz od u) := g.rs.sub _ _ fa
  have e := ext_unlock (K := K) hu fa
  refine ⟨⟨⟨fun x o h => ?_, g.rs.len, fun i d h => ?_, fun i sv o h1 h2 => ?_, g.rs.ne⟩, fun x o h => ?_, fun x o h n => ?_, fun x h => ?_, fun x w => ?_, g.br, fun x h => ?_⟩, fa, ha', e⟩
  · by_cases z : x = a
    · subst z
      rw [upd_same] at h ⊢
      exact h
    · rw [upd_ne z] at h ⊢
      exact g.rs.sub _ _ h
  · obtain ⟨v, h1, h2⟩ := g.rs.fz i d h
    exact ⟨v, h1, h2.ext e⟩
  · obtain ⟨p, ho, a1, a2, a3, a4⟩ := g.rs.ow i sv o h1 h2
    have np : p ≠ a := fun z => by
      subst z
      rw [fa] at a2
      cases a2
    exact ⟨p, ho, a1, by rw [upd_ne np]; exact a2, by rw [upd_ne np]; exact a3, a4.ext e⟩
  · by_cases z : x = a
    · subst z
      rw [ha] at h
      rw [upd_same]
      exact h
    · rw [upd_ne z]
      exact g.fr x o (by rw [upd_ne z]; exact h)
  · by_cases z : x = a
    · subst z
      rw [hs _ _ ha] at h
      rw [upd_same]
      exact h
    · rw [upd_ne z]
      exact g.kp x o (by rw [upd_ne z]; exact h) n
  · by_cases z : x = a
    · subst z
      exact .inl (by rw [ha]; exact fun q => nomatch q)
    · rw [upd_ne z] at h
      rcases g.nw x h with q | q | q | ⟨xs, q⟩
      · rw [upd_ne z] at q
        exact .inl q
      · rw [upd_ne z] at q
        exact .inr (.inl q)
      · exact .inr (.inr (.inl q))
      · rw [upd_ne z] at q
        exact .inr (.inr (.inr ⟨xs, q⟩))
  · rcases g.ow x w with q | q
    · exact .inl q
    · by_cases z : x = a
      · subst z
        rw [upd_same] at q
        cases q
      · rw [upd_ne z] at q
        exact .inr q
  · have z : x ≠ a := fun z => by
      subst z
      rw [upd_same] at h
      cases h
    rw [upd_ne z] at h
    have q := g.dm x h
    rw [upd_ne z] at q
    exact q
/-- locked, or locked already -/
def tMay (t : TS) : TS := fun D σ H => t D σ H ∨ tLock t D σ H
theorem ps_may {X : Cx} {st : Stmt} {t : TS} (h : PS X st t) : PS X st (tMay t) := by
  refine ⟨fun pins s σ H D I w => ?_⟩
  rcases w with w | w
  · exact h.run pins s σ H D I w
  · exact (ps_lock h).run pins s σ H D I w
/-- the keys of a dict, as data -/
def keysD : D → Option (List D)
  | .dk l => some (l.map fun p => kD p.1)
  | .dt l => some (l.map fun p => kDs p.1)
  | _ => none
def noE : Out → Out
  | .ex _ _ _ => .no
  | o => o
def mForD (i : Nat) (f : MG) (b : MS) : MS := fun s => (frz (.b i) s).out fun d s1 => match s1[i]? with
  | some (some (.fz _)) => optO (keysD d) fun ks => noE (loop f b ks s1)
  | _ => .no
def mKs (ks : List D) : M (List D) := fun s => .ok ks s
theorem noE_wn {W W' : WX} {D : Ends} {F H : Hp} {σ : L2.St} {s : SS} {o : Out} (w : WnS K W D F H σ s (noE o)) : WnS K W' D F H σ s o := by
  cases o with
  | ex c l s => exact w.elim
  | no => exact w.elim
  | nx s => exact w
  | rt r s => exact w
  | bk s => exact w
  | ct s => exact w
/-- the walk over a locked dict -/
theorem walk_ok {g : TG} {tb : TS} {f : MG} {tv : List Nat} {b : MS} (hg : EvG K g f tv) (hb : EvS K W0 tb b) {F H : Hp} {σ : L2.St} {s : SS} {D : Ends} {i : Nat} {a : Addr} {u : HO} {od : Obj} {ks : List Cz.D} (rs : RS K F H σ s) (hσ : σ[i]? = some (some (.ref a))) (fa : F a = some (.frz od u))
    (hk : (∃ l kvs, u = .dK kvs ∧ RpK K F l kvs ∧ ks = l.map fun p => kD p.1) ∨ ∃ l kvs, u = .dT kvs ∧ RpT K F l kvs ∧ ks = l.map fun p => kDs p.1) (w : WnS K W0 D F H σ s (loop f b ks s)) : tFor (iKeys (tVar i)) g tb D σ H := by
  refine es_forAt (W := W0) (mi := mKs ks) (fun Q w => ?_) hg hb w
  refine ⟨.ref a, hσ, a, od, rfl, ?_⟩
  rcases hk with ⟨l, kvs, rfl, r, rfl⟩ | ⟨l, kvs, rfl, r, rfl⟩
  · refine .inl ⟨kvs, rs.sub _ _ fa, w _ F H _ _ (Go.refl rs) (by rw [List.length_map, r.x.length]; exact walk_keys) (fun F2 H2 σ2 s2 r2 sb => r2.sub _ _ (sb _ _ fa)) ?_⟩
    rintro j Hc x Hx F2 σ2 s2 hj ⟨rfl, k, v, e1, rfl⟩ r2 sb
    refine ⟨F2, kD k, Al.refl r2.sub, ?_, rp_key k⟩
    have hj' : j < l.length := by simpa using hj
    rw [List.getElem?_map, List.getElem?_eq_getElem hj']
    have q := r.x
    have e : (l[j]).1 = k := by
      have z : ∀ {l : List (Key × Cz.D)} {kvs : List (Key × V)} {j : Nat} (h : j < l.length), RpX K F l kvs → kvs[j]? = some (k, v) → (l[j]).1 = k := by
        intro l kvs j h r e
        unfold RpX at r
        induction r generalizing j with
        | nil => exact absurd h (Nat.not_lt_zero _)
        | @cons p q ps qs hp t ih =>
          cases j with
          | zero =>
            have e' : q = (k, v) := Option.some.inj e
            show p.1 = k
            rw [hp.1, e']
          | succ j => exact ih (Nat.lt_of_succ_lt_succ h) e
      exact z hj' q e1
    show some (kD (l[j]).1) = _
    rw [e]
  · refine .inr ⟨kvs, rs.sub _ _ fa, w _ F H _ _ (Go.refl rs) (by rw [List.length_map, r.x.length]; exact walk_keysT) (fun F2 H2 σ2 s2 r2 sb => r2.sub _ _ (sb _ _ fa)) ?_⟩
    rintro j Hc x Hx F2 σ2 s2 hj ⟨rfl, k, v, q, e1, rfl, hq⟩ r2 sb
    refine ⟨_, kDs k, Al.adopt r2.sub, ?_, adopt_key r2.sub hq⟩
    have hj' : j < l.length := by simpa using hj
    rw [List.getElem?_map, List.getElem?_eq_getElem hj']
    have e : (l[j]).1 = k := by
      have z : ∀ {l : List (List Key × Cz.D)} {kvs : List (List Key × V)} {j : Nat} (h : j < l.length), RpX K F l kvs → kvs[j]? = some (k, v) → (l[j]).1 = k := by
        intro l kvs j h r e
        unfold RpX at r
        induction r generalizing j with
        | nil => exact absurd h (Nat.not_lt_zero _)
        | @cons p q ps qs hp t ih =>
          cases j with
          | zero =>
            have e' : q = (k, v) := Option.some.inj e
            show p.1 = k
            rw [hp.1, e']
          | succ j => exact ih (Nat.lt_of_succ_lt_succ h) e
      exact z hj' r.x e1
    show some (kDs (l[j]).1) = _
    rw [e]
theorem slot_val {F H : Hp} {σ : L2.St} {s s1 : SS} {i : Nat} {d : D} (rs : RS K F H σ s) (e : frz (.b i) s = .ok d s1) : ∃ v, σ[i]? = some (some v) := by
  simp only [frz] at e
  cases q : s[i]? with
  | none => (rw [q] at e; cases e)
  | some x =>
    cases x with
    | none => (rw [q] at e; cases e)
    | some sv =>
      cases sv with
      | fz d' =>
        obtain ⟨u, a1, a2⟩ := rs.fz i _ q
        exact ⟨u, a1⟩
      | ow o =>
        obtain ⟨p, ho, a1, _⟩ := rs.ow i _ o q rfl
        exact ⟨_, a1⟩
      | br o => rw [q] at e; cases e
/-- from the locked walk's end back -/
theorem wn_unlock {F H : Hp} {σ : L2.St} {s : SS} {D : Ends} {a : Addr} {u : HO} {od : Obj} {o : Out} (hu : IsDo u) (ha : F a = some u) (hs : Sub F H) (w : WnS K W0 D F H σ s o) :
    WnS K W0 ⟨fun σ' H' => H' a = some (.frz od u) ∧ D.nx σ' (upd H' a u), fun v H' => H' a = some (.frz od u) ∧ D.rt v (upd H' a u), fun σ' H' => H' a = some (.frz od u) ∧ D.bk σ' (upd H' a u), fun σ' H' => H' a = some (.frz od u) ∧ D.ct σ' (upd H' a u)⟩ (upd F a (.frz od u)) (upd H a (.frz od u)) σ s o := by
  cases o with
  | nx s' =>
    intro σ' F' H' g
    obtain ⟨g', _, h2, _⟩ := Go.unlock hu ha hs g
    exact ⟨h2, w σ' _ _ g'⟩
  | bk s' =>
    intro σ' F' H' g
    obtain ⟨g', _, h2, _⟩ := Go.unlock hu ha hs g
    exact ⟨h2, w σ' _ _ g'⟩
  | ct s' =>
    intro σ' F' H' g
    obtain ⟨g', _, h2, _⟩ := Go.unlock hu ha hs g
    exact ⟨h2, w σ' _ _ g'⟩
  | no => exact w
  | ex c l s' =>
    intro dd σ' F' H' xs g h1 h2
    obtain ⟨g', h3, h4, e⟩ := Go.unlock hu ha hs g
    have n : dd ≠ a := fun z => by
      subst z
      rw [h4] at h1
      cases h1
    have z : False := w dd σ' (upd F' a u) (upd H' a u) xs g' (by rw [upd_ne n]; exact h1) (h2.ext e)
    exact z.elim
  | rt r s' =>
    intro v σ' F' H' g h
    obtain ⟨g', h3, h4, e⟩ := Go.unlock hu ha hs g
    refine ⟨h4, w v σ' _ _ g' ?_⟩
    cases r with
    | d d => exact Rp.ext e h
    | b i => exact h
    | o o =>
      obtain ⟨p, ho, rfl, e1, e2, e3, e4, e5⟩ := h
      have n : p ≠ a := fun z => by
        subst z
        rw [h3] at e1
        cases e1
      refine ⟨p, ho, rfl, by rw [upd_ne n]; exact e1, by rw [upd_ne n]; exact e2, e3.ext e, ?_, e5⟩
      rcases e4 with e4 | e4
      · rw [upd_ne n] at e4
        exact .inl e4
      · exact .inr e4
theorem es_forD {g : TG} {tb : TS} {i : Nat} {f : MG} {tv : List Nat} {b : MS} (hg : EvG K g f tv) (hb : EvS K W0 tb b) : EvS K W0 (tMay (tFor (iKeys (tVar i)) g tb)) (mForD i f b) := by
  intro F H σ s D rs w
  obtain ⟨d, s1, ed, w1⟩ := frz_out w
  obtain ⟨v, hv⟩ := slot_val rs ed
  obtain ⟨F1, g1, _, hd⟩ := frz_ok (Go.refl rs) (r := .b i) (v := v) hv ed
  split at w1
  · obtain ⟨ks, ek, w2⟩ := optO_wn w1
    have w3 : WnS K W0 D F H σ s (loop f b ks s1) := noE_wn w2
    have w4 : WnS K W0 D F1 H σ s1 (loop f b ks s1) := w3.at g1
    have fin : ∀ (a : Addr) (u : HO), v = .ref a → IsDo u → Rd F1 a u → ((∃ l kvs, u = .dK kvs ∧ RpK K F1 l kvs ∧ ks = l.map fun p => kD p.1) ∨ ∃ l kvs, u = .dT kvs ∧ RpT K F1 l kvs ∧ ks = l.map fun p => kDs p.1) → tMay (tFor (iKeys (tVar i)) g tb) D σ H := fun a u ev hu rd hk => by
      subst ev
      rcases rd with fa | ⟨od, fa⟩
      · refine .inr ⟨a, u, g1.rs.sub _ _ fa, hu.mut, fun od => ?_⟩
        have e := ext_lock (K := K) (od := od) hu fa
        refine walk_ok (od := od) (u := u) hg hb (g1.rs.lock hu fa) hv upd_same ?_ (wn_unlock hu fa g1.rs.sub w4)
        rcases hk with ⟨l, kvs, h1, h2, h3⟩ | ⟨l, kvs, h1, h2, h3⟩
        · exact .inl ⟨l, kvs, h1, h2.ext e, h3⟩
        · exact .inr ⟨l, kvs, h1, h2.ext e, h3⟩
      · exact .inl (walk_ok hg hb g1.rs hv fa hk w4)
    cases hd with
    | dk h r => cases ek; exact fin _ _ rfl (.inl ⟨_, rfl⟩) h (.inl ⟨_, _, rfl, r, rfl⟩)
    | dt h r => cases ek; exact fin _ _ rfl (.inr ⟨_, rfl⟩) h (.inr ⟨_, _, rfl, r, rfl⟩)
    | _ => cases ek
  · exact w1.elim

section
variable {X : Cx} {a b c e o : Expr} {es : List Expr} {pos p1 p2 p3 : Pos} {ta tb tc te : TE} {ma mb mc me : M Rv} {t : TA} {m : M (List Rv)} {k n : Nat} {W : WX} {body : List Stmt} {u : TS} {mu : MS}
theorem s_forD {x : Str} {tg : Expr} {g : TG} {f : MG} {tv : List Nat} (i : Nat) (hp : PassesOwn (model X.prog X.w) X.A X.env X.xe) (hc : X.calm = true) (hN : X.N[i]? = some x) (hv : Vis X.env.scope x) (hg : CG X K tg g f tv) (hb : CSs X K W0 body u mu) (hs : ∀ z, foldedSetIterable (.Name x p1) X.env z = pure z := by intro _; rfl) (hd : (x == ("__debug__" : Str)) = false := by decide) (hcd : (x == ("__classdict__" : Str)) = false := by decide) :
    CS X K W0 (.For tg (.Name x p1) body [] pos) (tMay (tFor (iKeys (tVar i)) g u)) (mForD i f mu) := ⟨ps_may (ps_for hp hc (pi_keys (pe_var hN hv hd hcd)) hg.p hb.p hs), es_forD hg.v hb.v⟩
theorem c_get1 {apos : Pos} (hr : Room k X.A) (mm : M1 X o "get" apos e pos) (ha : CE X K W o ta ma) (hb : CE X K W e tb mb) : CE X K W (.Call (.Attribute o "get" apos) [e] [] pos) (tDGet1 ta tb) (mGet1 ma mb) := ⟨pe_dget1 (hu1 hr) ha.p hb.p mm, ev_get1 ha.v hb.v⟩
theorem c_get2 {apos : Pos} {f : Expr} (hr : Room k X.A) (mm : M2 X o "get" apos e f pos) (ha : CE X K W o ta ma) (hb : CE X K W e tb mb) (hc : CE X K W f tc mc) : CE X K W (.Call (.Attribute o "get" apos) [e, f] [] pos) (tDGet2 ta tb tc) (mGet2 ma mb mc) := ⟨pe_dget2 (hu1 hr) ha.p hb.p hc.p mm, ev_get2 ha.v hb.v hc.v⟩
theorem c_dnK : CE X K W (.Dict [] [] pos) tDNewK mDNewK := ⟨pe_dnewK, ev_dnewK⟩
theorem c_dnT : CE X K W (.Dict [] [] pos) tDNewT mDNewT := ⟨pe_dnewT, ev_dnewT⟩
theorem c_meth {pl : Sem Bool} {kk : Nat} {mn : Str} {C g : Addr} {fd : FuncData} {ps : List Str} {f : MF} {dvs : List V} {ds : List Value} {dd : List D} {apos : Pos} (cl : Cls X.K C) (hm : Meth X.K C mn g) (F : FnOk X.prog X.w X.K X.mg X.base CX0 kk g fd ps (spM K f)) (hr : Room kk X.A) (hb : Binds X.K fd ps ds) (hv : Vals dvs ds) (hd : ∀ F, RpL K F dd dvs)
    (ho : CE X K W o te me) (ha : CA X K W (e :: es) t m) (hst : starEach (e :: es) X.env = (false, eval e X.env) :: starEach es X.env := by rfl) (hpl : (backTo pos (starEach es X.env)).any (·.1) = false := by rfl)
    (ht : eval (.Call (.Attribute o mn apos) (e :: es) [] pos) X.env = (do
      let ov ← eval o X.env
      standAt apos.atName
      let (f, first) ← holding [ov] (getMethod ov mn pl); callWith pos f first (backTo pos (starEach (e :: es) X.env)) (backToKw pos (keywordEach [] X.env))) := by rfl) :
    CE X K W (.Call (.Attribute o mn apos) (e :: es) [] pos) (tMeth C mn (spM K f) dvs (fun _ _ _ => False) te t) (mMeth C mn f dd me m) := ⟨pe_meth ho.p cl hm F hr hb hv (fun _ _ _ _ _ _ _ h => h.elim) ha.p hst hpl ht, ev_meth hd ho.v ha.v⟩
end
end Cz

/-! # CzX -/
namespace Cz
open L2 PyProof.Rows PySem.Spec PySem
variable {K : PySem.W.Frag}

/-! ## l.index(x) -/
def findI (y : D) : List D → Option Nat
  | [] => none
  | d :: ds => if deq d y then some 0 else (findI y ds).map (· + 1)
theorem findI_ok {y : D} {q : PyData} (hq : toPy y = some q) : ∀ {l : List D} {ps : List PyData} {j : Nat}, toPys l = some ps → findI y l = some j → ∃ z, ps[j]? = some z ∧ PyData.eqv z q = true ∧ ∀ (m : Nat) (z' : PyData), m < j → ps[m]? = some z' → PyData.eqv z' q = false
  | [], ps, j, _, e => by cases e
  | d :: l, ps, j, h, e => by
    simp only [toPys, Option.bind_eq_some_iff, Option.map_eq_some_iff] at h
    obtain ⟨p, h1, r, h2, rfl⟩ := h
    unfold findI at e
    split at e
    · rename_i hd
      cases e
      exact ⟨p, rfl, by rw [deq_py h1 hq]; exact hd, fun m z' hm => absurd hm (Nat.not_lt_zero _)⟩
    · rename_i hd
      rw [Option.map_eq_some_iff] at e
      obtain ⟨i, e1, rfl⟩ := e
      obtain ⟨z, a1, a2, a3⟩ := findI_ok hq h2 e1
      refine ⟨z, a1, a2, fun m z' hm hz => ?_⟩
      cases m with
      | zero =>
        have hz' : p = z' := Option.some.inj hz
        rw [← hz', deq_py h1 hq]
        simpa using hd
      | succ m => exact a3 m z' (Nat.lt_of_succ_lt_succ hm) hz
def indexD (x y : D) : Option Rv := (lstD x).bind fun l => if cmpb y && cmpb x then (findI y l).map fun j => .d (.int (j : Nat)) else none
def mIndex (mo me : M Rv) : M Rv := fun s => (mo s).bind fun r1 s1 => opt ((pk (nrm r1) s1).bind lstD) fun _ => (me s1).bind fun r2 s2 => opt (pk (nrm r1) s2) fun x => opt (pk r2 s2) fun y => outR (indexD x y) s2
theorem ev_index {W : WX} {to te : TE} {mo me : M Rv} (ho : EvX K W to mo) (he : EvX K W te me) : EvX K W (tBM K "list" (rIndexD K) to (tCons te tNil)) (mIndex mo me) := by
  intro F H σ s Q rs w
  refine ho.step (Go.refl rs) w fun r1 s1 v1 F1 H1 g1 _ h1 w1 => ?_
  obtain ⟨F1', g1', sb1, h1'⟩ := nrm_ok g1 h1
  obtain ⟨l0, e0, w2⟩ := opt_wn w1
  rw [Option.bind_eq_some_iff] at e0
  obtain ⟨d0, e1, e2⟩ := e0
  obtain ⟨a, xs, rfl, hs, _⟩ := lst_ok g1'.rs.sub (pk_ok g1'.rs h1' e1) e2
  refine ⟨.inl ⟨rfl, xs, hs⟩, he.step g1' w2 fun r2 s2 v2 F2 H2 g2 g12 h2 w3 => ?_⟩
  obtain ⟨x, ex, w4⟩ := opt_wn w3
  obtain ⟨y, ey, w5⟩ := opt_wn w4
  have ho := out_ok g2 w5
  have hx := pk_ok g2.rs (h1'.go g12) ex
  have hy := pk_ok g2.rs h2 ey
  unfold indexD at ho
  cases el : lstD x with
  | none => rw [el] at ho; exact ho.elim
  | some l =>
    rw [el, Option.bind_some] at ho
    split at ho
    · rename_i hc
      rw [Bool.and_eq_true] at hc
      obtain ⟨q, q1, q2⟩ := cmpb_ok hc.1
      obtain ⟨p, p1, p2⟩ := cmpb_ok hc.2
      have hp : ∃ ps, toPys l = some ps ∧ p = .list ps := by
        cases x with
        | lst m =>
          cases el
          simp only [toPy, Option.map_eq_some_iff] at p1
          obtain ⟨ps, z1, z2⟩ := p1
          exact ⟨ps, z1, z2.symm⟩
        | rol m =>
          cases el
          simp only [toPy, Option.map_eq_some_iff] at p1
          obtain ⟨ps, z1, z2⟩ := p1
          exact ⟨ps, z1, z2.symm⟩
        | _ => cases el
      obtain ⟨ps, hps, rfl⟩ := hp
      cases ej : findI y l with
      | none => rw [ej] at ho; exact ho.elim
      | some j =>
        rw [ej] at ho
        obtain ⟨z, z1, z2, z3⟩ := findI_ok q1 hps ej
        exact ⟨a, v2, q, ps, j, z, rfl, rfl, dpp_of g2.rs.sub hx p1, dpp_of g2.rs.sub hy q1, p2, q2, z1, z2, z3, outD g2.rs.sub ho (.int _)⟩
    · exact ho.elim
/-! ## *x among the arguments of a display -/
def mAStar (me : M Rv) (mr : M (List Rv)) : M (List Rv) := fun s => (me s).bind fun r s1 => (frz r s1).bind fun d s2 => opt (seqD d) fun l => (mr s2).bind fun rs s3 => .ok (l.map .d ++ rs) s3
theorem opt_wnA {α : Type} {F H : Hp} {σ : L2.St} {s : SS} {W : WX} {Q : List V → Hp → Prop} {o : Option α} {f : α → R (List Rv)} (w : WnA K W Q F H σ s (opt o f)) : ∃ a, o = some a ∧ WnA K W Q F H σ s (f a) := by
  cases o with
  | none => exact w.elim
  | some a => exact ⟨a, rfl, w⟩
theorem RpL.app {F : Hp} {σ : L2.St} {s : SS} : ∀ {ds : List D} {us : List V} {rs : List Rv} {vs : List V}, RpL K F ds us → RpA K F σ s rs vs → RpA K F σ s (ds.map .d ++ rs) (us ++ vs)
  | _, _, _, _, .nil, h => h
  | _, _, _, _, .cons a r, h => .d a (r.app h)
theorem RpL.toP {F H : Hp} (s : Sub F H) {d : D} {v : V} {l : List D} (h : Rp K F d v) (e : seqD d = some l) : ∃ a xs, v = .ref a ∧ RpL K F l xs ∧ (SqL K H a xs ∨ SqT K H a xs) := by
  obtain ⟨a, xs, h1, h2, h3⟩ := (h.look s).seq s e
  refine ⟨a, xs, h1, h2, ?_⟩
  rcases h3 with ⟨h3, _⟩ | ⟨h3, _⟩
  · exact .inl h3
  · exact .inr h3
theorem ea_star {W : WX} {te : TE} {t : TA} {me : M Rv} {mr : M (List Rv)} (ha : EvX K W te me) (hr : EvA K W t mr) : EvA K W (StX.tStar K te t) (mAStar me mr) := by
  intro F H σ s Q rs w
  refine ha.stepA (Go.refl rs) w fun r s1 v F1 H1 g1 _ h1 w1 => ?_
  obtain ⟨d, s2, ed, w2⟩ := frz_wnA w1
  obtain ⟨F2, g2, sb, hd⟩ := frz_ok g1 h1 ed
  obtain ⟨l, el, w3⟩ := opt_wnA w2
  obtain ⟨a, xs, rfl, hl, hq⟩ := RpL.toP g2.rs.sub hd el
  refine ⟨a, xs, rfl, hq.symm, hr.stepA g2 w3 fun rs s3 vs F3 H3 g3 g23 h3 w4 => ?_⟩
  exact w4 (xs ++ vs) F3 H3 g3 ((hl.mono g23.fr).app h3)
section
variable {X : Cx} {W : WX} {a b c e o : Expr} {es : List Expr} {pos p1 p2 p3 : Pos} {ta tb tc te to : TE} {ma mb mc me mo : M Rv} {t : TA} {m : M (List Rv)} {k n : Nat}
theorem c_index {apos : Pos} (hr : Room k X.A) (hK : X.K = K := by rfl) (ho : CE X K W o to mo) (he : CE X K W e te me)
    (hbase : attributeBase o "index" X.env (eval o X.env) = eval o X.env := by rfl)
    (hfew : ((backTo pos (starEach [e] X.env)).all (fun x => !x.1) && (backToKw pos (keywordEach [] X.env)).all (fun x => x.1.isSome) && decide (([e] : List Expr).length + ([] : List Keyword).length + (if ([] : List Keyword).isEmpty then 0 else 1) < 30)) = true := by rfl)
    (hline : (apos.endLine == pos.line) = true := by rfl) (hs : starEach [e] X.env = (false, eval e X.env) :: starEach [] X.env := by rfl) (hplain : (backTo pos (starEach [] X.env)).any (·.1) = false := by rfl) :
    CE X K W (.Call (.Attribute o "index" apos) [e] [] pos) (tBM K "list" (rIndexD K) to (tCons te tNil)) (mIndex mo me) := by subst hK; exact ⟨pe_bm PySem.F.plainAttrs_list PySem.F.slot_list_index PySem.F.type_list_index (mt_indexD (hu65 hr)) ho.p (pa_cons he.p pa_nil hs) hbase hfew hline hs hplain, ev_index ho.v he.v⟩
/-- a constant of the module -/
theorem c_glob {x : Str} {v : V} {u : Value} {d : D} (hg : Gl X x) (hm : X.mg x = some u) (r : RelV v u) (hd : ∀ F, Rp K F d v) (hdb : (x == ("__debug__" : Str)) = false := by decide) : CE X K W (.Name x pos) (tC v) (mC d) := ⟨pe_glob hg hm r hdb, ev_c hd⟩
theorem a_star (he : CE X K W e te me) (hK : X.K = K := by rfl) (hr : CA X K W es t m) (hs : starEach (.Starred e p1 :: es) X.env = (true, eval e X.env) :: starEach es X.env := by rfl) : CA X K W (.Starred e p1 :: es) (StX.tStar K te t) (mAStar me m) := by subst hK; exact ⟨StX.pa_star he.p hr.p hs, ea_star he.v hr.v⟩
/-! dict displays with texts and ints as keys -/
structure CP (X : Cx) (K : PySem.W.Frag) (W : WX) (pos : Pos) (ks : List (Option Expr)) (vs : List Expr) (ts : List (TE × TE)) (ps : List (Key × M Rv)) : Prop where
  p : PPs X pos ks vs ts
  v : EvP K W ts ps
theorem pk_nil : CP X K W pos [] [] [] [] := ⟨pps_nil, .nil⟩
theorem pk_str {x : Str} {j : Nat} {ks : List (Option Expr)} {vs : List Expr} {ts : List (TE × TE)} {ps : List (Key × M Rv)} (he : CE X K W e te me) (hr : CP X K W pos ks vs ts ps) : CP X K W pos (some (.Constant (.str x) j p1) :: ks) (e :: vs) ((tC (kV (.inr x)), te) :: ts) ((.inr x, me) :: ps) := ⟨pps_cons pe_str he.p hr.p, .cons he.v hr.v⟩
theorem pk_int {x : Int} {j : Nat} {ks : List (Option Expr)} {vs : List Expr} {ts : List (TE × TE)} {ps : List (Key × M Rv)} (he : CE X K W e te me) (hr : CP X K W pos ks vs ts ps) : CP X K W pos (some (.Constant (.int x) j p1) :: ks) (e :: vs) ((tC (kV (.inl x)), te) :: ts) ((.inl x, me) :: ps) := ⟨pps_cons pe_int he.p hr.p, .cons he.v hr.v⟩
theorem c_disp {ks : List (Option Expr)} {vs : List Expr} {ts : List (TE × TE)} {ps : List (Key × M Rv)} (h : CP X K W pos ks vs ts ps) (hall : ks.all (·.isSome) = true := by rfl) (hl : ks.length = vs.length := by rfl) (h0 : ks ≠ [] := by decide) (h15 : ks.length ≤ 15 := by decide) : CE X K W (.Dict ks vs pos) (tDisp ts) (mDisp ps) := ⟨pe_disp h.p hall hl h0 h15, ev_disp h.v⟩
theorem c_globS {x z : Str} (hg : Gl X x) (hm : ∃ t, X.mg x = some (.str z t)) (hdb : (x == ("__debug__" : Str)) = false := by decide) : CE X K W (.Name x pos) (tC (.str z)) (mC (.str z)) := by
  obtain ⟨t, hm⟩ := hm
  exact c_glob hg hm ⟨t, rfl⟩ (fun F => .str z) hdb
end
end Cz

/-! # CzY -/
namespace Cz
open L2 PyProof.Rows PySem.Spec PySem
variable {K : PySem.W.Frag}

/-! ## comprehensions over a dict -/
def mKeys (i : Nat) : M (List D) := fun s => (frz (.b i) s).bind fun d s1 => match s1[i]? with
  | some (some (.fz _)) => opt (keysD d) fun ks => .ok ks s1
  | _ => .no
def mLcD (i : Nat) (f : MG) (mt : M Bool) (me : M Rv) (vs : List Nat) : M Rv := fun s => noEx (mLc (mKeys i) f mt me vs s)
theorem wn_unlockX {F H : Hp} {σ : L2.St} {s : SS} {Q : VK} {a : Addr} {u : HO} {od : Obj} {r : R Rv} (hu : IsDo u) (ha : F a = some u) (hs : Sub F H) (w : Wn K W0 Q F H σ s r) :
    Wn K W0 (fun v H' => H' a = some (.frz od u) ∧ Q v (upd H' a u)) (upd F a (.frz od u)) (upd H a (.frz od u)) σ s r := by
  cases r with
  | no => exact w
  | ex c l s' =>
    intro dd F' H' xs g h1 h2
    obtain ⟨g', h3, h4, e⟩ := Go.unlock hu ha hs g
    have n : dd ≠ a := fun z => by
      subst z
      rw [h4] at h1
      cases h1
    have z : False := w dd (upd F' a u) (upd H' a u) xs g' (by rw [upd_ne n]; exact h1) (h2.ext e)
    exact z.elim
  | ok r s' =>
    intro v F' H' g h
    obtain ⟨g', h3, h4, e⟩ := Go.unlock hu ha hs g
    refine ⟨h4, w v _ _ g' ?_⟩
    cases r with
    | d d => exact Rp.ext e h
    | b i => exact h
    | o o =>
      obtain ⟨p, ho, rfl, e1, e2, e3, e4, e5⟩ := h
      have n : p ≠ a := fun z => by
        subst z
        rw [h3] at e1
        cases e1
      exact ⟨p, ho, rfl, by rw [upd_ne n]; exact e1, by rw [upd_ne n]; exact e2, e3.ext e, by rw [upd_ne n] at e4; exact e4, e5⟩
theorem keys_get {κ : Type} {k : κ} {v : V} {F : Hp} : ∀ {l : List (κ × D)} {kvs : List (κ × V)} {j : Nat} (h : j < l.length), RpX K F l kvs → kvs[j]? = some (k, v) → (l[j]).1 = k := by
  intro l kvs j h r e
  unfold RpX at r
  induction r generalizing j with
  | nil => exact absurd h (Nat.not_lt_zero _)
  | @cons p q ps qs hp t ih =>
    cases j with
    | zero =>
      have e' : q = (k, v) := Option.some.inj e
      show p.1 = k
      rw [hp.1, e']
    | succ j => exact ih (Nat.lt_of_succ_lt_succ h) e
/-- the source of a locked dict -/
theorem keys_src {F H : Hp} {σ : L2.St} {s : SS} {i : Nat} {a : Addr} {u : HO} {od : Obj} {ks : List D} (rs : RS K F H σ s) (hσ : σ[i]? = some (some (.ref a))) (fa : F a = some (.frz od u))
    (hk : (∃ l kvs, u = .dK kvs ∧ RpK K F l kvs ∧ ks = l.map fun p => kD p.1) ∨ ∃ l kvs, u = .dT kvs ∧ RpT K F l kvs ∧ ks = l.map fun p => kDs p.1) (Q : It → Hp → Prop) (w : WnI K W0 Q F H σ s (mKs ks s)) : iKeys (tVar i) σ H Q := by
  refine ⟨.ref a, hσ, a, od, rfl, ?_⟩
  rcases hk with ⟨l, kvs, rfl, r, rfl⟩ | ⟨l, kvs, rfl, r, rfl⟩
  · refine .inl ⟨kvs, rs.sub _ _ fa, w _ F H _ _ (Go.refl rs) (by rw [List.length_map, r.x.length]; exact walk_keys) (fun F2 H2 σ2 s2 r2 sb => r2.sub _ _ (sb _ _ fa)) ?_⟩
    rintro j Hc x Hx F2 σ2 s2 hj ⟨rfl, k, v, e1, rfl⟩ r2 sb
    refine ⟨F2, kD k, Al.refl r2.sub, ?_, rp_key k⟩
    have hj' : j < l.length := by simpa using hj
    rw [List.getElem?_map, List.getElem?_eq_getElem hj']
    show some (kD (l[j]).1) = _
    rw [keys_get hj' r.x e1]
  · refine .inr ⟨kvs, rs.sub _ _ fa, w _ F H _ _ (Go.refl rs) (by rw [List.length_map, r.x.length]; exact walk_keysT) (fun F2 H2 σ2 s2 r2 sb => r2.sub _ _ (sb _ _ fa)) ?_⟩
    rintro j Hc x Hx F2 σ2 s2 hj ⟨rfl, k, v, q, e1, rfl, hq⟩ r2 sb
    refine ⟨_, kDs k, Al.adopt r2.sub, ?_, adopt_key r2.sub hq⟩
    have hj' : j < l.length := by simpa using hj
    rw [List.getElem?_map, List.getElem?_eq_getElem hj']
    show some (kDs (l[j]).1) = _
    rw [keys_get hj' r.x e1]
def tMayE (t : TE) : TE := fun σ H Q => t σ H Q ∨ tLockE t σ H Q
theorem pe_may {X : Cx} {e : Expr} {t : TE} (h : PE X e t) : PE X e (tMayE t) := by
  refine ⟨fun pins s σ H Q I w => ?_⟩
  rcases w with w | w
  · exact h.run pins s σ H Q I w
  · exact (pe_lock h).run pins s σ H Q I w
/-- where the dict stands, and its keys -/
theorem keys_at {F H : Hp} {σ : L2.St} {s : SS} {i : Nat} {d : D} {s1 : SS} {ks : List D} (rs : RS K F H σ s) (ed : frz (.b i) s = .ok d s1) (ek : keysD d = some ks) :
    ∃ F1 a u, Go K F H σ s F1 H σ s1 ∧ σ[i]? = some (some (.ref a)) ∧ IsDo u ∧ Rd F1 a u ∧ ((∃ l kvs, u = .dK kvs ∧ RpK K F1 l kvs ∧ ks = l.map fun p => kD p.1) ∨ ∃ l kvs, u = .dT kvs ∧ RpT K F1 l kvs ∧ ks = l.map fun p => kDs p.1) := by
  obtain ⟨v, hv⟩ := slot_val rs ed
  obtain ⟨F1, g1, _, hd⟩ := frz_ok (Go.refl rs) (r := .b i) (v := v) hv ed
  cases hd with
  | dk h r => cases ek; exact ⟨F1, _, _, g1, hv, .inl ⟨_, rfl⟩, h, .inl ⟨_, _, rfl, r, rfl⟩⟩
  | dt h r => cases ek; exact ⟨F1, _, _, g1, hv, .inr ⟨_, rfl⟩, h, .inr ⟨_, _, rfl, r, rfl⟩⟩
  | _ => cases ek
theorem keys_ext {F F' : Hp} {u : HO} {ks : List D} (e : Ext K F F') (hk : (∃ l kvs, u = .dK kvs ∧ RpK K F l kvs ∧ ks = l.map fun p => kD p.1) ∨ ∃ l kvs, u = .dT kvs ∧ RpT K F l kvs ∧ ks = l.map fun p => kDs p.1) :
    (∃ l kvs, u = .dK kvs ∧ RpK K F' l kvs ∧ ks = l.map fun p => kD p.1) ∨ ∃ l kvs, u = .dT kvs ∧ RpT K F' l kvs ∧ ks = l.map fun p => kDs p.1 := by
  rcases hk with ⟨l, kvs, h1, h2, h3⟩ | ⟨l, kvs, h1, h2, h3⟩
  · exact .inl ⟨l, kvs, h1, h2.ext e, h3⟩
  · exact .inr ⟨l, kvs, h1, h2.ext e, h3⟩
/-- the mirror, with the keys told -/
theorem mLcD_at {i : Nat} {f : MG} {mt : M Bool} {me : M Rv} {vs : List Nat} {s : SS} {W : WX} {Q : VK} {F H : Hp} {σ : L2.St} (w : Wn K W Q F H σ s (mLcD i f mt me vs s)) : ∃ d s1 ks, frz (.b i) s = .ok d s1 ∧ keysD d = some ks ∧ Wn K W0 Q F H σ s (noEx (mLc (mKs ks) f mt me vs s1)) := by
  have hk : ∃ d s1 ks, frz (.b i) s = .ok d s1 ∧ keysD d = some ks ∧ mKeys i s = mKs ks s1 := by
    have bad : mKeys i s = .no → False := fun z => by
      have w' : Wn K W Q F H σ s (noEx ((mKeys i s).bind fun ds s1 => if loose s1 vs then (loopC f mt me vs ds [] (wipeS s1 vs)).bind fun acc s2 => .ok (.o (.lst acc)) (restS s1 s2 vs) else .no)) := w
      rw [z] at w'
      exact w'
    cases e : frz (.b i) s with
    | no => exact (bad (by unfold mKeys; rw [e]; rfl)).elim
    | ex c l s1 => exact absurd e frz_ex
    | ok d s1 =>
      have e2 : mKeys i s = match s1[i]? with
        | some (some (.fz _)) => opt (keysD d) fun ks => .ok ks s1
        | _ => .no := by unfold mKeys; rw [e]; rfl
      cases q : s1[i]? with
      | none => rw [q] at e2; exact (bad e2).elim
      | some x =>
        cases x with
        | none => rw [q] at e2; exact (bad e2).elim
        | some sv =>
          cases sv with
          | ow o => rw [q] at e2; exact (bad e2).elim
          | br o => rw [q] at e2; exact (bad e2).elim
          | fz d' =>
            rw [q] at e2
            cases ek : keysD d with
            | none => rw [ek] at e2; exact (bad e2).elim
            | some ks => rw [ek] at e2; exact ⟨d, s1, ks, rfl, ek, e2⟩
  obtain ⟨d, s1, ks, e1, e2, e3⟩ := hk
  refine ⟨d, s1, ks, e1, e2, ?_⟩
  have w' : Wn K W Q F H σ s (noEx ((mKeys i s).bind fun ds s1 => if loose s1 vs then (loopC f mt me vs ds [] (wipeS s1 vs)).bind fun acc s2 => .ok (.o (.lst acc)) (restS s1 s2 vs) else .no)) := w
  rw [e3] at w'
  have w2 : Wn K W Q F H σ s (noEx (mLc (mKs ks) f mt me vs s1)) := w'
  cases z : mLc (mKs ks) f mt me vs s1 with
  | ok r s2 => rw [z] at w2; exact w2
  | ex c l s2 => rw [z] at w2; exact w2
  | no => rw [z] at w2; exact w2
theorem ev_lcD {W : WX} {i : Nat} {g : TG} {tt : TT} {te : TE} {vs tv : List Nat} {f : MG} {mt : M Bool} {me : M Rv} (hg : EvG K g f tv) (ht : ∀ j ∈ tv, j ∈ vs) (htt : EvT K W0 tt mt) (he : EvX K W0 te me) : EvX K W (tMayE (tLc (iKeys (tVar i)) g tt te vs)) (mLcD i f mt me vs) := by
  intro F H σ s Q rs w
  obtain ⟨d, s1, ks, ed, ek, w1⟩ := mLcD_at w
  obtain ⟨F1, a, u, g1, hσ, hu, rd, hk⟩ := keys_at rs ed ek
  have w2 : Wn K W0 Q F1 H σ s1 (mLc (mKs ks) f mt me vs s1) := by
    have w3 := noEx_wn w1 W0
    cases e : mLc (mKs ks) f mt me vs s1 with
    | no => rw [e] at w3; exact w3
    | ex c l s2 =>
      rw [e] at w3
      exact fun dd F2 H2 xs g2 => w3 dd F2 H2 xs (g1.trans g2)
    | ok r s2 =>
      rw [e] at w3
      exact fun v F2 H2 g2 h => w3 v F2 H2 (g1.trans g2) h
  rcases rd with fa | ⟨od, fa⟩
  · refine .inr ⟨a, u, g1.rs.sub _ _ fa, hu.mut, fun od => ?_⟩
    have e := ext_lock (K := K) (od := od) hu fa
    exact ev_lcAt (keys_src (g1.rs.lock hu fa) hσ upd_same (keys_ext e hk)) hg ht htt he (wn_unlockX hu fa g1.rs.sub w2)
  · exact .inl (ev_lcAt (keys_src g1.rs hσ fa hk) hg ht htt he w2)
section
variable {X : Cx} {W : WX} {a b c e o : Expr} {es : List Expr} {pos p1 p2 p3 : Pos} {ta tb tc te to : TE} {ma mb mc me mo : M Rv} {t : TA} {m : M (List Rv)} {k n : Nat}
theorem c_lcD (i : Nat) {x : Str} {tg elt : Expr} {ifs : List Expr} {scope : Scope} {own : List (Str × Nat)} {g : TG} {tt : TT} {f : MG} {tv : List Nat} {mt : M Bool} (hc : X.calm = true) (hN : X.N.Nodup) (ok : BlkOk X.N X.env.scope scope own) (ht : ∀ j ∈ tv, j ∈ own.map (·.2)) (hi : X.N[i]? = some x) (hv : Vis X.env.scope x)
    (hg : ∀ (s : Shared) (H : Hp) (C : Addr) (cl : List (Str × Addr)) (fp : List Addr), CG (X.blk s H scope (compEnvC scope cl C X.env) fp) K tg g f tv) (hts : ∀ (s : Shared) (H : Hp) (C : Addr) (cl : List (Str × Addr)) (fp : List Addr), CTs (X.blk s H scope (compEnvC scope cl C X.env) fp) K W0 ifs tt mt)
    (he : ∀ (s : Shared) (H : Hp) (C : Addr) (cl : List (Str × Addr)) (fp : List Addr), CE (X.blk s H scope (compEnvC scope cl C X.env) fp) K W0 elt te me) (hs : ∀ z, foldedSetIterable (.Name x p1) X.env z = pure z := by intro _; rfl) (s0 : Shared) (H0 : Hp) (hd : (x == ("__debug__" : Str)) = false := by decide) (hcd : (x == ("__classdict__" : Str)) = false := by decide) :
    CE X K W (.ListComp elt [⟨tg, .Name x p1, ifs, 0⟩] scope pos) (tMayE (tLc (iKeys (tVar i)) g tt te (own.map (·.2)))) (mLcD i f mt me (own.map (·.2))) :=
  ⟨pe_may (pe_lc hc hN (pi_keys (pe_var hi hv hd hcd)) ok (fun s H C cl fp => (hg s H C cl fp).p) (fun s H C cl fp => (hts s H C cl fp).p) (fun s H C cl fp => (he s H C cl fp).p) hs), ev_lcD (hg s0 H0 0 [] []).v ht (hts s0 H0 0 [] []).v (he s0 H0 0 [] []).v⟩
end
end Cz

/-! # DaA -/
namespace Cz
open L2 PyProof.Rows PySem.Spec PySem

/-! ## dict comprehensions, whatever the keys -/
section
variable {X : Cx}
/-- one pair goes into the dict that grows -/
theorem putC {ps : List (Addr × Obj)} {σ : L2.St} {H J : Hp} {s : Shared} {E : Value → Shared → Prop} {a : Addr} {y v : V} {u r : Value} {Q : Unit → Shared → Prop} (hu : X.A.units < cLine) (I : Inv X ps σ H s)
    (g : DPut H a y v J) (ry : RelV y u) (rv : RelV v r) (h : ∀ z, Inv X ps σ J z → Q () z) : wpAny (model X.prog X.w) X.A (dictSet a u r) Q E s := by
  rcases g with ⟨l, k, e1, rfl, e2, rfl⟩ | ⟨l, k, b, e1, rfl, e2, e3, rfl⟩
  · exact d_dictSet I e1 e2 ry rv h
  · obtain rfl : u = .ref b := ry
    obtain ⟨n1, n2, cs, rl, dc⟩ := dt_of I.hok e1
    have n3 : cs.length = l.length := (Paired.length rl).symm
    have n4 := length_putK l k v
    refine wpAny_dictSet_heap (knd := tupleKind (mixKind X.prog X.w)) (hsz := by (rw [n3]; exact n1)) hu (key_of I.hok e2) dc fun g1 dc1 sb => ?_
    obtain ⟨ob, q1, q2, q3, q4, q5, q6, _, q7⟩ := dc1
    refine h _ (d_write I (by (rw [e1]; trivial)) sb ⟨ob, q3⟩ ?_)
    refine ⟨by omega, n2, _, (rl.put k e2 rv).keeps fun c ys ec => ?_, ob, q1, q2, q3, q4, q5, q6, q7⟩
    have nc : c ≠ a := fun z => by
      rw [z, e1] at ec
      cases ec
    rw [upd_ne nc]
    exact ec
/-- u0: the dict as it begins -/
def tDcA (u0 : HO) (wi : TI) (g : TG) (tt : TT) (tk tv : TE) (vs : List Nat) : TE := fun σ H Q => wi σ H fun J H1 => ∀ a, H1 a = none →
  ∃ W : Nat → Nat → Hp → Prop, (∃ m, W 0 m (upd H1 a u0)) ∧ ∀ i m Hi, W i m Hi → (J.stop i Hi ∧ Q (.ref a) Hi) ∨
    (J.go i Hi ∧ ∃ N : Hp → Prop, (∀ Hn, N Hn → ∃ m', m' < m ∧ W (i + 1) m' Hn) ∧
      ∀ x Hx, J.yld i Hi x Hx → g x (L2.wipe σ vs) Hx fun σ2 H2 => L2.wipe σ2 vs = L2.wipe σ vs ∧ tt σ2 H2 fun b H3 =>
        if b = true then tk σ2 H3 fun y H4 => tv σ2 H4 fun z H5 => ∃ H6, DPut H5 a y z H6 ∧ N H6 else N H3)

theorem dcA_core {u0 : HO} (hz : ∀ (H : Hp) (h : Heap), sysModules < h.objs.size → ObjOk X.prog X.w H (h.push { cls := .type "dict", data := .dict #[] }) h.objs.size u0) (hu : X.A.units < cLine)
    {ps : List (Addr × Obj)} {s : Shared} {σ : L2.St} {H : Hp} {Q : VK} {kx vx tg ie : Expr} {fs : List Expr} {sc : Scope} {own : List (Str × Nat)} {p1 p2 : Pos} {wi : TI} {g : TG} {tt : TT} {tk tv : TE} {us : Option (Value → Sem Unit)} {Qf : Value → Shared → Prop}
    (hc : X.calm = true) (hN : X.N.Nodup) (I : Inv X ps σ H s) (hi : PI X tg ie wi) (ok : BlkOk X.N X.env.scope sc own)
    (hg : ∀ (s : Shared) (H : Hp) (C : Addr) (cl : List (Str × Addr)) (fp : List Addr), PG (X.blk s H sc (compEnvC sc cl C X.env) fp) tg g)
    (ht : ∀ (s : Shared) (H : Hp) (C : Addr) (cl : List (Str × Addr)) (fp : List Addr), PTs (X.blk s H sc (compEnvC sc cl C X.env) fp) fs tt)
    (hk : ∀ (s : Shared) (H : Hp) (C : Addr) (cl : List (Str × Addr)) (fp : List Addr), PE (X.blk s H sc (compEnvC sc cl C X.env) fp) kx tk)
    (hv : ∀ (s : Shared) (H : Hp) (C : Addr) (cl : List (Str × Addr)) (fp : List Addr), PE (X.blk s H sc (compEnvC sc cl C X.env) fp) vx tv)
    (hs : ∀ x, foldedSetIterable ie X.env x = pure x) (h : tDcA u0 wi g tt tk tv (own.map (·.2)) σ H Q)
    (hR : ∀ d c z m J, Inv X ps σ J z → Q (.ref d) J → z.heap.Ns c m → FpOk X ps J c → compPost (model X.prog X.w) X.A X.xe us Qf (.ref d) c (.ok .next) z) :
    wpAny (model X.prog X.w) X.A (comprehension (.DictComp kx vx [⟨tg, ie, fs, 0⟩] sc p1) sc X.env p2 newDict false (eval ie X.env) us) Qf X.xe s := by
  have fr : ∀ n ∈ sc.names, n.2 = .free → ∃ c, X.env.cells.lookup n.1 = some c := by
    intro n hn e
    rcases ok.free n hn e with q | q
    · exact I.ok.has _ (Or.inl q)
    · exact I.ok.has _ (Or.inr q)
  refine wpAny_comprehension_free (use := us) rfl hs (closure_ok fr) ok.kind (fun n hn e => by (rw [ok.uniq n hn, e])) (thn (hi.run ps s σ H _ I h) fun w1 t1 hw1 => thn hw1 fun w2 t2 hw2 => ?_)
  obtain ⟨itA, ch, tn, J, J2, e0, I2, T, st2, f2, q2⟩ := hw2
  subst e0
  (refine wpAny_newObj_type (newEnv_comp ?_))
  generalize hd : t2.heap.objs.size = d
  have dn : J2 d = none := I2.hok.fresh (Nat.le_of_eq hd)
  obtain ⟨W, ⟨m0, w0⟩, tu⟩ := q2 d dn
  generalize ht3 : ({ t2 with heap := t2.heap.push { cls := .type "dict", data := .dict #[] } } : Shared) = t3
  have e3 : t3.heap = t2.heap.push { cls := .type "dict", data := .dict #[] } := by (rw [← ht3])
  have I3 : Inv X ps σ (upd J2 d u0) t3 := by
    have o0 := hz (upd J2 t2.heap.objs.size u0) t2.heap I2.big
    rw [← ht3]
    refine I2.laid (t' := t2.toks) (fun x o q => Heap.get?_push_of_some _ q) (Nat.le_of_eq hd) ?_
    rw [hd] at o0
    exact o0
  have lt2 : ∀ x ∈ ch, x < t2.heap.objs.size := fun x hx => by
    obtain ⟨o, q, _⟩ := T.obj _ _ st2 x hx
    exact Heap.lt_size q
  have f3 : ∀ x ∈ ch, FpOk X ps (upd J2 d u0) x ∧ x < t3.heap.objs.size := fun x hx => by
    have l := lt2 x hx
    have nd : x ≠ d := by
      rw [← hd]
      exact Nat.ne_of_lt l
    refine ⟨⟨by (rw [upd_ne nd]; exact (f2 x hx).1), (f2 x hx).2⟩, ?_⟩
    rw [e3, Heap.size_push]
    exact Nat.lt_succ_of_lt l
  have st3 : tn 0 t3.heap := T.keep _ _ _ st2 fun x _ o q => by
    rw [e3]
    (exact Heap.get?_push_of_some _ q)
  (have I4 := block_start I3 ok hN f3)
  have xg := hg t3 (upd J2 d u0) t3.heap.objs.size (cellsFrom (t3.heap.objs.size + 1) sc.names (cloFrom X.env.cells sc.names [])) ch
  have xt := ht t3 (upd J2 d u0) t3.heap.objs.size (cellsFrom (t3.heap.objs.size + 1) sc.names (cloFrom X.env.cells sc.names [])) ch
  have xk := hk t3 (upd J2 d u0) t3.heap.objs.size (cellsFrom (t3.heap.objs.size + 1) sc.names (cloFrom X.env.cells sc.names [])) ch
  have xv := hv t3 (upd J2 d u0) t3.heap.objs.size (cellsFrom (t3.heap.objs.size + 1) sc.names (cloFrom X.env.cells sc.names [])) ch
  show codeAny _ _ (.compStart (.DictComp kx vx [⟨tg, ie, fs, 0⟩] sc p1) 0 (.ref itA) (.ref d) (compEnvC sc (cellsFrom (t3.heap.objs.size + 1) sc.names (cloFrom X.env.cells sc.names [])) t3.heap.objs.size X.env)) (compPost (model X.prog X.w) X.A X.xe us Qf (.ref d) t3.heap.objs.size) { t3 with heap := pushCells (t3.heap.push { cls := .type "dict", data := .dict #[] }) sc.names }
  have no : ∀ x ∈ ch, (upd J2 d u0) x = none := fun x hx => (f3 x hx).1.1
  generalize hce : compEnvC sc (cellsFrom (t3.heap.objs.size + 1) sc.names (cloFrom X.env.cells sc.names [])) t3.heap.objs.size X.env = ce at I4 xg xt xk xv ⊢
  have lc : ce.locals = t3.heap.objs.size := by (rw [← hce]; rfl)
  generalize hJ3 : upd J2 d u0 = J3 at I3 I4 xg xt xk xv w0 no f3
  generalize ht4 : ({ t3 with heap := pushCells (t3.heap.push { cls := .type "dict", data := .dict #[] }) sc.names } : Shared) = t4 at I4 ⊢
  have st4 : tn 0 t4.heap := T.keep _ _ _ st3 fun x _ o q => by
    rw [← ht4]
    exact pushCells_keeps _ _ _ _ (Heap.get?_push_of_some _ q)
  have sta : ∀ {τ : L2.St} {Jx : Hp} {z : Shared}, Inv (X.blk t3 J3 sc ce ch) [] τ Jx z → (∀ x ∈ ch, Jx x = none) → ∀ x ∈ ch, FpOk (X.blk t3 J3 sc ce ch) [] Jx x := fun {τ Jx z} Iz hn x hx =>
    ⟨hn x hx, (Iz.ok.exf x hx).1, Iz.ok.exfs x hx, Or.inl hx, fun y c q => (Iz.ok.exf x hx).2 y c q, fun p hp => absurd (show p ∈ ([] : List (Addr × Obj)) ++ [] from hp) (by simp)⟩
  refine codeAny_compStart_dict ?_ (T.self X.A 0 _ _ _ st4 ?_)
  all_goals
    refine compLoop_anyD (fun n z => ∃ i Ji, Inv (X.blk t3 J3 sc ce ch) [] (L2.wipe σ (own.map (·.2))) Ji z ∧ tn i z.heap ∧ (∀ x ∈ ch, Ji x = none) ∧ W i n Ji) ?_ m0 ⟨0, J3, I4, st4, no, w0⟩
    rintro n t5 ⟨i, J5, I5, st5, n5, w5⟩
    rcases tu i n J5 w5 with ⟨stop, qq⟩ | ⟨go, N, hN', step⟩
    · have td := T.done (X.blk t3 J3 sc ce ch) rfl rfl rfl hc i [] t5 _ J5 (fun _ _ => False) I5 (sta I5 n5) st5 stop
      refine thnF td fun r t6 ⟨hr, I6⟩ => ?_
      subst hr
      have I7 : Inv X ps σ J5 t6 := I3.call' (ch := ch) I6.os I6.base I6.hok I6.bare fun x hx => ⟨(f3 x hx).1.2.2.2.1, (f3 x hx).1.2.1, (f3 x hx).1.2.2.2.2.1, (f3 x hx).1.2.2.2.2.2⟩
      have nC : J5 t3.heap.objs.size = none := by
        have q : J5 ce.locals = none := I6.free
        rw [lc] at q
        exact q
      obtain ⟨m, hm, _⟩ := I6.loc
      have hm : t6.heap.Ns ce.locals m := hm
      rw [lc] at hm
      exact hR d t3.heap.objs.size t6 m J5 I7 qq hm (I3.fpOk (Nat.le_refl _) nC)
    · refine thnF (T.item (X.blk t3 J3 sc ce ch) rfl rfl rfl hc i [] t5 _ J5 (fun _ _ => False) I5 (sta I5 n5) st5 go) fun r t6 ⟨u, hr, h6⟩ => ?_
      subst hr
      refine thnF h6 fun _ t7 ⟨x, J7, I7, r7, y7, st7, n7⟩ => ?_
      have P7 := I7.pinned (sta I7 n7) (T.obj _ _ st7)
      refine thnF (xg.run _ t7 _ J7 x u _ P7 r7 (step x J7 y7)) fun _ t8 ⟨τ, J8, I8, hw8, q8⟩ => ?_
      refine thnF (xt.run _ t8 τ J8 _ I8 q8) fun b t9 ⟨J9, I9, q9⟩ => ?_
      have fin : ∀ {z : Shared} {Jz : Hp}, Inv (X.blk t3 J3 sc ce ch) ([] ++ pinsAt ch t7.heap) τ Jz z → N Jz → ∃ m, m < n ∧ ∃ i Ji, Inv (X.blk t3 J3 sc ce ch) [] (L2.wipe σ (own.map (·.2))) Ji z ∧ tn i z.heap ∧ (∀ x ∈ ch, Ji x = none) ∧ W i m Ji := by
        intro z Jz Iz nx
        obtain ⟨m', hm, w'⟩ := hN' Jz nx
        have pn : ∀ x ∈ ch, ∀ o, t7.heap.get? x = some o → z.heap.get? x = some o ∧ Jz x = none := fun x hx o q =>
          have pz := Iz.pin (x, o) (List.mem_append_right _ (List.mem_append_right _ (mem_pinsAt hx q)))
          ⟨pz.1, pz.2.1⟩
        have ll : (L2.wipe σ (own.map (·.2))).length = τ.length := by (rw [← hw8, wipe_length])
        refine ⟨m', hm, i + 1, Jz, (Iz.unpinned (pins := [])).weak ll (fun j v q => ?_), T.keep _ _ _ st7 fun x hx o q => (pn x hx o q).1, fun x hx => ?_, w'⟩
        · rw [← hw8] at q
          exact (wipe_some q).1
        · obtain ⟨o, q, _⟩ := T.obj _ _ st7 x hx
          exact (pn x hx o q).2
      cases b with
      | false =>
        rw [if_neg (by decide)] at q9 ⊢
        exact fin I9 q9
      | true =>
        rw [if_pos rfl] at q9 ⊢
        refine thnF (xk.run _ t9 τ J9 _ I9 q9) fun k1 t10 ⟨yk, J10, I10, r10, q10⟩ => ?_
        refine thnF (xv.run _ t10 τ J10 _ I10 q10) fun k2 t11 ⟨yv, J11, I11, r11, J12, dp, nx⟩ => ?_
        exact putC (X := X.blk t3 J3 sc ce ch) hu I11 dp r10 r11 fun t12 I12 => fin I12 nx
theorem pe_dcA {u0 : HO} (hz : ∀ (H : Hp) (h : Heap), sysModules < h.objs.size → ObjOk X.prog X.w H (h.push { cls := .type "dict", data := .dict #[] }) h.objs.size u0) (hu : X.A.units < cLine)
    {kx vx tg ie : Expr} {fs : List Expr} {sc : Scope} {own : List (Str × Nat)} {p1 : Pos} {wi : TI} {g : TG} {tt : TT} {tk tv : TE} (hc : X.calm = true) (hN : X.N.Nodup) (hi : PI X tg ie wi) (ok : BlkOk X.N X.env.scope sc own)
    (hg : ∀ (s : Shared) (H : Hp) (C : Addr) (cl : List (Str × Addr)) (fp : List Addr), PG (X.blk s H sc (compEnvC sc cl C X.env) fp) tg g)
    (ht : ∀ (s : Shared) (H : Hp) (C : Addr) (cl : List (Str × Addr)) (fp : List Addr), PTs (X.blk s H sc (compEnvC sc cl C X.env) fp) fs tt)
    (hk : ∀ (s : Shared) (H : Hp) (C : Addr) (cl : List (Str × Addr)) (fp : List Addr), PE (X.blk s H sc (compEnvC sc cl C X.env) fp) kx tk)
    (hv : ∀ (s : Shared) (H : Hp) (C : Addr) (cl : List (Str × Addr)) (fp : List Addr), PE (X.blk s H sc (compEnvC sc cl C X.env) fp) vx tv)
    (hs : ∀ x, foldedSetIterable ie X.env x = pure x := by intro _; rfl) : PE X (.DictComp kx vx [⟨tg, ie, fs, 0⟩] sc p1) (tDcA u0 wi g tt tk tv (own.map (·.2))) := by
  constructor
  intro ps s σ H Q I hw
  rw [arm_eval_DictComp]
  refine dcA_core hz hu hc hN I hi ok hg ht hk hv hs hw fun d c z m J I' q hn f => ⟨m, hn, fun h'' sb => ?_⟩
  exact ⟨.ref d, J, I'.turned (t' := z.toks) (fun b o hb e => (sb.2 b hb).trans e) f.1 f.2.1 f.2.2.2.1 f.2.2.2.2.1 f.2.2.2.2.2, rfl, q⟩
/-- the walk, with what holds between the turns -/
theorem dc_it {J : It} {n : Nat} {G : Hp → Prop} {Y : Nat → Hp → V → Hp → Prop} (w : Walk J n G Y) {u0 : HO} {g : TG} {tt : TT} {tk tv : TE} {vs : List Nat} {σ : L2.St} {H1 : Hp} {a : Addr} {Qd : Hp → Prop} (P : Nat → Hp → Prop) (h0 : P 0 (upd H1 a u0))
    (hG : ∀ i H, i ≤ n → P i H → G H) (hs : ∀ i x H Hx, i < n → P i H → Y i H x Hx → g x (L2.wipe σ vs) Hx fun σ2 H2 => L2.wipe σ2 vs = L2.wipe σ vs ∧ tt σ2 H2 fun b H3 =>
      if b = true then tk σ2 H3 fun y H4 => tv σ2 H4 fun z H5 => ∃ H6, DPut H5 a y z H6 ∧ P (i + 1) H6 else P (i + 1) H3) (hd : ∀ H, P n H → Qd H) :
    ∃ W : Nat → Nat → Hp → Prop, (∃ m, W 0 m (upd H1 a u0)) ∧ ∀ i m Hi, W i m Hi → (J.stop i Hi ∧ Qd Hi) ∨
    (J.go i Hi ∧ ∃ N : Hp → Prop, (∀ Hn, N Hn → ∃ m', m' < m ∧ W (i + 1) m' Hn) ∧
      ∀ x Hx, J.yld i Hi x Hx → g x (L2.wipe σ vs) Hx fun σ2 H2 => L2.wipe σ2 vs = L2.wipe σ vs ∧ tt σ2 H2 fun b H3 =>
        if b = true then tk σ2 H3 fun y H4 => tv σ2 H4 fun z H5 => ∃ H6, DPut H5 a y z H6 ∧ N H6 else N H3) := by
  refine ⟨fun i m H => i + m = n ∧ P i H, ⟨n, by omega, h0⟩, fun i m H z => ?_⟩
  obtain ⟨e, p⟩ := z
  have q := hG i H (by omega) p
  rcases Nat.eq_zero_or_pos m with m0 | m0
  · left
    have e' : i = n := by omega
    rw [e'] at p ⊢
    exact ⟨w.stops H q, hd H p⟩
  · right
    have l : i < n := by omega
    exact ⟨w.goes i H l q, P (i + 1), fun Hn pn => ⟨m - 1, by omega, by omega, pn⟩, fun x Hx y => hs i x H Hx l p (w.yields i H x Hx l q y)⟩
end
end Cz

/-! # DaB -/
namespace Cz
open L2 PyProof.Rows PySem.Spec PySem
variable {K : PySem.W.Frag}

/-! ## dict comprehensions: the mirror -/
section
variable {α β : Type} {Z : R β → Prop}
theorem nx_inv (hn : Z .no → False) {x : R α} {k : α → SS → R β} (h : Z ((noX x).bind k)) : ∃ a s, x = .ok a s ∧ Z (k a s) := by
  cases x with
  | ok a s => exact ⟨a, s, rfl, h⟩
  | ex c l s => exact (hn h).elim
  | no => exact (hn h).elim
theorem fr_inv (hn : Z .no → False) {r : Rv} {s : SS} {k : D → SS → R β} (h : Z ((frz r s).bind k)) : ∃ d s', frz r s = .ok d s' ∧ Z (k d s') := by
  cases e : frz r s with
  | ok d s' => (rw [e] at h; exact ⟨d, s', rfl, h⟩)
  | ex c l s' => exact absurd e frz_ex
  | no => (rw [e] at h; exact (hn h).elim)
theorem op_inv (hn : Z .no → False) {o : Option α} {k : α → R β} (h : Z (opt o k)) : ∃ a, o = some a ∧ Z (k a) := by
  cases o with
  | none => exact (hn h).elim
  | some a => exact ⟨a, rfl, h⟩
theorem if_inv (hn : Z .no → False) {c : Prop} [Decidable c] {x : R β} (h : Z (if c then x else .no)) : c ∧ Z x := by
  by_cases q : c
  · rw [if_pos q] at h
    exact ⟨q, h⟩
  · rw [if_neg q] at h
    exact (hn h).elim
end
def loopD (f : MG) (mt : M Bool) (mk me : M Rv) (vs : List Nat) : List D → OD → SS → R OD
  | [], o, s => .ok o s
  | d :: ds, o, s => opt (f d s) fun s1 => (noX (mt s1)).bind fun b s2 =>
    if b = true then (noX (mk s2)).bind fun r s3 => (frz r s3).bind fun y s4 => (noX (me s4)).bind fun r2 s5 => (frz r2 s5).bind fun z s6 => opt (oputD o y z) fun o' => if loose s6 vs = true then loopD f mt mk me vs ds o' (wipeS s6 vs) else .no
    else if loose s2 vs = true then loopD f mt mk me vs ds o (wipeS s2 vs) else .no
/-- o0: the dict as it begins -/
def mDc (o0 : OD) (mi : M (List D)) (f : MG) (mt : M Bool) (mk me : M Rv) (vs : List Nat) : M Rv := fun s => (mi s).bind fun ds s1 =>
  if loose s1 vs = true then (loopD f mt mk me vs ds o0 (wipeS s1 vs)).bind fun o s2 => .ok (.o o) (restS s1 s2 vs) else .no
theorem ev_dc {W : WX} {wi : TI} {g : TG} {tt : TT} {tk te : TE} {vs tv : List Nat} {mi : M (List D)} {f : MG} {mt : M Bool} {mk me : M Rv} {u0 : HO} {o0 : OD} (h0 : ∀ F, RpO K F o0 u0) (hi : EvI K W wi mi) (hg : EvG K g f tv) (ht : ∀ j ∈ tv, j ∈ vs) (htt : EvT K W0 tt mt) (hk : EvX K W0 tk mk) (he : EvX K W0 te me) :
    EvX K W (tDcA u0 wi g tt tk te vs) (mDc o0 mi f mt mk me vs) := by
  intro F H σ s Q rs w
  refine hi F H σ s _ rs ?_
  unfold mDc at w
  cases e : mi s with
  | no => rw [e] at w; exact w
  | ex c l s1 =>
    rw [e] at w
    exact fun dd F1 H1 xs g1 => w dd F1 H1 xs g1
  | ok ds s1 =>
    rw [e] at w
    obtain ⟨hls, w1⟩ := if_inv (Z := fun r => Wn K W Q F H σ s r) (fun z => z) w
    intro J F1 H1 G Y g1 wk hG hY a ha
    let fin : OD → SS → R Rv := fun o s2 => .ok (.o o) (restS s1 s2 vs)
    let Z : R OD → Prop := fun r => Wn K W Q F H σ s (r.bind fin)
    have Zn : Z .no → False := fun z => z
    have hF : F1 a = none := g1.rs.sub.free ha
    have hO : ¬ Ow σ s1 a := fun z => by
      obtain ⟨_, u, q⟩ := g1.rs.owF z
      rw [ha] at q
      cases q
    have wow : ∀ (τ : L2.St) (t : SS) (b : Addr), Ow (L2.wipe τ vs) (wipeS t vs) b → Ow τ t b := fun τ t b z => by
      obtain ⟨j, sv, o, h1, h2, h3⟩ := z
      have n : j ∉ vs := fun z => wipeS_in z h1
      rw [wipeS_out n] at h1
      rw [wipe_out n] at h3
      exact ⟨j, sv, o, h1, h2, h3⟩
    refine dc_it wk (fun i Hc => ∃ Fc sc o ho, Go K F1 H1 σ s1 Fc Hc (L2.wipe σ vs) sc ∧ Fc a = none ∧ Hc a = some ho ∧ ¬ Ow (L2.wipe σ vs) sc a ∧ RpO K Fc o ho ∧ (∀ j ∈ vs, sc[j]? = some none) ∧ Z (loopD f mt mk me vs (ds.drop i) o sc))
      ⟨F1, wipeS s1 vs, o0, u0, ((Go.refl g1.rs).wipe hls).pend _ ha hF (fun z => hO (wow σ s1 a z)), hF, upd_same, fun z => hO (wow σ s1 a z), h0 F1, fun j hj => wipeS_none hj (loose_at hls hj).1, w1⟩ ?_ ?_ ?_
    · rintro i Hc _ ⟨Fc, sc, o, ho, gc, _⟩
      exact hG Fc Hc _ sc gc.rs gc.fr
    · rintro i x Hc Hx hi' ⟨Fc, sc, o, ho, gc, c1, c2, c3, c4, c5, c6⟩ y
      obtain ⟨F3, d, al, ed, rd⟩ := hY i Hc x Hx Fc _ sc hi' y gc.rs gc.fr
      have hd : ds.drop i = d :: ds.drop (i + 1) := by
        obtain ⟨hlt, hx⟩ := List.getElem?_eq_some_iff.mp ed
        rw [List.drop_eq_getElem_cons hlt, hx]
      rw [hd] at c6
      obtain ⟨s3, ef, c7⟩ := op_inv Zn c6
      refine hg Fc Hc _ sc F3 Hx _ sc x d s3 _ ((Go.refl gc.rs).al al) rd ef fun σ2 g3 k3 l3 => ?_
      have hw : L2.wipe σ2 vs = L2.wipe σ vs := wipe_eq (by rw [l3, wipe_length]) ht k3
      obtain ⟨b, s4, et, c8⟩ := nx_inv Zn c7
      refine ⟨hw, htt F3 Hx σ2 s3 _ g3.rs ?_⟩
      rw [et]
      intro F4 H4 g4
      have back : ∀ {F8 H8 : Hp} {s8 : SS}, Go K F3 Hx σ2 s3 F8 H8 σ2 s8 → loose s8 vs = true → Go K Fc Hc (L2.wipe σ vs) sc F8 H8 (L2.wipe σ vs) (wipeS s8 vs) := fun g8 h8 => by
        have z := (g3.trans g8).wipe h8
        rw [hw] at z
        exact z
      cases b with
      | false =>
        rw [if_neg (by decide)]
        obtain ⟨h4, c9⟩ := if_inv Zn (show Z (if loose s4 vs = true then loopD f mt mk me vs (ds.drop (i + 1)) o (wipeS s4 vs) else .no) from c8)
        have gt := back g4 h4
        obtain ⟨b1, b2, b3⟩ := gt.still c1 c2 c3 (c4.notTup c2)
        exact ⟨F4, wipeS s4 vs, o, ho, gc.trans gt, b1, b2, b3, c4.mono gt.fr, fun j hj => wipeS_none hj (loose_at h4 hj).1, c9⟩
      | true =>
        rw [if_pos rfl]
        have c8 : Z ((noX (mk s4)).bind fun r s3 => (frz r s3).bind fun y s4 => (noX (me s4)).bind fun r2 s5 => (frz r2 s5).bind fun z s6 => opt (oputD o y z) fun o' => if loose s6 vs = true then loopD f mt mk me vs (ds.drop (i + 1)) o' (wipeS s6 vs) else .no) := c8
        obtain ⟨r, s5, ek, c9⟩ := nx_inv Zn c8
        obtain ⟨ky, s6, ey, d1⟩ := fr_inv Zn c9
        obtain ⟨r2, s7, ee, d2⟩ := nx_inv Zn d1
        obtain ⟨kz, s8, ez, d3⟩ := fr_inv Zn d2
        obtain ⟨o', eo, d4⟩ := op_inv Zn d3
        obtain ⟨h8, d5⟩ := if_inv Zn d4
        refine hk F4 H4 σ2 s4 _ g4.rs ?_
        rw [ek]
        intro v F5 H5 g5 r5
        obtain ⟨F6, g6, _, hv⟩ := frz_ok g5 r5 ey
        refine he F6 H5 σ2 s6 _ g6.rs ?_
        rw [ee]
        intro v2 F7 H7 g7 r7
        obtain ⟨F8, g8, _, hz⟩ := frz_ok g7 r7 ez
        have gt := back ((g4.trans g6).trans g8) h8
        obtain ⟨b1, b2, b3⟩ := gt.still c1 c2 c3 (c4.notTup c2)
        obtain ⟨hn, p1, p2⟩ := oput_ok g8.rs.sub b2 (c4.mono gt.fr) ((hv.mono g8.fr).look g8.rs.sub) hz eo
        exact ⟨_, p1, F8, wipeS s8 vs, o', hn, (gc.trans gt).pend _ ha b1 b3, b1, upd_same, b3, p2, fun j hj => wipeS_none hj (loose_at h8 hj).1, d5⟩
    · rintro Hc ⟨Fc, sc, o, ho, gc, c1, c2, c3, c4, c5, c6⟩
      rw [List.drop_length] at c6
      have len : sc.length = s1.length := by
        have q := gc.rs.len
        rw [wipe_length, g1.rs.len] at q
        exact q.symm
      exact c6 (.ref a) Fc Hc (g1.trans (Go.rest g1.rs hls gc c5)) ⟨a, ho, rfl, c1, c2, c4, g1.dm a ha, fun z => c3 (rest_own hls len z)⟩
section
variable {X : Cx} {W : WX} {pos : Pos} {k : Nat}
theorem c_dcA {u0 : HO} {o0 : OD} (h0 : ∀ F, RpO K F o0 u0) (hz : ∀ (H : Hp) (h : Heap), sysModules < h.objs.size → ObjOk X.prog X.w H (h.push { cls := .type "dict", data := .dict #[] }) h.objs.size u0) (hr : Room k X.A)
    {kx vx tg ie : Expr} {fs : List Expr} {sc : Scope} {own : List (Str × Nat)} {wi : TI} {g : TG} {tt : TT} {tk te : TE} {mi : M (List D)} {f : MG} {tv : List Nat} {mt : M Bool} {mk me : M Rv} (hc : X.calm = true) (hN : X.N.Nodup) (ok : BlkOk X.N X.env.scope sc own) (ht : ∀ j ∈ tv, j ∈ own.map (·.2)) (hi : CI X K W tg ie wi mi)
    (hg : ∀ (s : Shared) (H : Hp) (C : Addr) (cl : List (Str × Addr)) (fp : List Addr), CG (X.blk s H sc (compEnvC sc cl C X.env) fp) K tg g f tv)
    (hts : ∀ (s : Shared) (H : Hp) (C : Addr) (cl : List (Str × Addr)) (fp : List Addr), CTs (X.blk s H sc (compEnvC sc cl C X.env) fp) K W0 fs tt mt)
    (hk : ∀ (s : Shared) (H : Hp) (C : Addr) (cl : List (Str × Addr)) (fp : List Addr), CE (X.blk s H sc (compEnvC sc cl C X.env) fp) K W0 kx tk mk)
    (he : ∀ (s : Shared) (H : Hp) (C : Addr) (cl : List (Str × Addr)) (fp : List Addr), CE (X.blk s H sc (compEnvC sc cl C X.env) fp) K W0 vx te me)
    (hs : ∀ x, foldedSetIterable ie X.env x = pure x) (s0 : Shared) (H0 : Hp) :
    CE X K W (.DictComp kx vx [⟨tg, ie, fs, 0⟩] sc pos) (tDcA u0 wi g tt tk te (own.map (·.2))) (mDc o0 mi f mt mk me (own.map (·.2))) :=
  ⟨pe_dcA hz (hu64 hr |> fun h => by omega) hc hN hi.p ok (fun s H C cl fp => (hg s H C cl fp).p) (fun s H C cl fp => (hts s H C cl fp).p) (fun s H C cl fp => (hk s H C cl fp).p) (fun s H C cl fp => (he s H C cl fp).p) hs,
    ev_dc h0 hi.v (hg s0 H0 0 [] []).v ht (hts s0 H0 0 [] []).v (hk s0 H0 0 [] []).v (he s0 H0 0 [] []).v⟩
theorem rk0 (F : Hp) : RpO K F (.dk false []) (.dK []) := .dk .nil
theorem rt0 (F : Hp) : RpO K F (.dt false []) (.dT []) := .dt .nil
theorem zk0 {P : Program} {w : World} (H : Hp) (h : Heap) (q : sysModules < h.objs.size) : ObjOk P w H (h.push { cls := .type "dict", data := .dict #[] }) h.objs.size (.dK []) := dk_empty h q
theorem zt0 {P : Program} {w : World} (H : Hp) (h : Heap) (q : sysModules < h.objs.size) : ObjOk P w H (h.push { cls := .type "dict", data := .dict #[] }) h.objs.size (.dT []) := dt_empty h q
end
end Cz

/-! # DaC -/
namespace Cz
open L2 PyProof.Rows PySem.Spec PySem
variable {K : PySem.W.Frag}

/-! ## o[i], x in o by own methods -/
/-- own __getitem__ -/
def mOG (C : Addr) (f : MF) (mo mi : M Rv) : M Rv := fun s => (mo s).bind fun r s1 => (mi s1).bind fun r2 s2 => (frz r2 s2).bind fun d s3 => opt (pk (nrm r) s3) fun x => match x with
  | .obj C' _ => if C' = C then noEx (callS f [nrm r, .d d] s3) else .no
  | _ => .no
def tOG (C : Addr) (sp : Sp) (E : XK) (ta ti : TE) : TE := fun σ H Q => ta σ H fun x H1 => ti σ H1 fun y H2 => ∃ a dx fs, x = .ref a ∧ H2 a = some (.ins C dx fs) ∧ sp [x, y] H2 Q E
theorem ev_OG {W : WX} {C : Addr} {f : MF} {ta ti : TE} {mo mi : M Rv} (ho : EvX K W ta mo) (hi : EvX K W ti mi) : EvX K W (tOG C (spM K f) (fun _ _ _ => False) ta ti) (mOG C f mo mi) := by
  intro F H σ s Q rs w
  refine ho.step (Go.refl rs) w fun r s1 v F1 H1 g1 _ h1 w1 => ?_
  obtain ⟨F1', g1', sb1, h1'⟩ := nrm_ok g1 h1
  refine hi.step g1' w1 fun r2 s2 v2 F2 H2 g2 g12 h2 w2 => ?_
  obtain ⟨d, s3, ed, w3⟩ := frz_wn w2
  obtain ⟨F3, g23, sb, hd⟩ := frz_ok g12 h2 ed
  have g3 := g1'.trans g23
  obtain ⟨x, ex, w4⟩ := opt_wn w3
  have h13 := h1'.go g23
  have hp := pk_ok g3.rs h13 ex
  cases x with
  | obj C' fs =>
    simp only at w4
    split at w4
    · rename_i hc
      subst hc
      obtain ⟨a, dx, xs, rfl, e1, e2⟩ := hp
      exact ⟨a, dx, xs, rfl, e1, call_ok (W := fun _ _ _ _ => False) g3 (h13.arg (.d hd .nil)) (noEx_wn w4 _)⟩
    · exact w4.elim
  | _ => exact w4.elim
/-- own __contains__; neg: not in -/
def mOI (neg : Bool) (C : Addr) (f : MF) (mx mo : M Rv) : M Rv := fun s => (mx s).bind fun r1 s1 => (frz r1 s1).bind fun d s2 => (mo s2).bind fun r s3 => opt (pk (nrm r) s3) fun x => match x with
  | .obj C' _ => if C' = C then (noEx (callS f [nrm r, .d d] s3)).bind fun r4 s4 => opt ((pk r4 s4).bind blD) fun b => .ok (.d (.bl (if neg then !b else b))) s4 else .no
  | _ => .no
def tOI (neg : Bool) (C : Addr) (sp : Sp) (E : XK) (tx to : TE) : TE := fun σ H Q => tx σ H fun y H1 => to σ H1 fun x H2 => ∃ a dx fs, x = .ref a ∧ H2 a = some (.ins C dx fs) ∧ sp [x, y] H2 (fun v H3 => ∃ b, v = .bl b ∧ Q (.bl (if neg then !b else b)) H3) E
theorem ev_OI {W : WX} {neg : Bool} {C : Addr} {f : MF} {tx to : TE} {mx mo : M Rv} (hx : EvX K W tx mx) (ho : EvX K W to mo) : EvX K W (tOI neg C (spM K f) (fun _ _ _ => False) tx to) (mOI neg C f mx mo) := by
  intro F H σ s Q rs w
  refine hx.step (Go.refl rs) w fun r1 s1 v1 F1 H1 g1 _ h1 w1 => ?_
  obtain ⟨d, s2, ed, w2⟩ := frz_wn w1
  obtain ⟨F2, g2, _, hd⟩ := frz_ok g1 h1 ed
  refine ho.step g2 w2 fun r s3 v F3 H3 g3 g23 h3 w3 => ?_
  obtain ⟨F3', g23', sb1, h3'⟩ := nrm_ok g23 h3
  have g3' := g2.trans g23'
  obtain ⟨x, ex, w4⟩ := opt_wn w3
  have hp := pk_ok g3'.rs h3' ex
  cases x with
  | obj C' fs =>
    simp only at w4
    split at w4
    · rename_i hc
      subst hc
      obtain ⟨a, dx, xs, rfl, e1, e2⟩ := hp
      refine ⟨a, dx, xs, rfl, e1, ?_⟩
      refine call_ok (W := fun _ _ _ _ => False) (Q := fun v H3 => ∃ b, v = .bl b ∧ Q (.bl (if neg then !b else b)) H3) g3' (h3'.arg (.d (hd.mono g23'.fr) .nil)) ?_
      cases e : callS f [nrm r, .d d] s3 with
      | no => rw [e] at w4; exact w4.elim
      | ex c l s4 => rw [e] at w4; exact w4.elim
      | ok r4 s4 =>
        rw [e] at w4
        obtain ⟨b, eb, w5⟩ := opt_wn w4
        exact fun v F' H' g hr => ⟨b, blD_ok g.rs hr eb, w5 _ F' H' g (.bl _)⟩
    · exact w4.elim
  | _ => exact w4.elim
section
variable {X : Cx} {k : Nat} {f C : Addr} {fd : FuncData} {ps : List Str} {sp : Sp} {CX : CXT} {E : XK} {o i : Expr} {pos : Pos} {ta ti : TE}
theorem frm_of {pins : List (Addr × Obj)} {σ : L2.St} {H : Hp} {s : Shared} (I : Inv X pins σ H s) : ∃ m, Fr X.base X.env.locals s.heap m := by
  obtain ⟨m, hm, _⟩ := I.loc
  exact ⟨m, hm, I.bk, Nat.le_trans I.ok.bsz I.ok.above⟩
theorem run1 {pins : List (Addr × Obj)} {σ : L2.St} {H : Hp} {s : Shared} {Q : VK} {us : List Value} {vs : List V} (F : FnOk X.prog X.w X.K X.mg X.base CX k f fd ps sp) (hr : Room (k + 1) X.A) (hb : Binds X.K fd ps []) (hx : Passes CX X E)
    (I : Inv X pins σ H s) (r : Vals vs us) (h : sp vs H Q E) : wpAny (model X.prog X.w) X.A.in1 (call (.ref f) us) (EP X pins σ Q) X.xe s := by
  have n : us.length = ps.length := by
    rw [← r.length]
    exact F.len _ _ _ _ h
  have hb1 := hb s us I.kIn (by (rw [List.append_nil]; exact n))
  rw [List.append_nil] at hb1
  refine wpAny_call (codeAny_mono (F.run X.A.in1 X.stack s H ⟨us, []⟩ us vs Q E hr.in1 I.env0.in1 hb1 r h) fun z t hz => ?_)
  cases z with
  | error e => exact hx pins σ H s e t I hz
  | ok fl =>
    cases fl with
    | ret u => exact I.after hz
    | next => exact hz.elim
    | brk => exact hz.elim
    | cont => exact hz.elim
theorem pe_OG (ho : PE X o ta) (hi : PE X i ti) (hm : Meth X.K C "__getitem__" f) (hfn : PySem.W.fnIn X.K f = true) (F : FnOk X.prog X.w X.K X.mg X.base CX k f fd ps sp) (hr : Room (k + 1) X.A) (hb : Binds X.K fd ps []) (hx : Passes CX X E)
    (hs : ∀ (a : Addr) (v : Value), subscripted i true (.ref a) v = runValue (.builtin "lifetime.subscript" ⟨[.ref a, v], []⟩) := by intro _ _; with_unfolding_all rfl) : PE X (.Subscript o i pos) (tOG C sp E ta ti) := by
  refine ⟨fun pins s σ H Q I h => Subscript_ (thn (ho.run pins s σ H _ I h) fun u s1 ⟨x, H1, I1, rx, q⟩ => thn (hi.run pins s1 σ H1 _ I1 q) fun iv s2 ⟨y, H2, I2, ry, q2⟩ => ?_)⟩
  obtain ⟨a, dx, fs, ex, ea, q3⟩ := q2
  subst ex
  (obtain rfl : u = Value.ref a := rx)
  obtain ⟨m, fr⟩ := frm_of I2
  obtain ⟨mA, O, _⟩ := ins_get I2.hok ea
  obtain ⟨od, J, _⟩ := O.look
  exact PySem.W.sub_K fr I2.ok.mod.kin J hm.at_ hfn hm.fn (run1 (vs := [V.ref a, y]) F hr hb hx I2 (.cons rfl (.cons ry .nil)) q3) (hs a iv)
theorem pc_OI (hi : PE X i ti) (ho : PE X o ta) (hm : Meth X.K C "__contains__" f) (F : FnOk X.prog X.w X.K X.mg X.base CX k f fd ps sp) (hr : Room k X.A) (hb : Binds X.K fd ps []) (hx : Passes CX X E) : PC X .In i o (tOI false C sp E ti ta) := by
  refine ⟨fun pins s σ H Q I h => thn (hi.run pins s σ H _ I h) fun iv s1 ⟨y, H1, I1, ry, q⟩ => thn (ho.run pins s1 σ H1 _ I1 q) fun u s2 ⟨x, H2, I2, rx, q2⟩ => ?_⟩
  obtain ⟨a, dx, fs, ex, ea, q3⟩ := q2
  subst ex
  (obtain rfl : u = Value.ref a := rx)
  obtain ⟨m, fr⟩ := frm_of I2
  obtain ⟨mA, O, _⟩ := ins_get I2.hok ea
  obtain ⟨od, J, _⟩ := O.look
  refine PySem.W.in_K fr I2.ok.mod.kin J hm.at_ hm.fn (thn (run_fn (vs := [V.ref a, y]) (dvs := []) (ds := []) F hr hb .nil hx I2 (.cons rfl (.cons ry .nil)) q3) fun r s3 ⟨v, H3, I3, rv, b, eb, q4⟩ => ?_)
  subst eb
  cases rv
  exact wpAny_truthy_bool ⟨.bl b, H3, I3, rfl, q4⟩
theorem pc_ON (hi : PE X i ti) (ho : PE X o ta) (hm : Meth X.K C "__contains__" f) (F : FnOk X.prog X.w X.K X.mg X.base CX k f fd ps sp) (hr : Room k X.A) (hb : Binds X.K fd ps []) (hx : Passes CX X E) : PC X .NotIn i o (tOI true C sp E ti ta) := by
  refine ⟨fun pins s σ H Q I h => thn (hi.run pins s σ H _ I h) fun iv s1 ⟨y, H1, I1, ry, q⟩ => thn (ho.run pins s1 σ H1 _ I1 q) fun u s2 ⟨x, H2, I2, rx, q2⟩ => ?_⟩
  obtain ⟨a, dx, fs, ex, ea, q3⟩ := q2
  subst ex
  (obtain rfl : u = Value.ref a := rx)
  obtain ⟨m, fr⟩ := frm_of I2
  obtain ⟨mA, O, _⟩ := ins_get I2.hok ea
  obtain ⟨od, J, _⟩ := O.look
  refine PySem.W.notIn_K fr I2.ok.mod.kin J hm.at_ hm.fn (thn (run_fn (vs := [V.ref a, y]) (dvs := []) (ds := []) F hr hb .nil hx I2 (.cons rfl (.cons ry .nil)) q3) fun r s3 ⟨v, H3, I3, rv, b, eb, q4⟩ => ?_)
  subst eb
  cases rv
  exact wpAny_truthy_bool ⟨.bl (!b), H3, I3, rfl, q4⟩
end
section
variable {X : Cx} {W : WX} {kk : Nat} {f C : Addr} {fd : FuncData} {ps : List Str} {g : MF} {o i : Expr} {pos : Pos} {to ti : TE} {mo mi : M Rv}
theorem c_og (hm : Meth X.K C "__getitem__" f) (hfn : PySem.W.fnIn X.K f = true) (F : FnOk X.prog X.w X.K X.mg X.base CX0 kk f fd ps (spM K g)) (hr : Room (kk + 1) X.A) (hb : Binds X.K fd ps []) (ho : CE X K W o to mo) (hi : CE X K W i ti mi)
    (hs : ∀ (a : Addr) (v : Value), subscripted i true (.ref a) v = runValue (.builtin "lifetime.subscript" ⟨[.ref a, v], []⟩) := by intro _ _; with_unfolding_all rfl) : CE X K W (.Subscript o i pos) (tOG C (spM K g) (fun _ _ _ => False) to ti) (mOG C g mo mi) :=
  ⟨pe_OG ho.p hi.p hm hfn F hr hb (fun _ _ _ _ _ _ _ h => h.elim) hs, ev_OG ho.v hi.v⟩
theorem c_oin (hm : Meth X.K C "__contains__" f) (F : FnOk X.prog X.w X.K X.mg X.base CX0 kk f fd ps (spM K g)) (hr : Room kk X.A) (hb : Binds X.K fd ps []) (hk : behindInMarks .In o = false) (hi : CE X K W i ti mi) (ho : CE X K W o to mo) :
    CE X K W (.Compare i [.In] [o] pos) (tOI false C (spM K g) (fun _ _ _ => False) ti to) (mOI false C g mi mo) := ⟨pe_cmp (pc_OI hi.p ho.p hm F hr hb (fun _ _ _ _ _ _ _ h => h.elim)) hk, ev_OI hi.v ho.v⟩
theorem c_onot (hm : Meth X.K C "__contains__" f) (F : FnOk X.prog X.w X.K X.mg X.base CX0 kk f fd ps (spM K g)) (hr : Room kk X.A) (hb : Binds X.K fd ps []) (hk : behindInMarks .NotIn o = false) (hi : CE X K W i ti mi) (ho : CE X K W o to mo) :
    CE X K W (.Compare i [.NotIn] [o] pos) (tOI true C (spM K g) (fun _ _ _ => False) ti to) (mOI true C g mi mo) := ⟨pe_cmp (pc_ON hi.p ho.p hm F hr hb (fun _ _ _ _ _ _ _ h => h.elim)) hk, ev_OI hi.v ho.v⟩
theorem t_oin (hm : Meth X.K C "__contains__" f) (F : FnOk X.prog X.w X.K X.mg X.base CX0 kk f fd ps (spM K g)) (hr : Room kk X.A) (hb : Binds X.K fd ps []) (hk : behindInMarks .In o = false) (hi : CE X K W i ti mi) (ho : CE X K W o to mo) :
    CT X K W (.Compare i [.In] [o] pos) (tB (tOI false C (spM K g) (fun _ _ _ => False) ti to)) (mTr blD (mOI false C g mi mo)) := ⟨pt_cmp (pc_OI hi.p ho.p hm F hr hb (fun _ _ _ _ _ _ _ h => h.elim)) hk, et_B (ev_OI hi.v ho.v)⟩
theorem t_onot (hm : Meth X.K C "__contains__" f) (F : FnOk X.prog X.w X.K X.mg X.base CX0 kk f fd ps (spM K g)) (hr : Room kk X.A) (hb : Binds X.K fd ps []) (hk : behindInMarks .NotIn o = false) (hi : CE X K W i ti mi) (ho : CE X K W o to mo) :
    CT X K W (.Compare i [.NotIn] [o] pos) (tB (tOI true C (spM K g) (fun _ _ _ => False) ti to)) (mTr blD (mOI true C g mi mo)) := ⟨pt_cmp (pc_ON hi.p ho.p hm F hr hb (fun _ _ _ _ _ _ _ h => h.elim)) hk, et_B (ev_OI hi.v ho.v)⟩
end
end Cz

/-! # DaD -/
namespace Cz
open L2 PyProof.Rows PySem.Spec PySem
open PySem.W (dataLt dataLe alike EachIs)
variable {K : PySem.W.Frag}

/-! ## to sort rows of tuples, to compare tuples -/
def isTup1 : PyData → Bool
  | .tuple (_ :: _) => true
  | _ => false
def sortOk (ps : List PyData) : Bool := ps.all (fun p => isTup1 p && decide (p.depth ≤ 60) && ps.all fun q => alike p q) && decide (ps.length ≤ 100000)
def pyD (d : D) : PyData := (toPy d).getD .none
def leG (a b : D) : Bool := !dataLt (pyD b) (pyD a)
def sortG (d : D) : Option Rv := (lstD d).bind fun l => (toPys l).bind fun ps => if sortOk ps = true then some (.o (.lst (l.mergeSort leG))) else none
def rSortG (K : PySem.W.Frag) : List V → Hp → VK → Prop := fun vs H Q => ∃ (a : Addr) (bs : List (V × PyData)), vs = [.ref a] ∧ SqL K H a (bs.map (·.1)) ∧ (∀ b ∈ bs, Dp K H b.1 b.2) ∧ sortOk (bs.map (·.2)) = true ∧
  ∀ p, H p = none → Q (.ref p) (upd H p (.lst ((bs.mergeSort (dataLe false (·.2))).map (·.1))))
theorem each_v {bs : List (V × PyData)} : ∀ {its : List Value}, Vals (bs.map (·.1)) its → EachIs (fun u (b : V × PyData) => RelV b.1 u) its bs := by
  induction bs with
  | nil => intro its h; cases h; exact .nil
  | cons b bs ih => intro its h; cases h with | cons h1 h2 => exact .cons h1 (ih h2)
theorem v_each {bs : List (V × PyData)} {its : List Value} (h : EachIs (fun u (b : V × PyData) => RelV b.1 u) its bs) : Vals (bs.map (·.1)) its := by
  induction h with
  | nil => exact .nil
  | cons h1 _ ih => exact .cons h1 ih
theorem each_rd {X : Cx} {pins : List (Addr × Obj)} {σ : L2.St} {H : Hp} {s : Shared} (I : Inv X pins σ H s) {bs : List (V × PyData)} {its : List Value} (h : EachIs (fun u (b : V × PyData) => RelV b.1 u) its bs) :
    (∀ b ∈ bs, Dp X.K H b.1 b.2) → EachIs (fun u (b : V × PyData) => ∃ as, Reads s.heap u b.2 as) its bs := by
  induction h with
  | nil => exact fun _ => .nil
  | @cons u b us bs h1 _ ih => exact fun hd => .cons (Dp.reads I b.2 b.1 u (hd b List.mem_cons_self) h1) (ih fun c hc => hd c (List.mem_cons_of_mem _ hc))
theorem all_of {ps : List PyData} (h : sortOk ps = true) : (∀ p ∈ ps, isTup1 p = true ∧ p.depth ≤ 60 ∧ ∀ q ∈ ps, alike p q = true) ∧ ps.length ≤ 100000 := by
  unfold sortOk at h
  rw [Bool.and_eq_true, List.all_eq_true, decide_eq_true_eq] at h
  refine ⟨fun p hp => ?_, h.2⟩
  have z := h.1 p hp
  rw [Bool.and_eq_true, Bool.and_eq_true, decide_eq_true_eq, List.all_eq_true] at z
  exact ⟨z.1.1, z.1.2, z.2⟩
theorem cr_sortG {X : Cx} (hu : X.A.units + 65 < cLine) : CallR X (.builtin "sorted") (rSortG X.K) := by
  (intro pins s σ H vs us Q I r h)
  obtain ⟨a, bs, rfl, hs, hd, ok, q⟩ := h
  (obtain ⟨its, rv, hl, hz⟩ := I.list hs)
  rw [Vals.ref1 r]
  obtain ⟨al, le⟩ := all_of ok
  rw [List.length_map] at le
  have e := each_v rv
  refine PySem.W.sorted_data (R := fun u (b : V × PyData) => RelV b.1 u) (enc := fun b => b.2) (bs := bs) hl.isList e (each_rd I e hd) ?_ ?_ (Nat.le_trans le (by decide)) (fun b hb => ?_) fun out ho eo => ?_
  · intro d hd' d' hd''
    exact (al d hd').2.2 d' hd''
  · refine .inl fun d hd' => ?_
    have z := (al d hd').1
    cases d with
    | tuple l =>
      cases l with
      | nil => cases z
      | cons x l => exact ⟨x, l, rfl⟩
    | _ => cases z
  · have z := (al b.2 (List.mem_map_of_mem hb)).2.1
    omega
  · obtain ⟨ep, he'⟩ := PyProof.Rows.sortedAll_at s.heap its out.toArray
    have hlen : ((bs.mergeSort (dataLe false fun b => b.2)).map (·.1)).length ≤ sizeLine := by
      rw [List.length_map, List.length_mergeSort]
      exact Nat.le_trans le (by decide)
    exact ⟨.ref _, upd H (s.heap.objs.size + 1) (.lst ((bs.mergeSort (dataLe false fun b => b.2)).map (·.1))), I.laid (t' := s.toks) (fun _ _ => PyProof.Rows.sortedAll_old) (Nat.le_succ _) ⟨hlen, out, ep, v_each eo, he'⟩, rfl, q _ (I.hok.fresh (Nat.le_succ _))⟩
theorem toPys_all : ∀ {l : List D} {ps : List PyData}, toPys l = some ps → l.map pyD = ps
  | [], ps, h => by
    simp only [toPys] at h
    cases h
    rfl
  | d :: l, ps, h => by
    simp only [toPys, Option.bind_eq_some_iff, Option.map_eq_some_iff] at h
    obtain ⟨p, e1, qs, e2, rfl⟩ := h
    rw [List.map_cons, toPys_all e2]
    unfold pyD
    rw [e1]
    rfl
theorem rp_bs {F H : Hp} (s : Sub F H) : ∀ {l : List D} {xs : List V} {ps : List PyData}, RpL K F l xs → toPys l = some ps → ∃ ts : List (D × V × PyData), ts.map (·.1) = l ∧ ts.map (fun t => t.2.1) = xs ∧ ts.map (fun t => t.2.2) = ps ∧ ∀ t ∈ ts, Rp K F t.1 t.2.1 ∧ pyD t.1 = t.2.2 ∧ Dp K H t.2.1 t.2.2
  | _, _, ps, .nil, e => by
    simp only [toPys] at e
    cases e
    exact ⟨[], rfl, rfl, rfl, fun t h => by cases h⟩
  | _, _, ps, .cons (d := d) (v := v) h r, e => by
    simp only [toPys, Option.bind_eq_some_iff, Option.map_eq_some_iff] at e
    obtain ⟨p, e1, qs, e2, rfl⟩ := e
    obtain ⟨ts, t1, t2, t3, t4⟩ := rp_bs s r e2
    refine ⟨(d, v, p) :: ts, by rw [List.map_cons, t1], by rw [List.map_cons, t2], by rw [List.map_cons, t3], fun t ht => ?_⟩
    rcases List.mem_cons.mp ht with z | z
    · subst z
      exact ⟨h, by (show (toPy d).getD .none = p); rw [e1]; rfl, dp_of s h e1⟩
    · exact t4 t z
theorem rpl_map {F : Hp} : ∀ {ts : List (D × V × PyData)}, (∀ t ∈ ts, Rp K F t.1 t.2.1) → RpL K F (ts.map (·.1)) (ts.map fun t => t.2.1)
  | [], _ => .nil
  | t :: ts, h => .cons (h t List.mem_cons_self) (rpl_map fun u hu => h u (List.mem_cons_of_mem _ hu))
theorem c1_sortG : Op1 K (fun x H Q => rSortG K [x] H Q) sortG := by
  intro F H x dx Q s hx ho
  unfold sortG at ho
  cases e : lstD dx with
  | none => rw [e] at ho; exact ho.elim
  | some l =>
    rw [e, Option.bind_some] at ho
    obtain ⟨a, xs, rfl, h, r⟩ := lst_ok s hx e
    cases e2 : toPys l with
    | none => rw [e2] at ho; exact ho.elim
    | some ps =>
      rw [e2, Option.bind_some] at ho
      by_cases c : sortOk ps = true
      · rw [if_pos c] at ho
        obtain ⟨ts, t1, t2, t3, t4⟩ := rp_bs s r e2
        refine ⟨a, ts.map (·.2), rfl, ?_, fun b hb => ?_, ?_, fun p hp => ?_⟩
        · rw [List.map_map]
          have z : ts.map ((fun b : V × PyData => b.1) ∘ fun t => t.2) = xs := t2
          rw [z]
          exact h
        · obtain ⟨t, ht, rfl⟩ := List.mem_map.mp hb
          exact (t4 t ht).2.2
        · rw [List.map_map]
          have z : ts.map ((fun b : V × PyData => b.2) ∘ fun t => t.2) = ps := t3
          rw [z]
          exact c
        · have m1 : l.mergeSort leG = (ts.mergeSort fun t u => leG t.1 u.1).map (·.1) := by
            rw [← t1]
            exact (List.map_mergeSort (r := fun t u : D × V × PyData => leG t.1 u.1) (s := leG) (f := fun t => t.1) (fun a _ b _ => rfl)).symm
          have m2 : ((ts.map (·.2)).mergeSort (dataLe false fun b => b.2)).map (·.1) = (ts.mergeSort fun t u => leG t.1 u.1).map fun t => t.2.1 := by
            have z : ((ts.mergeSort fun t u => leG t.1 u.1).map (·.2)) = (ts.map (·.2)).mergeSort (dataLe false fun b => b.2) := by
              refine List.map_mergeSort (fun t ht u hu => ?_)
              rw [PySem.W.dataLe_eq]
              show (!dataLt (pyD u.1) (pyD t.1)) = cond false _ _
              rw [(t4 t ht).2.1, (t4 u hu).2.1]
              rfl
            rw [← z, List.map_map]
            rfl
          rw [m2]
          rw [m1] at ho
          exact outL s ho (rpl_map fun t ht => (t4 t ((List.mergeSort_perm _ _).mem_iff.mp ht)).1) p hp
      · rw [if_neg c] at ho
        exact ho.elim
/-- g: the order of data -/
def ordB (g : PyData → PyData → Bool) (x y : D) : Option Rv := (toPy x).bind fun p => (toPy y).bind fun q => if (isTup1 p && alike p q && decide (p.depth ≤ 60)) = true then some (.d (.bl (g p q))) else none
def rOrd (K : PySem.W.Frag) (g : PyData → PyData → Bool) : R2 := fun x y H Q => ∃ p q, Dp K H x p ∧ Dp K H y q ∧ isTup1 p = true ∧ alike p q = true ∧ p.depth ≤ 60 ∧ Q (.bl (g p q)) H
theorem o2_ord {g : PyData → PyData → Bool} : Op2 K (rOrd K g) (ordB g) := by
  intro F H x y dx dy Q s hx hy ho
  unfold ordB at ho
  cases e1 : toPy dx with
  | none => rw [e1] at ho; exact ho.elim
  | some p =>
    cases e2 : toPy dy with
    | none => rw [e1, e2] at ho; exact ho.elim
    | some q =>
      rw [e1, e2, Option.bind_some, Option.bind_some] at ho
      by_cases c : (isTup1 p && alike p q && decide (p.depth ≤ 60)) = true
      · rw [if_pos c] at ho
        rw [Bool.and_eq_true, Bool.and_eq_true, decide_eq_true_eq] at c
        exact ⟨p, q, dpp_of s hx e1, dpp_of s hy e2, c.1.1, c.1.2, c.2, outD s ho (.bl _)⟩
      · rw [if_neg c] at ho
        exact ho.elim
section
variable {X : Cx}
abbrev oLt : PyData → PyData → Bool := dataLt
abbrev oGt (p q : PyData) : Bool := dataLt q p
abbrev oLe (p q : PyData) : Bool := !dataLt q p
abbrev oGe (p q : PyData) : Bool := !dataLt p q
theorem op_ord {op : CmpOp} {g : PyData → PyData → Bool} (hc : ∀ v u, compareOp op v u = richCompare op v u) (hu : X.A.units + 64 < cLine)
    (hg : ∀ (p q : PyData) (A : Around) (s : Shared) (v u : Value) (as bs : List Addr), Reads s.heap v p as → Reads s.heap u q bs → alike p q = true → p ≠ .none → A.units + min p.depth q.depth < cLine → ∀ (prog : Program) (w : World) (E : Value → Shared → Prop) (Q : Value → Shared → Prop), Q (.bool (g p q)) s → wpAny (model prog w) A (richCompare op v u) Q E s) :
    OpR X (compareOp op) (rOrd X.K g) := by
  (intro pins s σ H x y v u Q I rx ry h)
  obtain ⟨p, q, d1, d2, tp, al, dp, hq⟩ := h
  obtain ⟨as, r1⟩ := Dp.reads I p x v d1 rx
  obtain ⟨bs, r2⟩ := Dp.reads I q y u d2 ry
  rw [hc]
  exact hg p q X.A s v u as bs r1 r2 al (fun z => by rw [z] at tp; cases tp) (by omega) X.prog X.w _ _ ⟨.bl (g p q), H, I, rfl, hq⟩
theorem op_ltO (hu : X.A.units + 64 < cLine) : OpR X (compareOp .Lt) (rOrd X.K oLt) := op_ord (fun _ _ => rfl) hu PySem.W.rcLt_alike
theorem op_leO (hu : X.A.units + 64 < cLine) : OpR X (compareOp .LtE) (rOrd X.K oLe) := op_ord (fun _ _ => rfl) hu PySem.W.rcLe_alike
theorem op_gtO (hu : X.A.units + 64 < cLine) : OpR X (compareOp .Gt) (rOrd X.K oGt) := op_ord (fun _ _ => rfl) hu PySem.W.rcGt_alike
theorem op_geO (hu : X.A.units + 64 < cLine) : OpR X (compareOp .GtE) (rOrd X.K oGe) := op_ord (fun _ _ => rfl) hu PySem.W.rcGe_alike
variable {W : WX} {k : Nat} {a b e : Expr} {pos p1 : Pos} {ta tb te : TE} {ma mb me : M Rv}
theorem c_ltO (hr : Room k X.A) (hK : X.K = K := by rfl) (ha : CE X K W a ta ma) (hb : CE X K W b tb mb) : CE X K W (.Compare a [.Lt] [b] pos) (tOp (rOrd K oLt) ta tb) (mOp (ordB oLt) ma mb) := by subst hK; exact c_cmp (op_ltO (hu64 hr)) o2_ord (nomark _) ha hb
theorem c_leO (hr : Room k X.A) (hK : X.K = K := by rfl) (ha : CE X K W a ta ma) (hb : CE X K W b tb mb) : CE X K W (.Compare a [.LtE] [b] pos) (tOp (rOrd K oLe) ta tb) (mOp (ordB oLe) ma mb) := by subst hK; exact c_cmp (op_leO (hu64 hr)) o2_ord (nomark _) ha hb
theorem c_gtO (hr : Room k X.A) (hK : X.K = K := by rfl) (ha : CE X K W a ta ma) (hb : CE X K W b tb mb) : CE X K W (.Compare a [.Gt] [b] pos) (tOp (rOrd K oGt) ta tb) (mOp (ordB oGt) ma mb) := by subst hK; exact c_cmp (op_gtO (hu64 hr)) o2_ord (nomark _) ha hb
theorem c_geO (hr : Room k X.A) (hK : X.K = K := by rfl) (ha : CE X K W a ta ma) (hb : CE X K W b tb mb) : CE X K W (.Compare a [.GtE] [b] pos) (tOp (rOrd K oGe) ta tb) (mOp (ordB oGe) ma mb) := by subst hK; exact c_cmp (op_geO (hu64 hr)) o2_ord (nomark _) ha hb
theorem t_ltO (hr : Room k X.A) (hK : X.K = K := by rfl) (ha : CE X K W a ta ma) (hb : CE X K W b tb mb) : CT X K W (.Compare a [.Lt] [b] pos) (tTest (tOp (rOrd K oLt) ta tb)) (mTr blD (mOp (ordB oLt) ma mb)) := by subst hK; exact t_cmp (op_ltO (hu64 hr)) o2_ord (nomark _) ha hb
theorem t_leO (hr : Room k X.A) (hK : X.K = K := by rfl) (ha : CE X K W a ta ma) (hb : CE X K W b tb mb) : CT X K W (.Compare a [.LtE] [b] pos) (tTest (tOp (rOrd K oLe) ta tb)) (mTr blD (mOp (ordB oLe) ma mb)) := by subst hK; exact t_cmp (op_leO (hu64 hr)) o2_ord (nomark _) ha hb
theorem t_gtO (hr : Room k X.A) (hK : X.K = K := by rfl) (ha : CE X K W a ta ma) (hb : CE X K W b tb mb) : CT X K W (.Compare a [.Gt] [b] pos) (tTest (tOp (rOrd K oGt) ta tb)) (mTr blD (mOp (ordB oGt) ma mb)) := by subst hK; exact t_cmp (op_gtO (hu64 hr)) o2_ord (nomark _) ha hb
theorem t_geO (hr : Room k X.A) (hK : X.K = K := by rfl) (ha : CE X K W a ta ma) (hb : CE X K W b tb mb) : CT X K W (.Compare a [.GtE] [b] pos) (tTest (tOp (rOrd K oGe) ta tb)) (mTr blD (mOp (ordB oGe) ma mb)) := by subst hK; exact t_cmp (op_geO (hu64 hr)) o2_ord (nomark _) ha hb
theorem c_sortG (hr : Room k X.A) (hg : Gl X "sorted") (hm : X.mg "sorted" = none) (hK : X.K = K := by rfl) (ha : CE X K W e te me) (he : starEach (e :: []) X.env = (false, eval e X.env) :: starEach [] X.env := by rfl) (hpl : (backTo pos (starEach [] X.env)).any (·.1) = false := by rfl) :
    CE X K W (.Call (.Name "sorted" p1) [e] [] pos) (tCB (rSortG K) (tCons te tNil)) (mCB1 sortG me) := by subst hK; exact c_cb1 (cr_sortG (hu65 hr)) c1_sortG hg hm boot_sorted ha (by decide) (by decide) he hpl
end
end Cz

/-! # DaE -/
namespace Cz
open L2 PyProof.Rows PySem.Spec PySem
variable {K : PySem.W.Frag}

/-! ## a tuple or a list, unpacked -/
def gAny (K : PySem.W.Frag) (n : Nat) (t : TGs) : TG := fun v σ H Q => gTup K n t v σ H Q ∨ gUnl K n t v σ H Q
def mgAny (n : Nat) (r : MGs) : MG := fun d s => (seqD d).bind fun ds => if ds.length = n then r ds s else none
theorem eg_any {n : Nat} {t : TGs} {r : MGs} {tv : List Nat} (h : EvGs K t r tv) : EvG K (gAny K n t) (mgAny n r) tv := by
  intro F0 H0 σ0 s0 F H σ s v d s' Q g hd e q
  unfold mgAny at e
  rw [Option.bind_eq_some_iff] at e
  obtain ⟨ds, e1, e2⟩ := e
  obtain ⟨a, xs, rfl, hl, hs⟩ := RpL.toP g.rs.sub hd e1
  split at e2
  · rename_i hn
    have n' : xs.length = n := by (rw [← hl.length]; exact hn)
    have z := h F0 H0 σ0 s0 F H σ s xs ds s' Q g hl e2 q
    rcases hs with hs | hs
    · exact .inr ⟨a, xs, rfl, hs, n', z⟩
    · exact .inl ⟨a, xs, rfl, hs, n', z⟩
  · cases e2
section
variable {X : Cx} {es : List Expr} {pos : Pos}
theorem g_any {kk n : Nat} {gs : TGs} {fs : MGs} {tv : List Nat} (hc : X.calm = true) (hK : X.K = K := by rfl) (h : CGs X K es gs fs tv) (hn : (assignEach es X.env).length = n := by rfl) (hst : (assignEach es X.env).findIdx? (·.1) = none := by rfl) : CG X K (.Tuple es kk pos) (gAny K n gs) (mgAny n fs) tv := by
  subst hK
  exact ⟨⟨fun ps s σ H v u Q I r hw => hw.elim (fun z => (pg_tup hc h.p hn hst).run ps s σ H v u Q I r z) fun z => (pg_unl hc h.p hn hst).run ps s σ H v u Q I r z⟩, eg_any h.v⟩
end

/-! ## a dict that is only read: lent as data, for the time of one call -/
mutual
def noD : D → Bool
  | .tup l => noDs l
  | .tuk l => noDs l
  | .lst l => noDs l
  | .rol l => noDs l
  | .dk _ => false
  | .dt _ => false
  | .obj _ _ => false
  | _ => true
def noDs : List D → Bool
  | [] => true
  | d :: ds => noD d && noDs ds
end
/-- the heap of what is frozen without the object at p -/
def outF (F : Hp) (p : Addr) : Hp := fun a => if a = p then none else F a
theorem outF_ne {F : Hp} {p a : Addr} (h : a ≠ p) : outF F p a = F a := if_neg h
def NoSq (F : Hp) (p : Addr) : Prop := ∀ xs, ¬ Rd F p (.tup xs) ∧ ¬ Rd F p (.lst xs)
section
variable {F : Hp} {p : Addr}
theorem outF_rd {a : Addr} {u : HO} (n : a ≠ p) (h : Rd F a u) : Rd (outF F p) a u := by
  unfold Rd
  rw [outF_ne n]
  exact h
theorem outF_t {a : Addr} {xs : List V} (h : NoSq F p) (r : SqT K F a xs) : SqT K (outF F p) a xs := by
  rcases r with r | r
  · refine .inl (outF_rd (fun z => ?_) r)
    rw [z] at r
    exact (h xs).1 r
  · exact .inr r
theorem outF_l {a : Addr} {xs : List V} (h : NoSq F p) (r : SqL K F a xs) : SqL K (outF F p) a xs := by
  rcases r with r | r
  · refine .inl (outF_rd (fun z => ?_) r)
    rw [z] at r
    exact (h xs).2 r
  · exact .inr r
mutual
theorem Rp.outF (h : NoSq F p) : ∀ {d : D} {v : V}, Rp K F d v → noD d = true → Rp K (outF F p) d v
  | _, _, .non, _ => .non
  | _, _, .bl b, _ => .bl b
  | _, _, .int i, _ => .int i
  | _, _, .str x, _ => .str x
  | _, _, .ref a, _ => .ref a
  | _, _, .ty t, _ => .ty t
  | _, _, .tup (a := a) (xs := xs) e r, q => by
    have n : a ≠ p := fun z => (h xs).1 (.inl (by rw [← z]; exact e))
    exact .tup (by rw [outF_ne n]; exact e) (r.outF h (by simpa only [noD] using q))
  | _, _, .tuk e r, q => .tuk (outF_t h e) (r.outF h (by simpa only [noD] using q))
  | _, _, .lst (a := a) (xs := xs) e r, q => by
    have n : a ≠ p := fun z => (h xs).2 (.inl (by rw [← z]; exact e))
    exact .lst (by rw [outF_ne n]; exact e) (r.outF h (by simpa only [noD] using q))
  | _, _, .rol e r, q => .rol (outF_l h e) (r.outF h (by simpa only [noD] using q))
  | _, _, .dk _ _, q => by simp only [noD, reduceCtorEq] at q
  | _, _, .dt _ _, q => by simp only [noD, reduceCtorEq] at q
  | _, _, .obj _ _, q => by simp only [noD, reduceCtorEq] at q
theorem RpL.outF (h : NoSq F p) : ∀ {d : List D} {v : List V}, RpL K F d v → noDs d = true → RpL K (outF F p) d v
  | _, _, .nil, _ => .nil
  | _, _, .cons a r, q => by
    rw [noDs, Bool.and_eq_true] at q
    exact .cons (a.outF h q.1) (r.outF h q.2)
end
end
def isDo : OD → Bool
  | .dk _ _ => true
  | .dt _ _ => true
  | _ => false
theorem noSq_of {F F' : Hp} {p : Addr} {o : OD} {ho : HO} (r : RpO K F o ho) (h : isDo o = true) (e : F' p = some ho) : NoSq F' p := by
  intro xs
  constructor <;> rintro (z | ⟨_, z⟩) <;> rw [e] at z <;> cases z <;> cases r <;> cases h
/-- the call of a def that gets the dict of the i-th name as data; what it gives has no dict in it -/
def mSnap (i : Nat) (f : MF) : M Rv := fun s => opt (ownAt s i) fun p => if isDo p.2 = true then match f [.fz p.2.fz] with
  | .ok r s2 => opt (svs s2) fun _ => match r with
    | .d d => if noD d = true then .ok (.d d) s else .no
    | .o (.lst l) => if noDs l = true then .ok (.o (.lst l)) s else .no
    | _ => .no
  | _ => .no else .no
theorem ev_snap {W : WX} {i : Nat} {f : MF} : EvX K W (tCall (spM K f) [] (fun _ _ _ => False) (tCons (tVar i) tNil)) (mSnap i f) := by
  intro F H σ s Q rs w
  unfold mSnap at w
  obtain ⟨⟨sv, o⟩, e0, w1⟩ := opt_wn w
  obtain ⟨_, _, p, ho, hσ, fp, hp, ro⟩ := ownAt_ok rs e0
  obtain ⟨dn, w2⟩ := if_inv (Z := fun r => Wn K W Q F H σ s r) (fun z => z) w1
  refine ⟨.ref p, hσ, ?_⟩
  show spM K f [V.ref p] H Q _
  have s1 : Sub F (upd F p ho) := fun a u q => by
    rw [upd_ne (ne_of_none q fp)]
    exact q
  have s2 : Sub (upd F p ho) H := fun a u q => by
    by_cases z : a = p
    · rw [z, upd_same] at q
      rw [z, hp]
      exact q
    · rw [upd_ne z] at q
      exact rs.sub _ _ q
  have noO : ∀ a, ¬ Ow (([V.ref p] : List V).map some) ([SV.fz o.fz].map some) a := by
    rintro a ⟨j, sv, u, h1, h2, _⟩
    cases j with
    | zero => cases h1; cases h2
    | succ j => cases h1
  refine ⟨upd F p ho, [.fz o.fz], ⟨s2, rfl, fun j d q => ?_, fun j sv u h1 h2 => ?_, fun j k si sj oi oj x h1 h2 => ?_⟩, ?_⟩
  · cases j with
    | zero =>
      cases q
      exact ⟨.ref p, rfl, (ro.mono s1).rp upd_same⟩
    | succ j => cases q
  · cases j with
    | zero => cases h1; cases h2
    | succ j => cases h1
  · cases j with
    | zero => cases h1; cases h2
    | succ j => cases h1
  have key : ∀ {F2 H2 : Hp} {t : SS}, Go K (upd F p ho) H (([V.ref p] : List V).map some) ([SV.fz o.fz].map some) F2 H2 (([V.ref p] : List V).map some) t → Go K F H σ s (outF F2 p) H2 σ s ∧ NoSq F2 p := fun {F2 H2 t} g => by
    have e2 : F2 p = some ho := g.fr _ _ upd_same
    have fs : Sub F (outF F2 p) := fun a u q => by
      have n : a ≠ p := fun z => by
        rw [z, fp] at q
        cases q
      rw [outF_ne n]
      exact g.fr _ _ (s1 _ _ q)
    refine ⟨⟨⟨fun a u q => ?_, rs.len, fun j d q => ?_, fun j sv u h1 h2 => ?_, rs.ne⟩, fs, fun a u q _ => g.kp a u q (noO a), fun a q => ?_, fun a q => .inl q, fun j u q => ⟨rfl, u, q⟩, g.dm⟩, noSq_of ro dn e2⟩
    · by_cases z : a = p
      · unfold outF at q
        rw [if_pos z] at q
        cases q
      · rw [outF_ne z] at q
        exact g.rs.sub _ _ q
    · obtain ⟨v, h1, h2⟩ := rs.fz j d q
      exact ⟨v, h1, h2.mono fs⟩
    · obtain ⟨q, hq, a1, a2, a3, a4⟩ := rs.ow j sv u h1 h2
      refine ⟨q, hq, a1, ?_, g.kp q hq a3 (noO q), a4.mono fs⟩
      by_cases z : q = p
      · unfold outF
        rw [if_pos z]
      · rw [outF_ne z]
        cases e : F2 q with
        | none => rfl
        | some x =>
          rcases g.nw q (by rw [e]; exact fun z => nomatch z) with y | y | y | y
          · rw [upd_ne z, a2] at y
            exact absurd rfl y
          · rw [a3] at y; cases y
          · exact absurd y (noO q)
          · exact absurd y (a4.notTup a3)
    · by_cases z : a = p
      · unfold outF at q
        rw [if_pos z] at q
        exact absurd rfl q
      · rw [outF_ne z] at q
        rcases g.nw a q with y | y | y | y
        · rw [upd_ne z] at y
          exact .inl y
        · exact .inr (.inl y)
        · exact absurd y (noO a)
        · exact .inr (.inr (.inr y))
  cases e : f [.fz o.fz] with
  | no => rw [e] at w2; exact w2.elim
  | ex c l t => rw [e] at w2; exact w2.elim
  | ok r t =>
    rw [e] at w2
    obtain ⟨as', e1, w3⟩ := opt_wn w2
    refine ⟨as', svs_eq e1, fun v F' H' g1 h1 _ => ?_⟩
    obtain ⟨g2, nq⟩ := key g1
    cases r with
    | b j => exact w3.elim
    | d d =>
      obtain ⟨nd, w4⟩ := if_inv (Z := fun r => Wn K W Q F H σ s r) (fun z => z) w3
      exact w4 v _ H' g2 (Rp.outF nq h1 nd)
    | o u =>
      cases u with
      | lst l =>
        obtain ⟨nd, w4⟩ := if_inv (Z := fun r => Wn K W Q F H σ s r) (fun z => z) w3
        obtain ⟨q, hq, rfl, a1, a2, a3, a4, _⟩ := h1
        refine w4 _ _ H' g2 ⟨q, hq, rfl, ?_, a2, ?_, a4, fun z => ?_⟩
        · by_cases z : q = p
          · unfold outF
            rw [if_pos z]
          · rw [outF_ne z]
            exact a1
        · cases a3 with | lst r => exact .lst (r.outF nq nd)
        · obtain ⟨_, y, z⟩ := rs.owF z
          rw [a4] at z
          cases z
      | _ => exact w3.elim
section
variable {X : Cx} {W : WX} {kk : Nat} {x y : Str} {g : Addr} {fd : FuncData} {ps : List Str} {f : MF} {pos p1 p2 : Pos}
theorem c_snap (i : Nat) (F : FnOk X.prog X.w X.K X.mg X.base CX0 kk g fd ps (spM K f)) (hr : Room kk X.A) (hg : Gl X x) (hm : X.mg x = some (.ref g)) (hk : PySem.W.keepIn X.K (.ref g) = true) (hb : Binds X.K fd ps [])
    (hN : X.N[i]? = some y := by rfl) (hv : Vis X.env.scope y := by first | exact Or.inl rfl | exact Or.inr (Or.inl rfl) | exact Or.inr (Or.inr rfl)) (hd : (y == ("__debug__" : Str)) = false := by decide)
    (hcd : (y == ("__classdict__" : Str)) = false := by decide) (hdb : (x == ("__debug__" : Str)) = false := by decide) (he : starEach [Expr.Name y p2] X.env = (false, eval (Expr.Name y p2) X.env) :: starEach [] X.env := by rfl) (hpl : (backTo pos (starEach [] X.env)).any (·.1) = false := by rfl) :
    CE X K W (.Call (.Name x p1) [.Name y p2] [] pos) (tCall (spM K f) [] (fun _ _ _ => False) (tCons (tVar i) tNil)) (mSnap i f) :=
  ⟨pe_call F hr hg hm hk hb .nil (fun _ _ _ _ _ _ _ h => h.elim) (pa_cons (pe_var hN hv hd hcd) pa_nil he) hdb he hpl, ev_snap⟩
end
end Cz

/-! # DaI -/
namespace Cz
open L2 PyProof.Rows PySem.Spec PySem
set_option maxHeartbeats 1000007 in
/-- an enumerate object over whatever begins an iterator -/
theorem meets_en1 {v : Value} {ob : Obj} {Hq : Heap → Prop} (B : Begins v ob Hq) : Meets (Builtin.«enumerate.__new__» ⟨[.type "enumerate", v], []⟩) (fun _ R s => Hq s.heap ∧
    R (.ok (.ret (.ref (s.heap.push ob).objs.size))) { s with heap := (s.heap.push ob).push { cls := .type "enumerate", data := .fields #[.none, .bool false, .ref s.heap.objs.size, rawInt 0, .none, .none] } }) :=
  .of_wp fun prog w A R s hh => by
    obtain ⟨hp, gg, dd, tk, os⟩ := s
    obtain ⟨hq, hh⟩ := hh
    have sub := sub_enumerate
    have it1 : ∀ {A' : Around} {E Q : Value → Shared → Prop}, Q (.ref hp.objs.size) ⟨hp.push ob, gg, dd, tk, os⟩ → wpAny (model prog w) A' (pyIter v) Q E ⟨hp, gg, dd, tk, os⟩ := fun q => B.iter prog w _ _ ⟨hp, gg, dd, tk, os⟩ _ hq q
    wp_walk using it1
    (refine wpAny_stack_any fun st => wpAny_pure ?_)
    split
    · rename_i cc _ _ _ _ _
      cases (cc == Value.type "enumerate")
      · wp_walk using it1
        exact ⟨_, rfl, hh⟩
      · wp_walk using it1
        exact ⟨_, rfl, hh⟩
    · wp_walk using it1
      exact ⟨_, rfl, hh⟩
theorem call_en1 {prog : Program} {w : World} {A : Around} {E : Value → Shared → Prop} {s : Shared} {v : Value} {ob : Obj} {Hq : Heap → Prop} {Q : Value → Shared → Prop} (B : Begins v ob Hq) (hq : Hq s.heap)
    (h : ∀ h', IsEnum h' (s.heap.objs.size + 1) s.heap.objs.size 0 .none → h'.get? s.heap.objs.size = some ob → (∀ b o, s.heap.get? b = some o → h'.get? b = some o) → Q (.ref (s.heap.objs.size + 1)) { s with heap := h' }) :
    wpAny (model prog w) A (call (.type "enumerate") [v]) Q E s := by
  refine callType_new F.called_enumerate (by decide) (F.typeCall_enumerate_1 _) (F.newCall_enumerate_1 _) (fun obj => F.args_object_init_2 obj _) F.entry_enumerate_new (meets_en1 B) ⟨hq, ?_⟩
  have sz : (s.heap.push ob).objs.size = s.heap.objs.size + 1 := Heap.size_push ..
  show _ ∧ _
  rw [sz]
  have en : IsEnum ((s.heap.push ob).push { cls := .type "enumerate", data := .fields #[.none, .bool false, .ref s.heap.objs.size, rawInt 0, .none, .none] }) (s.heap.objs.size + 1) s.heap.objs.size 0 .none := by
    have z := Heap.get?_push_size (s.heap.push ob) (o := { cls := .type "enumerate", data := .fields #[.none, .bool false, .ref s.heap.objs.size, rawInt 0, .none, .none] }) rfl
    rw [sz] at z
    exact z
  exact ⟨⟨_, en, rfl⟩, h _ en (Heap.get?_push_of_some _ (Heap.get?_push_size _ B.free)) fun b o x => Heap.get?_push_of_some _ (Heap.get?_push_of_some _ x)⟩
/-- the tuple at a, each item in a new pair -/
def ItE (K : PySem.W.Frag) (a : Addr) : It :=
  ⟨fun i H => ∃ xs x, SqT K H a xs ∧ xs[i]? = some x, fun i H v H' => ∃ T x, v = .ref T ∧ H T = none ∧ H' = upd H T (.tup [.int (i : Nat), x]) ∧ ∀ xs, SqT K H a xs → xs[i]? = some x, fun i H => ∃ xs : List V, SqT K H a xs ∧ xs.length = i⟩
theorem turn_E {P : Program} {w : World} {K : PySem.W.Frag} {elts : List Expr} {kk : Nat} {tp : Pos} (a e it : Addr) :
    Turn P w K (.Tuple elts kk tp) (ItE K a) [e, it] e (fun i h => (∃ old, IsEnum h e it ((i : Nat) : Int) old) ∧ h.IsTupleIter it a i ∧ e ≠ it ∧ it ≠ a ∧ e ≠ a) where
  mem := List.mem_cons_self
  obj := fun i h st b hb => by
    obtain ⟨⟨old, en⟩, ⟨o, ho, _, hd⟩, _⟩ := st
    have eb : b = e ∨ b = it := by simpa using hb
    rcases eb with q | q
    · rw [q]
      exact ⟨_, en, fun v z => nomatch z⟩
    · rw [q]
      exact ⟨o, ho, fun v z => by rw [hd] at z; cases z⟩
  keep := fun i h h' st k => by
    obtain ⟨⟨old, en⟩, hi, hn⟩ := st
    exact ⟨⟨old, k e (by simp) _ en⟩, hi.at fun o q => k it (by simp) o q, hn⟩
  item := by
    (intro X hP hw hK hc i pins s σ H E I hf st hg)
    subst hP hw hK
    obtain ⟨⟨old, en⟩, hi, n1, n2, n3⟩ := st
    obtain ⟨xs, x, hq, hx⟩ := hg
    obtain ⟨its, rv, pt, hz⟩ := I.tuple hq
    (obtain ⟨u, hu, ru⟩ := rv.get hx)
    have el : e < s.heap.objs.size := Heap.lt_size en
    have il : it < s.heap.objs.size := by
      obtain ⟨_, q, _⟩ := hi
      exact Heap.lt_size q
    have hlt : i < its.toArray.size := by
      have z := (List.getElem?_eq_some_iff.mp hu).1
      simpa using z
    have dr := Draws.tuple (prog := X.prog) (w := X.w) (A := X.A.in1) (I.ok.hd hc) it a (Ne.symm n2) its.toArray
    refine wpAny_pyNext_enum_itemD dr en ⟨hi, pt⟩ hlt n1 (by simp [n1, n3]) fun y h' tk py eo sn hT hsz hk => ?_
    have ey : y = u := by
      have q1 : its[i]? = some y := by simpa using py
      rw [hu] at q1
      cases q1
      rfl
    subst ey
    refine ⟨_, rfl, wpAny_letOwnedTupleGo_enum (s := { s with heap := h', toks := tk + 1 }) eo fun h2 en2 sb => ?_⟩
    have hT2 : h2.get? s.heap.objs.size = some { cls := .type "tuple", data := .seq #[.int i tk, y] } := (sb.2 _ (Nat.ne_of_gt el)).trans hT
    have new : ObjOk X.prog X.w (upd H s.heap.objs.size (.tup [.int (i : Nat), x])) h2 s.heap.objs.size (.tup [.int (i : Nat), x]) :=
      ⟨(by show 2 ≤ sizeLine; decide), [.int i tk, y], .cons ⟨_, rfl⟩ (.cons ru .nil), ⟨_, hT2, rfl, _, rfl⟩⟩
    have I1 : Inv X pins σ (upd H s.heap.objs.size (.tup [.int (i : Nat), x])) { s with heap := h2, toks := tk + 1 } :=
      I.turnedNew (ch := [e, it]) (fun b o' nb q => (sb.2 b (fun z => nb (by simp [z]))).trans (hk b o' (fun z => nb (by simp [z])) (fun z => nb (by simp [z])) q)) hf (Nat.le_refl _) new
    refine ⟨.ref s.heap.objs.size, _, I1, rfl, ⟨_, x, rfl, I.hok.fresh (Nat.le_refl _), rfl, fun ys hy => by rw [I.tuple_inj hy hq]; exact hx⟩, ⟨⟨y, ?_⟩, sn.1.at fun o q => (sb.2 it (Ne.symm n1)).trans q, n1, n2, n3⟩, fun b hb => ?_⟩
    · rw [show ((i + 1 : Nat) : Int) = (i : Int) + 1 by omega]
      exact en2
    · have bl : b < s.heap.objs.size := by
        have eb : b = e ∨ b = it := by simpa using hb
        rcases eb with q | q
        · rw [q]; exact el
        · rw [q]; exact il
      rw [upd_ne (Nat.ne_of_lt bl)]
      exact (hf b hb).1
  done := by
    (intro X hP hw hK hc i pins s σ H E I hf st hg)
    subst hP hw hK
    obtain ⟨⟨old, en⟩, hi, n1, n2, n3⟩ := st
    obtain ⟨xs, hq, hx⟩ := hg
    obtain ⟨its, rv, pt, hz⟩ := I.tuple hq
    (obtain ⟨f0, f1, f2, f3, f4, f5⟩ := hf it (by simp))
    have hl : its.toArray.size = i := by
      have z := rv.length
      simp
      omega
    have dr := Draws.tuple (prog := X.prog) (w := X.w) (A := X.A.in1) (I.ok.hd hc) it a (Ne.symm n2) its.toArray
    exact wpAny_pyNext_enum_endD dr en (by rw [hl]; exact ⟨hi, pt⟩) fun h' eb => ⟨rfl, I.turned (t' := s.toks) (fun b o hb q => eb b o hb q) f0 f1 f3 f4 f5⟩
  self := fun A i s Q E st q => by
    obtain ⟨⟨_, en⟩, _⟩ := st
    exact wpAny_pyIter_enum en q
theorem walk_E {K : PySem.W.Frag} {a : Addr} {xs : List V} : Walk (ItE K a) xs.length (fun H => SqT K H a xs) (YPair (fun i => some (.int (i : Nat))) (fun i => xs[i]?)) := by
  refine ⟨fun i _ hi q => ⟨xs, xs[i], q, by simp [hi]⟩, fun _ q => ⟨xs, q, rfl⟩, fun i H v H' _ q y => ?_⟩
  (obtain ⟨T, x, h1, h2, h3, h4⟩ := y)
  (exact ⟨T, .int (i : Nat), x, h1, h2, h3, rfl, h4 xs q⟩)
def iEnumT (K : PySem.W.Frag) (ta : TA) : TI := fun σ H R => ta σ H fun vs H1 => ∃ a xs, vs = [.ref a] ∧ ((SqL K H1 a xs ∧ R (Ite K a) H1) ∨ (SqT K H1 a xs ∧ R (ItE K a) H1))
theorem pi_enumT {X : Cx} {e : Expr} {ta : TA} {p pos tp : Pos} {elts : List Expr} {kk : Nat} (hg : Gl X "enumerate") (hm : X.mg "enumerate" = none) (ha : PA X [e] ta) (hs : starEach [e] X.env = [(false, eval e X.env)] := by rfl) :
    PI X (.Tuple elts kk tp) (.Call (.Name "enumerate" p) [e] [] pos) (iEnumT X.K ta) := by
  refine ⟨fun pins s σ H R I h => Call_ (ld_blt I hg hm boot_enumerate (PyProof.Rows.callWith_type1 (thn (ha.run pos pins s σ H _ I h) fun us s1 ⟨vs, H1, I1, r1, q1⟩ => ?_) hs rfl))⟩
  obtain ⟨a, xs, ex, q1⟩ := q1
  subst ex
  cases r1 with
  | cons r rr =>
    cases rr
    cases r
    have fin : ∀ {h' : Heap}, (∀ b o, s1.heap.get? b = some o → h'.get? b = some o) → ∀ b ∈ [s1.heap.objs.size + 1, s1.heap.objs.size], FpOk X pins H1 b := fun _ b hb => by
      have eb : b = s1.heap.objs.size + 1 ∨ b = s1.heap.objs.size := by simpa using hb
      have lb : s1.heap.objs.size ≤ b := by
        rcases eb with q | q
        · rw [q]
          exact Nat.le_add_right _ _
        · rw [q]
          exact Nat.le_refl _
      (exact I1.fpOk lb (I1.hok.fresh lb))
    rcases q1 with ⟨hq, q⟩ | ⟨hq, q⟩
    · obtain ⟨its, rv, pl, hz⟩ := I1.list hq
      refine call_enumerate_list pl.isList fun h' he hit _ hk => wpAny_pyIter_enum he ?_
      (have I2 : Inv X pins σ H1 { s1 with heap := h' } := I1.kept (t' := s1.toks) hk)
      exact ⟨s1.heap.objs.size + 1, [s1.heap.objs.size + 1, s1.heap.objs.size], _, _, H1, rfl, I2, turn_enum a (s1.heap.objs.size + 1) s1.heap.objs.size, ⟨⟨.none, he⟩, hit, Nat.succ_ne_self _⟩, fin hk, q⟩
    · obtain ⟨its, rv, pt, hz⟩ := I1.tuple hq
      have al : a < s1.heap.objs.size := by
        obtain ⟨o, ho, _⟩ := pt
        exact Heap.lt_size ho
      refine call_en1 (begins_tuple a its.toArray) pt fun h' he hit hk => wpAny_pyIter_enum he ?_
      (have I2 : Inv X pins σ H1 { s1 with heap := h' } := I1.kept (t' := s1.toks) hk)
      exact ⟨s1.heap.objs.size + 1, [s1.heap.objs.size + 1, s1.heap.objs.size], _, _, H1, rfl, I2, turn_E a (s1.heap.objs.size + 1) s1.heap.objs.size, ⟨⟨.none, he⟩, ⟨_, hit, rfl, rfl⟩, Nat.succ_ne_self _, Nat.ne_of_gt al, Nat.ne_of_gt (Nat.lt_succ_of_lt al)⟩, fin hk, q⟩
/-- enumerate of a list or a tuple -/
def enumA : List D → Option (List D)
  | [d] => (seqD d).map fun l => pairsD (nums l.length) l
  | _ => none
variable {K : PySem.W.Frag}
theorem ei_enumA {W : WX} {ta : TA} {ma : M (List Rv)} (h : EvA K W ta ma) : EvI K W (iEnumT K ta) (mRng enumA ma) := by
  intro F H σ s Q rs w
  refine h.stepI rs w fun rvs s1 vs F1 H1 g1 h1 w1 => ?_
  obtain ⟨l, el, w2⟩ := opt_wnI w1
  rw [Option.bind_eq_some_iff] at el
  obtain ⟨ds, e1, e2⟩ := el
  have hl := allD_ok h1 e1
  unfold enumA at e2
  split at e2
  · rename_i d
    rw [Option.map_eq_some_iff] at e2
    obtain ⟨l', e3, rfl⟩ := e2
    cases hl with
    | cons hd r =>
      cases r
      obtain ⟨a, xs, rfl, hr, hs⟩ := RpL.toP (fun _ _ q => q) hd e3
      have items : ∀ i Hc x Hx F2 σ2 s2, i < (pairsD (nums l'.length) l').length → YPair (fun i => some (.int (i : Nat))) (fun i => xs[i]?) i Hc x Hx → RS K F2 Hc σ2 s2 → Sub F1 F2 → ∃ F3 d, Al F2 Hc F3 Hx ∧ (pairsD (nums l'.length) l')[i]? = some d ∧ Rp K F3 d x := by
        intro i Hc x Hx F2 σ2 s2 hi y
        obtain ⟨T, u, v, h1, h2, h3, h4, h5⟩ := y
        have hi' : i < l'.length := by
          rw [enum_len] at hi
          exact hi
        refine pair_items (f := fun i => if i < l'.length then some (V.int (i : Nat)) else none) (g := fun i => xs[i]?) (n := l'.length) (enum_len l') (fun k z hz => ?_) (fun k z hz => ?_) i Hc x Hx F2 σ2 s2 hi ⟨T, u, v, h1, h2, h3, ?_, h5⟩
        · by_cases hk : k < l'.length
          · rw [if_pos hk] at hz
            cases hz
            exact ⟨_, nums_at hk, fun _ _ => .int _⟩
          · rw [if_neg hk] at hz
            cases hz
        · obtain ⟨d, a1, a2⟩ := hr.get' hz
          exact ⟨d, a1, fun F2 sb => a2.mono sb⟩
        · show (if i < l'.length then some (V.int (i : Nat)) else none) = some u
          rw [if_pos hi']
          exact h4
      have n1 : (pairsD (nums l'.length) l').length = xs.length := by rw [enum_len, hr.length]
      refine ⟨a, xs, rfl, ?_⟩
      rcases hs with hs | hs
      · exact .inl ⟨g1.rs.sub.l hs, w2 _ F1 H1 (fun H => SqL K H a xs) _ g1 (by rw [n1]; exact walk_enum) (fun F3 H3 σ3 s3 r3 sb => r3.sub.l (sb.l hs)) items⟩
      · exact .inr ⟨g1.rs.sub.t hs, w2 _ F1 H1 (fun H => SqT K H a xs) _ g1 (by rw [n1]; exact walk_E) (fun F3 H3 σ3 s3 r3 sb => r3.sub.t (sb.t hs)) items⟩
  · cases e2
theorem i_enumA {X : Cx} {W : WX} {e : Expr} {t : TA} {m : M (List Rv)} {p1 p2 pos : Pos} {elts : List Expr} {kk : Nat} (hg : Gl X "enumerate") (hm : X.mg "enumerate" = none) (hK : X.K = K := by rfl) (ha : CA X K W [e] t m) (hs : starEach [e] X.env = [(false, eval e X.env)] := by rfl) :
    CI X K W (.Tuple elts kk p2) (.Call (.Name "enumerate" p1) [e] [] pos) (iEnumT K t) (mRng enumA m) := by subst hK; exact ⟨pi_enumT hg hm ha.p hs, ei_enumA ha.v⟩
end Cz

/-! # DaJ -/
namespace Cz
open L2 PyProof.Rows PySem.Spec PySem
variable {K : PySem.W.Frag}
/-! ## t.index(x), texts -/
def findT (z : Str) : List Str → Option Nat
  | [] => none
  | y :: ys => if y = z then some 0 else (findT z ys).map (· + 1)
theorem findT_ok {z : Str} : ∀ {ys : List Str} {j : Nat}, findT z ys = some j → ys[j]? = some z ∧ ∀ m, m < j → ys[m]? ≠ some z
  | [], j, e => by cases e
  | y :: ys, j, e => by
    unfold findT at e
    split at e
    · rename_i h
      cases e
      exact ⟨by rw [h]; rfl, fun m hm => absurd hm (Nat.not_lt_zero _)⟩
    · rename_i h
      rw [Option.map_eq_some_iff] at e
      obtain ⟨i, e1, rfl⟩ := e
      obtain ⟨a1, a2⟩ := findT_ok e1
      refine ⟨a1, fun m hm q => ?_⟩
      cases m with
      | zero => exact h (Option.some.inj q)
      | succ m => exact a2 m (Nat.lt_of_succ_lt_succ hm) q
def indexS (ys : List Str) (y : D) : Option Rv := match y with
  | .str z => (findT z ys).map fun j => .d (.int (j : Nat))
  | _ => none
def rIndexT (K : PySem.W.Frag) : V → List V → Hp → VK → Prop := fun x xs H Q => ∃ p, ∃ ys : List Str, ∃ z j, x = .ref p ∧ xs = [.str z] ∧ SqT K H p (ys.map V.str) ∧ ys[j]? = some z ∧ (∀ m, m < j → ys[m]? ≠ some z) ∧ Q (.int (j : Nat)) H
theorem strs_of {ys : List Str} : strsD (ys.map D.str) = some ys := by
  induction ys with
  | nil => rfl
  | cons y ys ih =>
    show (strsD (ys.map D.str)).map (y :: ·) = _
    rw [ih]
    rfl
theorem rpl_strs {F : Hp} : ∀ {ys : List Str} {xs : List V}, RpL K F (ys.map D.str) xs → xs = ys.map V.str
  | [], _, .nil => rfl
  | y :: ys, _, .cons h r => by
    cases h
    rw [rpl_strs r]
    rfl
theorem ev_indexG {W : WX} {a : Addr} {ys : List Str} {te : TE} {me : M Rv} (hl : ∃ o, K.lookup a = some o ∧ o.cls = .type "tuple" ∧ o.dict = none) (hd : ∀ F, Rp K F (.tuk (ys.map D.str)) (.ref a)) (he : EvX K W te me) :
    EvX K W (tBM K "tuple" (rIndexT K) (tC (.ref a)) (tCons te tNil)) (mUn (indexS ys) me) := by
  intro F H σ s Q rs w
  refine ⟨.inr (.inl ⟨rfl, hl⟩), he.step (Go.refl rs) w fun r1 s1 v1 F1 H1 g1 _ h1 w1 => ?_⟩
  obtain ⟨y, ey, w2⟩ := opt_wn w1
  have ho := out_ok g1 w2
  have hy := pk_ok g1.rs h1 ey
  obtain ⟨_, xs, e0, hs, hx⟩ := (hd F1).sqt rfl
  cases e0
  rw [rpl_strs hx] at hs
  cases y with
  | str z =>
    cases hy
    have ho : OutOk K F1 H1 Q ((findT z ys).map fun j => .d (.int (j : Nat))) := ho
    cases ej : findT z ys with
    | none => rw [ej] at ho; exact ho.elim
    | some j =>
      rw [ej] at ho
      obtain ⟨q1, q2⟩ := findT_ok ej
      exact ⟨a, ys, z, j, rfl, rfl, g1.rs.sub.t hs, q1, q2, outD g1.rs.sub ho (.int _)⟩
  | _ => exact ho.elim
section
variable {X : Cx} {W : WX} {e : Expr} {te : TE} {me : M Rv} {pos p1 : Pos} {x : Str} {a : Addr}
theorem c_indexG {apos : Pos} (ys : List Str) (hg : Gl X x) (hm : X.mg x = some (.ref a)) (hl : ∃ o, K.lookup a = some o ∧ o.cls = .type "tuple" ∧ o.dict = none) (hd : ∀ F, Rp K F (.tuk (ys.map D.str)) (.ref a)) (hK : X.K = K) (he : CE X K W e te me)
    (hdb : (x == ("__debug__" : Str)) = false := by decide) (hbase : attributeBase (.Name x p1) "index" X.env (eval (.Name x p1) X.env) = eval (.Name x p1) X.env := by rfl)
    (hfew : ((backTo pos (starEach [e] X.env)).all (fun x => !x.1) && (backToKw pos (keywordEach [] X.env)).all (fun x => x.1.isSome) && decide (([e] : List Expr).length + ([] : List Keyword).length + (if ([] : List Keyword).isEmpty then 0 else 1) < 30)) = true := by rfl)
    (hline : (apos.endLine == pos.line) = true := by rfl) (hs : starEach [e] X.env = (false, eval e X.env) :: starEach [] X.env := by rfl) (hplain : (backTo pos (starEach [] X.env)).any (·.1) = false := by rfl) :
    CE X K W (.Call (.Attribute (.Name x p1) "index" apos) [e] [] pos) (tBM K "tuple" (rIndexT K) (tC (.ref a)) (tCons te tNil)) (mUn (indexS ys) me) := by
  subst hK
  exact ⟨pe_bm PySem.F.plainAttrs_tuple PySem.F.slot_tuple_index PySem.F.type_tuple_index mt_tup_index (pe_glob hg hm rfl hdb) (pa_cons he.p pa_nil hs) hbase hfew hline hs hplain, ev_indexG hl hd he.v⟩
end
end Cz

/-! # DaF -/
namespace Cz
open L2 PyProof.Rows PySem.Spec PySem
section
variable {P : Program} {w : World} {K : PySem.W.Frag} {base : Heap} {mg : Str → Option Value}
/-- a def with defaults that lets nothing out -/
theorem fn_okND {x qual : Str} {st : Stmt} {f : Addr} {fd : FuncData} {N ps : List Str} {k : Nat} {mb : MS} {dvs : List V} {kws : List (Str × V)} (F : FunD K x qual (defArgs st) (defBody st) (defScope st) dvs kws f fd) (S : FnScope N ps (defScope st))
    (hb : ∀ (cdv : Value) (A : Around) (outer : List Env) (s : Shared) (H : Hp) (E : XK), Room k (A.deeper (envOfC qual (defScope st) s.heap.objs.size f cdv)) →
      ∃ t, PSs (cxOf CX0 P w K mg base N qual (defScope st) f cdv A outer s H E).nox (defBody st) t ∧ EvS K (fun _ _ _ _ => False) t mb) :
    FnOk P w K mg base CX0 (k + 1) f fd ps (spM K (runN ps.length N.length mb)) := by
  refine F.ok S (fun vs H Q E h => ?_) (fun cdv A outer s H vs Q E hr h => ?_)
  · obtain ⟨_, as, rs, w1⟩ := h
    exact runF_len rs (noEx_wf w1 fun _ _ _ => False)
  · obtain ⟨t, h1, h2⟩ := hb cdv A outer s H E hr
    obtain ⟨_, as, rs, w1⟩ := h
    refine ⟨t, h1.nox, ?_⟩
    exact body_ok h2 rs (noEx_wf w1 fun _ _ _ => False) fun _ _ _ _ z => z
end
end Cz
namespace Cz
open L2 PyProof.Rows PySem.Spec PySem
section
variable {P : Program} {w : World} {K : PySem.W.Frag} {base : Heap} {mg : Str → Option Value}
theorem fn_okN2 {np n : Nat} {x qual : Str} {st : Stmt} {f : Addr} {fd : FuncData} {N ps : List Str} {k : Nat} {mb : MS} (hp : ps.length = np) (hn : N.length = n) (F : Fun K x qual st f fd) (S : FnScope N ps (defScope st))
    (hb : ∀ (cdv : Value) (A : Around) (outer : List Env) (s : Shared) (H : Hp) (E : XK), Room k (A.deeper (envOfC qual (defScope st) s.heap.objs.size f cdv)) →
      ∃ t, PSs (cxOf CX0 P w K mg base N qual (defScope st) f cdv A outer s H E).nox (defBody st) t ∧ EvS K (fun _ _ _ _ => False) t mb) :
    FnOk P w K mg base CX0 (k + 1) f fd ps (spM K (runN np n mb)) := by
  subst hp hn
  exact fn_okN F S hb
theorem fn_okND2 {np n : Nat} {x qual : Str} {st : Stmt} {f : Addr} {fd : FuncData} {N ps : List Str} {k : Nat} {mb : MS} {dvs : List V} {kws : List (Str × V)} (hp : ps.length = np) (hn : N.length = n) (F : FunD K x qual (defArgs st) (defBody st) (defScope st) dvs kws f fd) (S : FnScope N ps (defScope st))
    (hb : ∀ (cdv : Value) (A : Around) (outer : List Env) (s : Shared) (H : Hp) (E : XK), Room k (A.deeper (envOfC qual (defScope st) s.heap.objs.size f cdv)) →
      ∃ t, PSs (cxOf CX0 P w K mg base N qual (defScope st) f cdv A outer s H E).nox (defBody st) t ∧ EvS K (fun _ _ _ _ => False) t mb) :
    FnOk P w K mg base CX0 (k + 1) f fd ps (spM K (runN np n mb)) := by
  subst hp hn
  exact fn_okND F S hb
end
end Cz

/-! # CzS -/
namespace Cz
open L2 PyProof.Rows PySem.Spec PySem
variable {X : Cx} {K : PySem.W.Frag}

/-! ## names of built-in types as values; answers of isinstance -/
theorem p_int {pos : Pos} (hg : Gl X "int") (hm : X.mg "int" = none) : PE X (.Name "int" pos) (tC (.ty "int")) := pe_bltn hg hm boot_int rfl
theorem p_bool {pos : Pos} (hg : Gl X "bool") (hm : X.mg "bool" = none) : PE X (.Name "bool" pos) (tC (.ty "bool")) := pe_bltn hg hm boot_bool rfl
theorem p_str {pos : Pos} (hg : Gl X "str") (hm : X.mg "str" = none) : PE X (.Name "str" pos) (tC (.ty "str")) := pe_bltn hg hm boot_str rfl
theorem p_list {pos : Pos} (hg : Gl X "list") (hm : X.mg "list" = none) : PE X (.Name "list" pos) (tC (.ty "list")) := pe_bltn hg hm boot_list rfl
theorem p_tuple {pos : Pos} (hg : Gl X "tuple") (hm : X.mg "tuple" = none) : PE X (.Name "tuple" pos) (tC (.ty "tuple")) := pe_bltn hg hm boot_tuple rfl
theorem kit1 {a b : String} {r : Bool} (h : kitB a b = some r) : PySem.W.kitAny K (.type a) [.type b] = some r := by
  cases r with
  | true => exact kitAny_cons (kit_ty h) (fun e => nomatch e) (fun _ => rfl)
  | false => exact kitAny_cons (kit_ty h) (fun _ => kitAny_nil) (fun e => nomatch e)
theorem kit2 {a b c : String} {r q : Bool} (h : kitB a b = some r) (h2 : kitB a c = some q) : PySem.W.kitAny K (.type a) [.type b, .type c] = some (r || q) := by
  cases r with
  | true => exact kitAny_cons (kit_ty h) (fun e => nomatch e) (fun _ => rfl)
  | false => exact kitAny_cons (kit_ty h) (fun _ => kit1 h2) (fun e => nomatch e)
def flatTab (f : String → Bool) : IsTab := ⟨["NoneType", "bool", "int", "str", "tuple", "list"].map fun t => (t, f t), []⟩
theorem flat_ok {f : String → Bool} {us : List Value} (h : ∀ t ∈ ["NoneType", "bool", "int", "str", "tuple", "list"], PySem.W.kitAny K (.type t) us = some (f t)) : (flatTab f).ok K us := by
  refine ⟨fun p hp => ?_, fun p hp => by cases hp⟩
  obtain ⟨t, ht, rfl⟩ := List.mem_map.mp hp
  exact h t ht
theorem six {Q : String → Prop} (a : Q "NoneType") (b : Q "bool") (c : Q "int") (d : Q "str") (e : Q "tuple") (f : Q "list") : ∀ t ∈ ["NoneType", "bool", "int", "str", "tuple", "list"], Q t := by
  intro t ht
  simp only [List.mem_cons, List.not_mem_nil, or_false] at ht
  rcases ht with rfl | rfl | rfl | rfl | rfl | rfl <;> assumption
abbrev tab_int : IsTab := flatTab fun t => t == "int" || t == "bool"
abbrev tab_bool : IsTab := flatTab fun t => t == "bool"
abbrev tab_str : IsTab := flatTab fun t => t == "str"
abbrev tab_tuple : IsTab := flatTab fun t => t == "tuple"
abbrev tab_list : IsTab := flatTab fun t => t == "list"
abbrev tab_lt : IsTab := flatTab fun t => t == "list" || t == "tuple"
theorem tab_int_ok : tab_int.ok K [.type "int"] := flat_ok (six (kit1 (by decide +kernel)) (kit1 (by decide +kernel)) (kit1 (by decide +kernel)) (kit1 (by decide +kernel)) (kit1 (by decide +kernel)) (kit1 (by decide +kernel)))
theorem tab_bool_ok : tab_bool.ok K [.type "bool"] := flat_ok (six (kit1 (by decide +kernel)) (kit1 (by decide +kernel)) (kit1 (by decide +kernel)) (kit1 (by decide +kernel)) (kit1 (by decide +kernel)) (kit1 (by decide +kernel)))
theorem tab_str_ok : tab_str.ok K [.type "str"] := flat_ok (six (kit1 (by decide +kernel)) (kit1 (by decide +kernel)) (kit1 (by decide +kernel)) (kit1 (by decide +kernel)) (kit1 (by decide +kernel)) (kit1 (by decide +kernel)))
theorem tab_tuple_ok : tab_tuple.ok K [.type "tuple"] := flat_ok (six (kit1 (by decide +kernel)) (kit1 (by decide +kernel)) (kit1 (by decide +kernel)) (kit1 (by decide +kernel)) (kit1 (by decide +kernel)) (kit1 (by decide +kernel)))
theorem tab_list_ok : tab_list.ok K [.type "list"] := flat_ok (six (kit1 (by decide +kernel)) (kit1 (by decide +kernel)) (kit1 (by decide +kernel)) (kit1 (by decide +kernel)) (kit1 (by decide +kernel)) (kit1 (by decide +kernel)))
theorem tab_lt_ok : tab_lt.ok K [.type "list", .type "tuple"] := flat_ok (six (kit2 (r := false) (q := false) (by decide +kernel) (by decide +kernel)) (kit2 (r := false) (q := false) (by decide +kernel) (by decide +kernel)) (kit2 (r := false) (q := false) (by decide +kernel) (by decide +kernel)) (kit2 (r := false) (q := false) (by decide +kernel) (by decide +kernel)) (kit2 (r := false) (q := true) (by decide +kernel) (by decide +kernel)) (kit2 (r := true) (q := false) (by decide +kernel) (by decide +kernel)))
theorem cls_lt : Paired ClsV [.ty "list", .ty "tuple"] [.type "list", .type "tuple"] := .cons (.ty _) (.cons (.ty _) .nil)
end Cz

/-! # Mk27 -/
namespace Cz
open L2 PyProof.Rows PySem.Spec PySem
/-! what the top has written -/
structure Ad where
  Book : Addr
  Picture : Addr
/-! ### _law_bag_of -/
def m_l_bag_of (A : Ad) : MS := (mSeq (mAsg 2 (mOp addD (mOp mulD (mC (.int 1009)) (mVar 1)) (mC (.int 77))))
  (mSeq (mFor (mRng enumA (mACons (mVar 0) mANil)) (mgTup 2 (mgCons (mgName 3) (mgCons (mgName 4) mgNil)))
  (mAsg 2 (mOp modD (mCB1 int1D (mOp addD (mOp addD (mOp addD (mOp mulD (mVar 2) (mC (.int 31))) (mOp mulD (mCB1 absD (mVar 4)) (mC (.int 2)))) (mIf (mTr blD (mOp ltD (mVar 4) (mC (.int 0)))) (mC (.int 1)) (mC (.int 0)))) (mVar 3))) (mC (.int 2147483647)))))
  (mSeq (mAsg 4 (mIf (mTr blD (mOp ltD (mVar 1) (mCB1 lenD (mVar 0)))) (mOp ixD (mVar 0) (mVar 1)) (mVar 2)))
  (mSeq (mAsg 5 (mOp modD (mCB1 int1D (mOp addD (mOp addD (mOp addD (mOp mulD (mCB1 absD (mVar 4)) (mC (.int 2))) (mIf (mTr blD (mOp ltD (mVar 4) (mC (.int 0)))) (mC (.int 1)) (mC (.int 0)))) (mOp mulD (mC (.int 40503)) (mVar 1))) (mC (.int 77)))) (mC (.int 2147483647))))
  (mSeq (mFor (mRng rng1D (mACons (mC (.int 2)) mANil)) (mgName 3)
  (mAsg 5 (mOp modD (mCB1 int1D (mOp addD (mOp addD (mOp mulD (mVar 5) (mC (.int 16807))) (mC (.int 12345))) (mVar 3))) (mC (.int 2147483647)))))
  (mSeq (mAsg 6 (mIf (mTr blD (mOp geD (mCB1 absD (mVar 4)) (mOp powD (mC (.int 10)) (mC (.int 18))))) (mOp subD (mCB1 absD (mVar 4)) (mOp powD (mC (.int 10)) (mC (.int 18)))) (mC (.int 0))))
  (mRet (mLst (mACons (mVar 6) (mACons (mVar 5) (mACons (mC (.int 0)) mANil)))))))))))
abbrev f_l_bag_of (A : Ad) : MF := runN 2 7 (m_l_bag_of A)
/-! ### _law_pick -/
def m_l_pick (A : Ad) : MS := (mSeq (mIfS (mTr blD (mOp ltD (mVar 1) (mC (.int 2)))) (mRet (mC (.int 0))) mNext)
  (mSeq (mIfS (mTr blD (mOp gtD (mOp ixD (mVar 0) (mC (.int 0))) (mC (.int 0)))) (mSeq (mAsg 2 (mOp modD (mCB1 int1D (mOp ixD (mVar 0) (mC (.int 0)))) (mVar 1)))
  (mSeq (mSetL 0 (mOp fdivD (mOp ixD (mVar 0) (mC (.int 0))) (mVar 1)) (mC (.int 0)))
  (mRet (mVar 2)))) mNext)
  (mSeq (mSetL 0 (mOp addD (mOp ixD (mVar 0) (mC (.int 2))) (mC (.int 1))) (mC (.int 2)))
  (mSeq (mSetL 0 (mOp modD (mCB1 int1D (mOp addD (mOp addD (mOp mulD (mOp ixD (mVar 0) (mC (.int 1))) (mC (.int 48271))) (mOp mulD (mOp ixD (mVar 0) (mC (.int 2))) (mC (.int 7368787)))) (mC (.int 11)))) (mC (.int 2147483647))) (mC (.int 1)))
  (mSeq (mAsg 3 (mOp modD (mCB1 int1D (mOp addD (mOp mulD (mOp ixD (mVar 0) (mC (.int 1))) (mC (.int 69621))) (mOp fdivD (mOp ixD (mVar 0) (mC (.int 1))) (mC (.int 127773))))) (mC (.int 2147483629))))
  (mRet (mOp modD (mCB1 int1D (mOp fdivD (mVar 3) (mC (.int 7)))) (mVar 1))))))))
abbrev f_l_pick (A : Ad) : MF := runN 2 4 (m_l_pick A)
/-! ### _law_one_of -/
def m_l_one_of (A : Ad) : MS := (mRet (mOp ixD (mVar 1) (mCall (f_l_pick A) [] (mARef 0 (mACons (mCB1 lenD (mVar 1)) mANil)))))
abbrev f_l_one_of (A : Ad) : MF := runN 2 2 (m_l_one_of A)
/-! ### _law_word_of -/
def m_l_word_of (A : Ad) : MS := (mSeq (mAsg 2 (mC (.str "abcdefghijklmnopqrstuvxyz")))
  (mSeq (mAsg 3 (mOp addD (mC (.int 1)) (mCall (f_l_pick A) [] (mARef 0 (mACons (mC (.int 6)) mANil)))))
  (mSeq (mAsg 4 (mUn (joinD "") (mLc (mRng rng1D (mACons (mVar 3) mANil)) (mgName 5) mYes (mOp ixD (mVar 2) (mCall (f_l_pick A) [] (mARef 0 (mACons (mC (.int 25)) mANil)))) [5])))
  (mSeq (mFor (mRng rng1D (mACons (mOp addD (mCB1 lenD (mVar 1)) (mC (.int 1))) mANil)) (mgName 5)
  (mSeq (mIfS (mTr blD (mOp notInD (mVar 4) (mVar 1))) (mRet (mVar 4)) mNext)
  (mAsg 4 (mOp addD (mOp ixD (mVar 2) (mOp modD (mCB1 int1D (mOp fdivD (mVar 5) (mC (.int 25)))) (mC (.int 25)))) (mOp ixD (mVar 2) (mOp modD (mCB1 int1D (mVar 5)) (mC (.int 25))))))))
  (mRet (mVar 4))))))
abbrev f_l_word_of (A : Ad) : MF := runN 2 6 (m_l_word_of A)
/-! ### _law_words -/
def m_l_words (A : Ad) : MS := (mSeq (mAsg 3 (mLst mANil))
  (mSeq (mFor (mRng rng1D (mACons (mVar 1) mANil)) (mgName 4)
  (mDrop (mLm 3 appendF (mACons (mCall (f_l_word_of A) [] (mARef 0 (mACons (mOp addD (mCB1 listD (mVar 2)) (mVar 3)) mANil))) mANil))))
  (mRet (mVar 3))))
abbrev f_l_words (A : Ad) : MF := runN 3 5 (m_l_words A)
/-! ### _law_ink -/
def m_l_ink (A : Ad) : MS := (mSeq (mAsg 4 (mLst mANil))
  (mSeq (mFor (mItems (mCB1 sortD (mVar 3))) (mgName 5)
  (mIfS (mAnd (mTr blD (mOp neD (mVar 5) (mVar 2))) (mTr blD (mOp eqD (mCall (f_l_pick A) [] (mARef 0 (mACons (mC (.int 2)) mANil))) (mC (.int 0))))) (mSeq (mAsg 6 (mCall (f_l_one_of A) [] (mARef 0 (mARef 3 mANil))))
  (mSeq (mIfS (mTr blD (mOp eqD (mCall (f_l_pick A) [] (mARef 0 (mACons (mC (.int 16)) mANil))) (mC (.int 0)))) (mAsg 6 (mC (.str "white"))) mNext)
  (mDrop (mLm 4 appendF (mACons (mTup (mACons (mVar 5) (mACons (mVar 6) mANil))) mANil))))) mNext))
  (mRet (mTup (mACons (mVar 1) (mACons (mVar 2) (mACons (mCB1 tupD (mVar 4)) mANil)))))))
abbrev f_l_ink (A : Ad) : MF := runN 4 7 (m_l_ink A)
/-! ### _law_world_of -/
def m_l_world_of (A : Ad) : MS := (mSeq (mAsg 1 (mCall (f_l_one_of A) [] (mARef 0 (mACons (mLst (mACons (mC (.int 2)) (mACons (mC (.int 2)) (mACons (mC (.int 3)) (mACons (mC (.int 3)) (mACons (mC (.int 4)) mANil)))))) mANil))))
  (mSeq (mAsg 2 (mCall (f_l_words A) [] (mARef 0 (mACons (mVar 1) (mACons (mLst mANil) mANil)))))
  (mSeq (mAsg 3 (mCall (f_l_words A) [] (mARef 0 (mACons (mVar 1) (mACons (mLst mANil) mANil)))))
  (mSeq (mAsg 4 (mCall (f_l_words A) [] (mARef 0 (mACons (mOp addD (mC (.int 1)) (mCall (f_l_pick A) [] (mARef 0 (mACons (mC (.int 3)) mANil)))) (mACons (mVar 3) mANil)))))
  (mSeq (mAsg 5 (mLc (mRng rng1D (mACons (mVar 1) mANil)) (mgName 6) mYes (mCall (f_l_ink A) [] (mARef 0 (mACons (mOp ixD (mVar 2) (mVar 6)) (mACons (mOp ixD (mVar 3) (mVar 6)) (mACons (mOp addD (mVar 3) (mVar 4)) mANil))))) [6]))
  (mSeq (mAsg 7 (mOp addD (mOp addD (mOp addD (mVar 3) (mVar 3)) (mVar 4)) (mCall (f_l_words A) [] (mARef 0 (mACons (mC (.int 1)) (mACons (mOp addD (mVar 3) (mVar 4)) mANil))))))
  (mSeq (mAsg 8 (mLst mANil))
  (mSeq (mFor (mRng rng1D (mACons (mCall (f_l_one_of A) [] (mARef 0 (mACons (mLst (mACons (mC (.int 1)) (mACons (mC (.int 2)) (mACons (mC (.int 2)) (mACons (mC (.int 2)) (mACons (mC (.int 2)) (mACons (mC (.int 3)) mANil))))))) mANil))) mANil)) (mgName 6)
  (mSeq (mAsg 9 (mCall (f_l_one_of A) [] (mARef 0 (mACons (mVar 7) mANil))))
  (mIfS (mTr blD (mOp notInD (mVar 9) (mVar 8))) (mDrop (mLm 8 appendF (mACons (mVar 9) mANil))) mNext)))
  (mRet (mDisp [(.inr "inks", (mVar 5)), (.inr "names", (mVar 2)), (.inr "own", (mVar 3)), (.inr "third", (mVar 4)), (.inr "hues", (mCB1 sortD (mOp addD (mVar 3) (mVar 4)))), (.inr "palette", (mCB1 sortD (mVar 8)))]))))))))))
abbrev f_l_world_of (A : Ad) : MF := runN 1 10 (m_l_world_of A)
/-! ### _law_mixed_of -/
def m_l_mixed_of (A : Ad) : MS := (mSeq (mAsg 2 (mCB1 listD (mVar 1)))
  (mSeq (mAsg 3 (mLst mANil))
  (mSeq (mFor (mRng rng1D (mACons (mCB1 lenD (mVar 1)) mANil)) (mgName 4)
  (mDrop (mLm 3 appendF (mACons (mLm 2 popF (mACons (mCall (f_l_pick A) [] (mARef 0 (mACons (mCB1 lenD (mVar 2)) mANil))) mANil)) mANil))))
  (mRet (mVar 3)))))
abbrev f_l_mixed_of (A : Ad) : MF := runN 2 5 (m_l_mixed_of A)
/-! ### _law_some -/
def m_l_some (A : Ad) : MS := (mSeq (mAsg 3 (mCall (f_l_pick A) [] (mARef 0 (mACons (mOp addD (mCB min2D (mACons (mVar 2) (mACons (mCB1 lenD (mVar 1)) mANil))) (mC (.int 1))) mANil))))
  (mRet (mCB1 tupD (mCB1 sortD (mSl (mCall (f_l_mixed_of A) [] (mARef 0 (mARef 1 mANil))) mNoPart (mPart (mVar 3)))))))
abbrev f_l_some (A : Ad) : MF := runN 3 4 (m_l_some A)
/-! ### _law_side_rule -/
def m_l_side_rule (A : Ad) : MS := (mSeq (mAsg 2 (mCall (f_l_one_of A) [] (mARef 0 (mACons (mOp addD (mOp addD (mOp ixDk (mVar 1) (mC (.str "palette"))) (mOp ixDk (mVar 1) (mC (.str "palette")))) (mLst (mACons (mC (.str "white")) mANil))) mANil))))
  (mSeq (mAsg 3 (mCall (f_l_one_of A) [] (mARef 0 (mACons (mLst (mACons (mC (.str "up")) (mACons (mC (.str "left")) (mACons (mC (.str "right")) (mACons (mC (.str "down")) (mACons (mC (.str "near")) (mACons (mC (.str "near")) (mACons (mC (.str "hemmed")) mANil)))))))) mANil))))
  (mSeq (mAsg 4 (mCall (f_l_one_of A) [] (mARef 0 (mACons (mOp addD (mOp addD (mOp ixDk (mVar 1) (mC (.str "palette"))) (mOp ixDk (mVar 1) (mC (.str "palette")))) (mLst (mACons (mC (.str "white")) mANil))) mANil))))
  (mSeq (mIfS (mAnd (mTr blD (mOp eqD (mVar 2) (mC (.str "white")))) (mTr blD (mOp eqD (mVar 4) (mC (.str "white"))))) (mAsg 4 (mCall (f_l_one_of A) [] (mARef 0 (mACons (mOp ixDk (mVar 1) (mC (.str "palette"))) mANil)))) mNext)
  (mRet (mTup (mACons (mVar 2) (mACons (mVar 3) (mACons (mVar 4) (mACons (mCall (f_l_some A) [] (mARef 0 (mACons (mOp ixDk (mVar 1) (mC (.str "names"))) (mACons (mC (.int 2)) mANil)))) mANil))))))))))
abbrev f_l_side_rule (A : Ad) : MF := runN 2 5 (m_l_side_rule A)
/-! ### _law_inks_for -/
def m_l_inks_for (A : Ad) : MS := (mSeq (mIfS (mAnd (mTr blD (mOp inD (mVar 2) (mOp ixDk (mVar 1) (mC (.str "own"))))) (mTr blD (mOp gtD (mCall (f_l_pick A) [] (mARef 0 (mACons (mC (.int 4)) mANil))) (mC (.int 0))))) (mSeq (mAsg 3 (mLst (mACons (mOp ixD (mOp ixDk (mVar 1) (mC (.str "names"))) (mIndex (mOp ixDk (mVar 1) (mC (.str "own"))) (mVar 2))) mANil)))
  (mSeq (mIfS (mTr blD (mOp eqD (mCall (f_l_pick A) [] (mARef 0 (mACons (mC (.int 4)) mANil))) (mC (.int 0)))) (mDrop (mLm 3 appendF (mACons (mCall (f_l_one_of A) [] (mARef 0 (mACons (mOp ixDk (mVar 1) (mC (.str "names"))) mANil))) mANil))) mNext)
  (mRet (mCB1 tupD (mCB1 sortD (mLc (mRng rng1D (mACons (mCB1 lenD (mVar 3)) mANil)) (mgName 4) (mTr blD (mOp notInD (mOp ixD (mVar 3) (mVar 4)) (mSl (mVar 3) mNoPart (mPart (mVar 4))))) (mOp ixD (mVar 3) (mVar 4)) [4])))))) mNext)
  (mRet (mCall (f_l_some A) [] (mARef 0 (mACons (mOp ixDk (mVar 1) (mC (.str "names"))) (mACons (mC (.int 2)) mANil))))))
abbrev f_l_inks_for (A : Ad) : MF := runN 3 5 (m_l_inks_for A)
/-! ### _law_rules_of -/
def m_l_rules_of (A : Ad) : MS := (mSeq (mAsg 3 (mLc (mRng rng1D (mACons (mVar 2) mANil)) (mgName 4) mYes (mCall (f_l_side_rule A) [] (mARef 0 (mARef 1 mANil))) [4]))
  (mSeq (mFor (mItems (mCall (f_l_mixed_of A) [] (mARef 0 (mACons (mOp ixDk (mVar 1) (mC (.str "palette"))) mANil)))) (mgName 5)
  (mIfS (mTr blD (mOp gtD (mCall (f_l_pick A) [] (mARef 0 (mACons (mC (.int 8)) mANil))) (mC (.int 0)))) (mDrop (mLm 3 appendF (mACons (mTup (mACons (mVar 5) (mACons (mCall (f_l_inks_for A) [] (mARef 0 (mARef 1 (mACons (mVar 5) mANil)))) mANil))) mANil))) mNext))
  (mRet (mVar 3))))
abbrev f_l_rules_of (A : Ad) : MF := runN 3 6 (m_l_rules_of A)
/-! ### _law_long_rules -/
def m_l_long_rules (A : Ad) : MS := (mSeq (mAsg 2 (mCall (f_l_rules_of A) [] (mARef 0 (mARef 1 (mACons (mCall (f_l_one_of A) [] (mARef 0 (mACons (mLst (mACons (mC (.int 0)) (mACons (mC (.int 1)) (mACons (mC (.int 2)) (mACons (mC (.int 2)) (mACons (mC (.int 3)) (mACons (mC (.int 4)) (mACons (mC (.int 5)) (mACons (mC (.int 6)) (mACons (mC (.int 9)) mANil)))))))))) mANil))) mANil)))))
  (mSeq (mAsg 3 (mCall (f_l_words A) [] (mARef 0 (mACons (mC (.int 5)) (mACons (mLst mANil) mANil)))))
  (mSeq (mAsg 4 (mLst mANil))
  (mSeq (mFor (mItems (mVar 2)) (mgName 5)
  (mDrop (mLm 4 appendF (mACons (mIf (mTr blD (mOp eqD (mCall (f_l_pick A) [] (mARef 0 (mACons (mC (.int 8)) mANil))) (mC (.int 0)))) (mOp addD (mSl (mVar 5) mNoPart (mPart (mUn negD (mC (.int 1))))) (mTup (mACons (mCall (f_l_some A) [] (mARef 0 (mACons (mVar 3) (mACons (mC (.int 5)) mANil)))) mANil))) (mVar 5)) mANil))))
  (mRet (mIf (mTr blD (mOp eqD (mCall (f_l_pick A) [] (mARef 0 (mACons (mC (.int 3)) mANil))) (mC (.int 0)))) (mCall (f_l_mixed_of A) [] (mARef 0 (mACons (mVar 4) mANil))) (mVar 4)))))))
abbrev f_l_long_rules (A : Ad) : MF := runN 2 6 (m_l_long_rules A)
/-! ### _law_around_of -/
def m_l_around_of (A : Ad) : MS := (mRet (mLst (mACons (mTup (mACons (mOp subD (mOp ixD (mVar 0) (mC (.int 0))) (mC (.int 1))) (mACons (mOp ixD (mVar 0) (mC (.int 1))) mANil))) (mACons (mTup (mACons (mOp ixD (mVar 0) (mC (.int 0))) (mACons (mOp subD (mOp ixD (mVar 0) (mC (.int 1))) (mC (.int 1))) mANil))) (mACons (mTup (mACons (mOp ixD (mVar 0) (mC (.int 0))) (mACons (mOp addD (mOp ixD (mVar 0) (mC (.int 1))) (mC (.int 1))) mANil))) (mACons (mTup (mACons (mOp addD (mOp ixD (mVar 0) (mC (.int 0))) (mC (.int 1))) (mACons (mOp ixD (mVar 0) (mC (.int 1))) mANil))) mANil))))))
abbrev f_l_around_of (A : Ad) : MF := runN 1 1 (m_l_around_of A)
/-! ### _law_told_of -/
def m_l_told_of (A : Ad) : MS := (mSeq (mAsg 3 mDNewT)
  (mSeq (mAsg 4 (mCall (f_l_pick A) [] (mARef 0 (mACons (mC (.int 4)) mANil))))
  (mSeq (mFor (mItems (mCall (f_l_mixed_of A) [] (mARef 0 (mACons (mOp addD (mCall (f_l_around_of A) [] (mARef 1 mANil)) (mLst (mACons (mVar 1) mANil))) mANil)))) (mgName 5)
  (mIfS (mTr blD (mOp ltD (mCall (f_l_pick A) [] (mARef 0 (mACons (mC (.int 3)) mANil))) (mVar 4))) (mDPut 3 (mVar 5) (mCall (f_l_one_of A) [] (mARef 0 (mARef 2 mANil)))) mNext))
  (mSeq (mFor (mRng rng1D (mACons (mCall (f_l_pick A) [] (mARef 0 (mACons (mC (.int 5)) mANil))) mANil)) (mgName 6)
  (mDPut 3 (mTup (mACons (mOp subD (mOp addD (mOp ixD (mVar 1) (mC (.int 0))) (mCall (f_l_pick A) [] (mARef 0 (mACons (mC (.int 5)) mANil)))) (mC (.int 2))) (mACons (mOp subD (mOp addD (mOp ixD (mVar 1) (mC (.int 1))) (mCall (f_l_pick A) [] (mARef 0 (mACons (mC (.int 5)) mANil)))) (mC (.int 2))) mANil))) (mCall (f_l_one_of A) [] (mARef 0 (mARef 2 mANil)))))
  (mRet (mVar 3))))))
abbrev f_l_told_of (A : Ad) : MF := runN 3 7 (m_l_told_of A)
/-! ### plain -/
def m_plain_g (A : Ad) (self : MF) : MS := (mSeq (mIfS (mTr blD (mIsi tab_lt (mVar 0))) (mRet (mCB1 tupD (mLc (mItems (mVar 0)) (mgName 1) mYes (mCall self [] (mACons (mVar 1) mANil)) [1]))) mNext)
  (mRet (mVar 0)))
def fr_plain_g (A : Ad) : Nat → MF
  | 0 => runN 1 2 mNever
  | n + 1 => runN 1 2 (m_plain_g A (fr_plain_g A n))
abbrev f_plain_g (A : Ad) : MF := fr_plain_g A 6
/-! ### is_tuple -/
def m_is_tuple_g (A : Ad) : MS := (mRet (mAndV (mIsi tab_tuple (mVar 0)) (mChain leD leD (mVar 1) (mCB1 lenD (mVar 0)) (mVar 2))))
abbrev f_is_tuple_g (A : Ad) : MF := runN 3 3 (m_is_tuple_g A)
/-! ### is_word -/
def m_is_word_g (A : Ad) : MS := (mSeq (mIfS (mOr (mNot (mTr blD (mIsi tab_str (mVar 0)))) (mNot (mTr blD (mChain leD leD (mC (.int 1)) (mCB1 lenD (mVar 0)) (mC (.int 8)))))) (mRet (mC (.bl false))) mNext)
  (mRet (mCB1 allB (mLc (mItems (mVar 0)) (mgName 1) mYes (mOp inD (mVar 1) (mC (.str "abcdefghijklmnopqrstuvwxyz"))) [1]))))
abbrev f_is_word_g (A : Ad) : MF := runN 1 2 (m_is_word_g A)
/-! ### is_hue -/
def m_is_hue_g (A : Ad) : MS := (mRet (mAndV (mCall (f_is_word_g A) [] (mARef 0 mANil)) (mOp neD (mVar 0) (mC (.str "white")))))
abbrev f_is_hue_g (A : Ad) : MF := runN 1 1 (m_is_hue_g A)
/-! ### is_ascending -/
def m_is_ascending_g (A : Ad) : MS := (mRet (mCB1 allB (mLc (mRng rng1D (mACons (mOp subD (mCB1 lenD (mVar 0)) (mC (.int 1))) mANil)) (mgName 1) mYes (mOp ltD (mOp ixD (mVar 0) (mVar 1)) (mOp ixD (mVar 0) (mOp addD (mVar 1) (mC (.int 1))))) [1])))
abbrev f_is_ascending_g (A : Ad) : MF := runN 1 2 (m_is_ascending_g A)
/-! ### _are_inks -/
def m_are_inks_f (A : Ad) : MS := (mRet (mAndV (mCall (f_is_tuple_g A) [] (mARef 0 (mACons (mC (.int 0)) (mACons (mC (.int 5)) mANil)))) (mAndV (mCB1 allB (mLc (mItems (mVar 0)) (mgName 1) mYes (mCall (f_is_word_g A) [] (mACons (mVar 1) mANil)) [1])) (mCall (f_is_ascending_g A) [] (mARef 0 mANil)))))
abbrev f_are_inks_f (A : Ad) : MF := runN 1 2 (m_are_inks_f A)
/-! ### is_rule -/
def m_is_rule_g (A : Ad) : MS := (mSeq (mIfS (mTr blD (mCall (f_is_tuple_g A) [] (mARef 0 (mACons (mC (.int 2)) (mACons (mC (.int 2)) mANil))))) (mRet (mAndV (mCall (f_is_hue_g A) [] (mACons (mOp ixD (mVar 0) (mC (.int 0))) mANil)) (mCall (f_are_inks_f A) [] (mACons (mOp ixD (mVar 0) (mC (.int 1))) mANil)))) mNext)
  (mSeq (mIfS (mNot (mTr blD (mCall (f_is_tuple_g A) [] (mARef 0 (mACons (mC (.int 4)) (mACons (mC (.int 4)) mANil)))))) (mRet (mC (.bl false))) mNext)
  (mSeq (mAsgG (mgTup 4 (mgCons (mgName 1) (mgCons (mgName 2) (mgCons (mgName 3) (mgCons (mgName 4) mgNil))))) (mVar 0))
  (mSeq (mIfS (mOr (mNot (mTr blD (mCall (f_is_word_g A) [] (mACons (mVar 1) mANil)))) (mOr (mNot (mTr blD (mCall (f_is_word_g A) [] (mACons (mVar 3) mANil)))) (mAnd (mTr blD (mOp eqD (mVar 1) (mC (.str "white")))) (mTr blD (mOp eqD (mVar 3) (mC (.str "white"))))))) (mRet (mC (.bl false))) mNext)
  (mRet (mAndV (mIsi tab_str (mVar 2)) (mAndV (mOp inD (mVar 2) (mC (.tuk [(.str "up"), (.str "left"), (.str "right"), (.str "down"), (.str "near"), (.str "hemmed")]))) (mCall (f_are_inks_f A) [] (mACons (mVar 4) mANil)))))))))
abbrev f_is_rule_g (A : Ad) : MF := runN 1 5 (m_is_rule_g A)
/-! ### Book.__init__ -/
def m_Book_init (A : Ad) : MS := (mSeq (mAsg 2 (mCall (f_plain_g A) [] (mARef 1 mANil)))
  (mSeq (mIfS (mNot (mTr blD (mCall (f_is_tuple_g A) [] (mACons (mVar 2) (mACons (mC (.int 0)) (mACons (mC (.int 12)) mANil)))))) mNever mNext)
  (mSeq (mFor (mRng enumA (mACons (mVar 2) mANil)) (mgTup 2 (mgCons (mgName 3) (mgCons (mgName 4) mgNil)))
  (mIfS (mNot (mTr blD (mCall (f_is_rule_g A) [] (mACons (mVar 4) mANil)))) mNever mNext))
  (mSetA [A.Book] 0 "rules" (mVar 2)))))
abbrev f_Book_init (A : Ad) : MF := runN 2 5 (m_Book_init A)
/-! ### _law_listed -/
def m_l_listed (A : Ad) (self : MF) : MS := (mSeq (mIfS (mTr blD (mIsi tab_lt (mVar 0))) (mRet (mLc (mItems (mVar 0)) (mgName 1) mYes (mCall self [] (mACons (mVar 1) mANil)) [1])) mNext)
  (mRet (mVar 0)))
def fr_l_listed (A : Ad) : Nat → MF
  | 0 => runN 1 2 mNever
  | n + 1 => runN 1 2 (m_l_listed A (fr_l_listed A n))
abbrev f_l_listed (A : Ad) : MF := fr_l_listed A 6
/-! ### _law_side_of -/
def m_l_side_of (A : Ad) : MS := (mSeq (mAsg 3 (mVar 2))
  (mSeq (mIfS (mTr blD (mOp inD (mOp ixD (mVar 0) (mC (.int 1))) (mTup (mACons (mC (.str "up")) (mACons (mC (.str "left")) (mACons (mC (.str "right")) (mACons (mC (.str "down")) mANil))))))) (mAsg 3 (mLst (mACons (mOp ixD (mVar 2) (mIndex (mLst (mACons (mC (.str "up")) (mACons (mC (.str "left")) (mACons (mC (.str "right")) (mACons (mC (.str "down")) mANil))))) (mOp ixD (mVar 0) (mC (.int 1))))) mANil))) mNext)
  (mSeq (mFor (mItems (mVar 3)) (mgName 4)
  (mSeq (mIfS (mTr blD (mOp dnotD (mVar 4) (mVar 1))) (mRet (mVar 4)) mNext)
  (mSeq (mIfS (mAnd (mTr blD (mOp eqD (mOp ixD (mVar 0) (mC (.int 1))) (mC (.str "near")))) (mTr blD (mOp eqD (mOp ixDk (mVar 1) (mVar 4)) (mOp ixD (mVar 0) (mC (.int 2)))))) (mRet (mC (.bl true))) mNext)
  (mIfS (mAnd (mTr blD (mOp neD (mOp ixD (mVar 0) (mC (.int 1))) (mC (.str "near")))) (mTr blD (mOp neD (mOp ixDk (mVar 1) (mVar 4)) (mOp ixD (mVar 0) (mC (.int 2)))))) (mRet (mC (.bl false))) mNext))))
  (mRet (mOp neD (mOp ixD (mVar 0) (mC (.int 1))) (mC (.str "near")))))))
abbrev f_l_side_of (A : Ad) : MF := runN 3 5 (m_l_side_of A)
/-! ### _law_read -/
def m_l_read (A : Ad) : MS := (mSeq (mIfS (mTr blD (mOp dnotD (mVar 2) (mVar 1))) (mRet (mTup (mACons (mC (.str "needs")) (mACons (mVar 2) mANil)))) mNext)
  (mSeq (mAsg 3 (mCall (f_l_around_of A) [] (mARef 2 mANil)))
  (mSeq (mFor (mItems (mVar 0)) (mgName 4)
  (mIfS (mTr blD (mOp eqD (mOp ixD (mVar 4) (mC (.int 0))) (mOp ixDk (mVar 1) (mVar 2)))) (mSeq (mAsg 5 (mIf (mTr blD (mOp eqD (mCB1 lenD (mVar 4)) (mC (.int 2)))) (mC (.bl true)) (mCall (f_l_side_of A) [] (mACons (mVar 4) (mARef 1 (mACons (mVar 3) mANil))))))
  (mSeq (mIfS (mTr blD (mOp isD (mVar 5) (mC (.bl true)))) (mRet (mTup (mACons (mC (.str "prints")) (mACons (mCB1 tupD (mOp ixD (mVar 4) (mUn negD (mC (.int 1))))) mANil)))) mNext)
  (mIfS (mTr blD (mOp isNotD (mVar 5) (mC (.bl false)))) (mRet (mTup (mACons (mC (.str "needs")) (mACons (mVar 5) mANil)))) mNext))) mNext))
  (mRet (mTup (mACons (mC (.str "prints")) (mACons (mTup mANil) mANil)))))))
abbrev f_l_read (A : Ad) : MF := runN 3 6 (m_l_read A)
/-! ### _law_triples -/
def m_l_triples (A : Ad) : MS := (mRet (mCB1 tupD (mCB1 sortG (mLcD 0 (mgName 1) mYes (mTup (mACons (mOp ixD (mVar 1) (mC (.int 0))) (mACons (mOp ixD (mVar 1) (mC (.int 1))) (mACons (mOp ixDk (mVar 0) (mVar 1)) mANil)))) [1]))))
abbrev f_l_triples (A : Ad) : MF := runN 1 2 (m_l_triples A)
/-! ### _by_cells -/
def m_by_cells_f (A : Ad) : MS := (mRet (mDc (.dt false []) (mItems (mVar 0)) (mgAny 3 (mgCons (mgName 1) (mgCons (mgName 2) (mgCons (mgName 3) mgNil)))) mYes (mTup (mACons (mVar 1) (mACons (mVar 2) mANil))) (mVar 3) [1, 2, 3]))
abbrev f_by_cells_f (A : Ad) : MF := runN 1 4 (m_by_cells_f A)
/-! ### neighbours -/
def m_neighbours_g (A : Ad) : MS := (mSeq (mAsgG (mgTup 2 (mgCons (mgName 1) (mgCons (mgName 2) mgNil))) (mVar 0))
  (mRet (mTup (mACons (mTup (mACons (mOp subD (mVar 1) (mC (.int 1))) (mACons (mVar 2) mANil))) (mACons (mTup (mACons (mVar 1) (mACons (mOp subD (mVar 2) (mC (.int 1))) mANil))) (mACons (mTup (mACons (mVar 1) (mACons (mOp addD (mVar 2) (mC (.int 1))) mANil))) (mACons (mTup (mACons (mOp addD (mVar 1) (mC (.int 1))) (mACons (mVar 2) mANil))) mANil)))))))
abbrev f_neighbours_g (A : Ad) : MF := runN 1 3 (m_neighbours_g A)
/-! ### _fit -/
def m_fit_f (A : Ad) : MS := (mSeq (mIfS (mTr blD (mOp eqD (mCB1 lenD (mVar 0)) (mC (.int 2)))) (mRet (mC (.tuk [(.str "met")]))) mNext)
  (mSeq (mAsgG (mgTup 4 (mgCons (mgName 3) (mgCons (mgName 4) (mgCons (mgName 5) (mgCons (mgName 3) mgNil))))) (mVar 0))
  (mSeq (mAsg 6 (mCall (f_neighbours_g A) [] (mARef 2 mANil)))
  (mSeq (mIfS (mTr blD (mOp notInD (mVar 4) (mTup (mACons (mC (.str "near")) (mACons (mC (.str "hemmed")) mANil))))) (mAsg 6 (mTup (mACons (mOp ixD (mVar 6) (mUn (indexS ["up", "left", "right", "down", "near", "hemmed"]) (mVar 4))) mANil))) mNext)
  (mSeq (mFor (mItems (mVar 6)) (mgName 7)
  (mSeq (mIfS (mTr blD (mOp dnotD (mVar 7) (mVar 1))) (mRet (mTup (mACons (mC (.str "needs")) (mACons (mVar 7) mANil)))) mNext)
  (mSeq (mIfS (mAnd (mTr blD (mOp eqD (mVar 4) (mC (.str "near")))) (mTr blD (mOp eqD (mOp ixDk (mVar 1) (mVar 7)) (mVar 5)))) (mRet (mC (.tuk [(.str "met")]))) mNext)
  (mIfS (mAnd (mTr blD (mOp neD (mVar 4) (mC (.str "near")))) (mTr blD (mOp neD (mOp ixDk (mVar 1) (mVar 7)) (mVar 5)))) (mRet (mC (.tuk [(.str "unmet")]))) mNext))))
  (mRet (mIf (mTr blD (mOp eqD (mVar 4) (mC (.str "near")))) (mC (.tuk [(.str "unmet")])) (mC (.tuk [(.str "met")])))))))))
abbrev f_fit_f (A : Ad) : MF := runN 3 8 (m_fit_f A)
/-! ### counting_told -/
def m_counting_told_g (A : Ad) : MS := (mSeq (mIfS (mTr blD (mOp dnotD (mVar 2) (mVar 1))) (mRet (mTup (mACons (mC (.str "needs")) (mACons (mVar 2) mANil)))) mNext)
  (mSeq (mFor (mRng enumA (mACons (mVar 0) mANil)) (mgTup 2 (mgCons (mgName 3) (mgCons (mgName 4) mgNil)))
  (mIfS (mTr blD (mOp eqD (mOp ixD (mVar 4) (mC (.int 0))) (mOp ixDk (mVar 1) (mVar 2)))) (mSeq (mAsg 5 (mCall (f_fit_f A) [] (mACons (mVar 4) (mARef 1 (mARef 2 mANil)))))
  (mSeq (mIfS (mTr blD (mOp eqD (mVar 5) (mC (.tuk [(.str "met")])))) (mRet (mTup (mACons (mC (.str "counts")) (mACons (mVar 3) mANil)))) mNext)
  (mIfS (mTr blD (mOp neD (mVar 5) (mC (.tuk [(.str "unmet")])))) (mRet (mVar 5)) mNext))) mNext))
  (mRet (mTup (mACons (mC (.str "counts")) (mACons (mC .non) mANil))))))
abbrev f_counting_told_g (A : Ad) : MF := runN 3 6 (m_counting_told_g A)
/-! ### inks_of -/
def m_inks_of_g (A : Ad) : MS := (mRet (mIf (mTr blD (mOp isD (mVar 1) (mC .non))) (mTup mANil) (mOp ixD (mOp ixD (mVar 0) (mVar 1)) (mUn negD (mC (.int 1))))))
abbrev f_inks_of_g (A : Ad) : MF := runN 2 2 (m_inks_of_g A)
/-! ### reading -/
def m_reading_g (A : Ad) : MS := (mSeq (mAsg 3 (mCall (f_counting_told_g A) [] (mARef 0 (mARef 1 (mARef 2 mANil)))))
  (mRet (mIf (mTr blD (mOp eqD (mOp ixD (mVar 3) (mC (.int 0))) (mC (.str "needs")))) (mVar 3) (mTup (mACons (mC (.str "prints")) (mACons (mCall (f_inks_of_g A) [] (mARef 0 (mACons (mOp ixD (mVar 3) (mC (.int 1))) mANil))) mANil))))))
abbrev f_reading_g (A : Ad) : MF := runN 3 4 (m_reading_g A)
/-! ### read_told -/
def m_read_told_g (A : Ad) : MS := (mRet (mCall (f_reading_g A) [] (mACons (mFld [A.Book] "rules" (mVar 0)) (mACons (mCall (f_by_cells_f A) [] (mARef 1 mANil)) (mACons (mCall (f_plain_g A) [] (mARef 2 mANil)) mANil)))))
abbrev f_read_told_g (A : Ad) : MF := runN 3 3 (m_read_told_g A)
/-! ### _law_is_int -/
def m_l_is_int (A : Ad) : MS := (mRet (mAndV (mIsi tab_int (mVar 0)) (mNotV (mIsi tab_bool (mVar 0)))))
abbrev f_l_is_int (A : Ad) : MF := runN 1 1 (m_l_is_int A)
/-! ### _law_same -/
def m_l_same (A : Ad) (self : MF) : MS := (mSeq (mIfS (mTr blD (mIsi tab_tuple (mVar 1))) (mSeq (mIfS (mOr (mNot (mTr blD (mIsi tab_tuple (mVar 0)))) (mTr blD (mOp neD (mCB1 lenD (mVar 0)) (mCB1 lenD (mVar 1))))) (mRet (mC (.bl false))) mNext)
  (mRet (mOp eqD (mCB1 lenD (mLc (mRng rng1D (mACons (mCB1 lenD (mVar 1)) mANil)) (mgName 2) (mNot (mTr blD (mCall self [] (mACons (mOp ixD (mVar 0) (mVar 2)) (mACons (mOp ixD (mVar 1) (mVar 2)) mANil))))) (mVar 2) [2])) (mC (.int 0))))) mNext)
  (mSeq (mIfS (mTr blD (mOp isD (mVar 1) (mC .non))) (mRet (mOp isD (mVar 0) (mC .non))) mNext)
  (mSeq (mIfS (mTr blD (mOp isD (mVar 1) (mC (.bl true)))) (mRet (mOp isD (mVar 0) (mC (.bl true)))) mNext)
  (mSeq (mIfS (mTr blD (mOp isD (mVar 1) (mC (.bl false)))) (mRet (mOp isD (mVar 0) (mC (.bl false)))) mNext)
  (mSeq (mIfS (mTr blD (mIsi tab_str (mVar 1))) (mRet (mAndV (mIsi tab_str (mVar 0)) (mOp eqD (mVar 0) (mVar 1)))) mNext)
  (mRet (mAndV (mCall (f_l_is_int A) [] (mARef 0 mANil)) (mOp eqD (mVar 0) (mVar 1)))))))))
def fr_l_same (A : Ad) : Nat → MF
  | 0 => runN 2 3 mNever
  | n + 1 => runN 2 3 (m_l_same A (fr_l_same A n))
abbrev f_l_same (A : Ad) : MF := fr_l_same A 6
/-! ### _law_tupled -/
def m_l_tupled (A : Ad) (self : MF) : MS := (mSeq (mIfS (mTr blD (mIsi tab_lt (mVar 0))) (mRet (mCB1 tupD (mLc (mItems (mVar 0)) (mgName 1) mYes (mCall self [] (mACons (mVar 1) mANil)) [1]))) mNext)
  (mRet (mVar 0)))
def fr_l_tupled (A : Ad) : Nat → MF
  | 0 => runN 1 2 mNever
  | n + 1 => runN 1 2 (m_l_tupled A (fr_l_tupled A n))
abbrev f_l_tupled (A : Ad) : MF := fr_l_tupled A 6
/-! ### _law_led -/
def m_l_led (A : Ad) : MS := (mSeq (mAsg 5 (mMake A.Book (f_Book_init A) [] (mACons (mCall (f_l_listed A) [] (mARef 1 mANil)) mANil)))
  (mSeq (mFor (mRng rng1D (mACons (mC (.int 6)) mANil)) (mgName 6)
  (mSeq (mAsg 7 (mCall (f_l_read A) [] (mARef 1 (mARef 2 (mARef 3 mANil)))))
  (mSeq (mAsg 8 (mIf (mTr blD (mOp eqD (mOp modD (mCB1 int1D (mVar 6)) (mC (.int 2))) (mC (.int 0)))) (mCall (f_l_listed A) [] (mACons (mSnap 2 (f_l_triples A)) mANil)) (mSnap 2 (f_l_triples A))))
  (mSeq (mAsg 9 (mIf (mTr blD (mOp eqD (mOp modD (mCB1 int1D (mVar 6)) (mC (.int 3))) (mC (.int 1)))) (mCB1 listD (mVar 3)) (mVar 3)))
  (mSeq (mIfS (mNot (mTr blD (mCall (f_l_same A) [] (mACons (mCall (f_read_told_g A) [] (mACons (mVar 5) (mACons (mVar 8) (mACons (mVar 9) mANil)))) (mACons (mVar 7) mANil))))) (mRet (mC .non)) mNext)
  (mSeq (mIfS (mOr (mTr blD (mOp neD (mCall (f_l_tupled A) [] (mACons (mVar 8) mANil)) (mSnap 2 (f_l_triples A)))) (mTr blD (mOp neD (mCB1 tupD (mVar 9)) (mVar 3)))) (mRet (mC .non)) mNext)
  (mSeq (mIfS (mTr blD (mOp eqD (mOp ixD (mVar 7) (mC (.int 0))) (mC (.str "prints")))) (mRet (mOp ixD (mVar 7) (mC (.int 1)))) mNext)
  (mDPut 2 (mOp ixD (mVar 7) (mC (.int 1))) (mCall (f_l_one_of A) [] (mARef 0 (mARef 4 mANil)))))))))))
  (mRet (mC .non))))
abbrev f_l_led (A : Ad) : MF := runN 5 10 (m_l_led A)
/-! ### _law_other_page -/
def m_l_other_page (A : Ad) : MS := (mSeq (mAsg 4 mDNewT)
  (mSeq (mFor (mRng rng1D (mACons (mC (.int 12)) mANil)) (mgName 5)
  (mSeq (mAsg 6 (mTup (mACons (mOp subD (mOp addD (mOp ixD (mVar 2) (mC (.int 0))) (mCall (f_l_pick A) [] (mARef 0 (mACons (mC (.int 7)) mANil)))) (mC (.int 3))) (mACons (mOp subD (mOp addD (mOp ixD (mVar 2) (mC (.int 1))) (mCall (f_l_pick A) [] (mARef 0 (mACons (mC (.int 7)) mANil)))) (mC (.int 3))) mANil))))
  (mDPut 4 (mVar 6) (mCall (f_l_one_of A) [] (mARef 0 (mARef 3 mANil))))))
  (mSeq (mForD 1 (mgName 6)
  (mDPut 4 (mVar 6) (mOp ixDk (mVar 1) (mVar 6))))
  (mSeq (mAsg 7 mDNewT)
  (mSeq (mForD 4 (mgName 6)
  (mIfS (mTr blD (mOp neD (mOp ixDk (mVar 4) (mVar 6)) (mC (.str "white")))) (mDPut 7 (mVar 6) (mOp ixDk (mVar 4) (mVar 6))) mNext))
  (mRet (mVar 7)))))))
abbrev f_l_other_page (A : Ad) : MF := runN 4 8 (m_l_other_page A)
/-! ### is_integer -/
def m_is_integer_g (A : Ad) : MS := (mRet (mAndV (mIsi tab_int (mVar 0)) (mNotV (mIsi tab_bool (mVar 0)))))
abbrev f_is_integer_g (A : Ad) : MF := runN 1 1 (m_is_integer_g A)
/-! ### is_cell -/
def m_is_cell_g (A : Ad) : MS := (mSeq (mIfS (mOr (mNot (mTr blD (mIsi tab_lt (mVar 0)))) (mTr blD (mOp neD (mCB1 lenD (mVar 0)) (mC (.int 2))))) (mRet (mC (.bl false))) mNext)
  (mRet (mAndV (mCall (f_is_integer_g A) [] (mACons (mOp ixD (mVar 0) (mC (.int 0))) mANil)) (mCall (f_is_integer_g A) [] (mACons (mOp ixD (mVar 0) (mC (.int 1))) mANil)))))
abbrev f_is_cell_g (A : Ad) : MF := runN 1 1 (m_is_cell_g A)
/-! ### Picture.__contains__ -/
def m_Picture_contains (A : Ad) : MS := (mRet (mAndV (mCall (f_is_cell_g A) [] (mARef 1 mANil)) (mOp dinD (mTup (mACons (mOp ixD (mVar 1) (mC (.int 0))) (mACons (mOp ixD (mVar 1) (mC (.int 1))) mANil))) (mFld [A.Picture] "_colours" (mVar 0)))))
abbrev f_Picture_contains (A : Ad) : MF := runN 2 2 (m_Picture_contains A)
/-! ### Picture.__getitem__ -/
def m_Picture_getitem (A : Ad) : MS := (mSeq (mIfS (mTr blD (mOI true A.Picture (f_Picture_contains A) (mVar 1) (mVar 0))) (mRet (mC (.str "white"))) mNext)
  (mRet (mOp ixDk (mFld [A.Picture] "_colours" (mVar 0)) (mTup (mACons (mOp ixD (mVar 1) (mC (.int 0))) (mACons (mOp ixD (mVar 1) (mC (.int 1))) mANil))))))
abbrev f_Picture_getitem (A : Ad) : MF := runN 2 2 (m_Picture_getitem A)
/-! ### fits -/
def m_fits_g (A : Ad) : MS := (mSeq (mIfS (mTr blD (mOp neD (mOp ixD (mVar 0) (mC (.int 0))) (mVar 1))) (mRet (mC (.bl false))) mNext)
  (mSeq (mIfS (mTr blD (mOp eqD (mCB1 lenD (mVar 0)) (mC (.int 2)))) (mRet (mC (.bl true))) mNext)
  (mSeq (mAsgG (mgTup 4 (mgCons (mgName 3) (mgCons (mgName 4) (mgCons (mgName 5) (mgCons (mgName 3) mgNil))))) (mVar 0))
  (mSeq (mIfS (mTr blD (mOp eqD (mVar 4) (mC (.str "near")))) (mRet (mOp inD (mVar 5) (mVar 2))) mNext)
  (mSeq (mIfS (mTr blD (mOp eqD (mVar 4) (mC (.str "hemmed")))) (mRet (mCB1 allB (mLc (mItems (mVar 2)) (mgName 6) mYes (mOp eqD (mVar 6) (mVar 5)) [6]))) mNext)
  (mRet (mOp eqD (mOp ixD (mVar 2) (mUn (indexS ["up", "left", "right", "down", "near", "hemmed"]) (mVar 4))) (mVar 5))))))))
abbrev f_fits_g (A : Ad) : MF := runN 3 7 (m_fits_g A)
/-! ### counting_rule -/
def m_counting_rule_g (A : Ad) : MS := (mSeq (mFor (mRng enumA (mACons (mVar 0) mANil)) (mgTup 2 (mgCons (mgName 3) (mgCons (mgName 4) mgNil)))
  (mIfS (mTr blD (mCall (f_fits_g A) [] (mACons (mVar 4) (mARef 1 (mARef 2 mANil))))) (mRet (mVar 3)) mNext))
  (mRet (mC .non)))
abbrev f_counting_rule_g (A : Ad) : MF := runN 3 5 (m_counting_rule_g A)
/-! ### Book.counting -/
def m_Book_counting (A : Ad) : MS := (mRet (mCall (f_counting_rule_g A) [] (mACons (mFld [A.Book] "rules" (mVar 0)) (mACons (mOG A.Picture (f_Picture_getitem A) (mVar 1) (mVar 2)) (mACons (mLc (mItems (mCall (f_neighbours_g A) [] (mARef 2 mANil))) (mgName 3) mYes (mOG A.Picture (f_Picture_getitem A) (mVar 1) (mVar 3)) [3]) mANil)))))
abbrev f_Book_counting (A : Ad) : MF := runN 3 4 (m_Book_counting A)
/-! ### Book.inks_at -/
def m_Book_inks_at (A : Ad) : MS := (mRet (mCall (f_inks_of_g A) [] (mACons (mFld [A.Book] "rules" (mVar 0)) (mACons (mMeth A.Book "counting" (f_Book_counting A) [] (mVar 0) (mARef 1 (mARef 2 mANil))) mANil))))
abbrev f_Book_inks_at (A : Ad) : MF := runN 3 3 (m_Book_inks_at A)
/-! ### is_within -/
def m_is_within_g (A : Ad) : MS := (mRet (mAndV (mCall (f_is_integer_g A) [] (mARef 0 mANil)) (mChain leD leD (mVar 1) (mVar 0) (mVar 2))))
abbrev f_is_within_g (A : Ad) : MF := runN 3 3 (m_is_within_g A)
/-! ### _is_inked -/
def m_is_inked_f (A : Ad) : MS := (mSeq (mIfS (mNot (mTr blD (mCall (f_is_tuple_g A) [] (mARef 0 (mACons (mC (.int 3)) (mACons (mC (.int 3)) mANil)))))) (mRet (mC (.bl false))) mNext)
  (mSeq (mAsgG (mgTup 3 (mgCons (mgName 1) (mgCons (mgName 2) (mgCons (mgName 3) mgNil)))) (mVar 0))
  (mRet (mAndV (mCall (f_is_within_g A) [] (mACons (mVar 1) (mACons (mUn negD (mC (.int 50))) (mACons (mC (.int 50)) mANil)))) (mAndV (mCall (f_is_within_g A) [] (mACons (mVar 2) (mACons (mUn negD (mC (.int 50))) (mACons (mC (.int 50)) mANil)))) (mCall (f_is_hue_g A) [] (mACons (mVar 3) mANil)))))))
abbrev f_is_inked_f (A : Ad) : MF := runN 1 4 (m_is_inked_f A)
/-! ### Picture.__init__ -/
def m_Picture_init (A : Ad) : MS := (mSeq (mAsg 2 (mCall (f_plain_g A) [] (mARef 1 mANil)))
  (mSeq (mIfS (mNot (mTr blD (mCall (f_is_tuple_g A) [] (mACons (mVar 2) (mACons (mC (.int 0)) (mACons (mC (.int 200)) mANil)))))) mNever mNext)
  (mSeq (mFor (mRng enumA (mACons (mVar 2) mANil)) (mgTup 2 (mgCons (mgName 3) (mgCons (mgName 4) mgNil)))
  (mIfS (mOr (mNot (mTr blD (mCall (f_is_inked_f A) [] (mACons (mVar 4) mANil)))) (mAnd (mTr blD (mOp gtD (mVar 3) (mC (.int 0)))) (mTr blD (mOp (ordB oGe) (mSl (mOp ixD (mVar 2) (mOp subD (mVar 3) (mC (.int 1)))) mNoPart (mPart (mC (.int 2)))) (mSl (mVar 4) mNoPart (mPart (mC (.int 2)))))))) mNever mNext))
  (mSeq (mSetA [A.Picture] 0 "cells" (mVar 2))
  (mSetA [A.Picture] 0 "_colours" (mDc (.dt false []) (mItems (mVar 2)) (mgTup 3 (mgCons (mgName 5) (mgCons (mgName 6) (mgCons (mgName 7) mgNil)))) mYes (mTup (mACons (mVar 5) (mACons (mVar 6) mANil))) (mVar 7) [5, 6, 7]))))))
abbrev f_Picture_init (A : Ad) : MF := runN 2 8 (m_Picture_init A)
/-! ### _law_fits_of -/
def m_l_fits_of (A : Ad) : MS := (mSeq (mIfS (mTr blD (mOp neD (mOp ixD (mVar 0) (mC (.int 0))) (mVar 1))) (mRet (mC (.bl false))) mNext)
  (mSeq (mIfS (mTr blD (mOp eqD (mCB1 lenD (mVar 0)) (mC (.int 2)))) (mRet (mC (.bl true))) mNext)
  (mSeq (mIfS (mTr blD (mOp eqD (mOp ixD (mVar 0) (mC (.int 1))) (mC (.str "near")))) (mRet (mOp inD (mOp ixD (mVar 0) (mC (.int 2))) (mVar 2))) mNext)
  (mSeq (mIfS (mTr blD (mOp eqD (mOp ixD (mVar 0) (mC (.int 1))) (mC (.str "hemmed")))) (mRet (mOp eqD (mVar 2) (mLst (mACons (mOp ixD (mVar 0) (mC (.int 2))) (mACons (mOp ixD (mVar 0) (mC (.int 2))) (mACons (mOp ixD (mVar 0) (mC (.int 2))) (mACons (mOp ixD (mVar 0) (mC (.int 2))) mANil))))))) mNext)
  (mRet (mOp eqD (mOp ixD (mVar 2) (mIndex (mLst (mACons (mC (.str "up")) (mACons (mC (.str "left")) (mACons (mC (.str "right")) (mACons (mC (.str "down")) mANil))))) (mOp ixD (mVar 0) (mC (.int 1))))) (mOp ixD (mVar 0) (mC (.int 2)))))))))
abbrev f_l_fits_of (A : Ad) : MF := runN 3 3 (m_l_fits_of A)
/-! ### _law_reads -/
def m_l_reads (A : Ad) : MS := (mSeq (mAsg 3 (mLc (mItems (mCall (f_l_around_of A) [] (mARef 2 mANil))) (mgName 4) mYes (mGet2 (mVar 1) (mVar 4) (mC (.str "white"))) [4]))
  (mSeq (mFor (mRng enumA (mACons (mVar 0) mANil)) (mgTup 2 (mgCons (mgName 5) (mgCons (mgName 6) mgNil)))
  (mIfS (mTr blD (mCall (f_l_fits_of A) [] (mACons (mVar 6) (mACons (mGet2 (mVar 1) (mVar 2) (mC (.str "white"))) (mACons (mVar 3) mANil))))) (mRet (mVar 5)) mNext))
  (mRet (mC .non))))
abbrev f_l_reads (A : Ad) : MF := runN 3 7 (m_l_reads A)
/-! ### _law_prints -/
def m_l_prints (A : Ad) : MS := (mSeq (mAsg 3 (mCall (f_l_reads A) [] (mARef 0 (mARef 1 (mARef 2 mANil)))))
  (mRet (mIf (mTr blD (mOp isD (mVar 3) (mC .non))) (mTup mANil) (mCB1 tupD (mOp ixD (mOp ixD (mVar 0) (mVar 3)) (mUn negD (mC (.int 1))))))))
abbrev f_l_prints (A : Ad) : MF := runN 3 4 (m_l_prints A)
/-! ### law -/
def m_law_g (A : Ad) : MS := (mSeq (mAsg 1 (mCall (f_l_bag_of A) [] (mARef 0 (mACons (mC (.int 0)) mANil))))
  (mSeq (mAsg 2 (mCall (f_l_world_of A) [] (mARef 1 mANil)))
  (mSeq (mAsg 1 (mCall (f_l_bag_of A) [] (mARef 0 (mACons (mC (.int 1)) mANil))))
  (mSeq (mAsg 3 (mCall (f_l_long_rules A) [] (mARef 1 (mACons (mVar 2) mANil))))
  (mSeq (mAsg 1 (mCall (f_l_bag_of A) [] (mARef 0 (mACons (mC (.int 2)) mANil))))
  (mSeq (mAsg 4 (mTup (mACons (mOp subD (mCall (f_l_pick A) [] (mARef 1 (mACons (mC (.int 81)) mANil))) (mC (.int 40))) (mACons (mOp subD (mCall (f_l_pick A) [] (mARef 1 (mACons (mC (.int 81)) mANil))) (mC (.int 40))) mANil))))
  (mSeq (mAsg 5 (mOp eqD (mCall (f_l_pick A) [] (mARef 1 (mACons (mC (.int 8)) mANil))) (mC (.int 0))))
  (mSeq (mIfS (mTr trD (mVar 5)) (mAsg 4 (mTup (mACons (mOp subD (mOp mulD (mOp ixD (mVar 4) (mC (.int 0))) (mOp powD (mC (.int 10)) (mC (.int 12)))) (mC (.int 7))) (mACons (mOp addD (mOp ixD (mVar 4) (mC (.int 1))) (mOp powD (mC (.int 10)) (mC (.int 30)))) mANil)))) mNext)
  (mSeq (mAsg 6 (mOp addD (mOp ixDk (mVar 2) (mC (.str "palette"))) (mLst (mACons (mC (.str "white")) mANil))))
  (mSeq (mIfS (mTr blD (mOp eqD (mCall (f_l_pick A) [] (mARef 1 (mACons (mC (.int 4)) mANil))) (mC (.int 0)))) (mAsg 6 (mOp addD (mVar 6) (mLst (mACons (mCall (f_l_one_of A) [] (mARef 1 (mACons (mOp ixDk (mVar 2) (mC (.str "third"))) mANil))) mANil)))) mNext)
  (mSeq (mAsg 7 (mCall (f_l_told_of A) [] (mARef 1 (mACons (mVar 4) (mACons (mVar 6) mANil)))))
  (mSeq (mAsg 1 (mCall (f_l_bag_of A) [] (mARef 0 (mACons (mC (.int 3)) mANil))))
  (mSeq (mAsg 8 (mCall (f_l_led A) [] (mARef 1 (mACons (mVar 3) (mARef 7 (mACons (mVar 4) (mACons (mVar 6) mANil)))))))
  (mSeq (mIfS (mTr blD (mOp isD (mVar 8) (mC .non))) (mRet (mC (.bl false))) mNext)
  (mSeq (mAsg 9 (mMake A.Book (f_Book_init A) [] (mACons (mVar 3) mANil)))
  (mSeq (mIfS (mNot (mTr blD (mCall (f_l_same A) [] (mACons (mCall (f_read_told_g A) [] (mACons (mVar 9) (mACons (mCall (f_l_triples A) [] (mACons (mVar 7) mANil)) (mACons (mVar 4) mANil)))) (mACons (mTup (mACons (mC (.str "prints")) (mACons (mVar 8) mANil))) mANil))))) (mRet (mC (.bl false))) mNext)
  (mSeq (mIfS (mTr trD (mVar 5)) (mRet (mC (.bl true))) mNext)
  (mSeq (mAsg 1 (mCall (f_l_bag_of A) [] (mARef 0 (mACons (mC (.int 4)) mANil))))
  (mSeq (mFor (mRng rng1D (mACons (mC (.int 2)) mANil)) (mgName 10)
  (mSeq (mAsg 11 (mCall (f_l_other_page A) [] (mARef 1 (mACons (mVar 7) (mACons (mVar 4) (mACons (mVar 6) mANil))))))
  (mSeq (mIfS (mNot (mTr blD (mCall (f_l_same A) [] (mACons (mMeth A.Book "inks_at" (f_Book_inks_at A) [] (mVar 9) (mACons (mMake A.Picture (f_Picture_init A) [] (mACons (mCall (f_l_triples A) [] (mACons (mVar 11) mANil)) mANil)) (mACons (mVar 4) mANil))) (mACons (mVar 8) mANil))))) (mRet (mC (.bl false))) mNext)
  (mIfS (mTr blD (mOp neD (mCall (f_l_prints A) [] (mACons (mVar 3) (mACons (mVar 11) (mACons (mVar 4) mANil)))) (mVar 8))) (mRet (mC (.bl false))) mNext))))
  (mRet (mCall (f_l_same A) [] (mACons (mCall (f_read_told_g A) [] (mACons (mMake A.Book (f_Book_init A) [(.tuk [])] mANil) (mACons (mLst (mACons (mLst (mACons (mOp ixD (mVar 4) (mC (.int 0))) (mACons (mOp ixD (mVar 4) (mC (.int 1))) (mACons (mOp ixD (mVar 6) (mC (.int 0))) mANil)))) mANil)) (mACons (mVar 4) mANil)))) (mACons (mTup (mACons (mC (.str "prints")) (mACons (mTup mANil) mANil))) mANil)))))))))))))))))))))))
abbrev f_law_g (A : Ad) : MF := runN 1 12 (m_law_g A)
end Cz

/-! # Gk27 -/
namespace Cz
open L2 PyProof.Rows PySem.Spec PySem
def top (i : Nat) : Stmt := PySem.Challenge.pw_strayplates_k27_read_told.main.body.getD i (.Pass ⟨0, 0, 0, 0⟩)
/-! _law_bag_of -/
abbrev s_l_bag_of : Stmt := top 51
theorem sc_l_bag_of : FnScope ["_law_script", "_law_at", "_law_total", "_law_k", "_law_cell", "_law_state", "_law_source"] ["_law_script", "_law_at"] (defScope s_l_bag_of) := ⟨rfl, rfl, rfl, by decide +kernel, rfl, by decide +kernel, by decide +kernel⟩
/-! _law_pick -/
abbrev s_l_pick : Stmt := top 52
theorem sc_l_pick : FnScope ["_law_bag", "_law_many", "_law_drawn", "_law_mixed"] ["_law_bag", "_law_many"] (defScope s_l_pick) := ⟨rfl, rfl, rfl, by decide +kernel, rfl, by decide +kernel, by decide +kernel⟩
/-! _law_one_of -/
abbrev s_l_one_of : Stmt := top 53
theorem sc_l_one_of : FnScope ["_law_bag", "_law_row"] ["_law_bag", "_law_row"] (defScope s_l_one_of) := ⟨rfl, rfl, rfl, by decide +kernel, rfl, by decide +kernel, by decide +kernel⟩
/-! _law_word_of -/
abbrev s_l_word_of : Stmt := top 55
theorem sc_l_word_of : FnScope ["_law_bag", "_law_taken", "_law_letters", "_law_size", "_law_word", "_law_k"] ["_law_bag", "_law_taken"] (defScope s_l_word_of) := ⟨rfl, rfl, rfl, by decide +kernel, rfl, by decide +kernel, by decide +kernel⟩
/-! _law_words -/
abbrev s_l_words : Stmt := top 56
theorem sc_l_words : FnScope ["_law_bag", "_law_many", "_law_taken", "_law_found", "_law_k"] ["_law_bag", "_law_many", "_law_taken"] (defScope s_l_words) := ⟨rfl, rfl, rfl, by decide +kernel, rfl, by decide +kernel, by decide +kernel⟩
/-! _law_ink -/
abbrev s_l_ink : Stmt := top 58
theorem sc_l_ink : FnScope ["_law_bag", "_law_name", "_law_own", "_law_hues", "_law_over", "_law_under", "_law_result"] ["_law_bag", "_law_name", "_law_own", "_law_hues"] (defScope s_l_ink) := ⟨rfl, rfl, rfl, by decide +kernel, rfl, by decide +kernel, by decide +kernel⟩
/-! _law_world_of -/
abbrev s_l_world_of : Stmt := top 59
theorem sc_l_world_of : FnScope ["_law_bag", "_law_many", "_law_names", "_law_own", "_law_third", "_law_inks", "_law_k", "_law_pool", "_law_palette", "_law_colour"] ["_law_bag"] (defScope s_l_world_of) := ⟨rfl, rfl, rfl, by decide +kernel, rfl, by decide +kernel, by decide +kernel⟩
/-! _law_mixed_of -/
abbrev s_l_mixed_of : Stmt := top 54
theorem sc_l_mixed_of : FnScope ["_law_bag", "_law_row", "_law_rest", "_law_found", "_law_k"] ["_law_bag", "_law_row"] (defScope s_l_mixed_of) := ⟨rfl, rfl, rfl, by decide +kernel, rfl, by decide +kernel, by decide +kernel⟩
/-! _law_some -/
abbrev s_l_some : Stmt := top 57
theorem sc_l_some : FnScope ["_law_bag", "_law_names", "_law_most", "_law_many"] ["_law_bag", "_law_names", "_law_most"] (defScope s_l_some) := ⟨rfl, rfl, rfl, by decide +kernel, rfl, by decide +kernel, by decide +kernel⟩
/-! _law_side_rule -/
abbrev s_l_side_rule : Stmt := top 61
theorem sc_l_side_rule : FnScope ["_law_bag", "_law_world", "_law_colour", "_law_side", "_law_beside"] ["_law_bag", "_law_world"] (defScope s_l_side_rule) := ⟨rfl, rfl, rfl, by decide +kernel, rfl, by decide +kernel, by decide +kernel⟩
/-! _law_inks_for -/
abbrev s_l_inks_for : Stmt := top 60
theorem sc_l_inks_for : FnScope ["_law_bag", "_law_world", "_law_colour", "_law_names", "_law_k"] ["_law_bag", "_law_world", "_law_colour"] (defScope s_l_inks_for) := ⟨rfl, rfl, rfl, by decide +kernel, rfl, by decide +kernel, by decide +kernel⟩
/-! _law_rules_of -/
abbrev s_l_rules_of : Stmt := top 62
theorem sc_l_rules_of : FnScope ["_law_bag", "_law_world", "_law_sides", "_law_rules", "_law_k", "_law_colour"] ["_law_bag", "_law_world", "_law_sides"] (defScope s_l_rules_of) := ⟨rfl, rfl, rfl, by decide +kernel, rfl, by decide +kernel, by decide +kernel⟩
/-! _law_long_rules -/
abbrev s_l_long_rules : Stmt := top 74
theorem sc_l_long_rules : FnScope ["_law_bag", "_law_world", "_law_found", "_law_names", "_law_rules", "_law_rule"] ["_law_bag", "_law_world"] (defScope s_l_long_rules) := ⟨rfl, rfl, rfl, by decide +kernel, rfl, by decide +kernel, by decide +kernel⟩
/-! _law_around_of -/
abbrev s_l_around_of : Stmt := top 64
theorem sc_l_around_of : FnScope ["_law_cell"] ["_law_cell"] (defScope s_l_around_of) := ⟨rfl, rfl, rfl, by decide +kernel, rfl, by decide +kernel, by decide +kernel⟩
/-! _law_told_of -/
abbrev s_l_told_of : Stmt := top 75
theorem sc_l_told_of : FnScope ["_law_bag", "_law_spot", "_law_colours", "_law_told", "_law_share", "_law_cell", "_law_k"] ["_law_bag", "_law_spot", "_law_colours"] (defScope s_l_told_of) := ⟨rfl, rfl, rfl, by decide +kernel, rfl, by decide +kernel, by decide +kernel⟩
/-! plain -/
abbrev s_plain_g : Stmt := top 9
theorem sc_plain_g : FnScope ["thing", "part"] ["thing"] (defScope s_plain_g) := ⟨rfl, rfl, rfl, by decide +kernel, rfl, by decide +kernel, by decide +kernel⟩
/-! is_tuple -/
abbrev s_is_tuple_g : Stmt := top 13
theorem sc_is_tuple_g : FnScope ["thing", "least", "most"] ["thing", "least", "most"] (defScope s_is_tuple_g) := ⟨rfl, rfl, rfl, by decide +kernel, rfl, by decide +kernel, by decide +kernel⟩
/-! is_word -/
abbrev s_is_word_g : Stmt := top 19
theorem sc_is_word_g : FnScope ["thing", "letter"] ["thing"] (defScope s_is_word_g) := ⟨rfl, rfl, rfl, by decide +kernel, rfl, by decide +kernel, by decide +kernel⟩
/-! is_hue -/
abbrev s_is_hue_g : Stmt := top 20
theorem sc_is_hue_g : FnScope ["thing"] ["thing"] (defScope s_is_hue_g) := ⟨rfl, rfl, rfl, by decide +kernel, rfl, by decide +kernel, by decide +kernel⟩
/-! is_ascending -/
abbrev s_is_ascending_g : Stmt := top 14
theorem sc_is_ascending_g : FnScope ["things", "k"] ["things"] (defScope s_is_ascending_g) := ⟨rfl, rfl, rfl, by decide +kernel, rfl, by decide +kernel, by decide +kernel⟩
/-! _are_inks -/
abbrev s_are_inks_f : Stmt := top 36
theorem sc_are_inks_f : FnScope ["inks", "name"] ["inks"] (defScope s_are_inks_f) := ⟨rfl, rfl, rfl, by decide +kernel, rfl, by decide +kernel, by decide +kernel⟩
/-! is_rule -/
abbrev s_is_rule_g : Stmt := top 37
theorem sc_is_rule_g : FnScope ["rule", "colour", "side", "beside", "inks"] ["rule"] (defScope s_is_rule_g) := ⟨rfl, rfl, rfl, by decide +kernel, rfl, by decide +kernel, by decide +kernel⟩
/-! Book.__init__ -/
abbrev s_Book_init : Stmt := inClass (top 41) 0
theorem sc_Book_init : FnScope ["self", "rules", "told", "number", "rule"] ["self", "rules"] (defScope s_Book_init) := ⟨rfl, rfl, rfl, by decide +kernel, rfl, by decide +kernel, by decide +kernel⟩
/-! _law_listed -/
abbrev s_l_listed : Stmt := top 68
theorem sc_l_listed : FnScope ["_law_thing", "_law_one"] ["_law_thing"] (defScope s_l_listed) := ⟨rfl, rfl, rfl, by decide +kernel, rfl, by decide +kernel, by decide +kernel⟩
/-! _law_side_of -/
abbrev s_l_side_of : Stmt := top 72
theorem sc_l_side_of : FnScope ["_law_rule", "_law_told", "_law_around", "_law_cells", "_law_cell"] ["_law_rule", "_law_told", "_law_around"] (defScope s_l_side_of) := ⟨rfl, rfl, rfl, by decide +kernel, rfl, by decide +kernel, by decide +kernel⟩
/-! _law_read -/
abbrev s_l_read : Stmt := top 73
theorem sc_l_read : FnScope ["_law_rules", "_law_told", "_law_cell", "_law_around", "_law_rule", "_law_fits"] ["_law_rules", "_law_told", "_law_cell"] (defScope s_l_read) := ⟨rfl, rfl, rfl, by decide +kernel, rfl, by decide +kernel, by decide +kernel⟩
/-! _law_triples -/
abbrev s_l_triples : Stmt := top 63
theorem sc_l_triples : FnScope ["_law_seen", "_law_cell"] ["_law_seen"] (defScope s_l_triples) := ⟨rfl, rfl, rfl, by decide +kernel, rfl, by decide +kernel, by decide +kernel⟩
/-! _by_cells -/
abbrev s_by_cells_f : Stmt := top 48
theorem sc_by_cells_f : FnScope ["told", "row", "column", "colour"] ["told"] (defScope s_by_cells_f) := ⟨rfl, rfl, rfl, by decide +kernel, rfl, by decide +kernel, by decide +kernel⟩
/-! neighbours -/
abbrev s_neighbours_g : Stmt := top 22
theorem sc_neighbours_g : FnScope ["cell", "row", "column"] ["cell"] (defScope s_neighbours_g) := ⟨rfl, rfl, rfl, by decide +kernel, rfl, by decide +kernel, by decide +kernel⟩
/-! _fit -/
abbrev s_fit_f : Stmt := top 45
theorem sc_fit_f : FnScope ["rule", "told", "cell", "_", "side", "beside", "around", "other"] ["rule", "told", "cell"] (defScope s_fit_f) := ⟨rfl, rfl, rfl, by decide +kernel, rfl, by decide +kernel, by decide +kernel⟩
/-! counting_told -/
abbrev s_counting_told_g : Stmt := top 46
theorem sc_counting_told_g : FnScope ["rules", "told", "cell", "number", "rule", "fit"] ["rules", "told", "cell"] (defScope s_counting_told_g) := ⟨rfl, rfl, rfl, by decide +kernel, rfl, by decide +kernel, by decide +kernel⟩
/-! inks_of -/
abbrev s_inks_of_g : Stmt := top 40
theorem sc_inks_of_g : FnScope ["rules", "number"] ["rules", "number"] (defScope s_inks_of_g) := ⟨rfl, rfl, rfl, by decide +kernel, rfl, by decide +kernel, by decide +kernel⟩
/-! reading -/
abbrev s_reading_g : Stmt := top 47
theorem sc_reading_g : FnScope ["rules", "told", "cell", "answer"] ["rules", "told", "cell"] (defScope s_reading_g) := ⟨rfl, rfl, rfl, by decide +kernel, rfl, by decide +kernel, by decide +kernel⟩
/-! read_told -/
abbrev s_read_told_g : Stmt := top 49
theorem sc_read_told_g : FnScope ["book", "told", "cell"] ["book", "told", "cell"] (defScope s_read_told_g) := ⟨rfl, rfl, rfl, by decide +kernel, rfl, by decide +kernel, by decide +kernel⟩
/-! _law_is_int -/
abbrev s_l_is_int : Stmt := top 70
theorem sc_l_is_int : FnScope ["_law_thing"] ["_law_thing"] (defScope s_l_is_int) := ⟨rfl, rfl, rfl, by decide +kernel, rfl, by decide +kernel, by decide +kernel⟩
/-! _law_same -/
abbrev s_l_same : Stmt := top 71
theorem sc_l_same : FnScope ["_law_told", "_law_wanted", "_law_k"] ["_law_told", "_law_wanted"] (defScope s_l_same) := ⟨rfl, rfl, rfl, by decide +kernel, rfl, by decide +kernel, by decide +kernel⟩
/-! _law_tupled -/
abbrev s_l_tupled : Stmt := top 69
theorem sc_l_tupled : FnScope ["_law_thing", "_law_one"] ["_law_thing"] (defScope s_l_tupled) := ⟨rfl, rfl, rfl, by decide +kernel, rfl, by decide +kernel, by decide +kernel⟩
/-! _law_led -/
abbrev s_l_led : Stmt := top 76
theorem sc_l_led : FnScope ["_law_bag", "_law_rules", "_law_told", "_law_spot", "_law_colours", "_law_book", "_law_turn", "_law_due", "_law_cells", "_law_asked"] ["_law_bag", "_law_rules", "_law_told", "_law_spot", "_law_colours"] (defScope s_l_led) := ⟨rfl, rfl, rfl, by decide +kernel, rfl, by decide +kernel, by decide +kernel⟩
/-! _law_other_page -/
abbrev s_l_other_page : Stmt := top 77
theorem sc_l_other_page : FnScope ["_law_bag", "_law_told", "_law_spot", "_law_colours", "_law_page", "_law_k", "_law_cell", "_law_kept"] ["_law_bag", "_law_told", "_law_spot", "_law_colours"] (defScope s_l_other_page) := ⟨rfl, rfl, rfl, by decide +kernel, rfl, by decide +kernel, by decide +kernel⟩
/-! is_integer -/
abbrev s_is_integer_g : Stmt := top 10
theorem sc_is_integer_g : FnScope ["thing"] ["thing"] (defScope s_is_integer_g) := ⟨rfl, rfl, rfl, by decide +kernel, rfl, by decide +kernel, by decide +kernel⟩
/-! is_cell -/
abbrev s_is_cell_g : Stmt := top 21
theorem sc_is_cell_g : FnScope ["thing"] ["thing"] (defScope s_is_cell_g) := ⟨rfl, rfl, rfl, by decide +kernel, rfl, by decide +kernel, by decide +kernel⟩
/-! Picture.__contains__ -/
abbrev s_Picture_contains : Stmt := inClass (top 25) 5
theorem sc_Picture_contains : FnScope ["self", "x"] ["self", "x"] (defScope s_Picture_contains) := ⟨rfl, rfl, rfl, by decide +kernel, rfl, by decide +kernel, by decide +kernel⟩
/-! Picture.__getitem__ -/
abbrev s_Picture_getitem : Stmt := inClass (top 25) 4
theorem sc_Picture_getitem : FnScope ["self", "at"] ["self", "at"] (defScope s_Picture_getitem) := ⟨rfl, rfl, rfl, by decide +kernel, rfl, by decide +kernel, by decide +kernel⟩
/-! fits -/
abbrev s_fits_g : Stmt := top 38
theorem sc_fits_g : FnScope ["rule", "here", "around", "_", "side", "beside", "colour"] ["rule", "here", "around"] (defScope s_fits_g) := ⟨rfl, rfl, rfl, by decide +kernel, rfl, by decide +kernel, by decide +kernel⟩
/-! counting_rule -/
abbrev s_counting_rule_g : Stmt := top 39
theorem sc_counting_rule_g : FnScope ["rules", "here", "around", "number", "rule"] ["rules", "here", "around"] (defScope s_counting_rule_g) := ⟨rfl, rfl, rfl, by decide +kernel, rfl, by decide +kernel, by decide +kernel⟩
/-! Book.counting -/
abbrev s_Book_counting : Stmt := inClass (top 41) 8
theorem sc_Book_counting : FnScope ["self", "page", "cell", "other"] ["self", "page", "cell"] (defScope s_Book_counting) := ⟨rfl, rfl, rfl, by decide +kernel, rfl, by decide +kernel, by decide +kernel⟩
/-! Book.inks_at -/
abbrev s_Book_inks_at : Stmt := inClass (top 41) 9
theorem sc_Book_inks_at : FnScope ["self", "page", "cell"] ["self", "page", "cell"] (defScope s_Book_inks_at) := ⟨rfl, rfl, rfl, by decide +kernel, rfl, by decide +kernel, by decide +kernel⟩
/-! is_within -/
abbrev s_is_within_g : Stmt := top 11
theorem sc_is_within_g : FnScope ["thing", "low", "high"] ["thing", "low", "high"] (defScope s_is_within_g) := ⟨rfl, rfl, rfl, by decide +kernel, rfl, by decide +kernel, by decide +kernel⟩
/-! _is_inked -/
abbrev s_is_inked_f : Stmt := top 24
theorem sc_is_inked_f : FnScope ["triple", "row", "column", "colour"] ["triple"] (defScope s_is_inked_f) := ⟨rfl, rfl, rfl, by decide +kernel, rfl, by decide +kernel, by decide +kernel⟩
/-! Picture.__init__ -/
abbrev s_Picture_init : Stmt := inClass (top 25) 0
theorem sc_Picture_init : FnScope ["self", "cells", "told", "number", "triple", "row", "column", "colour"] ["self", "cells"] (defScope s_Picture_init) := ⟨rfl, rfl, rfl, by decide +kernel, rfl, by decide +kernel, by decide +kernel⟩
/-! _law_fits_of -/
abbrev s_l_fits_of : Stmt := top 65
theorem sc_l_fits_of : FnScope ["_law_rule", "_law_colour", "_law_around"] ["_law_rule", "_law_colour", "_law_around"] (defScope s_l_fits_of) := ⟨rfl, rfl, rfl, by decide +kernel, rfl, by decide +kernel, by decide +kernel⟩
/-! _law_reads -/
abbrev s_l_reads : Stmt := top 66
theorem sc_l_reads : FnScope ["_law_rules", "_law_page", "_law_cell", "_law_around", "_law_one", "_law_k", "_law_rule"] ["_law_rules", "_law_page", "_law_cell"] (defScope s_l_reads) := ⟨rfl, rfl, rfl, by decide +kernel, rfl, by decide +kernel, by decide +kernel⟩
/-! _law_prints -/
abbrev s_l_prints : Stmt := top 67
theorem sc_l_prints : FnScope ["_law_rules", "_law_page", "_law_cell", "_law_number"] ["_law_rules", "_law_page", "_law_cell"] (defScope s_l_prints) := ⟨rfl, rfl, rfl, by decide +kernel, rfl, by decide +kernel, by decide +kernel⟩
/-! law -/
abbrev s_law_g : Stmt := top 78
theorem sc_law_g : FnScope ["_law_script", "_law_bag", "_law_world", "_law_rules", "_law_spot", "_law_away", "_law_colours", "_law_told", "_law_inks", "_law_book", "_law_k", "_law_page"] ["_law_script"] (defScope s_law_g) := ⟨rfl, rfl, rfl, by decide +kernel, rfl, by decide +kernel, by decide +kernel⟩
/-! what the top has written -/
structure Fa where
  l_bag_of : Addr
  l_pick : Addr
  l_one_of : Addr
  l_word_of : Addr
  l_words : Addr
  l_ink : Addr
  l_world_of : Addr
  l_mixed_of : Addr
  l_some : Addr
  l_side_rule : Addr
  l_inks_for : Addr
  l_rules_of : Addr
  l_long_rules : Addr
  l_around_of : Addr
  l_told_of : Addr
  plain_g : Addr
  is_tuple_g : Addr
  is_word_g : Addr
  is_hue_g : Addr
  is_ascending_g : Addr
  are_inks_f : Addr
  is_rule_g : Addr
  Book_init : Addr
  l_listed : Addr
  l_side_of : Addr
  l_read : Addr
  l_triples : Addr
  by_cells_f : Addr
  neighbours_g : Addr
  fit_f : Addr
  counting_told_g : Addr
  inks_of_g : Addr
  reading_g : Addr
  read_told_g : Addr
  l_is_int : Addr
  l_same : Addr
  l_tupled : Addr
  l_led : Addr
  l_other_page : Addr
  is_integer_g : Addr
  is_cell_g : Addr
  Picture_contains : Addr
  Picture_getitem : Addr
  fits_g : Addr
  counting_rule_g : Addr
  Book_counting : Addr
  Book_inks_at : Addr
  is_within_g : Addr
  is_inked_f : Addr
  Picture_init : Addr
  l_fits_of : Addr
  l_reads : Addr
  l_prints : Addr
  law_g : Addr
  k_MET : Addr
  k_SIDES : Addr
  k_UNMET : Addr
  d_Book_init_0 : Addr
  d_Picture_init_0 : Addr
structure Fd where
  l_bag_of : FuncData
  l_pick : FuncData
  l_one_of : FuncData
  l_word_of : FuncData
  l_words : FuncData
  l_ink : FuncData
  l_world_of : FuncData
  l_mixed_of : FuncData
  l_some : FuncData
  l_side_rule : FuncData
  l_inks_for : FuncData
  l_rules_of : FuncData
  l_long_rules : FuncData
  l_around_of : FuncData
  l_told_of : FuncData
  plain_g : FuncData
  is_tuple_g : FuncData
  is_word_g : FuncData
  is_hue_g : FuncData
  is_ascending_g : FuncData
  are_inks_f : FuncData
  is_rule_g : FuncData
  Book_init : FuncData
  l_listed : FuncData
  l_side_of : FuncData
  l_read : FuncData
  l_triples : FuncData
  by_cells_f : FuncData
  neighbours_g : FuncData
  fit_f : FuncData
  counting_told_g : FuncData
  inks_of_g : FuncData
  reading_g : FuncData
  read_told_g : FuncData
  l_is_int : FuncData
  l_same : FuncData
  l_tupled : FuncData
  l_led : FuncData
  l_other_page : FuncData
  is_integer_g : FuncData
  is_cell_g : FuncData
  Picture_contains : FuncData
  Picture_getitem : FuncData
  fits_g : FuncData
  counting_rule_g : FuncData
  Book_counting : FuncData
  Book_inks_at : FuncData
  is_within_g : FuncData
  is_inked_f : FuncData
  Picture_init : FuncData
  l_fits_of : FuncData
  l_reads : FuncData
  l_prints : FuncData
  law_g : FuncData
structure Tx (K : PySem.W.Frag) (mg : Str → Option Value) (A : Ad) (fa : Fa) (fd : Fd) : Prop where
  F_l_bag_of : Fun K "_law_bag_of" "_law_bag_of" s_l_bag_of fa.l_bag_of fd.l_bag_of
  B_l_bag_of : Binds K fd.l_bag_of ["_law_script", "_law_at"] []
  g_l_bag_of : mg "_law_bag_of" = some (.ref fa.l_bag_of)
  F_l_pick : Fun K "_law_pick" "_law_pick" s_l_pick fa.l_pick fd.l_pick
  B_l_pick : Binds K fd.l_pick ["_law_bag", "_law_many"] []
  g_l_pick : mg "_law_pick" = some (.ref fa.l_pick)
  F_l_one_of : Fun K "_law_one_of" "_law_one_of" s_l_one_of fa.l_one_of fd.l_one_of
  B_l_one_of : Binds K fd.l_one_of ["_law_bag", "_law_row"] []
  g_l_one_of : mg "_law_one_of" = some (.ref fa.l_one_of)
  F_l_word_of : Fun K "_law_word_of" "_law_word_of" s_l_word_of fa.l_word_of fd.l_word_of
  B_l_word_of : Binds K fd.l_word_of ["_law_bag", "_law_taken"] []
  g_l_word_of : mg "_law_word_of" = some (.ref fa.l_word_of)
  F_l_words : Fun K "_law_words" "_law_words" s_l_words fa.l_words fd.l_words
  B_l_words : Binds K fd.l_words ["_law_bag", "_law_many", "_law_taken"] []
  g_l_words : mg "_law_words" = some (.ref fa.l_words)
  F_l_ink : Fun K "_law_ink" "_law_ink" s_l_ink fa.l_ink fd.l_ink
  B_l_ink : Binds K fd.l_ink ["_law_bag", "_law_name", "_law_own", "_law_hues"] []
  g_l_ink : mg "_law_ink" = some (.ref fa.l_ink)
  F_l_world_of : Fun K "_law_world_of" "_law_world_of" s_l_world_of fa.l_world_of fd.l_world_of
  B_l_world_of : Binds K fd.l_world_of ["_law_bag"] []
  g_l_world_of : mg "_law_world_of" = some (.ref fa.l_world_of)
  F_l_mixed_of : Fun K "_law_mixed_of" "_law_mixed_of" s_l_mixed_of fa.l_mixed_of fd.l_mixed_of
  B_l_mixed_of : Binds K fd.l_mixed_of ["_law_bag", "_law_row"] []
  g_l_mixed_of : mg "_law_mixed_of" = some (.ref fa.l_mixed_of)
  F_l_some : Fun K "_law_some" "_law_some" s_l_some fa.l_some fd.l_some
  B_l_some : Binds K fd.l_some ["_law_bag", "_law_names", "_law_most"] []
  g_l_some : mg "_law_some" = some (.ref fa.l_some)
  F_l_side_rule : Fun K "_law_side_rule" "_law_side_rule" s_l_side_rule fa.l_side_rule fd.l_side_rule
  B_l_side_rule : Binds K fd.l_side_rule ["_law_bag", "_law_world"] []
  g_l_side_rule : mg "_law_side_rule" = some (.ref fa.l_side_rule)
  F_l_inks_for : Fun K "_law_inks_for" "_law_inks_for" s_l_inks_for fa.l_inks_for fd.l_inks_for
  B_l_inks_for : Binds K fd.l_inks_for ["_law_bag", "_law_world", "_law_colour"] []
  g_l_inks_for : mg "_law_inks_for" = some (.ref fa.l_inks_for)
  F_l_rules_of : Fun K "_law_rules_of" "_law_rules_of" s_l_rules_of fa.l_rules_of fd.l_rules_of
  B_l_rules_of : Binds K fd.l_rules_of ["_law_bag", "_law_world", "_law_sides"] []
  g_l_rules_of : mg "_law_rules_of" = some (.ref fa.l_rules_of)
  F_l_long_rules : Fun K "_law_long_rules" "_law_long_rules" s_l_long_rules fa.l_long_rules fd.l_long_rules
  B_l_long_rules : Binds K fd.l_long_rules ["_law_bag", "_law_world"] []
  g_l_long_rules : mg "_law_long_rules" = some (.ref fa.l_long_rules)
  F_l_around_of : Fun K "_law_around_of" "_law_around_of" s_l_around_of fa.l_around_of fd.l_around_of
  B_l_around_of : Binds K fd.l_around_of ["_law_cell"] []
  g_l_around_of : mg "_law_around_of" = some (.ref fa.l_around_of)
  F_l_told_of : Fun K "_law_told_of" "_law_told_of" s_l_told_of fa.l_told_of fd.l_told_of
  B_l_told_of : Binds K fd.l_told_of ["_law_bag", "_law_spot", "_law_colours"] []
  g_l_told_of : mg "_law_told_of" = some (.ref fa.l_told_of)
  F_plain_g : Fun K "plain" "plain" s_plain_g fa.plain_g fd.plain_g
  B_plain_g : Binds K fd.plain_g ["thing"] []
  g_plain_g : mg "plain" = some (.ref fa.plain_g)
  F_is_tuple_g : Fun K "is_tuple" "is_tuple" s_is_tuple_g fa.is_tuple_g fd.is_tuple_g
  B_is_tuple_g : Binds K fd.is_tuple_g ["thing", "least", "most"] []
  g_is_tuple_g : mg "is_tuple" = some (.ref fa.is_tuple_g)
  F_is_word_g : Fun K "is_word" "is_word" s_is_word_g fa.is_word_g fd.is_word_g
  B_is_word_g : Binds K fd.is_word_g ["thing"] []
  g_is_word_g : mg "is_word" = some (.ref fa.is_word_g)
  F_is_hue_g : Fun K "is_hue" "is_hue" s_is_hue_g fa.is_hue_g fd.is_hue_g
  B_is_hue_g : Binds K fd.is_hue_g ["thing"] []
  g_is_hue_g : mg "is_hue" = some (.ref fa.is_hue_g)
  F_is_ascending_g : Fun K "is_ascending" "is_ascending" s_is_ascending_g fa.is_ascending_g fd.is_ascending_g
  B_is_ascending_g : Binds K fd.is_ascending_g ["things"] []
  g_is_ascending_g : mg "is_ascending" = some (.ref fa.is_ascending_g)
  F_are_inks_f : Fun K "_are_inks" "_are_inks" s_are_inks_f fa.are_inks_f fd.are_inks_f
  B_are_inks_f : Binds K fd.are_inks_f ["inks"] []
  g_are_inks_f : mg "_are_inks" = some (.ref fa.are_inks_f)
  F_is_rule_g : Fun K "is_rule" "is_rule" s_is_rule_g fa.is_rule_g fd.is_rule_g
  B_is_rule_g : Binds K fd.is_rule_g ["rule"] []
  g_is_rule_g : mg "is_rule" = some (.ref fa.is_rule_g)
  F_Book_init : FunD K "__init__" "Book.__init__" (defArgs s_Book_init) (defBody s_Book_init) (defScope s_Book_init) [.ref fa.d_Book_init_0] [] fa.Book_init fd.Book_init
  B_Book_init : Binds K fd.Book_init ["self", "rules"] []
  mk_Book : Mk K A.Book fa.Book_init
  F_l_listed : Fun K "_law_listed" "_law_listed" s_l_listed fa.l_listed fd.l_listed
  B_l_listed : Binds K fd.l_listed ["_law_thing"] []
  g_l_listed : mg "_law_listed" = some (.ref fa.l_listed)
  F_l_side_of : Fun K "_law_side_of" "_law_side_of" s_l_side_of fa.l_side_of fd.l_side_of
  B_l_side_of : Binds K fd.l_side_of ["_law_rule", "_law_told", "_law_around"] []
  g_l_side_of : mg "_law_side_of" = some (.ref fa.l_side_of)
  F_l_read : Fun K "_law_read" "_law_read" s_l_read fa.l_read fd.l_read
  B_l_read : Binds K fd.l_read ["_law_rules", "_law_told", "_law_cell"] []
  g_l_read : mg "_law_read" = some (.ref fa.l_read)
  F_l_triples : Fun K "_law_triples" "_law_triples" s_l_triples fa.l_triples fd.l_triples
  B_l_triples : Binds K fd.l_triples ["_law_seen"] []
  g_l_triples : mg "_law_triples" = some (.ref fa.l_triples)
  F_by_cells_f : Fun K "_by_cells" "_by_cells" s_by_cells_f fa.by_cells_f fd.by_cells_f
  B_by_cells_f : Binds K fd.by_cells_f ["told"] []
  g_by_cells_f : mg "_by_cells" = some (.ref fa.by_cells_f)
  F_neighbours_g : Fun K "neighbours" "neighbours" s_neighbours_g fa.neighbours_g fd.neighbours_g
  B_neighbours_g : Binds K fd.neighbours_g ["cell"] []
  g_neighbours_g : mg "neighbours" = some (.ref fa.neighbours_g)
  F_fit_f : Fun K "_fit" "_fit" s_fit_f fa.fit_f fd.fit_f
  B_fit_f : Binds K fd.fit_f ["rule", "told", "cell"] []
  g_fit_f : mg "_fit" = some (.ref fa.fit_f)
  F_counting_told_g : Fun K "counting_told" "counting_told" s_counting_told_g fa.counting_told_g fd.counting_told_g
  B_counting_told_g : Binds K fd.counting_told_g ["rules", "told", "cell"] []
  g_counting_told_g : mg "counting_told" = some (.ref fa.counting_told_g)
  F_inks_of_g : Fun K "inks_of" "inks_of" s_inks_of_g fa.inks_of_g fd.inks_of_g
  B_inks_of_g : Binds K fd.inks_of_g ["rules", "number"] []
  g_inks_of_g : mg "inks_of" = some (.ref fa.inks_of_g)
  F_reading_g : Fun K "reading" "reading" s_reading_g fa.reading_g fd.reading_g
  B_reading_g : Binds K fd.reading_g ["rules", "told", "cell"] []
  g_reading_g : mg "reading" = some (.ref fa.reading_g)
  F_read_told_g : Fun K "read_told" "read_told" s_read_told_g fa.read_told_g fd.read_told_g
  B_read_told_g : Binds K fd.read_told_g ["book", "told", "cell"] []
  g_read_told_g : mg "read_told" = some (.ref fa.read_told_g)
  F_l_is_int : Fun K "_law_is_int" "_law_is_int" s_l_is_int fa.l_is_int fd.l_is_int
  B_l_is_int : Binds K fd.l_is_int ["_law_thing"] []
  g_l_is_int : mg "_law_is_int" = some (.ref fa.l_is_int)
  F_l_same : Fun K "_law_same" "_law_same" s_l_same fa.l_same fd.l_same
  B_l_same : Binds K fd.l_same ["_law_told", "_law_wanted"] []
  g_l_same : mg "_law_same" = some (.ref fa.l_same)
  F_l_tupled : Fun K "_law_tupled" "_law_tupled" s_l_tupled fa.l_tupled fd.l_tupled
  B_l_tupled : Binds K fd.l_tupled ["_law_thing"] []
  g_l_tupled : mg "_law_tupled" = some (.ref fa.l_tupled)
  F_l_led : Fun K "_law_led" "_law_led" s_l_led fa.l_led fd.l_led
  B_l_led : Binds K fd.l_led ["_law_bag", "_law_rules", "_law_told", "_law_spot", "_law_colours"] []
  g_l_led : mg "_law_led" = some (.ref fa.l_led)
  F_l_other_page : Fun K "_law_other_page" "_law_other_page" s_l_other_page fa.l_other_page fd.l_other_page
  B_l_other_page : Binds K fd.l_other_page ["_law_bag", "_law_told", "_law_spot", "_law_colours"] []
  g_l_other_page : mg "_law_other_page" = some (.ref fa.l_other_page)
  F_is_integer_g : Fun K "is_integer" "is_integer" s_is_integer_g fa.is_integer_g fd.is_integer_g
  B_is_integer_g : Binds K fd.is_integer_g ["thing"] []
  g_is_integer_g : mg "is_integer" = some (.ref fa.is_integer_g)
  F_is_cell_g : Fun K "is_cell" "is_cell" s_is_cell_g fa.is_cell_g fd.is_cell_g
  B_is_cell_g : Binds K fd.is_cell_g ["thing"] []
  g_is_cell_g : mg "is_cell" = some (.ref fa.is_cell_g)
  F_Picture_contains : Fun K "__contains__" "Picture.__contains__" s_Picture_contains fa.Picture_contains fd.Picture_contains
  B_Picture_contains : Binds K fd.Picture_contains ["self", "x"] []
  M_Picture_contains : Meth K A.Picture "__contains__" fa.Picture_contains
  F_Picture_getitem : Fun K "__getitem__" "Picture.__getitem__" s_Picture_getitem fa.Picture_getitem fd.Picture_getitem
  B_Picture_getitem : Binds K fd.Picture_getitem ["self", "at"] []
  M_Picture_getitem : Meth K A.Picture "__getitem__" fa.Picture_getitem
  F_fits_g : Fun K "fits" "fits" s_fits_g fa.fits_g fd.fits_g
  B_fits_g : Binds K fd.fits_g ["rule", "here", "around"] []
  g_fits_g : mg "fits" = some (.ref fa.fits_g)
  F_counting_rule_g : Fun K "counting_rule" "counting_rule" s_counting_rule_g fa.counting_rule_g fd.counting_rule_g
  B_counting_rule_g : Binds K fd.counting_rule_g ["rules", "here", "around"] []
  g_counting_rule_g : mg "counting_rule" = some (.ref fa.counting_rule_g)
  F_Book_counting : Fun K "counting" "Book.counting" s_Book_counting fa.Book_counting fd.Book_counting
  B_Book_counting : Binds K fd.Book_counting ["self", "page", "cell"] []
  M_Book_counting : Meth K A.Book "counting" fa.Book_counting
  F_Book_inks_at : Fun K "inks_at" "Book.inks_at" s_Book_inks_at fa.Book_inks_at fd.Book_inks_at
  B_Book_inks_at : Binds K fd.Book_inks_at ["self", "page", "cell"] []
  M_Book_inks_at : Meth K A.Book "inks_at" fa.Book_inks_at
  F_is_within_g : Fun K "is_within" "is_within" s_is_within_g fa.is_within_g fd.is_within_g
  B_is_within_g : Binds K fd.is_within_g ["thing", "low", "high"] []
  g_is_within_g : mg "is_within" = some (.ref fa.is_within_g)
  F_is_inked_f : Fun K "_is_inked" "_is_inked" s_is_inked_f fa.is_inked_f fd.is_inked_f
  B_is_inked_f : Binds K fd.is_inked_f ["triple"] []
  g_is_inked_f : mg "_is_inked" = some (.ref fa.is_inked_f)
  F_Picture_init : FunD K "__init__" "Picture.__init__" (defArgs s_Picture_init) (defBody s_Picture_init) (defScope s_Picture_init) [.ref fa.d_Picture_init_0] [] fa.Picture_init fd.Picture_init
  B_Picture_init : Binds K fd.Picture_init ["self", "cells"] []
  mk_Picture : Mk K A.Picture fa.Picture_init
  F_l_fits_of : Fun K "_law_fits_of" "_law_fits_of" s_l_fits_of fa.l_fits_of fd.l_fits_of
  B_l_fits_of : Binds K fd.l_fits_of ["_law_rule", "_law_colour", "_law_around"] []
  g_l_fits_of : mg "_law_fits_of" = some (.ref fa.l_fits_of)
  F_l_reads : Fun K "_law_reads" "_law_reads" s_l_reads fa.l_reads fd.l_reads
  B_l_reads : Binds K fd.l_reads ["_law_rules", "_law_page", "_law_cell"] []
  g_l_reads : mg "_law_reads" = some (.ref fa.l_reads)
  F_l_prints : Fun K "_law_prints" "_law_prints" s_l_prints fa.l_prints fd.l_prints
  B_l_prints : Binds K fd.l_prints ["_law_rules", "_law_page", "_law_cell"] []
  g_l_prints : mg "_law_prints" = some (.ref fa.l_prints)
  F_law_g : Fun K "law" "law" s_law_g fa.law_g fd.law_g
  B_law_g : Binds K fd.law_g ["_law_script"] []
  g_law_g : mg "law" = some (.ref fa.law_g)
  B1_Book_init : Binds K fd.Book_init ["self", "rules"] [.ref fa.d_Book_init_0]
  d_Book_init_0 : ∀ F, Rp K F (.tuk []) (.ref fa.d_Book_init_0)
  fn_Picture_getitem : PySem.W.fnIn K fa.Picture_getitem = true
  L_Book : Cls K A.Book
  c_Book : mg "Book" = some (.ref A.Book)
  L_Picture : Cls K A.Picture
  c_Picture : mg "Picture" = some (.ref A.Picture)
  n_Book_rules : ∀ C ∈ [A.Book], Cls K C ∧ NoAttr K C "rules"
  n_Picture_colours : ∀ C ∈ [A.Picture], Cls K C ∧ NoAttr K C "_colours"
  n_Picture_cells : ∀ C ∈ [A.Picture], Cls K C ∧ NoAttr K C "cells"
  b_abs : mg "abs" = none
  b_all : mg "all" = none
  b_bool : mg "bool" = none
  b_enumerate : mg "enumerate" = none
  b_int : mg "int" = none
  b_isinstance : mg "isinstance" = none
  b_len : mg "len" = none
  b_list : mg "list" = none
  b_min : mg "min" = none
  b_range : mg "range" = none
  b_sorted : mg "sorted" = none
  b_str : mg "str" = none
  b_tuple : mg "tuple" = none
  k_LETTERS : ∃ t, mg "LETTERS" = some (.str "abcdefghijklmnopqrstuvwxyz" t)
  k_MET : mg "MET" = some (.ref fa.k_MET)
  v_MET : ∀ F, Rp K F (.tuk [(.str "met")]) (.ref fa.k_MET)
  k_SIDES : mg "SIDES" = some (.ref fa.k_SIDES)
  v_SIDES : ∀ F, Rp K F (.tuk [(.str "up"), (.str "left"), (.str "right"), (.str "down"), (.str "near"), (.str "hemmed")]) (.ref fa.k_SIDES)
  k_UNMET : mg "UNMET" = some (.ref fa.k_UNMET)
  v_UNMET : ∀ F, Rp K F (.tuk [(.str "unmet")]) (.ref fa.k_UNMET)
  k_WHITE : ∃ t, mg "WHITE" = some (.str "white" t)
  l_SIDES : ∃ o, K.lookup fa.k_SIDES = some o ∧ o.cls = .type "tuple" ∧ o.dict = none
variable {P : Program} {w : World} {K : PySem.W.Frag} {mg : Str → Option Value} {base : Heap} {A : Ad} {fa : Fa} {fd : Fd}
/-! ### _law_bag_of -/
theorem ok_l_bag_of (T : Tx K mg A fa fd) : FnOk P w K mg base CX0 1 fa.l_bag_of fd.l_bag_of ["_law_script", "_law_at"] (spM K (f_l_bag_of A)) := by
  refine fn_okN2 rfl rfl T.F_l_bag_of sc_l_bag_of (fun cdv B outer s H E hr => ?_)
  have C : CSs (cxOf CX0 P w K mg base ["_law_script", "_law_at", "_law_total", "_law_k", "_law_cell", "_law_state", "_law_source"] "_law_bag_of" (defScope s_l_bag_of) fa.l_bag_of cdv B outer s H E).nox K W0 (defBody s_l_bag_of) _ (m_l_bag_of A) := (s_cons (s_set 2 sc_l_bag_of.nd rfl (by first | exact Or.inl rfl | exact Or.inr rfl) (c_add rfl (c_mul c_i (c_v 1)) c_i))
  (s_cons (s_for PassesOwn.never rfl (i_enumA rfl T.b_enumerate rfl (a_cons (c_v 0) a_nil)) (g_tup rfl rfl (g_cons (g_n 3 sc_l_bag_of.nd rfl (by first | exact Or.inl rfl | exact Or.inr rfl)) (g_cons (g_n 4 sc_l_bag_of.nd rfl (by first | exact Or.inl rfl | exact Or.inr rfl)) g_nil))) (s_one (s_set 2 sc_l_bag_of.nd rfl (by first | exact Or.inl rfl | exact Or.inr rfl) (c_mod (c_int rfl T.b_int (c_add rfl (c_add rfl (c_add rfl (c_mul (c_v 2) c_i) (c_mul (c_abs rfl T.b_abs (c_v 4)) c_i)) (c_if (t_lt (c_v 4) c_i) c_i c_i)) (c_v 3))) c_i))))
  (s_cons (s_set 4 sc_l_bag_of.nd rfl (by first | exact Or.inl rfl | exact Or.inr rfl) (c_if (t_lt (c_v 1) (c_len rfl T.b_len rfl (c_v 0))) (c_ix (fun _ _ => rfl) rfl (c_v 0) (c_v 1)) (c_v 2)))
  (s_cons (s_set 5 sc_l_bag_of.nd rfl (by first | exact Or.inl rfl | exact Or.inr rfl) (c_mod (c_int rfl T.b_int (c_add rfl (c_add rfl (c_add rfl (c_mul (c_abs rfl T.b_abs (c_v 4)) c_i) (c_if (t_lt (c_v 4) c_i) c_i c_i)) (c_mul c_i (c_v 1))) c_i)) c_i))
  (s_cons (s_for PassesOwn.never rfl (i_r1 rfl T.b_range (a_cons c_i a_nil)) (g_n 3 sc_l_bag_of.nd rfl (by first | exact Or.inl rfl | exact Or.inr rfl)) (s_one (s_set 5 sc_l_bag_of.nd rfl (by first | exact Or.inl rfl | exact Or.inr rfl) (c_mod (c_int rfl T.b_int (c_add rfl (c_add rfl (c_mul (c_v 5) c_i) c_i) (c_v 3))) c_i))))
  (s_cons (s_set 6 sc_l_bag_of.nd rfl (by first | exact Or.inl rfl | exact Or.inr rfl) (c_if (t_ge (c_abs rfl T.b_abs (c_v 4)) (c_pow c_i c_i)) (c_sub (c_abs rfl T.b_abs (c_v 4)) (c_pow c_i c_i)) c_i))
  (s_one (s_ret (c_lst (a_cons (c_v 6) (a_cons (c_v 5) (a_cons c_i a_nil))))))))))))
  exact ⟨_, C.p, C.v⟩
/-! ### _law_pick -/
theorem ok_l_pick (T : Tx K mg A fa fd) : FnOk P w K mg base CX0 1 fa.l_pick fd.l_pick ["_law_bag", "_law_many"] (spM K (f_l_pick A)) := by
  refine fn_okN2 rfl rfl T.F_l_pick sc_l_pick (fun cdv B outer s H E hr => ?_)
  have C : CSs (cxOf CX0 P w K mg base ["_law_bag", "_law_many", "_law_drawn", "_law_mixed"] "_law_pick" (defScope s_l_pick) fa.l_pick cdv B outer s H E).nox K W0 (defBody s_l_pick) _ (m_l_pick A) := (s_cons (s_if (t_lt (c_v 1) c_i) (s_one (s_ret c_i)) s_nil)
  (s_cons (s_if (t_gt (c_ix (fun _ _ => rfl) rfl (c_v 0) c_i) c_i) (s_cons (s_set 2 sc_l_pick.nd rfl (by first | exact Or.inl rfl | exact Or.inr rfl) (c_mod (c_int rfl T.b_int (c_ix (fun _ _ => rfl) rfl (c_v 0) c_i)) (c_v 1)))
  (s_cons (s_setL 0 rfl (by first | exact Or.inl rfl | exact Or.inr (Or.inl rfl) | exact Or.inr (Or.inr rfl)) (c_fdiv (c_ix (fun _ _ => rfl) rfl (c_v 0) c_i) (c_v 1)) c_i)
  (s_one (s_ret (c_v 2))))) s_nil)
  (s_cons (s_setL 0 rfl (by first | exact Or.inl rfl | exact Or.inr (Or.inl rfl) | exact Or.inr (Or.inr rfl)) (c_add rfl (c_ix (fun _ _ => rfl) rfl (c_v 0) c_i) c_i) c_i)
  (s_cons (s_setL 0 rfl (by first | exact Or.inl rfl | exact Or.inr (Or.inl rfl) | exact Or.inr (Or.inr rfl)) (c_mod (c_int rfl T.b_int (c_add rfl (c_add rfl (c_mul (c_ix (fun _ _ => rfl) rfl (c_v 0) c_i) c_i) (c_mul (c_ix (fun _ _ => rfl) rfl (c_v 0) c_i) c_i)) c_i)) c_i) c_i)
  (s_cons (s_set 3 sc_l_pick.nd rfl (by first | exact Or.inl rfl | exact Or.inr rfl) (c_mod (c_int rfl T.b_int (c_add rfl (c_mul (c_ix (fun _ _ => rfl) rfl (c_v 0) c_i) c_i) (c_fdiv (c_ix (fun _ _ => rfl) rfl (c_v 0) c_i) c_i))) c_i))
  (s_one (s_ret (c_mod (c_int rfl T.b_int (c_fdiv (c_v 3) c_i)) (c_v 1)))))))))
  exact ⟨_, C.p, C.v⟩
/-! ### _law_one_of -/
theorem ok_l_one_of (T : Tx K mg A fa fd) : FnOk P w K mg base CX0 2 fa.l_one_of fd.l_one_of ["_law_bag", "_law_row"] (spM K (f_l_one_of A)) := by
  refine fn_okN2 rfl rfl T.F_l_one_of sc_l_one_of (fun cdv B outer s H E hr => ?_)
  have C : CSs (cxOf CX0 P w K mg base ["_law_bag", "_law_row"] "_law_one_of" (defScope s_l_one_of) fa.l_one_of cdv B outer s H E).nox K W0 (defBody s_l_one_of) _ (m_l_one_of A) := (s_one (s_ret (c_ix (fun _ _ => rfl) rfl (c_v 1) (c_call (ok_l_pick T) (hr.mono (by first | decide | omega)) rfl T.g_l_pick T.F_l_pick.kp T.B_l_pick .nil (fun _ => .nil) (a_ref 0 (a_cons (c_len rfl T.b_len rfl (c_v 1)) a_nil))))))
  exact ⟨_, C.p, C.v⟩
/-! ### _law_word_of -/
theorem ok_l_word_of (T : Tx K mg A fa fd) : FnOk P w K mg base CX0 2 fa.l_word_of fd.l_word_of ["_law_bag", "_law_taken"] (spM K (f_l_word_of A)) := by
  refine fn_okN2 rfl rfl T.F_l_word_of sc_l_word_of (fun cdv B outer s H E hr => ?_)
  have C : CSs (cxOf CX0 P w K mg base ["_law_bag", "_law_taken", "_law_letters", "_law_size", "_law_word", "_law_k"] "_law_word_of" (defScope s_l_word_of) fa.l_word_of cdv B outer s H E).nox K W0 (defBody s_l_word_of) _ (m_l_word_of A) := (s_cons (s_set 2 sc_l_word_of.nd rfl (by first | exact Or.inl rfl | exact Or.inr rfl) c_s)
  (s_cons (s_set 3 sc_l_word_of.nd rfl (by first | exact Or.inl rfl | exact Or.inr rfl) (c_add rfl c_i (c_call (ok_l_pick T) (hr.mono (by first | decide | omega)) rfl T.g_l_pick T.F_l_pick.kp T.B_l_pick .nil (fun _ => .nil) (a_ref 0 (a_cons c_i a_nil)))))
  (s_cons (s_set 4 sc_l_word_of.nd rfl (by first | exact Or.inl rfl | exact Or.inr rfl) (c_join rfl (c_lc (own := [("_law_k", 5)]) rfl sc_l_word_of.nd (blkOk_by (N := ["_law_bag", "_law_taken", "_law_letters", "_law_size", "_law_word", "_law_k"]) (sc := defScope s_l_word_of) (by decide +kernel)) (by decide) (i_r1 rfl T.b_range (a_cons (c_v 3) a_nil)) (fun _ _ _ _ _ => (g_n 5 sc_l_word_of.nd rfl (by first | exact Or.inl rfl | exact Or.inr rfl))) (fun _ _ _ _ _ => ts_nil) (fun _ _ _ _ _ => (c_ix (fun _ _ => rfl) rfl (c_v 2) (c_call (ok_l_pick T) (hr.mono (by first | decide | omega)) rfl T.g_l_pick T.F_l_pick.kp T.B_l_pick .nil (fun _ => .nil) (a_ref 0 (a_cons c_i a_nil))))) (fun _ => rfl) s H)))
  (s_cons (s_for PassesOwn.never rfl (i_r1 rfl T.b_range (a_cons (c_add rfl (c_len rfl T.b_len rfl (c_v 1)) c_i) a_nil)) (g_n 5 sc_l_word_of.nd rfl (by first | exact Or.inl rfl | exact Or.inr rfl)) (s_cons (s_if (t_notIn hr (by with_unfolding_all rfl) rfl (c_v 4) (c_v 1)) (s_one (s_ret (c_v 4))) s_nil)
  (s_one (s_set 4 sc_l_word_of.nd rfl (by first | exact Or.inl rfl | exact Or.inr rfl) (c_add rfl (c_ix (fun _ _ => rfl) rfl (c_v 2) (c_mod (c_int rfl T.b_int (c_fdiv (c_v 5) c_i)) c_i)) (c_ix (fun _ _ => rfl) rfl (c_v 2) (c_mod (c_int rfl T.b_int (c_v 5)) c_i)))))))
  (s_one (s_ret (c_v 4)))))))
  exact ⟨_, C.p, C.v⟩
/-! ### _law_words -/
theorem ok_l_words (T : Tx K mg A fa fd) : FnOk P w K mg base CX0 3 fa.l_words fd.l_words ["_law_bag", "_law_many", "_law_taken"] (spM K (f_l_words A)) := by
  refine fn_okN2 rfl rfl T.F_l_words sc_l_words (fun cdv B outer s H E hr => ?_)
  have C : CSs (cxOf CX0 P w K mg base ["_law_bag", "_law_many", "_law_taken", "_law_found", "_law_k"] "_law_words" (defScope s_l_words) fa.l_words cdv B outer s H E).nox K W0 (defBody s_l_words) _ (m_l_words A) := (s_cons (s_set 3 sc_l_words.nd rfl (by first | exact Or.inl rfl | exact Or.inr rfl) (c_lst a_nil))
  (s_cons (s_for PassesOwn.never rfl (i_r1 rfl T.b_range (a_cons (c_v 1) a_nil)) (g_n 4 sc_l_words.nd rfl (by first | exact Or.inl rfl | exact Or.inr rfl)) (s_one (s_expr (c_lm 3 PySem.F.slot_list_append PySem.F.type_list_append mt_appendA lm_append rfl (by first | exact Or.inl rfl | exact Or.inr (Or.inl rfl) | exact Or.inr (Or.inr rfl)) rfl (a_cons (c_call (ok_l_word_of T) (hr.mono (by first | decide | omega)) rfl T.g_l_word_of T.F_l_word_of.kp T.B_l_word_of .nil (fun _ => .nil) (a_ref 0 (a_cons (c_add rfl (c_lstOf rfl T.b_list rfl (c_v 2)) (c_v 3)) a_nil))) a_nil)))))
  (s_one (s_ret (c_v 3)))))
  exact ⟨_, C.p, C.v⟩
/-! ### _law_ink -/
theorem ok_l_ink (T : Tx K mg A fa fd) : FnOk P w K mg base CX0 3 fa.l_ink fd.l_ink ["_law_bag", "_law_name", "_law_own", "_law_hues"] (spM K (f_l_ink A)) := by
  refine fn_okN2 rfl rfl T.F_l_ink sc_l_ink (fun cdv B outer s H E hr => ?_)
  have C : CSs (cxOf CX0 P w K mg base ["_law_bag", "_law_name", "_law_own", "_law_hues", "_law_over", "_law_under", "_law_result"] "_law_ink" (defScope s_l_ink) fa.l_ink cdv B outer s H E).nox K W0 (defBody s_l_ink) _ (m_l_ink A) := (s_cons (s_set 4 sc_l_ink.nd rfl (by first | exact Or.inl rfl | exact Or.inr rfl) (c_lst a_nil))
  (s_cons (s_for PassesOwn.never rfl (i_seq rfl (c_sorted rfl T.b_sorted rfl (c_v 3))) (g_n 5 sc_l_ink.nd rfl (by first | exact Or.inl rfl | exact Or.inr rfl)) (s_one (s_if (t_w (w_and (t_ne hr rfl (c_v 5) (c_v 2)) (w_and1 (t_eq hr rfl (c_call (ok_l_pick T) (hr.mono (by first | decide | omega)) rfl T.g_l_pick T.F_l_pick.kp T.B_l_pick .nil (fun _ => .nil) (a_ref 0 (a_cons c_i a_nil))) c_i)))) (s_cons (s_set 6 sc_l_ink.nd rfl (by first | exact Or.inl rfl | exact Or.inr rfl) (c_call (ok_l_one_of T) (hr.mono (by first | decide | omega)) rfl T.g_l_one_of T.F_l_one_of.kp T.B_l_one_of .nil (fun _ => .nil) (a_ref 0 (a_ref 3 a_nil))))
  (s_cons (s_if (t_eq hr rfl (c_call (ok_l_pick T) (hr.mono (by first | decide | omega)) rfl T.g_l_pick T.F_l_pick.kp T.B_l_pick .nil (fun _ => .nil) (a_ref 0 (a_cons c_i a_nil))) c_i) (s_one (s_set 6 sc_l_ink.nd rfl (by first | exact Or.inl rfl | exact Or.inr rfl) c_s)) s_nil)
  (s_one (s_expr (c_lm 4 PySem.F.slot_list_append PySem.F.type_list_append mt_appendA lm_append rfl (by first | exact Or.inl rfl | exact Or.inr (Or.inl rfl) | exact Or.inr (Or.inr rfl)) rfl (a_cons (c_tup (a_cons (c_v 5) (a_cons (c_v 6) a_nil))) a_nil)))))) s_nil)))
  (s_one (s_ret (c_tup (a_cons (c_v 1) (a_cons (c_v 2) (a_cons (c_tupOf rfl T.b_tuple rfl (c_v 4)) a_nil))))))))
  exact ⟨_, C.p, C.v⟩
/-! ### _law_world_of -/
theorem ok_l_world_of (T : Tx K mg A fa fd) : FnOk P w K mg base CX0 4 fa.l_world_of fd.l_world_of ["_law_bag"] (spM K (f_l_world_of A)) := by
  refine fn_okN2 rfl rfl T.F_l_world_of sc_l_world_of (fun cdv B outer s H E hr => ?_)
  have C : CSs (cxOf CX0 P w K mg base ["_law_bag", "_law_many", "_law_names", "_law_own", "_law_third", "_law_inks", "_law_k", "_law_pool", "_law_palette", "_law_colour"] "_law_world_of" (defScope s_l_world_of) fa.l_world_of cdv B outer s H E).nox K W0 (defBody s_l_world_of) _ (m_l_world_of A) := (s_cons (s_set 1 sc_l_world_of.nd rfl (by first | exact Or.inl rfl | exact Or.inr rfl) (c_call (ok_l_one_of T) (hr.mono (by first | decide | omega)) rfl T.g_l_one_of T.F_l_one_of.kp T.B_l_one_of .nil (fun _ => .nil) (a_ref 0 (a_cons (c_lst (a_cons c_i (a_cons c_i (a_cons c_i (a_cons c_i (a_cons c_i a_nil)))))) a_nil))))
  (s_cons (s_set 2 sc_l_world_of.nd rfl (by first | exact Or.inl rfl | exact Or.inr rfl) (c_call (ok_l_words T) (hr.mono (by first | decide | omega)) rfl T.g_l_words T.F_l_words.kp T.B_l_words .nil (fun _ => .nil) (a_ref 0 (a_cons (c_v 1) (a_cons (c_lst a_nil) a_nil)))))
  (s_cons (s_set 3 sc_l_world_of.nd rfl (by first | exact Or.inl rfl | exact Or.inr rfl) (c_call (ok_l_words T) (hr.mono (by first | decide | omega)) rfl T.g_l_words T.F_l_words.kp T.B_l_words .nil (fun _ => .nil) (a_ref 0 (a_cons (c_v 1) (a_cons (c_lst a_nil) a_nil)))))
  (s_cons (s_set 4 sc_l_world_of.nd rfl (by first | exact Or.inl rfl | exact Or.inr rfl) (c_call (ok_l_words T) (hr.mono (by first | decide | omega)) rfl T.g_l_words T.F_l_words.kp T.B_l_words .nil (fun _ => .nil) (a_ref 0 (a_cons (c_add rfl c_i (c_call (ok_l_pick T) (hr.mono (by first | decide | omega)) rfl T.g_l_pick T.F_l_pick.kp T.B_l_pick .nil (fun _ => .nil) (a_ref 0 (a_cons c_i a_nil)))) (a_cons (c_v 3) a_nil)))))
  (s_cons (s_setLc 5 (own := [("_law_k", 6)]) rfl sc_l_world_of.nd rfl rfl (by with_unfolding_all rfl) (blkOk_by (N := ["_law_bag", "_law_many", "_law_names", "_law_own", "_law_third", "_law_inks", "_law_k", "_law_pool", "_law_palette", "_law_colour"]) (sc := defScope s_l_world_of) (by decide +kernel)) (by decide) (i_r1 rfl T.b_range (a_cons (c_v 1) a_nil)) (fun _ _ _ _ _ => (g_n 6 sc_l_world_of.nd rfl (by first | exact Or.inl rfl | exact Or.inr rfl))) (fun _ _ _ _ _ => ts_nil) (fun _ _ _ _ _ => (c_call (ok_l_ink T) (hr.mono (by first | decide | omega)) rfl T.g_l_ink T.F_l_ink.kp T.B_l_ink .nil (fun _ => .nil) (a_ref 0 (a_cons (c_ix (fun _ _ => rfl) rfl (c_v 2) (c_v 6)) (a_cons (c_ix (fun _ _ => rfl) rfl (c_v 3) (c_v 6)) (a_cons (c_add rfl (c_v 3) (c_v 4)) a_nil)))))) (fun _ => rfl) s H)
  (s_cons (s_set 7 sc_l_world_of.nd rfl (by first | exact Or.inl rfl | exact Or.inr rfl) (c_add rfl (c_add rfl (c_add rfl (c_v 3) (c_v 3)) (c_v 4)) (c_call (ok_l_words T) (hr.mono (by first | decide | omega)) rfl T.g_l_words T.F_l_words.kp T.B_l_words .nil (fun _ => .nil) (a_ref 0 (a_cons c_i (a_cons (c_add rfl (c_v 3) (c_v 4)) a_nil))))))
  (s_cons (s_set 8 sc_l_world_of.nd rfl (by first | exact Or.inl rfl | exact Or.inr rfl) (c_lst a_nil))
  (s_cons (s_for PassesOwn.never rfl (i_r1 rfl T.b_range (a_cons (c_call (ok_l_one_of T) (hr.mono (by first | decide | omega)) rfl T.g_l_one_of T.F_l_one_of.kp T.B_l_one_of .nil (fun _ => .nil) (a_ref 0 (a_cons (c_lst (a_cons c_i (a_cons c_i (a_cons c_i (a_cons c_i (a_cons c_i (a_cons c_i a_nil))))))) a_nil))) a_nil)) (g_n 6 sc_l_world_of.nd rfl (by first | exact Or.inl rfl | exact Or.inr rfl)) (s_cons (s_set 9 sc_l_world_of.nd rfl (by first | exact Or.inl rfl | exact Or.inr rfl) (c_call (ok_l_one_of T) (hr.mono (by first | decide | omega)) rfl T.g_l_one_of T.F_l_one_of.kp T.B_l_one_of .nil (fun _ => .nil) (a_ref 0 (a_cons (c_v 7) a_nil))))
  (s_one (s_if (t_notIn hr (by with_unfolding_all rfl) rfl (c_v 9) (c_v 8)) (s_one (s_expr (c_lm 8 PySem.F.slot_list_append PySem.F.type_list_append mt_appendA lm_append rfl (by first | exact Or.inl rfl | exact Or.inr (Or.inl rfl) | exact Or.inr (Or.inr rfl)) rfl (a_cons (c_v 9) a_nil)))) s_nil))))
  (s_one (s_ret (c_disp (pk_str (c_v 5) (pk_str (c_v 2) (pk_str (c_v 3) (pk_str (c_v 4) (pk_str (c_sorted rfl T.b_sorted rfl (c_add rfl (c_v 3) (c_v 4))) (pk_str (c_sorted rfl T.b_sorted rfl (c_v 8)) pk_nil)))))))))))))))))
  exact ⟨_, C.p, C.v⟩
/-! ### _law_mixed_of -/
theorem ok_l_mixed_of (T : Tx K mg A fa fd) : FnOk P w K mg base CX0 2 fa.l_mixed_of fd.l_mixed_of ["_law_bag", "_law_row"] (spM K (f_l_mixed_of A)) := by
  refine fn_okN2 rfl rfl T.F_l_mixed_of sc_l_mixed_of (fun cdv B outer s H E hr => ?_)
  have C : CSs (cxOf CX0 P w K mg base ["_law_bag", "_law_row", "_law_rest", "_law_found", "_law_k"] "_law_mixed_of" (defScope s_l_mixed_of) fa.l_mixed_of cdv B outer s H E).nox K W0 (defBody s_l_mixed_of) _ (m_l_mixed_of A) := (s_cons (s_set 2 sc_l_mixed_of.nd rfl (by first | exact Or.inl rfl | exact Or.inr rfl) (c_lstOf rfl T.b_list rfl (c_v 1)))
  (s_cons (s_set 3 sc_l_mixed_of.nd rfl (by first | exact Or.inl rfl | exact Or.inr rfl) (c_lst a_nil))
  (s_cons (s_for PassesOwn.never rfl (i_r1 rfl T.b_range (a_cons (c_len rfl T.b_len rfl (c_v 1)) a_nil)) (g_n 4 sc_l_mixed_of.nd rfl (by first | exact Or.inl rfl | exact Or.inr rfl)) (s_one (s_expr (c_lm 3 PySem.F.slot_list_append PySem.F.type_list_append mt_appendA lm_append rfl (by first | exact Or.inl rfl | exact Or.inr (Or.inl rfl) | exact Or.inr (Or.inr rfl)) rfl (a_cons (c_lm 2 PySem.F.slot_list_pop PySem.F.type_list_pop mt_popA lm_pop rfl (by first | exact Or.inl rfl | exact Or.inr (Or.inl rfl) | exact Or.inr (Or.inr rfl)) rfl (a_cons (c_call (ok_l_pick T) (hr.mono (by first | decide | omega)) rfl T.g_l_pick T.F_l_pick.kp T.B_l_pick .nil (fun _ => .nil) (a_ref 0 (a_cons (c_len rfl T.b_len rfl (c_v 2)) a_nil))) a_nil)) a_nil)))))
  (s_one (s_ret (c_v 3))))))
  exact ⟨_, C.p, C.v⟩
/-! ### _law_some -/
theorem ok_l_some (T : Tx K mg A fa fd) : FnOk P w K mg base CX0 3 fa.l_some fd.l_some ["_law_bag", "_law_names", "_law_most"] (spM K (f_l_some A)) := by
  refine fn_okN2 rfl rfl T.F_l_some sc_l_some (fun cdv B outer s H E hr => ?_)
  have C : CSs (cxOf CX0 P w K mg base ["_law_bag", "_law_names", "_law_most", "_law_many"] "_law_some" (defScope s_l_some) fa.l_some cdv B outer s H E).nox K W0 (defBody s_l_some) _ (m_l_some A) := (s_cons (s_set 3 sc_l_some.nd rfl (by first | exact Or.inl rfl | exact Or.inr rfl) (c_call (ok_l_pick T) (hr.mono (by first | decide | omega)) rfl T.g_l_pick T.F_l_pick.kp T.B_l_pick .nil (fun _ => .nil) (a_ref 0 (a_cons (c_add rfl (c_min2 rfl rfl T.b_min (a_cons (c_v 2) (a_cons (c_len rfl T.b_len rfl (c_v 1)) a_nil))) c_i) a_nil))))
  (s_one (s_ret (c_tupOf rfl T.b_tuple rfl (c_sorted rfl T.b_sorted rfl (c_sl rfl (c_call (ok_l_mixed_of T) (hr.mono (by first | decide | omega)) rfl T.g_l_mixed_of T.F_l_mixed_of.kp T.B_l_mixed_of .nil (fun _ => .nil) (a_ref 0 (a_ref 1 a_nil))) c_o0 (c_o1 (c_v 3))))))))
  exact ⟨_, C.p, C.v⟩
/-! ### _law_side_rule -/
theorem ok_l_side_rule (T : Tx K mg A fa fd) : FnOk P w K mg base CX0 4 fa.l_side_rule fd.l_side_rule ["_law_bag", "_law_world"] (spM K (f_l_side_rule A)) := by
  refine fn_okN2 rfl rfl T.F_l_side_rule sc_l_side_rule (fun cdv B outer s H E hr => ?_)
  have C : CSs (cxOf CX0 P w K mg base ["_law_bag", "_law_world", "_law_colour", "_law_side", "_law_beside"] "_law_side_rule" (defScope s_l_side_rule) fa.l_side_rule cdv B outer s H E).nox K W0 (defBody s_l_side_rule) _ (m_l_side_rule A) := (s_cons (s_set 2 sc_l_side_rule.nd rfl (by first | exact Or.inl rfl | exact Or.inr rfl) (c_call (ok_l_one_of T) (hr.mono (by first | decide | omega)) rfl T.g_l_one_of T.F_l_one_of.kp T.B_l_one_of .nil (fun _ => .nil) (a_ref 0 (a_cons (c_add rfl (c_add rfl (c_dget hr (fun _ _ => rfl) (c_v 1) c_s) (c_dget hr (fun _ _ => rfl) (c_v 1) c_s)) (c_lst (a_cons c_s a_nil))) a_nil))))
  (s_cons (s_set 3 sc_l_side_rule.nd rfl (by first | exact Or.inl rfl | exact Or.inr rfl) (c_call (ok_l_one_of T) (hr.mono (by first | decide | omega)) rfl T.g_l_one_of T.F_l_one_of.kp T.B_l_one_of .nil (fun _ => .nil) (a_ref 0 (a_cons (c_lst (a_cons c_s (a_cons c_s (a_cons c_s (a_cons c_s (a_cons c_s (a_cons c_s (a_cons c_s a_nil)))))))) a_nil))))
  (s_cons (s_set 4 sc_l_side_rule.nd rfl (by first | exact Or.inl rfl | exact Or.inr rfl) (c_call (ok_l_one_of T) (hr.mono (by first | decide | omega)) rfl T.g_l_one_of T.F_l_one_of.kp T.B_l_one_of .nil (fun _ => .nil) (a_ref 0 (a_cons (c_add rfl (c_add rfl (c_dget hr (fun _ _ => rfl) (c_v 1) c_s) (c_dget hr (fun _ _ => rfl) (c_v 1) c_s)) (c_lst (a_cons c_s a_nil))) a_nil))))
  (s_cons (s_if (t_w (w_and (t_eq hr rfl (c_v 2) c_s) (w_and1 (t_eq hr rfl (c_v 4) c_s)))) (s_one (s_set 4 sc_l_side_rule.nd rfl (by first | exact Or.inl rfl | exact Or.inr rfl) (c_call (ok_l_one_of T) (hr.mono (by first | decide | omega)) rfl T.g_l_one_of T.F_l_one_of.kp T.B_l_one_of .nil (fun _ => .nil) (a_ref 0 (a_cons (c_dget hr (fun _ _ => rfl) (c_v 1) c_s) a_nil))))) s_nil)
  (s_one (s_ret (c_tup (a_cons (c_v 2) (a_cons (c_v 3) (a_cons (c_v 4) (a_cons (c_call (ok_l_some T) (hr.mono (by first | decide | omega)) rfl T.g_l_some T.F_l_some.kp T.B_l_some .nil (fun _ => .nil) (a_ref 0 (a_cons (c_dget hr (fun _ _ => rfl) (c_v 1) c_s) (a_cons c_i a_nil)))) a_nil)))))))))))
  exact ⟨_, C.p, C.v⟩
/-! ### _law_inks_for -/
theorem ok_l_inks_for (T : Tx K mg A fa fd) : FnOk P w K mg base CX0 4 fa.l_inks_for fd.l_inks_for ["_law_bag", "_law_world", "_law_colour"] (spM K (f_l_inks_for A)) := by
  refine fn_okN2 rfl rfl T.F_l_inks_for sc_l_inks_for (fun cdv B outer s H E hr => ?_)
  have C : CSs (cxOf CX0 P w K mg base ["_law_bag", "_law_world", "_law_colour", "_law_names", "_law_k"] "_law_inks_for" (defScope s_l_inks_for) fa.l_inks_for cdv B outer s H E).nox K W0 (defBody s_l_inks_for) _ (m_l_inks_for A) := (s_cons (s_if (t_w (w_and (t_in hr (by with_unfolding_all rfl) rfl (c_v 2) (c_dget hr (fun _ _ => rfl) (c_v 1) c_s)) (w_and1 (t_gt (c_call (ok_l_pick T) (hr.mono (by first | decide | omega)) rfl T.g_l_pick T.F_l_pick.kp T.B_l_pick .nil (fun _ => .nil) (a_ref 0 (a_cons c_i a_nil))) c_i)))) (s_cons (s_set 3 sc_l_inks_for.nd rfl (by first | exact Or.inl rfl | exact Or.inr rfl) (c_lst (a_cons (c_ix (fun _ _ => rfl) rfl (c_dget hr (fun _ _ => rfl) (c_v 1) c_s) (c_index hr rfl (c_dget hr (fun _ _ => rfl) (c_v 1) c_s) (c_v 2))) a_nil)))
  (s_cons (s_if (t_eq hr rfl (c_call (ok_l_pick T) (hr.mono (by first | decide | omega)) rfl T.g_l_pick T.F_l_pick.kp T.B_l_pick .nil (fun _ => .nil) (a_ref 0 (a_cons c_i a_nil))) c_i) (s_one (s_expr (c_lm 3 PySem.F.slot_list_append PySem.F.type_list_append mt_appendA lm_append rfl (by first | exact Or.inl rfl | exact Or.inr (Or.inl rfl) | exact Or.inr (Or.inr rfl)) rfl (a_cons (c_call (ok_l_one_of T) (hr.mono (by first | decide | omega)) rfl T.g_l_one_of T.F_l_one_of.kp T.B_l_one_of .nil (fun _ => .nil) (a_ref 0 (a_cons (c_dget hr (fun _ _ => rfl) (c_v 1) c_s) a_nil))) a_nil)))) s_nil)
  (s_one (s_ret (c_tupOf rfl T.b_tuple rfl (c_sorted rfl T.b_sorted rfl (c_lc (own := [("_law_k", 4)]) rfl sc_l_inks_for.nd (blkOk_by (N := ["_law_bag", "_law_world", "_law_colour", "_law_names", "_law_k"]) (sc := defScope s_l_inks_for) (by decide +kernel)) (by decide) (i_r1 rfl T.b_range (a_cons (c_len rfl T.b_len rfl (c_v 3)) a_nil)) (fun _ _ _ _ _ => (g_n 4 sc_l_inks_for.nd rfl (by first | exact Or.inl rfl | exact Or.inr rfl))) (fun _ _ _ _ _ => (ts_one (t_notIn hr (by with_unfolding_all rfl) rfl (c_ix (fun _ _ => rfl) rfl (c_v 3) (c_v 4)) (c_sl rfl (c_v 3) c_o0 (c_o1 (c_v 4)))))) (fun _ _ _ _ _ => (c_ix (fun _ _ => rfl) rfl (c_v 3) (c_v 4))) (fun _ => rfl) s H))))))) s_nil)
  (s_one (s_ret (c_call (ok_l_some T) (hr.mono (by first | decide | omega)) rfl T.g_l_some T.F_l_some.kp T.B_l_some .nil (fun _ => .nil) (a_ref 0 (a_cons (c_dget hr (fun _ _ => rfl) (c_v 1) c_s) (a_cons c_i a_nil)))))))
  exact ⟨_, C.p, C.v⟩
/-! ### _law_rules_of -/
theorem ok_l_rules_of (T : Tx K mg A fa fd) : FnOk P w K mg base CX0 5 fa.l_rules_of fd.l_rules_of ["_law_bag", "_law_world", "_law_sides"] (spM K (f_l_rules_of A)) := by
  refine fn_okN2 rfl rfl T.F_l_rules_of sc_l_rules_of (fun cdv B outer s H E hr => ?_)
  have C : CSs (cxOf CX0 P w K mg base ["_law_bag", "_law_world", "_law_sides", "_law_rules", "_law_k", "_law_colour"] "_law_rules_of" (defScope s_l_rules_of) fa.l_rules_of cdv B outer s H E).nox K W0 (defBody s_l_rules_of) _ (m_l_rules_of A) := (s_cons (s_setLc 3 (own := [("_law_k", 4)]) rfl sc_l_rules_of.nd rfl rfl (by with_unfolding_all rfl) (blkOk_by (N := ["_law_bag", "_law_world", "_law_sides", "_law_rules", "_law_k", "_law_colour"]) (sc := defScope s_l_rules_of) (by decide +kernel)) (by decide) (i_r1 rfl T.b_range (a_cons (c_v 2) a_nil)) (fun _ _ _ _ _ => (g_n 4 sc_l_rules_of.nd rfl (by first | exact Or.inl rfl | exact Or.inr rfl))) (fun _ _ _ _ _ => ts_nil) (fun _ _ _ _ _ => (c_call (ok_l_side_rule T) (hr.mono (by first | decide | omega)) rfl T.g_l_side_rule T.F_l_side_rule.kp T.B_l_side_rule .nil (fun _ => .nil) (a_ref 0 (a_ref 1 a_nil)))) (fun _ => rfl) s H)
  (s_cons (s_for PassesOwn.never rfl (i_seq rfl (c_call (ok_l_mixed_of T) (hr.mono (by first | decide | omega)) rfl T.g_l_mixed_of T.F_l_mixed_of.kp T.B_l_mixed_of .nil (fun _ => .nil) (a_ref 0 (a_cons (c_dget hr (fun _ _ => rfl) (c_v 1) c_s) a_nil)))) (g_n 5 sc_l_rules_of.nd rfl (by first | exact Or.inl rfl | exact Or.inr rfl)) (s_one (s_if (t_gt (c_call (ok_l_pick T) (hr.mono (by first | decide | omega)) rfl T.g_l_pick T.F_l_pick.kp T.B_l_pick .nil (fun _ => .nil) (a_ref 0 (a_cons c_i a_nil))) c_i) (s_one (s_expr (c_lm 3 PySem.F.slot_list_append PySem.F.type_list_append mt_appendA lm_append rfl (by first | exact Or.inl rfl | exact Or.inr (Or.inl rfl) | exact Or.inr (Or.inr rfl)) rfl (a_cons (c_tup (a_cons (c_v 5) (a_cons (c_call (ok_l_inks_for T) (hr.mono (by first | decide | omega)) rfl T.g_l_inks_for T.F_l_inks_for.kp T.B_l_inks_for .nil (fun _ => .nil) (a_ref 0 (a_ref 1 (a_cons (c_v 5) a_nil)))) a_nil))) a_nil)))) s_nil)))
  (s_one (s_ret (c_v 3)))))
  exact ⟨_, C.p, C.v⟩
/-! ### _law_long_rules -/
theorem ok_l_long_rules (T : Tx K mg A fa fd) : FnOk P w K mg base CX0 6 fa.l_long_rules fd.l_long_rules ["_law_bag", "_law_world"] (spM K (f_l_long_rules A)) := by
  refine fn_okN2 rfl rfl T.F_l_long_rules sc_l_long_rules (fun cdv B outer s H E hr => ?_)
  have C : CSs (cxOf CX0 P w K mg base ["_law_bag", "_law_world", "_law_found", "_law_names", "_law_rules", "_law_rule"] "_law_long_rules" (defScope s_l_long_rules) fa.l_long_rules cdv B outer s H E).nox K W0 (defBody s_l_long_rules) _ (m_l_long_rules A) := (s_cons (s_set 2 sc_l_long_rules.nd rfl (by first | exact Or.inl rfl | exact Or.inr rfl) (c_call (ok_l_rules_of T) (hr.mono (by first | decide | omega)) rfl T.g_l_rules_of T.F_l_rules_of.kp T.B_l_rules_of .nil (fun _ => .nil) (a_ref 0 (a_ref 1 (a_cons (c_call (ok_l_one_of T) (hr.mono (by first | decide | omega)) rfl T.g_l_one_of T.F_l_one_of.kp T.B_l_one_of .nil (fun _ => .nil) (a_ref 0 (a_cons (c_lst (a_cons c_i (a_cons c_i (a_cons c_i (a_cons c_i (a_cons c_i (a_cons c_i (a_cons c_i (a_cons c_i (a_cons c_i a_nil)))))))))) a_nil))) a_nil)))))
  (s_cons (s_set 3 sc_l_long_rules.nd rfl (by first | exact Or.inl rfl | exact Or.inr rfl) (c_call (ok_l_words T) (hr.mono (by first | decide | omega)) rfl T.g_l_words T.F_l_words.kp T.B_l_words .nil (fun _ => .nil) (a_ref 0 (a_cons c_i (a_cons (c_lst a_nil) a_nil)))))
  (s_cons (s_set 4 sc_l_long_rules.nd rfl (by first | exact Or.inl rfl | exact Or.inr rfl) (c_lst a_nil))
  (s_cons (s_for PassesOwn.never rfl (i_seq rfl (c_v 2)) (g_n 5 sc_l_long_rules.nd rfl (by first | exact Or.inl rfl | exact Or.inr rfl)) (s_one (s_expr (c_lm 4 PySem.F.slot_list_append PySem.F.type_list_append mt_appendA lm_append rfl (by first | exact Or.inl rfl | exact Or.inr (Or.inl rfl) | exact Or.inr (Or.inr rfl)) rfl (a_cons (c_if (t_eq hr rfl (c_call (ok_l_pick T) (hr.mono (by first | decide | omega)) rfl T.g_l_pick T.F_l_pick.kp T.B_l_pick .nil (fun _ => .nil) (a_ref 0 (a_cons c_i a_nil))) c_i) (c_add rfl (c_sl rfl (c_v 5) c_o0 (c_o1 (c_neg c_i))) (c_tup (a_cons (c_call (ok_l_some T) (hr.mono (by first | decide | omega)) rfl T.g_l_some T.F_l_some.kp T.B_l_some .nil (fun _ => .nil) (a_ref 0 (a_cons (c_v 3) (a_cons c_i a_nil)))) a_nil))) (c_v 5)) a_nil)))))
  (s_one (s_ret (c_if (t_eq hr rfl (c_call (ok_l_pick T) (hr.mono (by first | decide | omega)) rfl T.g_l_pick T.F_l_pick.kp T.B_l_pick .nil (fun _ => .nil) (a_ref 0 (a_cons c_i a_nil))) c_i) (c_call (ok_l_mixed_of T) (hr.mono (by first | decide | omega)) rfl T.g_l_mixed_of T.F_l_mixed_of.kp T.B_l_mixed_of .nil (fun _ => .nil) (a_ref 0 (a_cons (c_v 4) a_nil))) (c_v 4))))))))
  exact ⟨_, C.p, C.v⟩
/-! ### _law_around_of -/
theorem ok_l_around_of (T : Tx K mg A fa fd) : FnOk P w K mg base CX0 1 fa.l_around_of fd.l_around_of ["_law_cell"] (spM K (f_l_around_of A)) := by
  refine fn_okN2 rfl rfl T.F_l_around_of sc_l_around_of (fun cdv B outer s H E hr => ?_)
  have C : CSs (cxOf CX0 P w K mg base ["_law_cell"] "_law_around_of" (defScope s_l_around_of) fa.l_around_of cdv B outer s H E).nox K W0 (defBody s_l_around_of) _ (m_l_around_of A) := (s_one (s_ret (c_lst (a_cons (c_tup (a_cons (c_sub (c_ix (fun _ _ => rfl) rfl (c_v 0) c_i) c_i) (a_cons (c_ix (fun _ _ => rfl) rfl (c_v 0) c_i) a_nil))) (a_cons (c_tup (a_cons (c_ix (fun _ _ => rfl) rfl (c_v 0) c_i) (a_cons (c_sub (c_ix (fun _ _ => rfl) rfl (c_v 0) c_i) c_i) a_nil))) (a_cons (c_tup (a_cons (c_ix (fun _ _ => rfl) rfl (c_v 0) c_i) (a_cons (c_add rfl (c_ix (fun _ _ => rfl) rfl (c_v 0) c_i) c_i) a_nil))) (a_cons (c_tup (a_cons (c_add rfl (c_ix (fun _ _ => rfl) rfl (c_v 0) c_i) c_i) (a_cons (c_ix (fun _ _ => rfl) rfl (c_v 0) c_i) a_nil))) a_nil)))))))
  exact ⟨_, C.p, C.v⟩
/-! ### _law_told_of -/
theorem ok_l_told_of (T : Tx K mg A fa fd) : FnOk P w K mg base CX0 3 fa.l_told_of fd.l_told_of ["_law_bag", "_law_spot", "_law_colours"] (spM K (f_l_told_of A)) := by
  refine fn_okN2 rfl rfl T.F_l_told_of sc_l_told_of (fun cdv B outer s H E hr => ?_)
  have C : CSs (cxOf CX0 P w K mg base ["_law_bag", "_law_spot", "_law_colours", "_law_told", "_law_share", "_law_cell", "_law_k"] "_law_told_of" (defScope s_l_told_of) fa.l_told_of cdv B outer s H E).nox K W0 (defBody s_l_told_of) _ (m_l_told_of A) := (s_cons (s_set 3 sc_l_told_of.nd rfl (by first | exact Or.inl rfl | exact Or.inr rfl) c_dnT)
  (s_cons (s_set 4 sc_l_told_of.nd rfl (by first | exact Or.inl rfl | exact Or.inr rfl) (c_call (ok_l_pick T) (hr.mono (by first | decide | omega)) rfl T.g_l_pick T.F_l_pick.kp T.B_l_pick .nil (fun _ => .nil) (a_ref 0 (a_cons c_i a_nil))))
  (s_cons (s_for PassesOwn.never rfl (i_seq rfl (c_call (ok_l_mixed_of T) (hr.mono (by first | decide | omega)) rfl T.g_l_mixed_of T.F_l_mixed_of.kp T.B_l_mixed_of .nil (fun _ => .nil) (a_ref 0 (a_cons (c_add rfl (c_call (ok_l_around_of T) (hr.mono (by first | decide | omega)) rfl T.g_l_around_of T.F_l_around_of.kp T.B_l_around_of .nil (fun _ => .nil) (a_ref 1 a_nil)) (c_lst (a_cons (c_v 1) a_nil))) a_nil)))) (g_n 5 sc_l_told_of.nd rfl (by first | exact Or.inl rfl | exact Or.inr rfl)) (s_one (s_if (t_lt (c_call (ok_l_pick T) (hr.mono (by first | decide | omega)) rfl T.g_l_pick T.F_l_pick.kp T.B_l_pick .nil (fun _ => .nil) (a_ref 0 (a_cons c_i a_nil))) (c_v 4)) (s_one (s_dput 3 hr rfl (by first | exact Or.inl rfl | exact Or.inr (Or.inl rfl) | exact Or.inr (Or.inr rfl)) (c_call (ok_l_one_of T) (hr.mono (by first | decide | omega)) rfl T.g_l_one_of T.F_l_one_of.kp T.B_l_one_of .nil (fun _ => .nil) (a_ref 0 (a_ref 2 a_nil))) (c_v 5))) s_nil)))
  (s_cons (s_for PassesOwn.never rfl (i_r1 rfl T.b_range (a_cons (c_call (ok_l_pick T) (hr.mono (by first | decide | omega)) rfl T.g_l_pick T.F_l_pick.kp T.B_l_pick .nil (fun _ => .nil) (a_ref 0 (a_cons c_i a_nil))) a_nil)) (g_n 6 sc_l_told_of.nd rfl (by first | exact Or.inl rfl | exact Or.inr rfl)) (s_one (s_dput 3 hr rfl (by first | exact Or.inl rfl | exact Or.inr (Or.inl rfl) | exact Or.inr (Or.inr rfl)) (c_call (ok_l_one_of T) (hr.mono (by first | decide | omega)) rfl T.g_l_one_of T.F_l_one_of.kp T.B_l_one_of .nil (fun _ => .nil) (a_ref 0 (a_ref 2 a_nil))) (c_tup (a_cons (c_sub (c_add rfl (c_ix (fun _ _ => rfl) rfl (c_v 1) c_i) (c_call (ok_l_pick T) (hr.mono (by first | decide | omega)) rfl T.g_l_pick T.F_l_pick.kp T.B_l_pick .nil (fun _ => .nil) (a_ref 0 (a_cons c_i a_nil)))) c_i) (a_cons (c_sub (c_add rfl (c_ix (fun _ _ => rfl) rfl (c_v 1) c_i) (c_call (ok_l_pick T) (hr.mono (by first | decide | omega)) rfl T.g_l_pick T.F_l_pick.kp T.B_l_pick .nil (fun _ => .nil) (a_ref 0 (a_cons c_i a_nil)))) c_i) a_nil))))))
  (s_one (s_ret (c_v 3)))))))
  exact ⟨_, C.p, C.v⟩
/-! ### plain -/
theorem okr_plain_g (T : Tx K mg A fa fd) : ∀ n, FnOk P w K mg base CX0 (n + 1) fa.plain_g fd.plain_g ["thing"] (spM K (fr_plain_g A n))
  | 0 => fn_okN2 rfl rfl T.F_plain_g sc_plain_g (fun cdv B outer s H E hr => ⟨_, pss_never, es_never⟩)
  | n + 1 => by
    have G : FnOk P w K mg base CX0 (n + 1) fa.plain_g fd.plain_g ["thing"] (spM K (fr_plain_g A n)) := okr_plain_g T n
    refine fn_okN2 (k := n + 1) rfl rfl T.F_plain_g sc_plain_g (fun cdv B outer s H E hr => ?_)
    have C : CSs (cxOf CX0 P w K mg base ["thing", "part"] "plain" (defScope s_plain_g) fa.plain_g cdv B outer s H E).nox K W0 (defBody s_plain_g) _ (m_plain_g A (fr_plain_g A n)) := (s_cons (s_if (t_val (c_isiT cls_lt (by decide) tab_lt_ok rfl T.b_isinstance (pa_cons (p_list rfl T.b_list) (pa_cons (p_tuple rfl T.b_tuple) pa_nil)) rfl (c_v 0))) (s_one (s_ret (c_tupOf rfl T.b_tuple rfl (c_lc (own := [("part", 1)]) rfl sc_plain_g.nd (blkOk_by (N := ["thing", "part"]) (sc := defScope s_plain_g) (by decide +kernel)) (by decide) (i_seq rfl (c_v 0)) (fun _ _ _ _ _ => (g_n 1 sc_plain_g.nd rfl (by first | exact Or.inl rfl | exact Or.inr rfl))) (fun _ _ _ _ _ => ts_nil) (fun _ _ _ _ _ => (c_call G hr rfl T.g_plain_g T.F_plain_g.kp T.B_plain_g .nil (fun _ => .nil) (a_cons (c_v 1) a_nil))) (fun _ => rfl) s H)))) s_nil)
  (s_one (s_ret (c_v 0))))
    exact ⟨_, C.p, C.v⟩
theorem ok_plain_g (T : Tx K mg A fa fd) : FnOk P w K mg base CX0 7 fa.plain_g fd.plain_g ["thing"] (spM K (f_plain_g A)) := okr_plain_g T 6
/-! ### is_tuple -/
theorem ok_is_tuple_g (T : Tx K mg A fa fd) : FnOk P w K mg base CX0 1 fa.is_tuple_g fd.is_tuple_g ["thing", "least", "most"] (spM K (f_is_tuple_g A)) := by
  refine fn_okN2 rfl rfl T.F_is_tuple_g sc_is_tuple_g (fun cdv B outer s H E hr => ?_)
  have C : CSs (cxOf CX0 P w K mg base ["thing", "least", "most"] "is_tuple" (defScope s_is_tuple_g) fa.is_tuple_g cdv B outer s H E).nox K W0 (defBody s_is_tuple_g) _ (m_is_tuple_g A) := (s_one (s_ret (c_and (c_isi1 (.ty "tuple") tab_tuple_ok rfl T.b_isinstance (p_tuple rfl T.b_tuple) rfl (c_v 0)) (c_one (c_lele (c_v 1) (c_len rfl T.b_len rfl (c_v 0)) (c_v 2))))))
  exact ⟨_, C.p, C.v⟩
/-! ### is_word -/
theorem ok_is_word_g (T : Tx K mg A fa fd) : FnOk P w K mg base CX0 1 fa.is_word_g fd.is_word_g ["thing"] (spM K (f_is_word_g A)) := by
  refine fn_okN2 rfl rfl T.F_is_word_g sc_is_word_g (fun cdv B outer s H E hr => ?_)
  have C : CSs (cxOf CX0 P w K mg base ["thing", "letter"] "is_word" (defScope s_is_word_g) fa.is_word_g cdv B outer s H E).nox K W0 (defBody s_is_word_g) _ (m_is_word_g A) := (s_cons (s_if (t_w (w_or (t_not (t_val (c_isi1 (.ty "str") tab_str_ok rfl T.b_isinstance (p_str rfl T.b_str) rfl (c_v 0)))) (w_or1 (t_not (t_lele c_i (c_len rfl T.b_len rfl (c_v 0)) c_i))))) (s_one (s_ret c_b)) s_nil)
  (s_one (s_ret (c_all rfl rfl T.b_all rfl (c_lc (own := [("letter", 1)]) rfl sc_is_word_g.nd (blkOk_by (N := ["thing", "letter"]) (sc := defScope s_is_word_g) (by decide +kernel)) (by decide) (i_seq rfl (c_v 0)) (fun _ _ _ _ _ => (g_n 1 sc_is_word_g.nd rfl (by first | exact Or.inl rfl | exact Or.inr rfl))) (fun _ _ _ _ _ => ts_nil) (fun _ _ _ _ _ => (c_in hr (by with_unfolding_all rfl) rfl (c_v 1) (c_globS rfl T.k_LETTERS))) (fun _ => rfl) s H)))))
  exact ⟨_, C.p, C.v⟩
/-! ### is_hue -/
theorem ok_is_hue_g (T : Tx K mg A fa fd) : FnOk P w K mg base CX0 2 fa.is_hue_g fd.is_hue_g ["thing"] (spM K (f_is_hue_g A)) := by
  refine fn_okN2 rfl rfl T.F_is_hue_g sc_is_hue_g (fun cdv B outer s H E hr => ?_)
  have C : CSs (cxOf CX0 P w K mg base ["thing"] "is_hue" (defScope s_is_hue_g) fa.is_hue_g cdv B outer s H E).nox K W0 (defBody s_is_hue_g) _ (m_is_hue_g A) := (s_one (s_ret (c_and (c_call (ok_is_word_g T) (hr.mono (by first | decide | omega)) rfl T.g_is_word_g T.F_is_word_g.kp T.B_is_word_g .nil (fun _ => .nil) (a_ref 0 a_nil)) (c_one (c_ne hr rfl (c_v 0) (c_globS rfl T.k_WHITE))))))
  exact ⟨_, C.p, C.v⟩
/-! ### is_ascending -/
theorem ok_is_ascending_g (T : Tx K mg A fa fd) : FnOk P w K mg base CX0 1 fa.is_ascending_g fd.is_ascending_g ["things"] (spM K (f_is_ascending_g A)) := by
  refine fn_okN2 rfl rfl T.F_is_ascending_g sc_is_ascending_g (fun cdv B outer s H E hr => ?_)
  have C : CSs (cxOf CX0 P w K mg base ["things", "k"] "is_ascending" (defScope s_is_ascending_g) fa.is_ascending_g cdv B outer s H E).nox K W0 (defBody s_is_ascending_g) _ (m_is_ascending_g A) := (s_one (s_ret (c_all rfl rfl T.b_all rfl (c_lc (own := [("k", 1)]) rfl sc_is_ascending_g.nd (blkOk_by (N := ["things", "k"]) (sc := defScope s_is_ascending_g) (by decide +kernel)) (by decide) (i_r1 rfl T.b_range (a_cons (c_sub (c_len rfl T.b_len rfl (c_v 0)) c_i) a_nil)) (fun _ _ _ _ _ => (g_n 1 sc_is_ascending_g.nd rfl (by first | exact Or.inl rfl | exact Or.inr rfl))) (fun _ _ _ _ _ => ts_nil) (fun _ _ _ _ _ => (c_lt (c_ix (fun _ _ => rfl) rfl (c_v 0) (c_v 1)) (c_ix (fun _ _ => rfl) rfl (c_v 0) (c_add rfl (c_v 1) c_i)))) (fun _ => rfl) s H))))
  exact ⟨_, C.p, C.v⟩
/-! ### _are_inks -/
theorem ok_are_inks_f (T : Tx K mg A fa fd) : FnOk P w K mg base CX0 2 fa.are_inks_f fd.are_inks_f ["inks"] (spM K (f_are_inks_f A)) := by
  refine fn_okN2 rfl rfl T.F_are_inks_f sc_are_inks_f (fun cdv B outer s H E hr => ?_)
  have C : CSs (cxOf CX0 P w K mg base ["inks", "name"] "_are_inks" (defScope s_are_inks_f) fa.are_inks_f cdv B outer s H E).nox K W0 (defBody s_are_inks_f) _ (m_are_inks_f A) := (s_one (s_ret (c_and (c_call (ok_is_tuple_g T) (hr.mono (by first | decide | omega)) rfl T.g_is_tuple_g T.F_is_tuple_g.kp T.B_is_tuple_g .nil (fun _ => .nil) (a_ref 0 (a_cons c_i (a_cons c_i a_nil)))) (c_and (c_all rfl rfl T.b_all rfl (c_lc (own := [("name", 1)]) rfl sc_are_inks_f.nd (blkOk_by (N := ["inks", "name"]) (sc := defScope s_are_inks_f) (by decide +kernel)) (by decide) (i_seq rfl (c_v 0)) (fun _ _ _ _ _ => (g_n 1 sc_are_inks_f.nd rfl (by first | exact Or.inl rfl | exact Or.inr rfl))) (fun _ _ _ _ _ => ts_nil) (fun _ _ _ _ _ => (c_call (ok_is_word_g T) (hr.mono (by first | decide | omega)) rfl T.g_is_word_g T.F_is_word_g.kp T.B_is_word_g .nil (fun _ => .nil) (a_cons (c_v 1) a_nil))) (fun _ => rfl) s H)) (c_one (c_call (ok_is_ascending_g T) (hr.mono (by first | decide | omega)) rfl T.g_is_ascending_g T.F_is_ascending_g.kp T.B_is_ascending_g .nil (fun _ => .nil) (a_ref 0 a_nil)))))))
  exact ⟨_, C.p, C.v⟩
/-! ### is_rule -/
theorem ok_is_rule_g (T : Tx K mg A fa fd) : FnOk P w K mg base CX0 3 fa.is_rule_g fd.is_rule_g ["rule"] (spM K (f_is_rule_g A)) := by
  refine fn_okN2 rfl rfl T.F_is_rule_g sc_is_rule_g (fun cdv B outer s H E hr => ?_)
  have C : CSs (cxOf CX0 P w K mg base ["rule", "colour", "side", "beside", "inks"] "is_rule" (defScope s_is_rule_g) fa.is_rule_g cdv B outer s H E).nox K W0 (defBody s_is_rule_g) _ (m_is_rule_g A) := (s_cons (s_if (t_val (c_call (ok_is_tuple_g T) (hr.mono (by first | decide | omega)) rfl T.g_is_tuple_g T.F_is_tuple_g.kp T.B_is_tuple_g .nil (fun _ => .nil) (a_ref 0 (a_cons c_i (a_cons c_i a_nil))))) (s_one (s_ret (c_and (c_call (ok_is_hue_g T) (hr.mono (by first | decide | omega)) rfl T.g_is_hue_g T.F_is_hue_g.kp T.B_is_hue_g .nil (fun _ => .nil) (a_cons (c_ix (fun _ _ => rfl) rfl (c_v 0) c_i) a_nil)) (c_one (c_call (ok_are_inks_f T) (hr.mono (by first | decide | omega)) rfl T.g_are_inks_f T.F_are_inks_f.kp T.B_are_inks_f .nil (fun _ => .nil) (a_cons (c_ix (fun _ _ => rfl) rfl (c_v 0) c_i) a_nil)))))) s_nil)
  (s_cons (s_if (t_not (t_val (c_call (ok_is_tuple_g T) (hr.mono (by first | decide | omega)) rfl T.g_is_tuple_g T.F_is_tuple_g.kp T.B_is_tuple_g .nil (fun _ => .nil) (a_ref 0 (a_cons c_i (a_cons c_i a_nil)))))) (s_one (s_ret c_b)) s_nil)
  (s_cons (s_setG (c_v 0) (g_tup rfl rfl (g_cons (g_n 1 sc_is_rule_g.nd rfl (by first | exact Or.inl rfl | exact Or.inr rfl)) (g_cons (g_n 2 sc_is_rule_g.nd rfl (by first | exact Or.inl rfl | exact Or.inr rfl)) (g_cons (g_n 3 sc_is_rule_g.nd rfl (by first | exact Or.inl rfl | exact Or.inr rfl)) (g_cons (g_n 4 sc_is_rule_g.nd rfl (by first | exact Or.inl rfl | exact Or.inr rfl)) g_nil))))))
  (s_cons (s_if (t_w (w_or (t_not (t_val (c_call (ok_is_word_g T) (hr.mono (by first | decide | omega)) rfl T.g_is_word_g T.F_is_word_g.kp T.B_is_word_g .nil (fun _ => .nil) (a_cons (c_v 1) a_nil)))) (w_or (t_not (t_val (c_call (ok_is_word_g T) (hr.mono (by first | decide | omega)) rfl T.g_is_word_g T.F_is_word_g.kp T.B_is_word_g .nil (fun _ => .nil) (a_cons (c_v 3) a_nil)))) (w_or1 (t_w (w_and (t_eq hr rfl (c_v 1) (c_globS rfl T.k_WHITE)) (w_and1 (t_eq hr rfl (c_v 3) (c_globS rfl T.k_WHITE))))))))) (s_one (s_ret c_b)) s_nil)
  (s_one (s_ret (c_and (c_isi1 (.ty "str") tab_str_ok rfl T.b_isinstance (p_str rfl T.b_str) rfl (c_v 2)) (c_and (c_in hr (by with_unfolding_all rfl) rfl (c_v 2) (c_glob (v := .ref fa.k_SIDES) rfl T.k_SIDES rfl T.v_SIDES)) (c_one (c_call (ok_are_inks_f T) (hr.mono (by first | decide | omega)) rfl T.g_are_inks_f T.F_are_inks_f.kp T.B_are_inks_f .nil (fun _ => .nil) (a_cons (c_v 4) a_nil)))))))))))
  exact ⟨_, C.p, C.v⟩
/-! ### Book.__init__ -/
theorem ok_Book_init (T : Tx K mg A fa fd) : FnOk P w K mg base CX0 8 fa.Book_init fd.Book_init ["self", "rules"] (spM K (f_Book_init A)) := by
  refine fn_okND2 rfl rfl T.F_Book_init sc_Book_init (fun cdv B outer s H E hr => ?_)
  have C : CSs (cxOf CX0 P w K mg base ["self", "rules", "told", "number", "rule"] "Book.__init__" (defScope s_Book_init) fa.Book_init cdv B outer s H E).nox K W0 (defBody s_Book_init) _ (m_Book_init A) := (s_cons (s_set 2 sc_Book_init.nd rfl (by first | exact Or.inl rfl | exact Or.inr rfl) (c_call (ok_plain_g T) (hr.mono (by first | decide | omega)) rfl T.g_plain_g T.F_plain_g.kp T.B_plain_g .nil (fun _ => .nil) (a_ref 1 a_nil)))
  (s_cons (s_if (t_not (t_val (c_call (ok_is_tuple_g T) (hr.mono (by first | decide | omega)) rfl T.g_is_tuple_g T.F_is_tuple_g.kp T.B_is_tuple_g .nil (fun _ => .nil) (a_cons (c_v 2) (a_cons c_i (a_cons c_i a_nil)))))) (s_one s_never) s_nil)
  (s_cons (s_for PassesOwn.never rfl (i_enumA rfl T.b_enumerate rfl (a_cons (c_v 2) a_nil)) (g_tup rfl rfl (g_cons (g_n 3 sc_Book_init.nd rfl (by first | exact Or.inl rfl | exact Or.inr rfl)) (g_cons (g_n 4 sc_Book_init.nd rfl (by first | exact Or.inl rfl | exact Or.inr rfl)) g_nil))) (s_one (s_if (t_not (t_val (c_call (ok_is_rule_g T) (hr.mono (by first | decide | omega)) rfl T.g_is_rule_g T.F_is_rule_g.kp T.B_is_rule_g .nil (fun _ => .nil) (a_cons (c_v 4) a_nil)))) (s_one s_never) s_nil)))
  (s_one (s_setA 0 T.n_Book_rules rfl (by first | exact Or.inl rfl | exact Or.inr (Or.inl rfl) | exact Or.inr (Or.inr rfl)) rfl (c_v 2))))))
  exact ⟨_, C.p, C.v⟩
/-! ### _law_listed -/
theorem okr_l_listed (T : Tx K mg A fa fd) : ∀ n, FnOk P w K mg base CX0 (n + 1) fa.l_listed fd.l_listed ["_law_thing"] (spM K (fr_l_listed A n))
  | 0 => fn_okN2 rfl rfl T.F_l_listed sc_l_listed (fun cdv B outer s H E hr => ⟨_, pss_never, es_never⟩)
  | n + 1 => by
    have G : FnOk P w K mg base CX0 (n + 1) fa.l_listed fd.l_listed ["_law_thing"] (spM K (fr_l_listed A n)) := okr_l_listed T n
    refine fn_okN2 (k := n + 1) rfl rfl T.F_l_listed sc_l_listed (fun cdv B outer s H E hr => ?_)
    have C : CSs (cxOf CX0 P w K mg base ["_law_thing", "_law_one"] "_law_listed" (defScope s_l_listed) fa.l_listed cdv B outer s H E).nox K W0 (defBody s_l_listed) _ (m_l_listed A (fr_l_listed A n)) := (s_cons (s_if (t_val (c_isiT cls_lt (by decide) tab_lt_ok rfl T.b_isinstance (pa_cons (p_list rfl T.b_list) (pa_cons (p_tuple rfl T.b_tuple) pa_nil)) rfl (c_v 0))) (s_one (s_ret (c_lc (own := [("_law_one", 1)]) rfl sc_l_listed.nd (blkOk_by (N := ["_law_thing", "_law_one"]) (sc := defScope s_l_listed) (by decide +kernel)) (by decide) (i_seq rfl (c_v 0)) (fun _ _ _ _ _ => (g_n 1 sc_l_listed.nd rfl (by first | exact Or.inl rfl | exact Or.inr rfl))) (fun _ _ _ _ _ => ts_nil) (fun _ _ _ _ _ => (c_call G hr rfl T.g_l_listed T.F_l_listed.kp T.B_l_listed .nil (fun _ => .nil) (a_cons (c_v 1) a_nil))) (fun _ => rfl) s H))) s_nil)
  (s_one (s_ret (c_v 0))))
    exact ⟨_, C.p, C.v⟩
theorem ok_l_listed (T : Tx K mg A fa fd) : FnOk P w K mg base CX0 7 fa.l_listed fd.l_listed ["_law_thing"] (spM K (f_l_listed A)) := okr_l_listed T 6
/-! ### _law_side_of -/
theorem ok_l_side_of (T : Tx K mg A fa fd) : FnOk P w K mg base CX0 1 fa.l_side_of fd.l_side_of ["_law_rule", "_law_told", "_law_around"] (spM K (f_l_side_of A)) := by
  refine fn_okN2 rfl rfl T.F_l_side_of sc_l_side_of (fun cdv B outer s H E hr => ?_)
  have C : CSs (cxOf CX0 P w K mg base ["_law_rule", "_law_told", "_law_around", "_law_cells", "_law_cell"] "_law_side_of" (defScope s_l_side_of) fa.l_side_of cdv B outer s H E).nox K W0 (defBody s_l_side_of) _ (m_l_side_of A) := (s_cons (s_set 3 sc_l_side_of.nd rfl (by first | exact Or.inl rfl | exact Or.inr rfl) (c_v 2))
  (s_cons (s_if (t_in hr (by with_unfolding_all rfl) rfl (c_ix (fun _ _ => rfl) rfl (c_v 0) c_i) (c_tup (a_cons c_s (a_cons c_s (a_cons c_s (a_cons c_s a_nil)))))) (s_one (s_set 3 sc_l_side_of.nd rfl (by first | exact Or.inl rfl | exact Or.inr rfl) (c_lst (a_cons (c_ix (fun _ _ => rfl) rfl (c_v 2) (c_index hr rfl (c_lst (a_cons c_s (a_cons c_s (a_cons c_s (a_cons c_s a_nil))))) (c_ix (fun _ _ => rfl) rfl (c_v 0) c_i))) a_nil)))) s_nil)
  (s_cons (s_for PassesOwn.never rfl (i_seq rfl (c_v 3)) (g_n 4 sc_l_side_of.nd rfl (by first | exact Or.inl rfl | exact Or.inr rfl)) (s_cons (s_if (t_dnot hr (by with_unfolding_all rfl) (c_v 4) (c_v 1)) (s_one (s_ret (c_v 4))) s_nil)
  (s_cons (s_if (t_w (w_and (t_eq hr rfl (c_ix (fun _ _ => rfl) rfl (c_v 0) c_i) c_s) (w_and1 (t_eq hr rfl (c_dget hr (fun _ _ => rfl) (c_v 1) (c_v 4)) (c_ix (fun _ _ => rfl) rfl (c_v 0) c_i))))) (s_one (s_ret c_b)) s_nil)
  (s_one (s_if (t_w (w_and (t_ne hr rfl (c_ix (fun _ _ => rfl) rfl (c_v 0) c_i) c_s) (w_and1 (t_ne hr rfl (c_dget hr (fun _ _ => rfl) (c_v 1) (c_v 4)) (c_ix (fun _ _ => rfl) rfl (c_v 0) c_i))))) (s_one (s_ret c_b)) s_nil)))))
  (s_one (s_ret (c_ne hr rfl (c_ix (fun _ _ => rfl) rfl (c_v 0) c_i) c_s))))))
  exact ⟨_, C.p, C.v⟩
/-! ### _law_read -/
theorem ok_l_read (T : Tx K mg A fa fd) : FnOk P w K mg base CX0 2 fa.l_read fd.l_read ["_law_rules", "_law_told", "_law_cell"] (spM K (f_l_read A)) := by
  refine fn_okN2 rfl rfl T.F_l_read sc_l_read (fun cdv B outer s H E hr => ?_)
  have C : CSs (cxOf CX0 P w K mg base ["_law_rules", "_law_told", "_law_cell", "_law_around", "_law_rule", "_law_fits"] "_law_read" (defScope s_l_read) fa.l_read cdv B outer s H E).nox K W0 (defBody s_l_read) _ (m_l_read A) := (s_cons (s_if (t_dnot hr (by with_unfolding_all rfl) (c_v 2) (c_v 1)) (s_one (s_ret (c_tup (a_cons c_s (a_cons (c_v 2) a_nil))))) s_nil)
  (s_cons (s_set 3 sc_l_read.nd rfl (by first | exact Or.inl rfl | exact Or.inr rfl) (c_call (ok_l_around_of T) (hr.mono (by first | decide | omega)) rfl T.g_l_around_of T.F_l_around_of.kp T.B_l_around_of .nil (fun _ => .nil) (a_ref 2 a_nil)))
  (s_cons (s_for PassesOwn.never rfl (i_seq rfl (c_v 0)) (g_n 4 sc_l_read.nd rfl (by first | exact Or.inl rfl | exact Or.inr rfl)) (s_one (s_if (t_eq hr rfl (c_ix (fun _ _ => rfl) rfl (c_v 4) c_i) (c_dget hr (fun _ _ => rfl) (c_v 1) (c_v 2))) (s_cons (s_set 5 sc_l_read.nd rfl (by first | exact Or.inl rfl | exact Or.inr rfl) (c_if (t_eq hr rfl (c_len rfl T.b_len rfl (c_v 4)) c_i) c_b (c_call (ok_l_side_of T) (hr.mono (by first | decide | omega)) rfl T.g_l_side_of T.F_l_side_of.kp T.B_l_side_of .nil (fun _ => .nil) (a_cons (c_v 4) (a_ref 1 (a_cons (c_v 3) a_nil))))))
  (s_cons (s_if (t_is (c_v 5) c_b) (s_one (s_ret (c_tup (a_cons c_s (a_cons (c_tupOf rfl T.b_tuple rfl (c_ix (fun _ _ => rfl) rfl (c_v 4) (c_neg c_i))) a_nil))))) s_nil)
  (s_one (s_if (t_isNot (c_v 5) c_b) (s_one (s_ret (c_tup (a_cons c_s (a_cons (c_v 5) a_nil))))) s_nil)))) s_nil)))
  (s_one (s_ret (c_tup (a_cons c_s (a_cons (c_tup a_nil) a_nil))))))))
  exact ⟨_, C.p, C.v⟩
/-! ### _law_triples -/
theorem ok_l_triples (T : Tx K mg A fa fd) : FnOk P w K mg base CX0 1 fa.l_triples fd.l_triples ["_law_seen"] (spM K (f_l_triples A)) := by
  refine fn_okN2 rfl rfl T.F_l_triples sc_l_triples (fun cdv B outer s H E hr => ?_)
  have C : CSs (cxOf CX0 P w K mg base ["_law_seen", "_law_cell"] "_law_triples" (defScope s_l_triples) fa.l_triples cdv B outer s H E).nox K W0 (defBody s_l_triples) _ (m_l_triples A) := (s_one (s_ret (c_tupOf rfl T.b_tuple rfl (c_sortG hr rfl T.b_sorted rfl (c_lcD 0 (own := [("_law_cell", 1)]) rfl sc_l_triples.nd (blkOk_by (N := ["_law_seen", "_law_cell"]) (sc := defScope s_l_triples) (by decide +kernel)) (by decide) rfl (by first | exact Or.inl rfl | exact Or.inr (Or.inl rfl) | exact Or.inr (Or.inr rfl)) (fun _ _ _ _ _ => (g_n 1 sc_l_triples.nd rfl (by first | exact Or.inl rfl | exact Or.inr rfl))) (fun _ _ _ _ _ => ts_nil) (fun _ _ _ _ _ => (c_tup (a_cons (c_ix (fun _ _ => rfl) rfl (c_v 1) c_i) (a_cons (c_ix (fun _ _ => rfl) rfl (c_v 1) c_i) (a_cons (c_dget hr (fun _ _ => rfl) (c_v 0) (c_v 1)) a_nil))))) (fun _ => rfl) s H)))))
  exact ⟨_, C.p, C.v⟩
/-! ### _by_cells -/
theorem ok_by_cells_f (T : Tx K mg A fa fd) : FnOk P w K mg base CX0 1 fa.by_cells_f fd.by_cells_f ["told"] (spM K (f_by_cells_f A)) := by
  refine fn_okN2 rfl rfl T.F_by_cells_f sc_by_cells_f (fun cdv B outer s H E hr => ?_)
  have C : CSs (cxOf CX0 P w K mg base ["told", "row", "column", "colour"] "_by_cells" (defScope s_by_cells_f) fa.by_cells_f cdv B outer s H E).nox K W0 (defBody s_by_cells_f) _ (m_by_cells_f A) := (s_one (s_ret (c_dcA rt0 zt0 hr (own := [("row", 1), ("column", 2), ("colour", 3)]) rfl sc_by_cells_f.nd (blkOk_by (N := ["told", "row", "column", "colour"]) (sc := defScope s_by_cells_f) (by decide +kernel)) (by decide) (i_seq rfl (c_v 0)) (fun _ _ _ _ _ => (g_any rfl rfl (g_cons (g_n 1 sc_by_cells_f.nd rfl (by first | exact Or.inl rfl | exact Or.inr rfl)) (g_cons (g_n 2 sc_by_cells_f.nd rfl (by first | exact Or.inl rfl | exact Or.inr rfl)) (g_cons (g_n 3 sc_by_cells_f.nd rfl (by first | exact Or.inl rfl | exact Or.inr rfl)) g_nil))))) (fun _ _ _ _ _ => ts_nil) (fun _ _ _ _ _ => (c_tup (a_cons (c_v 1) (a_cons (c_v 2) a_nil)))) (fun _ _ _ _ _ => (c_v 3)) (fun _ => rfl) s H)))
  exact ⟨_, C.p, C.v⟩
/-! ### neighbours -/
theorem ok_neighbours_g (T : Tx K mg A fa fd) : FnOk P w K mg base CX0 1 fa.neighbours_g fd.neighbours_g ["cell"] (spM K (f_neighbours_g A)) := by
  refine fn_okN2 rfl rfl T.F_neighbours_g sc_neighbours_g (fun cdv B outer s H E hr => ?_)
  have C : CSs (cxOf CX0 P w K mg base ["cell", "row", "column"] "neighbours" (defScope s_neighbours_g) fa.neighbours_g cdv B outer s H E).nox K W0 (defBody s_neighbours_g) _ (m_neighbours_g A) := (s_cons (s_setG (c_v 0) (g_tup rfl rfl (g_cons (g_n 1 sc_neighbours_g.nd rfl (by first | exact Or.inl rfl | exact Or.inr rfl)) (g_cons (g_n 2 sc_neighbours_g.nd rfl (by first | exact Or.inl rfl | exact Or.inr rfl)) g_nil))))
  (s_one (s_ret (c_tup (a_cons (c_tup (a_cons (c_sub (c_v 1) c_i) (a_cons (c_v 2) a_nil))) (a_cons (c_tup (a_cons (c_v 1) (a_cons (c_sub (c_v 2) c_i) a_nil))) (a_cons (c_tup (a_cons (c_v 1) (a_cons (c_add rfl (c_v 2) c_i) a_nil))) (a_cons (c_tup (a_cons (c_add rfl (c_v 1) c_i) (a_cons (c_v 2) a_nil))) a_nil))))))))
  exact ⟨_, C.p, C.v⟩
/-! ### _fit -/
theorem ok_fit_f (T : Tx K mg A fa fd) : FnOk P w K mg base CX0 2 fa.fit_f fd.fit_f ["rule", "told", "cell"] (spM K (f_fit_f A)) := by
  refine fn_okN2 rfl rfl T.F_fit_f sc_fit_f (fun cdv B outer s H E hr => ?_)
  have C : CSs (cxOf CX0 P w K mg base ["rule", "told", "cell", "_", "side", "beside", "around", "other"] "_fit" (defScope s_fit_f) fa.fit_f cdv B outer s H E).nox K W0 (defBody s_fit_f) _ (m_fit_f A) := (s_cons (s_if (t_eq hr rfl (c_len rfl T.b_len rfl (c_v 0)) c_i) (s_one (s_ret (c_glob (v := .ref fa.k_MET) rfl T.k_MET rfl T.v_MET))) s_nil)
  (s_cons (s_setG (c_v 0) (g_tup rfl rfl (g_cons (g_n 3 sc_fit_f.nd rfl (by first | exact Or.inl rfl | exact Or.inr rfl)) (g_cons (g_n 4 sc_fit_f.nd rfl (by first | exact Or.inl rfl | exact Or.inr rfl)) (g_cons (g_n 5 sc_fit_f.nd rfl (by first | exact Or.inl rfl | exact Or.inr rfl)) (g_cons (g_n 3 sc_fit_f.nd rfl (by first | exact Or.inl rfl | exact Or.inr rfl)) g_nil))))))
  (s_cons (s_set 6 sc_fit_f.nd rfl (by first | exact Or.inl rfl | exact Or.inr rfl) (c_call (ok_neighbours_g T) (hr.mono (by first | decide | omega)) rfl T.g_neighbours_g T.F_neighbours_g.kp T.B_neighbours_g .nil (fun _ => .nil) (a_ref 2 a_nil)))
  (s_cons (s_if (t_notIn hr (by with_unfolding_all rfl) rfl (c_v 4) (c_tup (a_cons c_s (a_cons c_s a_nil)))) (s_one (s_set 6 sc_fit_f.nd rfl (by first | exact Or.inl rfl | exact Or.inr rfl) (c_tup (a_cons (c_ix (fun _ _ => rfl) rfl (c_v 6) (c_indexG (a := fa.k_SIDES) ["up", "left", "right", "down", "near", "hemmed"] rfl T.k_SIDES T.l_SIDES T.v_SIDES rfl (c_v 4))) a_nil)))) s_nil)
  (s_cons (s_for PassesOwn.never rfl (i_seq rfl (c_v 6)) (g_n 7 sc_fit_f.nd rfl (by first | exact Or.inl rfl | exact Or.inr rfl)) (s_cons (s_if (t_dnot hr (by with_unfolding_all rfl) (c_v 7) (c_v 1)) (s_one (s_ret (c_tup (a_cons c_s (a_cons (c_v 7) a_nil))))) s_nil)
  (s_cons (s_if (t_w (w_and (t_eq hr rfl (c_v 4) c_s) (w_and1 (t_eq hr rfl (c_dget hr (fun _ _ => rfl) (c_v 1) (c_v 7)) (c_v 5))))) (s_one (s_ret (c_glob (v := .ref fa.k_MET) rfl T.k_MET rfl T.v_MET))) s_nil)
  (s_one (s_if (t_w (w_and (t_ne hr rfl (c_v 4) c_s) (w_and1 (t_ne hr rfl (c_dget hr (fun _ _ => rfl) (c_v 1) (c_v 7)) (c_v 5))))) (s_one (s_ret (c_glob (v := .ref fa.k_UNMET) rfl T.k_UNMET rfl T.v_UNMET))) s_nil)))))
  (s_one (s_ret (c_if (t_eq hr rfl (c_v 4) c_s) (c_glob (v := .ref fa.k_UNMET) rfl T.k_UNMET rfl T.v_UNMET) (c_glob (v := .ref fa.k_MET) rfl T.k_MET rfl T.v_MET)))))))))
  exact ⟨_, C.p, C.v⟩
/-! ### counting_told -/
theorem ok_counting_told_g (T : Tx K mg A fa fd) : FnOk P w K mg base CX0 3 fa.counting_told_g fd.counting_told_g ["rules", "told", "cell"] (spM K (f_counting_told_g A)) := by
  refine fn_okN2 rfl rfl T.F_counting_told_g sc_counting_told_g (fun cdv B outer s H E hr => ?_)
  have C : CSs (cxOf CX0 P w K mg base ["rules", "told", "cell", "number", "rule", "fit"] "counting_told" (defScope s_counting_told_g) fa.counting_told_g cdv B outer s H E).nox K W0 (defBody s_counting_told_g) _ (m_counting_told_g A) := (s_cons (s_if (t_dnot hr (by with_unfolding_all rfl) (c_v 2) (c_v 1)) (s_one (s_ret (c_tup (a_cons c_s (a_cons (c_v 2) a_nil))))) s_nil)
  (s_cons (s_for PassesOwn.never rfl (i_enumA rfl T.b_enumerate rfl (a_cons (c_v 0) a_nil)) (g_tup rfl rfl (g_cons (g_n 3 sc_counting_told_g.nd rfl (by first | exact Or.inl rfl | exact Or.inr rfl)) (g_cons (g_n 4 sc_counting_told_g.nd rfl (by first | exact Or.inl rfl | exact Or.inr rfl)) g_nil))) (s_one (s_if (t_eq hr rfl (c_ix (fun _ _ => rfl) rfl (c_v 4) c_i) (c_dget hr (fun _ _ => rfl) (c_v 1) (c_v 2))) (s_cons (s_set 5 sc_counting_told_g.nd rfl (by first | exact Or.inl rfl | exact Or.inr rfl) (c_call (ok_fit_f T) (hr.mono (by first | decide | omega)) rfl T.g_fit_f T.F_fit_f.kp T.B_fit_f .nil (fun _ => .nil) (a_cons (c_v 4) (a_ref 1 (a_ref 2 a_nil)))))
  (s_cons (s_if (t_eq hr rfl (c_v 5) (c_glob (v := .ref fa.k_MET) rfl T.k_MET rfl T.v_MET)) (s_one (s_ret (c_tup (a_cons c_s (a_cons (c_v 3) a_nil))))) s_nil)
  (s_one (s_if (t_ne hr rfl (c_v 5) (c_glob (v := .ref fa.k_UNMET) rfl T.k_UNMET rfl T.v_UNMET)) (s_one (s_ret (c_v 5))) s_nil)))) s_nil)))
  (s_one (s_ret (c_tup (a_cons c_s (a_cons c_n a_nil)))))))
  exact ⟨_, C.p, C.v⟩
/-! ### inks_of -/
theorem ok_inks_of_g (T : Tx K mg A fa fd) : FnOk P w K mg base CX0 1 fa.inks_of_g fd.inks_of_g ["rules", "number"] (spM K (f_inks_of_g A)) := by
  refine fn_okN2 rfl rfl T.F_inks_of_g sc_inks_of_g (fun cdv B outer s H E hr => ?_)
  have C : CSs (cxOf CX0 P w K mg base ["rules", "number"] "inks_of" (defScope s_inks_of_g) fa.inks_of_g cdv B outer s H E).nox K W0 (defBody s_inks_of_g) _ (m_inks_of_g A) := (s_one (s_ret (c_if (t_is (c_v 1) c_n) (c_tup a_nil) (c_ix (fun _ _ => rfl) rfl (c_ix (fun _ _ => rfl) rfl (c_v 0) (c_v 1)) (c_neg c_i)))))
  exact ⟨_, C.p, C.v⟩
/-! ### reading -/
theorem ok_reading_g (T : Tx K mg A fa fd) : FnOk P w K mg base CX0 4 fa.reading_g fd.reading_g ["rules", "told", "cell"] (spM K (f_reading_g A)) := by
  refine fn_okN2 rfl rfl T.F_reading_g sc_reading_g (fun cdv B outer s H E hr => ?_)
  have C : CSs (cxOf CX0 P w K mg base ["rules", "told", "cell", "answer"] "reading" (defScope s_reading_g) fa.reading_g cdv B outer s H E).nox K W0 (defBody s_reading_g) _ (m_reading_g A) := (s_cons (s_set 3 sc_reading_g.nd rfl (by first | exact Or.inl rfl | exact Or.inr rfl) (c_call (ok_counting_told_g T) (hr.mono (by first | decide | omega)) rfl T.g_counting_told_g T.F_counting_told_g.kp T.B_counting_told_g .nil (fun _ => .nil) (a_ref 0 (a_ref 1 (a_ref 2 a_nil)))))
  (s_one (s_ret (c_if (t_eq hr rfl (c_ix (fun _ _ => rfl) rfl (c_v 3) c_i) c_s) (c_v 3) (c_tup (a_cons c_s (a_cons (c_call (ok_inks_of_g T) (hr.mono (by first | decide | omega)) rfl T.g_inks_of_g T.F_inks_of_g.kp T.B_inks_of_g .nil (fun _ => .nil) (a_ref 0 (a_cons (c_ix (fun _ _ => rfl) rfl (c_v 3) c_i) a_nil))) a_nil)))))))
  exact ⟨_, C.p, C.v⟩
/-! ### read_told -/
theorem ok_read_told_g (T : Tx K mg A fa fd) : FnOk P w K mg base CX0 8 fa.read_told_g fd.read_told_g ["book", "told", "cell"] (spM K (f_read_told_g A)) := by
  refine fn_okN2 rfl rfl T.F_read_told_g sc_read_told_g (fun cdv B outer s H E hr => ?_)
  have C : CSs (cxOf CX0 P w K mg base ["book", "told", "cell"] "read_told" (defScope s_read_told_g) fa.read_told_g cdv B outer s H E).nox K W0 (defBody s_read_told_g) _ (m_read_told_g A) := (s_one (s_ret (c_call (ok_reading_g T) (hr.mono (by first | decide | omega)) rfl T.g_reading_g T.F_reading_g.kp T.B_reading_g .nil (fun _ => .nil) (a_cons (c_fld T.n_Book_rules rfl (c_v 0)) (a_cons (c_call (ok_by_cells_f T) (hr.mono (by first | decide | omega)) rfl T.g_by_cells_f T.F_by_cells_f.kp T.B_by_cells_f .nil (fun _ => .nil) (a_ref 1 a_nil)) (a_cons (c_call (ok_plain_g T) (hr.mono (by first | decide | omega)) rfl T.g_plain_g T.F_plain_g.kp T.B_plain_g .nil (fun _ => .nil) (a_ref 2 a_nil)) a_nil))))))
  exact ⟨_, C.p, C.v⟩
/-! ### _law_is_int -/
theorem ok_l_is_int (T : Tx K mg A fa fd) : FnOk P w K mg base CX0 1 fa.l_is_int fd.l_is_int ["_law_thing"] (spM K (f_l_is_int A)) := by
  refine fn_okN2 rfl rfl T.F_l_is_int sc_l_is_int (fun cdv B outer s H E hr => ?_)
  have C : CSs (cxOf CX0 P w K mg base ["_law_thing"] "_law_is_int" (defScope s_l_is_int) fa.l_is_int cdv B outer s H E).nox K W0 (defBody s_l_is_int) _ (m_l_is_int A) := (s_one (s_ret (c_and (c_isi1 (.ty "int") tab_int_ok rfl T.b_isinstance (p_int rfl T.b_int) rfl (c_v 0)) (c_one (c_not (c_isi1 (.ty "bool") tab_bool_ok rfl T.b_isinstance (p_bool rfl T.b_bool) rfl (c_v 0)))))))
  exact ⟨_, C.p, C.v⟩
/-! ### _law_same -/
theorem okr_l_same (T : Tx K mg A fa fd) : ∀ n, FnOk P w K mg base CX0 (n + 2) fa.l_same fd.l_same ["_law_told", "_law_wanted"] (spM K (fr_l_same A n))
  | 0 => fn_okN2 rfl rfl T.F_l_same sc_l_same (fun cdv B outer s H E hr => ⟨_, pss_never, es_never⟩)
  | n + 1 => by
    have G : FnOk P w K mg base CX0 (n + 2) fa.l_same fd.l_same ["_law_told", "_law_wanted"] (spM K (fr_l_same A n)) := okr_l_same T n
    refine fn_okN2 (k := n + 2) rfl rfl T.F_l_same sc_l_same (fun cdv B outer s H E hr => ?_)
    have C : CSs (cxOf CX0 P w K mg base ["_law_told", "_law_wanted", "_law_k"] "_law_same" (defScope s_l_same) fa.l_same cdv B outer s H E).nox K W0 (defBody s_l_same) _ (m_l_same A (fr_l_same A n)) := (s_cons (s_if (t_val (c_isi1 (.ty "tuple") tab_tuple_ok rfl T.b_isinstance (p_tuple rfl T.b_tuple) rfl (c_v 1))) (s_cons (s_if (t_w (w_or (t_not (t_val (c_isi1 (.ty "tuple") tab_tuple_ok rfl T.b_isinstance (p_tuple rfl T.b_tuple) rfl (c_v 0)))) (w_or1 (t_ne hr rfl (c_len rfl T.b_len rfl (c_v 0)) (c_len rfl T.b_len rfl (c_v 1)))))) (s_one (s_ret c_b)) s_nil)
  (s_one (s_ret (c_eq hr rfl (c_len rfl T.b_len rfl (c_lc (own := [("_law_k", 2)]) rfl sc_l_same.nd (blkOk_by (N := ["_law_told", "_law_wanted", "_law_k"]) (sc := defScope s_l_same) (by decide +kernel)) (by decide) (i_r1 rfl T.b_range (a_cons (c_len rfl T.b_len rfl (c_v 1)) a_nil)) (fun _ _ _ _ _ => (g_n 2 sc_l_same.nd rfl (by first | exact Or.inl rfl | exact Or.inr rfl))) (fun _ _ _ _ _ => (ts_one (t_not (t_val (c_call G hr rfl T.g_l_same T.F_l_same.kp T.B_l_same .nil (fun _ => .nil) (a_cons (c_ix (fun _ _ => rfl) rfl (c_v 0) (c_v 2)) (a_cons (c_ix (fun _ _ => rfl) rfl (c_v 1) (c_v 2)) a_nil))))))) (fun _ _ _ _ _ => (c_v 2)) (fun _ => rfl) s H)) c_i)))) s_nil)
  (s_cons (s_if (t_is (c_v 1) c_n) (s_one (s_ret (c_is (c_v 0) c_n))) s_nil)
  (s_cons (s_if (t_is (c_v 1) c_b) (s_one (s_ret (c_is (c_v 0) c_b))) s_nil)
  (s_cons (s_if (t_is (c_v 1) c_b) (s_one (s_ret (c_is (c_v 0) c_b))) s_nil)
  (s_cons (s_if (t_val (c_isi1 (.ty "str") tab_str_ok rfl T.b_isinstance (p_str rfl T.b_str) rfl (c_v 1))) (s_one (s_ret (c_and (c_isi1 (.ty "str") tab_str_ok rfl T.b_isinstance (p_str rfl T.b_str) rfl (c_v 0)) (c_one (c_eq hr rfl (c_v 0) (c_v 1)))))) s_nil)
  (s_one (s_ret (c_and (c_call (ok_l_is_int T) (hr.mono (by first | decide | omega)) rfl T.g_l_is_int T.F_l_is_int.kp T.B_l_is_int .nil (fun _ => .nil) (a_ref 0 a_nil)) (c_one (c_eq hr rfl (c_v 0) (c_v 1)))))))))))
    exact ⟨_, C.p, C.v⟩
theorem ok_l_same (T : Tx K mg A fa fd) : FnOk P w K mg base CX0 8 fa.l_same fd.l_same ["_law_told", "_law_wanted"] (spM K (f_l_same A)) := okr_l_same T 6
/-! ### _law_tupled -/
theorem okr_l_tupled (T : Tx K mg A fa fd) : ∀ n, FnOk P w K mg base CX0 (n + 1) fa.l_tupled fd.l_tupled ["_law_thing"] (spM K (fr_l_tupled A n))
  | 0 => fn_okN2 rfl rfl T.F_l_tupled sc_l_tupled (fun cdv B outer s H E hr => ⟨_, pss_never, es_never⟩)
  | n + 1 => by
    have G : FnOk P w K mg base CX0 (n + 1) fa.l_tupled fd.l_tupled ["_law_thing"] (spM K (fr_l_tupled A n)) := okr_l_tupled T n
    refine fn_okN2 (k := n + 1) rfl rfl T.F_l_tupled sc_l_tupled (fun cdv B outer s H E hr => ?_)
    have C : CSs (cxOf CX0 P w K mg base ["_law_thing", "_law_one"] "_law_tupled" (defScope s_l_tupled) fa.l_tupled cdv B outer s H E).nox K W0 (defBody s_l_tupled) _ (m_l_tupled A (fr_l_tupled A n)) := (s_cons (s_if (t_val (c_isiT cls_lt (by decide) tab_lt_ok rfl T.b_isinstance (pa_cons (p_list rfl T.b_list) (pa_cons (p_tuple rfl T.b_tuple) pa_nil)) rfl (c_v 0))) (s_one (s_ret (c_tupOf rfl T.b_tuple rfl (c_lc (own := [("_law_one", 1)]) rfl sc_l_tupled.nd (blkOk_by (N := ["_law_thing", "_law_one"]) (sc := defScope s_l_tupled) (by decide +kernel)) (by decide) (i_seq rfl (c_v 0)) (fun _ _ _ _ _ => (g_n 1 sc_l_tupled.nd rfl (by first | exact Or.inl rfl | exact Or.inr rfl))) (fun _ _ _ _ _ => ts_nil) (fun _ _ _ _ _ => (c_call G hr rfl T.g_l_tupled T.F_l_tupled.kp T.B_l_tupled .nil (fun _ => .nil) (a_cons (c_v 1) a_nil))) (fun _ => rfl) s H)))) s_nil)
  (s_one (s_ret (c_v 0))))
    exact ⟨_, C.p, C.v⟩
theorem ok_l_tupled (T : Tx K mg A fa fd) : FnOk P w K mg base CX0 7 fa.l_tupled fd.l_tupled ["_law_thing"] (spM K (f_l_tupled A)) := okr_l_tupled T 6
/-! ### _law_led -/
theorem ok_l_led (T : Tx K mg A fa fd) : FnOk P w K mg base CX0 10 fa.l_led fd.l_led ["_law_bag", "_law_rules", "_law_told", "_law_spot", "_law_colours"] (spM K (f_l_led A)) := by
  refine fn_okN2 rfl rfl T.F_l_led sc_l_led (fun cdv B outer s H E hr => ?_)
  have C : CSs (cxOf CX0 P w K mg base ["_law_bag", "_law_rules", "_law_told", "_law_spot", "_law_colours", "_law_book", "_law_turn", "_law_due", "_law_cells", "_law_asked"] "_law_led" (defScope s_l_led) fa.l_led cdv B outer s H E).nox K W0 (defBody s_l_led) _ (m_l_led A) := (s_cons (s_set 5 sc_l_led.nd rfl (by first | exact Or.inl rfl | exact Or.inr rfl) (c_make T.mk_Book (ok_Book_init T) (hr.mono (by first | decide | omega)) rfl T.c_Book T.B_Book_init .nil (fun _ => .nil) (a_cons (c_call (ok_l_listed T) (hr.mono (by first | decide | omega)) rfl T.g_l_listed T.F_l_listed.kp T.B_l_listed .nil (fun _ => .nil) (a_ref 1 a_nil)) a_nil)))
  (s_cons (s_for PassesOwn.never rfl (i_r1 rfl T.b_range (a_cons c_i a_nil)) (g_n 6 sc_l_led.nd rfl (by first | exact Or.inl rfl | exact Or.inr rfl)) (s_cons (s_set 7 sc_l_led.nd rfl (by first | exact Or.inl rfl | exact Or.inr rfl) (c_call (ok_l_read T) (hr.mono (by first | decide | omega)) rfl T.g_l_read T.F_l_read.kp T.B_l_read .nil (fun _ => .nil) (a_ref 1 (a_ref 2 (a_ref 3 a_nil)))))
  (s_cons (s_set 8 sc_l_led.nd rfl (by first | exact Or.inl rfl | exact Or.inr rfl) (c_if (t_eq hr rfl (c_mod (c_int rfl T.b_int (c_v 6)) c_i) c_i) (c_call (ok_l_listed T) (hr.mono (by first | decide | omega)) rfl T.g_l_listed T.F_l_listed.kp T.B_l_listed .nil (fun _ => .nil) (a_cons (c_snap 2 (ok_l_triples T) (hr.mono (by first | decide | omega)) rfl T.g_l_triples T.F_l_triples.kp T.B_l_triples) a_nil)) (c_snap 2 (ok_l_triples T) (hr.mono (by first | decide | omega)) rfl T.g_l_triples T.F_l_triples.kp T.B_l_triples)))
  (s_cons (s_set 9 sc_l_led.nd rfl (by first | exact Or.inl rfl | exact Or.inr rfl) (c_if (t_eq hr rfl (c_mod (c_int rfl T.b_int (c_v 6)) c_i) c_i) (c_lstOf rfl T.b_list rfl (c_v 3)) (c_v 3)))
  (s_cons (s_if (t_not (t_val (c_call (ok_l_same T) (hr.mono (by first | decide | omega)) rfl T.g_l_same T.F_l_same.kp T.B_l_same .nil (fun _ => .nil) (a_cons (c_call (ok_read_told_g T) (hr.mono (by first | decide | omega)) rfl T.g_read_told_g T.F_read_told_g.kp T.B_read_told_g .nil (fun _ => .nil) (a_cons (c_v 5) (a_cons (c_v 8) (a_cons (c_v 9) a_nil)))) (a_cons (c_v 7) a_nil))))) (s_one (s_ret c_n)) s_nil)
  (s_cons (s_if (t_w (w_or (t_ne hr rfl (c_call (ok_l_tupled T) (hr.mono (by first | decide | omega)) rfl T.g_l_tupled T.F_l_tupled.kp T.B_l_tupled .nil (fun _ => .nil) (a_cons (c_v 8) a_nil)) (c_snap 2 (ok_l_triples T) (hr.mono (by first | decide | omega)) rfl T.g_l_triples T.F_l_triples.kp T.B_l_triples)) (w_or1 (t_ne hr rfl (c_tupOf rfl T.b_tuple rfl (c_v 9)) (c_v 3))))) (s_one (s_ret c_n)) s_nil)
  (s_cons (s_if (t_eq hr rfl (c_ix (fun _ _ => rfl) rfl (c_v 7) c_i) c_s) (s_one (s_ret (c_ix (fun _ _ => rfl) rfl (c_v 7) c_i))) s_nil)
  (s_one (s_dput 2 hr rfl (by first | exact Or.inl rfl | exact Or.inr (Or.inl rfl) | exact Or.inr (Or.inr rfl)) (c_call (ok_l_one_of T) (hr.mono (by first | decide | omega)) rfl T.g_l_one_of T.F_l_one_of.kp T.B_l_one_of .nil (fun _ => .nil) (a_ref 0 (a_ref 4 a_nil))) (c_ix (fun _ _ => rfl) rfl (c_v 7) c_i))))))))))
  (s_one (s_ret c_n))))
  exact ⟨_, C.p, C.v⟩
/-! ### _law_other_page -/
theorem ok_l_other_page (T : Tx K mg A fa fd) : FnOk P w K mg base CX0 3 fa.l_other_page fd.l_other_page ["_law_bag", "_law_told", "_law_spot", "_law_colours"] (spM K (f_l_other_page A)) := by
  refine fn_okN2 rfl rfl T.F_l_other_page sc_l_other_page (fun cdv B outer s H E hr => ?_)
  have C : CSs (cxOf CX0 P w K mg base ["_law_bag", "_law_told", "_law_spot", "_law_colours", "_law_page", "_law_k", "_law_cell", "_law_kept"] "_law_other_page" (defScope s_l_other_page) fa.l_other_page cdv B outer s H E).nox K W0 (defBody s_l_other_page) _ (m_l_other_page A) := (s_cons (s_set 4 sc_l_other_page.nd rfl (by first | exact Or.inl rfl | exact Or.inr rfl) c_dnT)
  (s_cons (s_for PassesOwn.never rfl (i_r1 rfl T.b_range (a_cons c_i a_nil)) (g_n 5 sc_l_other_page.nd rfl (by first | exact Or.inl rfl | exact Or.inr rfl)) (s_cons (s_set 6 sc_l_other_page.nd rfl (by first | exact Or.inl rfl | exact Or.inr rfl) (c_tup (a_cons (c_sub (c_add rfl (c_ix (fun _ _ => rfl) rfl (c_v 2) c_i) (c_call (ok_l_pick T) (hr.mono (by first | decide | omega)) rfl T.g_l_pick T.F_l_pick.kp T.B_l_pick .nil (fun _ => .nil) (a_ref 0 (a_cons c_i a_nil)))) c_i) (a_cons (c_sub (c_add rfl (c_ix (fun _ _ => rfl) rfl (c_v 2) c_i) (c_call (ok_l_pick T) (hr.mono (by first | decide | omega)) rfl T.g_l_pick T.F_l_pick.kp T.B_l_pick .nil (fun _ => .nil) (a_ref 0 (a_cons c_i a_nil)))) c_i) a_nil))))
  (s_one (s_dput 4 hr rfl (by first | exact Or.inl rfl | exact Or.inr (Or.inl rfl) | exact Or.inr (Or.inr rfl)) (c_call (ok_l_one_of T) (hr.mono (by first | decide | omega)) rfl T.g_l_one_of T.F_l_one_of.kp T.B_l_one_of .nil (fun _ => .nil) (a_ref 0 (a_ref 3 a_nil))) (c_v 6)))))
  (s_cons (s_forD 1 PassesOwn.never rfl rfl (by first | exact Or.inl rfl | exact Or.inr (Or.inl rfl) | exact Or.inr (Or.inr rfl)) (g_n 6 sc_l_other_page.nd rfl (by first | exact Or.inl rfl | exact Or.inr rfl)) (s_one (s_dput 4 hr rfl (by first | exact Or.inl rfl | exact Or.inr (Or.inl rfl) | exact Or.inr (Or.inr rfl)) (c_dget hr (fun _ _ => rfl) (c_v 1) (c_v 6)) (c_v 6))))
  (s_cons (s_set 7 sc_l_other_page.nd rfl (by first | exact Or.inl rfl | exact Or.inr rfl) c_dnT)
  (s_cons (s_forD 4 PassesOwn.never rfl rfl (by first | exact Or.inl rfl | exact Or.inr (Or.inl rfl) | exact Or.inr (Or.inr rfl)) (g_n 6 sc_l_other_page.nd rfl (by first | exact Or.inl rfl | exact Or.inr rfl)) (s_one (s_if (t_ne hr rfl (c_dget hr (fun _ _ => rfl) (c_v 4) (c_v 6)) c_s) (s_one (s_dput 7 hr rfl (by first | exact Or.inl rfl | exact Or.inr (Or.inl rfl) | exact Or.inr (Or.inr rfl)) (c_dget hr (fun _ _ => rfl) (c_v 4) (c_v 6)) (c_v 6))) s_nil)))
  (s_one (s_ret (c_v 7))))))))
  exact ⟨_, C.p, C.v⟩
/-! ### is_integer -/
theorem ok_is_integer_g (T : Tx K mg A fa fd) : FnOk P w K mg base CX0 1 fa.is_integer_g fd.is_integer_g ["thing"] (spM K (f_is_integer_g A)) := by
  refine fn_okN2 rfl rfl T.F_is_integer_g sc_is_integer_g (fun cdv B outer s H E hr => ?_)
  have C : CSs (cxOf CX0 P w K mg base ["thing"] "is_integer" (defScope s_is_integer_g) fa.is_integer_g cdv B outer s H E).nox K W0 (defBody s_is_integer_g) _ (m_is_integer_g A) := (s_one (s_ret (c_and (c_isi1 (.ty "int") tab_int_ok rfl T.b_isinstance (p_int rfl T.b_int) rfl (c_v 0)) (c_one (c_not (c_isi1 (.ty "bool") tab_bool_ok rfl T.b_isinstance (p_bool rfl T.b_bool) rfl (c_v 0)))))))
  exact ⟨_, C.p, C.v⟩
/-! ### is_cell -/
theorem ok_is_cell_g (T : Tx K mg A fa fd) : FnOk P w K mg base CX0 2 fa.is_cell_g fd.is_cell_g ["thing"] (spM K (f_is_cell_g A)) := by
  refine fn_okN2 rfl rfl T.F_is_cell_g sc_is_cell_g (fun cdv B outer s H E hr => ?_)
  have C : CSs (cxOf CX0 P w K mg base ["thing"] "is_cell" (defScope s_is_cell_g) fa.is_cell_g cdv B outer s H E).nox K W0 (defBody s_is_cell_g) _ (m_is_cell_g A) := (s_cons (s_if (t_w (w_or (t_not (t_val (c_isiT cls_lt (by decide) tab_lt_ok rfl T.b_isinstance (pa_cons (p_list rfl T.b_list) (pa_cons (p_tuple rfl T.b_tuple) pa_nil)) rfl (c_v 0)))) (w_or1 (t_ne hr rfl (c_len rfl T.b_len rfl (c_v 0)) c_i)))) (s_one (s_ret c_b)) s_nil)
  (s_one (s_ret (c_and (c_call (ok_is_integer_g T) (hr.mono (by first | decide | omega)) rfl T.g_is_integer_g T.F_is_integer_g.kp T.B_is_integer_g .nil (fun _ => .nil) (a_cons (c_ix (fun _ _ => rfl) rfl (c_v 0) c_i) a_nil)) (c_one (c_call (ok_is_integer_g T) (hr.mono (by first | decide | omega)) rfl T.g_is_integer_g T.F_is_integer_g.kp T.B_is_integer_g .nil (fun _ => .nil) (a_cons (c_ix (fun _ _ => rfl) rfl (c_v 0) c_i) a_nil)))))))
  exact ⟨_, C.p, C.v⟩
/-! ### Picture.__contains__ -/
theorem ok_Picture_contains (T : Tx K mg A fa fd) : FnOk P w K mg base CX0 3 fa.Picture_contains fd.Picture_contains ["self", "x"] (spM K (f_Picture_contains A)) := by
  refine fn_okN2 rfl rfl T.F_Picture_contains sc_Picture_contains (fun cdv B outer s H E hr => ?_)
  have C : CSs (cxOf CX0 P w K mg base ["self", "x"] "Picture.__contains__" (defScope s_Picture_contains) fa.Picture_contains cdv B outer s H E).nox K W0 (defBody s_Picture_contains) _ (m_Picture_contains A) := (s_one (s_ret (c_and (c_call (ok_is_cell_g T) (hr.mono (by first | decide | omega)) rfl T.g_is_cell_g T.F_is_cell_g.kp T.B_is_cell_g .nil (fun _ => .nil) (a_ref 1 a_nil)) (c_one (c_din hr (by with_unfolding_all rfl) (c_tup (a_cons (c_ix (fun _ _ => rfl) rfl (c_v 1) c_i) (a_cons (c_ix (fun _ _ => rfl) rfl (c_v 1) c_i) a_nil))) (c_fld T.n_Picture_colours rfl (c_v 0)))))))
  exact ⟨_, C.p, C.v⟩
/-! ### Picture.__getitem__ -/
theorem ok_Picture_getitem (T : Tx K mg A fa fd) : FnOk P w K mg base CX0 4 fa.Picture_getitem fd.Picture_getitem ["self", "at"] (spM K (f_Picture_getitem A)) := by
  refine fn_okN2 rfl rfl T.F_Picture_getitem sc_Picture_getitem (fun cdv B outer s H E hr => ?_)
  have C : CSs (cxOf CX0 P w K mg base ["self", "at"] "Picture.__getitem__" (defScope s_Picture_getitem) fa.Picture_getitem cdv B outer s H E).nox K W0 (defBody s_Picture_getitem) _ (m_Picture_getitem A) := (s_cons (s_if (t_onot T.M_Picture_contains (ok_Picture_contains T) (hr.mono (by first | decide | omega)) T.B_Picture_contains (by with_unfolding_all rfl) (c_v 1) (c_v 0)) (s_one (s_ret (c_globS rfl T.k_WHITE))) s_nil)
  (s_one (s_ret (c_dget hr (fun _ _ => rfl) (c_fld T.n_Picture_colours rfl (c_v 0)) (c_tup (a_cons (c_ix (fun _ _ => rfl) rfl (c_v 1) c_i) (a_cons (c_ix (fun _ _ => rfl) rfl (c_v 1) c_i) a_nil)))))))
  exact ⟨_, C.p, C.v⟩
/-! ### fits -/
theorem ok_fits_g (T : Tx K mg A fa fd) : FnOk P w K mg base CX0 1 fa.fits_g fd.fits_g ["rule", "here", "around"] (spM K (f_fits_g A)) := by
  refine fn_okN2 rfl rfl T.F_fits_g sc_fits_g (fun cdv B outer s H E hr => ?_)
  have C : CSs (cxOf CX0 P w K mg base ["rule", "here", "around", "_", "side", "beside", "colour"] "fits" (defScope s_fits_g) fa.fits_g cdv B outer s H E).nox K W0 (defBody s_fits_g) _ (m_fits_g A) := (s_cons (s_if (t_ne hr rfl (c_ix (fun _ _ => rfl) rfl (c_v 0) c_i) (c_v 1)) (s_one (s_ret c_b)) s_nil)
  (s_cons (s_if (t_eq hr rfl (c_len rfl T.b_len rfl (c_v 0)) c_i) (s_one (s_ret c_b)) s_nil)
  (s_cons (s_setG (c_v 0) (g_tup rfl rfl (g_cons (g_n 3 sc_fits_g.nd rfl (by first | exact Or.inl rfl | exact Or.inr rfl)) (g_cons (g_n 4 sc_fits_g.nd rfl (by first | exact Or.inl rfl | exact Or.inr rfl)) (g_cons (g_n 5 sc_fits_g.nd rfl (by first | exact Or.inl rfl | exact Or.inr rfl)) (g_cons (g_n 3 sc_fits_g.nd rfl (by first | exact Or.inl rfl | exact Or.inr rfl)) g_nil))))))
  (s_cons (s_if (t_eq hr rfl (c_v 4) c_s) (s_one (s_ret (c_in hr (by with_unfolding_all rfl) rfl (c_v 5) (c_v 2)))) s_nil)
  (s_cons (s_if (t_eq hr rfl (c_v 4) c_s) (s_one (s_ret (c_all rfl rfl T.b_all rfl (c_lc (own := [("colour", 6)]) rfl sc_fits_g.nd (blkOk_by (N := ["rule", "here", "around", "_", "side", "beside", "colour"]) (sc := defScope s_fits_g) (by decide +kernel)) (by decide) (i_seq rfl (c_v 2)) (fun _ _ _ _ _ => (g_n 6 sc_fits_g.nd rfl (by first | exact Or.inl rfl | exact Or.inr rfl))) (fun _ _ _ _ _ => ts_nil) (fun _ _ _ _ _ => (c_eq hr rfl (c_v 6) (c_v 5))) (fun _ => rfl) s H)))) s_nil)
  (s_one (s_ret (c_eq hr rfl (c_ix (fun _ _ => rfl) rfl (c_v 2) (c_indexG (a := fa.k_SIDES) ["up", "left", "right", "down", "near", "hemmed"] rfl T.k_SIDES T.l_SIDES T.v_SIDES rfl (c_v 4))) (c_v 5)))))))))
  exact ⟨_, C.p, C.v⟩
/-! ### counting_rule -/
theorem ok_counting_rule_g (T : Tx K mg A fa fd) : FnOk P w K mg base CX0 2 fa.counting_rule_g fd.counting_rule_g ["rules", "here", "around"] (spM K (f_counting_rule_g A)) := by
  refine fn_okN2 rfl rfl T.F_counting_rule_g sc_counting_rule_g (fun cdv B outer s H E hr => ?_)
  have C : CSs (cxOf CX0 P w K mg base ["rules", "here", "around", "number", "rule"] "counting_rule" (defScope s_counting_rule_g) fa.counting_rule_g cdv B outer s H E).nox K W0 (defBody s_counting_rule_g) _ (m_counting_rule_g A) := (s_cons (s_for PassesOwn.never rfl (i_enumA rfl T.b_enumerate rfl (a_cons (c_v 0) a_nil)) (g_tup rfl rfl (g_cons (g_n 3 sc_counting_rule_g.nd rfl (by first | exact Or.inl rfl | exact Or.inr rfl)) (g_cons (g_n 4 sc_counting_rule_g.nd rfl (by first | exact Or.inl rfl | exact Or.inr rfl)) g_nil))) (s_one (s_if (t_val (c_call (ok_fits_g T) (hr.mono (by first | decide | omega)) rfl T.g_fits_g T.F_fits_g.kp T.B_fits_g .nil (fun _ => .nil) (a_cons (c_v 4) (a_ref 1 (a_ref 2 a_nil))))) (s_one (s_ret (c_v 3))) s_nil)))
  (s_one (s_ret c_n)))
  exact ⟨_, C.p, C.v⟩
/-! ### Book.counting -/
theorem ok_Book_counting (T : Tx K mg A fa fd) : FnOk P w K mg base CX0 6 fa.Book_counting fd.Book_counting ["self", "page", "cell"] (spM K (f_Book_counting A)) := by
  refine fn_okN2 rfl rfl T.F_Book_counting sc_Book_counting (fun cdv B outer s H E hr => ?_)
  have C : CSs (cxOf CX0 P w K mg base ["self", "page", "cell", "other"] "Book.counting" (defScope s_Book_counting) fa.Book_counting cdv B outer s H E).nox K W0 (defBody s_Book_counting) _ (m_Book_counting A) := (s_one (s_ret (c_call (ok_counting_rule_g T) (hr.mono (by first | decide | omega)) rfl T.g_counting_rule_g T.F_counting_rule_g.kp T.B_counting_rule_g .nil (fun _ => .nil) (a_cons (c_fld T.n_Book_rules rfl (c_v 0)) (a_cons (c_og T.M_Picture_getitem T.fn_Picture_getitem (ok_Picture_getitem T) (hr.mono (by first | decide | omega)) T.B_Picture_getitem (c_v 1) (c_v 2)) (a_cons (c_lc (own := [("other", 3)]) rfl sc_Book_counting.nd (blkOk_by (N := ["self", "page", "cell", "other"]) (sc := defScope s_Book_counting) (by decide +kernel)) (by decide) (i_seq rfl (c_call (ok_neighbours_g T) (hr.mono (by first | decide | omega)) rfl T.g_neighbours_g T.F_neighbours_g.kp T.B_neighbours_g .nil (fun _ => .nil) (a_ref 2 a_nil))) (fun _ _ _ _ _ => (g_n 3 sc_Book_counting.nd rfl (by first | exact Or.inl rfl | exact Or.inr rfl))) (fun _ _ _ _ _ => ts_nil) (fun _ _ _ _ _ => (c_og T.M_Picture_getitem T.fn_Picture_getitem (ok_Picture_getitem T) (hr.mono (by first | decide | omega)) T.B_Picture_getitem (c_v 1) (c_v 3))) (fun _ => rfl) s H) a_nil))))))
  exact ⟨_, C.p, C.v⟩
/-! ### Book.inks_at -/
theorem ok_Book_inks_at (T : Tx K mg A fa fd) : FnOk P w K mg base CX0 7 fa.Book_inks_at fd.Book_inks_at ["self", "page", "cell"] (spM K (f_Book_inks_at A)) := by
  refine fn_okN2 rfl rfl T.F_Book_inks_at sc_Book_inks_at (fun cdv B outer s H E hr => ?_)
  have C : CSs (cxOf CX0 P w K mg base ["self", "page", "cell"] "Book.inks_at" (defScope s_Book_inks_at) fa.Book_inks_at cdv B outer s H E).nox K W0 (defBody s_Book_inks_at) _ (m_Book_inks_at A) := (s_one (s_ret (c_call (ok_inks_of_g T) (hr.mono (by first | decide | omega)) rfl T.g_inks_of_g T.F_inks_of_g.kp T.B_inks_of_g .nil (fun _ => .nil) (a_cons (c_fld T.n_Book_rules rfl (c_v 0)) (a_cons (c_meth T.L_Book T.M_Book_counting (ok_Book_counting T) (hr.mono (by first | decide | omega)) T.B_Book_counting .nil (fun _ => .nil) (c_v 0) (a_ref 1 (a_ref 2 a_nil))) a_nil)))))
  exact ⟨_, C.p, C.v⟩
/-! ### is_within -/
theorem ok_is_within_g (T : Tx K mg A fa fd) : FnOk P w K mg base CX0 2 fa.is_within_g fd.is_within_g ["thing", "low", "high"] (spM K (f_is_within_g A)) := by
  refine fn_okN2 rfl rfl T.F_is_within_g sc_is_within_g (fun cdv B outer s H E hr => ?_)
  have C : CSs (cxOf CX0 P w K mg base ["thing", "low", "high"] "is_within" (defScope s_is_within_g) fa.is_within_g cdv B outer s H E).nox K W0 (defBody s_is_within_g) _ (m_is_within_g A) := (s_one (s_ret (c_and (c_call (ok_is_integer_g T) (hr.mono (by first | decide | omega)) rfl T.g_is_integer_g T.F_is_integer_g.kp T.B_is_integer_g .nil (fun _ => .nil) (a_ref 0 a_nil)) (c_one (c_lele (c_v 1) (c_v 0) (c_v 2))))))
  exact ⟨_, C.p, C.v⟩
/-! ### _is_inked -/
theorem ok_is_inked_f (T : Tx K mg A fa fd) : FnOk P w K mg base CX0 3 fa.is_inked_f fd.is_inked_f ["triple"] (spM K (f_is_inked_f A)) := by
  refine fn_okN2 rfl rfl T.F_is_inked_f sc_is_inked_f (fun cdv B outer s H E hr => ?_)
  have C : CSs (cxOf CX0 P w K mg base ["triple", "row", "column", "colour"] "_is_inked" (defScope s_is_inked_f) fa.is_inked_f cdv B outer s H E).nox K W0 (defBody s_is_inked_f) _ (m_is_inked_f A) := (s_cons (s_if (t_not (t_val (c_call (ok_is_tuple_g T) (hr.mono (by first | decide | omega)) rfl T.g_is_tuple_g T.F_is_tuple_g.kp T.B_is_tuple_g .nil (fun _ => .nil) (a_ref 0 (a_cons c_i (a_cons c_i a_nil)))))) (s_one (s_ret c_b)) s_nil)
  (s_cons (s_setG (c_v 0) (g_tup rfl rfl (g_cons (g_n 1 sc_is_inked_f.nd rfl (by first | exact Or.inl rfl | exact Or.inr rfl)) (g_cons (g_n 2 sc_is_inked_f.nd rfl (by first | exact Or.inl rfl | exact Or.inr rfl)) (g_cons (g_n 3 sc_is_inked_f.nd rfl (by first | exact Or.inl rfl | exact Or.inr rfl)) g_nil)))))
  (s_one (s_ret (c_and (c_call (ok_is_within_g T) (hr.mono (by first | decide | omega)) rfl T.g_is_within_g T.F_is_within_g.kp T.B_is_within_g .nil (fun _ => .nil) (a_cons (c_v 1) (a_cons (c_neg c_i) (a_cons c_i a_nil)))) (c_and (c_call (ok_is_within_g T) (hr.mono (by first | decide | omega)) rfl T.g_is_within_g T.F_is_within_g.kp T.B_is_within_g .nil (fun _ => .nil) (a_cons (c_v 2) (a_cons (c_neg c_i) (a_cons c_i a_nil)))) (c_one (c_call (ok_is_hue_g T) (hr.mono (by first | decide | omega)) rfl T.g_is_hue_g T.F_is_hue_g.kp T.B_is_hue_g .nil (fun _ => .nil) (a_cons (c_v 3) a_nil)))))))))
  exact ⟨_, C.p, C.v⟩
/-! ### Picture.__init__ -/
theorem ok_Picture_init (T : Tx K mg A fa fd) : FnOk P w K mg base CX0 8 fa.Picture_init fd.Picture_init ["self", "cells"] (spM K (f_Picture_init A)) := by
  refine fn_okND2 rfl rfl T.F_Picture_init sc_Picture_init (fun cdv B outer s H E hr => ?_)
  have C : CSs (cxOf CX0 P w K mg base ["self", "cells", "told", "number", "triple", "row", "column", "colour"] "Picture.__init__" (defScope s_Picture_init) fa.Picture_init cdv B outer s H E).nox K W0 (defBody s_Picture_init) _ (m_Picture_init A) := (s_cons (s_set 2 sc_Picture_init.nd rfl (by first | exact Or.inl rfl | exact Or.inr rfl) (c_call (ok_plain_g T) (hr.mono (by first | decide | omega)) rfl T.g_plain_g T.F_plain_g.kp T.B_plain_g .nil (fun _ => .nil) (a_ref 1 a_nil)))
  (s_cons (s_if (t_not (t_val (c_call (ok_is_tuple_g T) (hr.mono (by first | decide | omega)) rfl T.g_is_tuple_g T.F_is_tuple_g.kp T.B_is_tuple_g .nil (fun _ => .nil) (a_cons (c_v 2) (a_cons c_i (a_cons c_i a_nil)))))) (s_one s_never) s_nil)
  (s_cons (s_for PassesOwn.never rfl (i_enumA rfl T.b_enumerate rfl (a_cons (c_v 2) a_nil)) (g_tup rfl rfl (g_cons (g_n 3 sc_Picture_init.nd rfl (by first | exact Or.inl rfl | exact Or.inr rfl)) (g_cons (g_n 4 sc_Picture_init.nd rfl (by first | exact Or.inl rfl | exact Or.inr rfl)) g_nil))) (s_one (s_if (t_w (w_or (t_not (t_val (c_call (ok_is_inked_f T) (hr.mono (by first | decide | omega)) rfl T.g_is_inked_f T.F_is_inked_f.kp T.B_is_inked_f .nil (fun _ => .nil) (a_cons (c_v 4) a_nil)))) (w_or1 (t_w (w_and (t_gt (c_v 3) c_i) (w_and1 (t_geO hr rfl (c_sl rfl (c_ix (fun _ _ => rfl) rfl (c_v 2) (c_sub (c_v 3) c_i)) c_o0 (c_o1 c_i)) (c_sl rfl (c_v 4) c_o0 (c_o1 c_i))))))))) (s_one s_never) s_nil)))
  (s_cons (s_setA 0 T.n_Picture_cells rfl (by first | exact Or.inl rfl | exact Or.inr (Or.inl rfl) | exact Or.inr (Or.inr rfl)) rfl (c_v 2))
  (s_one (s_setA 0 T.n_Picture_colours rfl (by first | exact Or.inl rfl | exact Or.inr (Or.inl rfl) | exact Or.inr (Or.inr rfl)) rfl (c_dcA rt0 zt0 hr (own := [("row", 5), ("column", 6), ("colour", 7)]) rfl sc_Picture_init.nd (blkOk_by (N := ["self", "cells", "told", "number", "triple", "row", "column", "colour"]) (sc := defScope s_Picture_init) (by decide +kernel)) (by decide) (i_seq rfl (c_v 2)) (fun _ _ _ _ _ => (g_tup rfl rfl (g_cons (g_n 5 sc_Picture_init.nd rfl (by first | exact Or.inl rfl | exact Or.inr rfl)) (g_cons (g_n 6 sc_Picture_init.nd rfl (by first | exact Or.inl rfl | exact Or.inr rfl)) (g_cons (g_n 7 sc_Picture_init.nd rfl (by first | exact Or.inl rfl | exact Or.inr rfl)) g_nil))))) (fun _ _ _ _ _ => ts_nil) (fun _ _ _ _ _ => (c_tup (a_cons (c_v 5) (a_cons (c_v 6) a_nil)))) (fun _ _ _ _ _ => (c_v 7)) (fun _ => rfl) s H)))))))
  exact ⟨_, C.p, C.v⟩
/-! ### _law_fits_of -/
theorem ok_l_fits_of (T : Tx K mg A fa fd) : FnOk P w K mg base CX0 1 fa.l_fits_of fd.l_fits_of ["_law_rule", "_law_colour", "_law_around"] (spM K (f_l_fits_of A)) := by
  refine fn_okN2 rfl rfl T.F_l_fits_of sc_l_fits_of (fun cdv B outer s H E hr => ?_)
  have C : CSs (cxOf CX0 P w K mg base ["_law_rule", "_law_colour", "_law_around"] "_law_fits_of" (defScope s_l_fits_of) fa.l_fits_of cdv B outer s H E).nox K W0 (defBody s_l_fits_of) _ (m_l_fits_of A) := (s_cons (s_if (t_ne hr rfl (c_ix (fun _ _ => rfl) rfl (c_v 0) c_i) (c_v 1)) (s_one (s_ret c_b)) s_nil)
  (s_cons (s_if (t_eq hr rfl (c_len rfl T.b_len rfl (c_v 0)) c_i) (s_one (s_ret c_b)) s_nil)
  (s_cons (s_if (t_eq hr rfl (c_ix (fun _ _ => rfl) rfl (c_v 0) c_i) c_s) (s_one (s_ret (c_in hr (by with_unfolding_all rfl) rfl (c_ix (fun _ _ => rfl) rfl (c_v 0) c_i) (c_v 2)))) s_nil)
  (s_cons (s_if (t_eq hr rfl (c_ix (fun _ _ => rfl) rfl (c_v 0) c_i) c_s) (s_one (s_ret (c_eq hr rfl (c_v 2) (c_lst (a_cons (c_ix (fun _ _ => rfl) rfl (c_v 0) c_i) (a_cons (c_ix (fun _ _ => rfl) rfl (c_v 0) c_i) (a_cons (c_ix (fun _ _ => rfl) rfl (c_v 0) c_i) (a_cons (c_ix (fun _ _ => rfl) rfl (c_v 0) c_i) a_nil)))))))) s_nil)
  (s_one (s_ret (c_eq hr rfl (c_ix (fun _ _ => rfl) rfl (c_v 2) (c_index hr rfl (c_lst (a_cons c_s (a_cons c_s (a_cons c_s (a_cons c_s a_nil))))) (c_ix (fun _ _ => rfl) rfl (c_v 0) c_i))) (c_ix (fun _ _ => rfl) rfl (c_v 0) c_i))))))))
  exact ⟨_, C.p, C.v⟩
/-! ### _law_reads -/
theorem ok_l_reads (T : Tx K mg A fa fd) : FnOk P w K mg base CX0 2 fa.l_reads fd.l_reads ["_law_rules", "_law_page", "_law_cell"] (spM K (f_l_reads A)) := by
  refine fn_okN2 rfl rfl T.F_l_reads sc_l_reads (fun cdv B outer s H E hr => ?_)
  have C : CSs (cxOf CX0 P w K mg base ["_law_rules", "_law_page", "_law_cell", "_law_around", "_law_one", "_law_k", "_law_rule"] "_law_reads" (defScope s_l_reads) fa.l_reads cdv B outer s H E).nox K W0 (defBody s_l_reads) _ (m_l_reads A) := (s_cons (s_setLc 3 (own := [("_law_one", 4)]) rfl sc_l_reads.nd rfl rfl (by with_unfolding_all rfl) (blkOk_by (N := ["_law_rules", "_law_page", "_law_cell", "_law_around", "_law_one", "_law_k", "_law_rule"]) (sc := defScope s_l_reads) (by decide +kernel)) (by decide) (i_seq rfl (c_call (ok_l_around_of T) (hr.mono (by first | decide | omega)) rfl T.g_l_around_of T.F_l_around_of.kp T.B_l_around_of .nil (fun _ => .nil) (a_ref 2 a_nil))) (fun _ _ _ _ _ => (g_n 4 sc_l_reads.nd rfl (by first | exact Or.inl rfl | exact Or.inr rfl))) (fun _ _ _ _ _ => ts_nil) (fun _ _ _ _ _ => (c_get2 hr ⟨rfl, rfl, rfl, rfl⟩ (c_v 1) (c_v 4) c_s)) (fun _ => rfl) s H)
  (s_cons (s_for PassesOwn.never rfl (i_enumA rfl T.b_enumerate rfl (a_cons (c_v 0) a_nil)) (g_tup rfl rfl (g_cons (g_n 5 sc_l_reads.nd rfl (by first | exact Or.inl rfl | exact Or.inr rfl)) (g_cons (g_n 6 sc_l_reads.nd rfl (by first | exact Or.inl rfl | exact Or.inr rfl)) g_nil))) (s_one (s_if (t_val (c_call (ok_l_fits_of T) (hr.mono (by first | decide | omega)) rfl T.g_l_fits_of T.F_l_fits_of.kp T.B_l_fits_of .nil (fun _ => .nil) (a_cons (c_v 6) (a_cons (c_get2 hr ⟨rfl, rfl, rfl, rfl⟩ (c_v 1) (c_v 2) c_s) (a_cons (c_v 3) a_nil))))) (s_one (s_ret (c_v 5))) s_nil)))
  (s_one (s_ret c_n))))
  exact ⟨_, C.p, C.v⟩
/-! ### _law_prints -/
theorem ok_l_prints (T : Tx K mg A fa fd) : FnOk P w K mg base CX0 3 fa.l_prints fd.l_prints ["_law_rules", "_law_page", "_law_cell"] (spM K (f_l_prints A)) := by
  refine fn_okN2 rfl rfl T.F_l_prints sc_l_prints (fun cdv B outer s H E hr => ?_)
  have C : CSs (cxOf CX0 P w K mg base ["_law_rules", "_law_page", "_law_cell", "_law_number"] "_law_prints" (defScope s_l_prints) fa.l_prints cdv B outer s H E).nox K W0 (defBody s_l_prints) _ (m_l_prints A) := (s_cons (s_set 3 sc_l_prints.nd rfl (by first | exact Or.inl rfl | exact Or.inr rfl) (c_call (ok_l_reads T) (hr.mono (by first | decide | omega)) rfl T.g_l_reads T.F_l_reads.kp T.B_l_reads .nil (fun _ => .nil) (a_ref 0 (a_ref 1 (a_ref 2 a_nil)))))
  (s_one (s_ret (c_if (t_is (c_v 3) c_n) (c_tup a_nil) (c_tupOf rfl T.b_tuple rfl (c_ix (fun _ _ => rfl) rfl (c_ix (fun _ _ => rfl) rfl (c_v 0) (c_v 3)) (c_neg c_i)))))))
  exact ⟨_, C.p, C.v⟩
/-! ### law -/
theorem ok_law_g (T : Tx K mg A fa fd) : FnOk P w K mg base CX0 11 fa.law_g fd.law_g ["_law_script"] (spM K (f_law_g A)) := by
  refine fn_okN2 rfl rfl T.F_law_g sc_law_g (fun cdv B outer s H E hr => ?_)
  have C : CSs (cxOf CX0 P w K mg base ["_law_script", "_law_bag", "_law_world", "_law_rules", "_law_spot", "_law_away", "_law_colours", "_law_told", "_law_inks", "_law_book", "_law_k", "_law_page"] "law" (defScope s_law_g) fa.law_g cdv B outer s H E).nox K W0 (defBody s_law_g) _ (m_law_g A) := (s_cons (s_set 1 sc_law_g.nd rfl (by first | exact Or.inl rfl | exact Or.inr rfl) (c_call (ok_l_bag_of T) (hr.mono (by first | decide | omega)) rfl T.g_l_bag_of T.F_l_bag_of.kp T.B_l_bag_of .nil (fun _ => .nil) (a_ref 0 (a_cons c_i a_nil))))
  (s_cons (s_set 2 sc_law_g.nd rfl (by first | exact Or.inl rfl | exact Or.inr rfl) (c_call (ok_l_world_of T) (hr.mono (by first | decide | omega)) rfl T.g_l_world_of T.F_l_world_of.kp T.B_l_world_of .nil (fun _ => .nil) (a_ref 1 a_nil)))
  (s_cons (s_set 1 sc_law_g.nd rfl (by first | exact Or.inl rfl | exact Or.inr rfl) (c_call (ok_l_bag_of T) (hr.mono (by first | decide | omega)) rfl T.g_l_bag_of T.F_l_bag_of.kp T.B_l_bag_of .nil (fun _ => .nil) (a_ref 0 (a_cons c_i a_nil))))
  (s_cons (s_set 3 sc_law_g.nd rfl (by first | exact Or.inl rfl | exact Or.inr rfl) (c_call (ok_l_long_rules T) (hr.mono (by first | decide | omega)) rfl T.g_l_long_rules T.F_l_long_rules.kp T.B_l_long_rules .nil (fun _ => .nil) (a_ref 1 (a_cons (c_v 2) a_nil))))
  (s_cons (s_set 1 sc_law_g.nd rfl (by first | exact Or.inl rfl | exact Or.inr rfl) (c_call (ok_l_bag_of T) (hr.mono (by first | decide | omega)) rfl T.g_l_bag_of T.F_l_bag_of.kp T.B_l_bag_of .nil (fun _ => .nil) (a_ref 0 (a_cons c_i a_nil))))
  (s_cons (s_set 4 sc_law_g.nd rfl (by first | exact Or.inl rfl | exact Or.inr rfl) (c_tup (a_cons (c_sub (c_call (ok_l_pick T) (hr.mono (by first | decide | omega)) rfl T.g_l_pick T.F_l_pick.kp T.B_l_pick .nil (fun _ => .nil) (a_ref 1 (a_cons c_i a_nil))) c_i) (a_cons (c_sub (c_call (ok_l_pick T) (hr.mono (by first | decide | omega)) rfl T.g_l_pick T.F_l_pick.kp T.B_l_pick .nil (fun _ => .nil) (a_ref 1 (a_cons c_i a_nil))) c_i) a_nil))))
  (s_cons (s_set 5 sc_law_g.nd rfl (by first | exact Or.inl rfl | exact Or.inr rfl) (c_eq hr rfl (c_call (ok_l_pick T) (hr.mono (by first | decide | omega)) rfl T.g_l_pick T.F_l_pick.kp T.B_l_pick .nil (fun _ => .nil) (a_ref 1 (a_cons c_i a_nil))) c_i))
  (s_cons (s_if (t_tru rfl (c_v 5)) (s_one (s_set 4 sc_law_g.nd rfl (by first | exact Or.inl rfl | exact Or.inr rfl) (c_tup (a_cons (c_sub (c_mul (c_ix (fun _ _ => rfl) rfl (c_v 4) c_i) (c_pow c_i c_i)) c_i) (a_cons (c_add rfl (c_ix (fun _ _ => rfl) rfl (c_v 4) c_i) (c_pow c_i c_i)) a_nil))))) s_nil)
  (s_cons (s_set 6 sc_law_g.nd rfl (by first | exact Or.inl rfl | exact Or.inr rfl) (c_add rfl (c_dget hr (fun _ _ => rfl) (c_v 2) c_s) (c_lst (a_cons c_s a_nil))))
  (s_cons (s_if (t_eq hr rfl (c_call (ok_l_pick T) (hr.mono (by first | decide | omega)) rfl T.g_l_pick T.F_l_pick.kp T.B_l_pick .nil (fun _ => .nil) (a_ref 1 (a_cons c_i a_nil))) c_i) (s_one (s_set 6 sc_law_g.nd rfl (by first | exact Or.inl rfl | exact Or.inr rfl) (c_add rfl (c_v 6) (c_lst (a_cons (c_call (ok_l_one_of T) (hr.mono (by first | decide | omega)) rfl T.g_l_one_of T.F_l_one_of.kp T.B_l_one_of .nil (fun _ => .nil) (a_ref 1 (a_cons (c_dget hr (fun _ _ => rfl) (c_v 2) c_s) a_nil))) a_nil))))) s_nil)
  (s_cons (s_set 7 sc_law_g.nd rfl (by first | exact Or.inl rfl | exact Or.inr rfl) (c_call (ok_l_told_of T) (hr.mono (by first | decide | omega)) rfl T.g_l_told_of T.F_l_told_of.kp T.B_l_told_of .nil (fun _ => .nil) (a_ref 1 (a_cons (c_v 4) (a_cons (c_v 6) a_nil)))))
  (s_cons (s_set 1 sc_law_g.nd rfl (by first | exact Or.inl rfl | exact Or.inr rfl) (c_call (ok_l_bag_of T) (hr.mono (by first | decide | omega)) rfl T.g_l_bag_of T.F_l_bag_of.kp T.B_l_bag_of .nil (fun _ => .nil) (a_ref 0 (a_cons c_i a_nil))))
  (s_cons (s_set 8 sc_law_g.nd rfl (by first | exact Or.inl rfl | exact Or.inr rfl) (c_call (ok_l_led T) (hr.mono (by first | decide | omega)) rfl T.g_l_led T.F_l_led.kp T.B_l_led .nil (fun _ => .nil) (a_ref 1 (a_cons (c_v 3) (a_ref 7 (a_cons (c_v 4) (a_cons (c_v 6) a_nil)))))))
  (s_cons (s_if (t_is (c_v 8) c_n) (s_one (s_ret c_b)) s_nil)
  (s_cons (s_set 9 sc_law_g.nd rfl (by first | exact Or.inl rfl | exact Or.inr rfl) (c_make T.mk_Book (ok_Book_init T) (hr.mono (by first | decide | omega)) rfl T.c_Book T.B_Book_init .nil (fun _ => .nil) (a_cons (c_v 3) a_nil)))
  (s_cons (s_if (t_not (t_val (c_call (ok_l_same T) (hr.mono (by first | decide | omega)) rfl T.g_l_same T.F_l_same.kp T.B_l_same .nil (fun _ => .nil) (a_cons (c_call (ok_read_told_g T) (hr.mono (by first | decide | omega)) rfl T.g_read_told_g T.F_read_told_g.kp T.B_read_told_g .nil (fun _ => .nil) (a_cons (c_v 9) (a_cons (c_call (ok_l_triples T) (hr.mono (by first | decide | omega)) rfl T.g_l_triples T.F_l_triples.kp T.B_l_triples .nil (fun _ => .nil) (a_cons (c_v 7) a_nil)) (a_cons (c_v 4) a_nil)))) (a_cons (c_tup (a_cons c_s (a_cons (c_v 8) a_nil))) a_nil))))) (s_one (s_ret c_b)) s_nil)
  (s_cons (s_if (t_tru rfl (c_v 5)) (s_one (s_ret c_b)) s_nil)
  (s_cons (s_set 1 sc_law_g.nd rfl (by first | exact Or.inl rfl | exact Or.inr rfl) (c_call (ok_l_bag_of T) (hr.mono (by first | decide | omega)) rfl T.g_l_bag_of T.F_l_bag_of.kp T.B_l_bag_of .nil (fun _ => .nil) (a_ref 0 (a_cons c_i a_nil))))
  (s_cons (s_for PassesOwn.never rfl (i_r1 rfl T.b_range (a_cons c_i a_nil)) (g_n 10 sc_law_g.nd rfl (by first | exact Or.inl rfl | exact Or.inr rfl)) (s_cons (s_set 11 sc_law_g.nd rfl (by first | exact Or.inl rfl | exact Or.inr rfl) (c_call (ok_l_other_page T) (hr.mono (by first | decide | omega)) rfl T.g_l_other_page T.F_l_other_page.kp T.B_l_other_page .nil (fun _ => .nil) (a_ref 1 (a_cons (c_v 7) (a_cons (c_v 4) (a_cons (c_v 6) a_nil))))))
  (s_cons (s_if (t_not (t_val (c_call (ok_l_same T) (hr.mono (by first | decide | omega)) rfl T.g_l_same T.F_l_same.kp T.B_l_same .nil (fun _ => .nil) (a_cons (c_meth T.L_Book T.M_Book_inks_at (ok_Book_inks_at T) (hr.mono (by first | decide | omega)) T.B_Book_inks_at .nil (fun _ => .nil) (c_v 9) (a_cons (c_make T.mk_Picture (ok_Picture_init T) (hr.mono (by first | decide | omega)) rfl T.c_Picture T.B_Picture_init .nil (fun _ => .nil) (a_cons (c_call (ok_l_triples T) (hr.mono (by first | decide | omega)) rfl T.g_l_triples T.F_l_triples.kp T.B_l_triples .nil (fun _ => .nil) (a_cons (c_v 11) a_nil)) a_nil)) (a_cons (c_v 4) a_nil))) (a_cons (c_v 8) a_nil))))) (s_one (s_ret c_b)) s_nil)
  (s_one (s_if (t_ne hr rfl (c_call (ok_l_prints T) (hr.mono (by first | decide | omega)) rfl T.g_l_prints T.F_l_prints.kp T.B_l_prints .nil (fun _ => .nil) (a_cons (c_v 3) (a_cons (c_v 11) (a_cons (c_v 4) a_nil)))) (c_v 8)) (s_one (s_ret c_b)) s_nil)))))
  (s_one (s_ret (c_call (ok_l_same T) (hr.mono (by first | decide | omega)) rfl T.g_l_same T.F_l_same.kp T.B_l_same .nil (fun _ => .nil) (a_cons (c_call (ok_read_told_g T) (hr.mono (by first | decide | omega)) rfl T.g_read_told_g T.F_read_told_g.kp T.B_read_told_g .nil (fun _ => .nil) (a_cons (c_make0 T.mk_Book (ok_Book_init T) (hr.mono (by first | decide | omega)) rfl T.c_Book T.B1_Book_init (dvs := [.ref fa.d_Book_init_0]) ((.cons rfl .nil)) (fun F => .cons (T.d_Book_init_0 F) (.nil))) (a_cons (c_lst (a_cons (c_lst (a_cons (c_ix (fun _ _ => rfl) rfl (c_v 4) c_i) (a_cons (c_ix (fun _ _ => rfl) rfl (c_v 4) c_i) (a_cons (c_ix (fun _ _ => rfl) rfl (c_v 6) c_i) a_nil)))) a_nil)) (a_cons (c_v 4) a_nil)))) (a_cons (c_tup (a_cons c_s (a_cons (c_tup a_nil) a_nil))) a_nil))))))))))))))))))))))))
  exact ⟨_, C.p, C.v⟩
end Cz

/-! # CzT -/
namespace Cz
open L2 PyProof.Rows PySem.Spec PySem

/-! ## what a mirror gives, told by wishes -/
@[irreducible] def Ok1 {α : Type} (r : R α) (Q : α → SS → Prop) : Prop := match r with
  | .ok a s => Q a s
  | _ => False
theorem Ok1.ok {α : Type} {a : α} {s : SS} {Q : α → SS → Prop} : Ok1 (.ok a s) Q ↔ Q a s := by
  unfold Ok1
  exact Iff.rfl
theorem Ok1.no {α : Type} {Q : α → SS → Prop} : Ok1 (.no) Q ↔ False := by
  unfold Ok1
  exact Iff.rfl
theorem Ok1.ex {α : Type} {c : Nat} {l : List (Str × D)} {s : SS} {Q : α → SS → Prop} : Ok1 (.ex c l s) Q ↔ False := by
  unfold Ok1
  exact Iff.rfl
def isOk {α : Type} : R α → Bool
  | .ok _ _ => true
  | _ => false
theorem Ok1.elim {α : Type} {r : R α} {Q : α → SS → Prop} {P : Prop} (h : Ok1 r Q) (e : isOk r = false := by rfl) : P := by
  unfold Ok1 at h
  exact False.elim (by cases r <;> first | exact h | cases e)
theorem Ok1.bind {α β : Type} {r : R α} {f : α → SS → R β} {Q : β → SS → Prop} : Ok1 (r.bind f) Q ↔ Ok1 r fun a s => Ok1 (f a s) Q := by
  unfold Ok1
  cases r <;> exact Iff.rfl
theorem Ok1.mono {α : Type} {r : R α} {Q Q' : α → SS → Prop} (h : Ok1 r Q) (k : ∀ a s, Q a s → Q' a s) : Ok1 r Q' := by
  unfold Ok1 at *
  cases r with
  | ok a s => exact k _ _ h
  | ex c l s => exact h.elim
  | no => exact h.elim
theorem Ok1.opt {α β : Type} {o : Option α} {f : α → R β} {Q : β → SS → Prop} : Ok1 (opt o f) Q ↔ ∃ a, o = some a ∧ Ok1 (f a) Q := by
  unfold Ok1
  cases o with
  | none => exact ⟨fun h => h.elim, fun ⟨_, h, _⟩ => by cases h⟩
  | some a => exact ⟨fun h => ⟨a, rfl, h⟩, fun ⟨_, h, q⟩ => by cases h; exact q⟩
theorem Ok1.noX {α : Type} {r : R α} {Q : α → SS → Prop} : Ok1 (noX r) Q ↔ Ok1 r Q := by
  unfold Ok1
  cases r <;> exact Iff.rfl
theorem Ok1.noEx {r : R Rv} {Q : Rv → SS → Prop} : Ok1 (noEx r) Q ↔ Ok1 r Q := by
  unfold Ok1
  cases r <;> exact Iff.rfl
theorem Ok1.ite {α : Type} {c : Prop} [Decidable c] {a b : R α} {Q : α → SS → Prop} : Ok1 (if c then a else b) Q ↔ if c then Ok1 a Q else Ok1 b Q := by
  split <;> exact Iff.rfl
/-- what a def gives: the value, and its parameters behind it -/
def OkF (f : MF) (as : List SV) (Q : Rv → List SV → Prop) : Prop := Ok1 (f as) fun r s => ∃ as', svs s = some as' ∧ (∀ i, r ≠ .b i) ∧ Q r as'
theorem OkF.mono {f : MF} {as : List SV} {Q Q' : Rv → List SV → Prop} (h : OkF f as Q) (k : ∀ r as', Q r as' → Q' r as') : OkF f as Q' :=
  Ok1.mono h fun r s ⟨as', h1, h2, h3⟩ => ⟨as', h1, h2, k _ _ h3⟩
theorem Ok1.call {f : MF} {rs : List Rv} {s : SS} {Q : Rv → SS → Prop} {as : List SV} {P : Rv → List SV → Prop} (ha : argS s rs = some as) (hn : (refs rs).Nodup) (h : OkF f as P) (k : ∀ r as', P r as' → ∃ s', backS s rs as' = some s' ∧ Q r s') : Ok1 (Cz.noEx (callS f rs s)) Q := by
  rw [Ok1.noEx]
  unfold callS
  rw [ha]
  show Ok1 (if (refs rs).Nodup then _ else _) Q
  rw [if_pos hn]
  unfold OkF at h
  unfold Ok1 at *
  cases e : f as with
  | ok r s2 =>
    rw [e] at h
    obtain ⟨as', h1, h2, h3⟩ := h
    obtain ⟨s', h4, h5⟩ := k r as' h3
    dsimp only
    rw [h1]
    dsimp only [Cz.opt]
    rw [h4]
    cases r with
    | d d => exact h5
    | o o => exact h5
    | b i => exact absurd rfl (h2 i)
  | ex c l s2 => rw [e] at h; exact h.elim
  | no => rw [e] at h; exact h.elim
/-- statements: on, out with a value, broken off, on with the next -/
@[irreducible] def Oo (o : Out) (N : SS → Prop) (T : Rv → SS → Prop) (B C : SS → Prop) : Prop := match o with
  | .nx s => N s
  | .rt r s => T r s
  | .bk s => B s
  | .ct s => C s
  | _ => False
def isOo : Out → Bool
  | .ex _ _ _ => false
  | .no => false
  | _ => true
theorem Oo.elim {o : Out} {N : SS → Prop} {T : Rv → SS → Prop} {B C : SS → Prop} {P : Prop} (h : Oo o N T B C) (e : isOo o = false := by rfl) : P := by
  unfold Oo at h
  exact False.elim (by cases o <;> first | exact h | cases e)
section
variable {N : SS → Prop} {T : Rv → SS → Prop} {B C : SS → Prop} {s : SS}
theorem Oo.nx : Oo (.nx s) N T B C ↔ N s := by
  unfold Oo
  exact Iff.rfl
theorem Oo.rt {r : Rv} : Oo (.rt r s) N T B C ↔ T r s := by
  unfold Oo
  exact Iff.rfl
theorem Oo.bk : Oo (.bk s) N T B C ↔ B s := by
  unfold Oo
  exact Iff.rfl
theorem Oo.ct : Oo (.ct s) N T B C ↔ C s := by
  unfold Oo
  exact Iff.rfl
theorem Oo.no : Oo .no N T B C ↔ False := by
  unfold Oo
  exact Iff.rfl
theorem Oo.seq {a b : MS} : Oo (mSeq a b s) N T B C ↔ Oo (a s) (fun s => Oo (b s) N T B C) T B C := by
  unfold mSeq Oo
  cases a s <;> exact Iff.rfl
theorem Oo.out {α : Type} {r : R α} {f : α → SS → Out} : Oo (r.out f) N T B C ↔ Ok1 r fun a s => Oo (f a s) N T B C := by
  unfold Ok1 Oo
  cases r <;> exact Iff.rfl
theorem Oo.ite {c : Prop} [Decidable c] {a b : Out} : Oo (if c then a else b) N T B C ↔ if c then Oo a N T B C else Oo b N T B C := by
  split <;> exact Iff.rfl
theorem Oo.opt {α : Type} {o : Option α} {f : α → Out} : Oo (optO o f) N T B C ↔ ∃ a, o = some a ∧ Oo (f a) N T B C := by
  unfold Oo
  cases o with
  | none => exact ⟨fun h => h.elim, fun ⟨_, h, _⟩ => by cases h⟩
  | some a => exact ⟨fun h => ⟨a, rfl, h⟩, fun ⟨_, h, q⟩ => by cases h; exact q⟩
theorem Oo.mono {o : Out} {N' : SS → Prop} {T' : Rv → SS → Prop} {B' C' : SS → Prop} (h : Oo o N T B C) (h1 : ∀ s, N s → N' s) (h2 : ∀ r s, T r s → T' r s) (h3 : ∀ s, B s → B' s) (h4 : ∀ s, C s → C' s) : Oo o N' T' B' C' := by
  unfold Oo at *
  cases o with
  | nx s => exact h1 _ h
  | rt r s => exact h2 _ _ h
  | bk s => exact h3 _ h
  | ct s => exact h4 _ h
  | ex c l s => exact h.elim
  | no => exact h.elim
/-- a loop by an invariant over what is left -/
theorem Oo.loop {f : MG} {b : MS} (I : List D → SS → Prop) (h0 : ∀ s, I [] s → N s) (h1 : ∀ d ds s, I (d :: ds) s → ∃ s1, f d s = some s1 ∧ Oo (b s1) (I ds) T N (I ds)) : ∀ (ds : List D) (s : SS), I ds s → Oo (loop f b ds s) N T B C
  | [], s, h => Oo.nx.mpr (h0 s h)
  | d :: ds, s, h => by
    obtain ⟨s1, e, q⟩ := h1 d ds s h
    show Oo (optO (f d s) _) N T B C
    rw [e]
    show Oo (match b s1 with
      | .nx s2 => Cz.loop f b ds s2
      | .ct s2 => Cz.loop f b ds s2
      | .bk s2 => .nx s2
      | o => o) N T B C
    cases eb : b s1 with
    | nx s2 => rw [eb, Oo.nx] at q; exact Oo.loop I h0 h1 ds s2 q
    | ct s2 => rw [eb, Oo.ct] at q; exact Oo.loop I h0 h1 ds s2 q
    | bk s2 => rw [eb, Oo.bk] at q; exact Oo.nx.mpr q
    | rt r s2 => rw [eb] at q; unfold Oo at *; exact q
    | ex c l s2 => rw [eb] at q; unfold Oo at *; exact q
    | no => rw [eb] at q; unfold Oo at *; exact q
end
theorem Ok1.outR {o : Option Rv} {s : SS} {Q : Rv → SS → Prop} : Ok1 (outR o s) Q ↔ match o with
    | some (.d d) => Q (.d d) s
    | some (.o d) => Q (.o d) s
    | _ => False := by
  unfold Ok1
  cases o with
  | none => exact Iff.rfl
  | some r => cases r <;> exact Iff.rfl
theorem ex_some {α : Type} {a : α} {P : α → Prop} : (∃ x, some a = some x ∧ P x) ↔ P a := ⟨fun ⟨x, h, p⟩ => by cases h; exact p, fun p => ⟨a, rfl, p⟩⟩
/-- a comprehension's loop by an invariant -/
theorem Ok1.loopC {f : MG} {mt : M Bool} {me : M Rv} {vs : List Nat} {Q : List D → SS → Prop} (I : List D → List D → SS → Prop) (h0 : ∀ acc s, I [] acc s → Q acc s) (h1 : ∀ d ds acc s, I (d :: ds) acc s → ∃ s1, f d s = some s1 ∧ Ok1 (mt s1) fun b s2 => if b = true then
      Ok1 (me s2) fun r s3 => Ok1 (frz r s3) fun e s4 => loose s4 vs = true ∧ acc.length < 100000 ∧ I ds (acc ++ [e]) (wipeS s4 vs) else loose s2 vs = true ∧ I ds acc (wipeS s2 vs)) : ∀ (ds acc : List D) (s : SS), I ds acc s → Ok1 (Cz.loopC f mt me vs ds acc s) Q
  | [], acc, s, h => Ok1.ok.mpr (h0 acc s h)
  | d :: ds, acc, s, h => by
    obtain ⟨s1, e, q⟩ := h1 d ds acc s h
    show Ok1 (Cz.opt (f d s) _) Q
    rw [e]
    show Ok1 ((Cz.noX (mt s1)).bind _) Q
    rw [Ok1.bind, Ok1.noX]
    refine Ok1.mono q fun b s2 q => ?_
    cases b with
    | true =>
      rw [if_pos rfl] at q
      show Ok1 ((Cz.noX (me s2)).bind _) Q
      rw [Ok1.bind, Ok1.noX]
      refine Ok1.mono q fun r s3 q => ?_
      rw [Ok1.bind]
      refine Ok1.mono q fun e s4 q => ?_
      rw [if_pos ⟨q.1, q.2.1⟩]
      exact Ok1.loopC I h0 h1 ds _ _ q.2.2
    | false =>
      rw [if_neg (by decide)] at q
      show Ok1 (if loose s2 vs = true then _ else _) Q
      rw [if_pos q.1]
      exact Ok1.loopC I h0 h1 ds _ _ q.2
theorem Ok1.lc {mi : M (List D)} {f : MG} {mt : M Bool} {me : M Rv} {vs : List Nat} {s : SS} {Q : Rv → SS → Prop} (h : Ok1 (mi s) fun ds s1 => loose s1 vs = true ∧ Ok1 (Cz.loopC f mt me vs ds [] (wipeS s1 vs)) fun acc s2 => Q (.o (.lst acc)) (restS s1 s2 vs)) : Ok1 (mLc mi f mt me vs s) Q := by
  unfold mLc
  rw [Ok1.bind]
  refine h.mono fun ds s1 h => ?_
  rw [if_pos h.1, Ok1.bind]
  exact h.2.mono fun _ _ z => Ok1.ok.mpr z
/-- a def by its body -/
theorem OkF.run {np n : Nat} {mb : MS} {as : List SV} {Q : Rv → List SV → Prop} (hl : as.length = np) (h : Oo (mb (as.map some ++ List.replicate (n - np) none)) (fun s => ∃ as', endS as s = some as' ∧ Q (.d .non) as') (fun r s => ∃ as', endS as s = some as' ∧ (∀ i, r ≠ .b i) ∧ Q r as') (fun _ => False) (fun _ => False)) : OkF (runN np n mb) as Q := by
  unfold OkF
  show Ok1 (noEx (runF np n mb as)) _
  rw [Ok1.noEx]
  unfold runF
  rw [if_pos hl]
  unfold Oo Ok1 at *
  cases e : mb (as.map some ++ List.replicate (n - np) none) with
  | nx s =>
    rw [e] at h
    obtain ⟨as', h1, h3⟩ := h
    dsimp only
    rw [h1]
    exact ⟨as', svs_map as', (fun i z => by cases z), h3⟩
  | rt r s =>
    rw [e] at h
    obtain ⟨as', h1, h2, h3⟩ := h
    dsimp only
    rw [h1]
    exact ⟨as', svs_map as', h2, h3⟩
  | bk s => rw [e] at h; exact h.elim
  | ct s => rw [e] at h; exact h.elim
  | ex c l s => rw [e] at h; exact h.elim
  | no => rw [e] at h; exact h.elim
end Cz

/-! # CzU -/
namespace Cz
open L2 PyProof.Rows PySem.Spec PySem

/-! ## to run a mirror: rules that fire on what is known only -/
def rdS : Option (Option SV) → SS → Nat → R Rv
  | some (some (.fz d)), s, _ => .ok (.d d) s
  | some (some (.ow _)), s, i => .ok (.b i) s
  | some (some (.br _)), s, i => .ok (.b i) s
  | _, _, _ => .no
theorem e_var {i : Nat} {s : SS} : mVar i s = rdS (s[i]?) s i := by
  unfold mVar
  cases s[i]? with
  | none => rfl
  | some x =>
    cases x with
    | none => rfl
    | some sv => cases sv <;> rfl
section
variable {s : SS} {i : Nat} {d : D} {o : OD} {l m : List D} {x y : Str} {a b : Int} {p q : Bool}
theorem e_rd1 : rdS (some (some (.fz d))) s i = .ok (.d d) s := rfl
theorem e_rd2 : rdS (some (some (.ow o))) s i = .ok (.b i) s := rfl
theorem e_rd3 : rdS (some (some (.br o))) s i = .ok (.b i) s := rfl
theorem e_c : mC d s = .ok (.d d) s := rfl
def pkS : Option (Option SV) → Option D
  | some (some (.fz d)) => some d
  | some (some (.ow o)) => some o.fz
  | some (some (.br o)) => some o.fz
  | _ => none
theorem e_pk1 : pk (.d d) s = some d := rfl
theorem e_pk2 : pk (.o o) s = some o.fz := rfl
theorem e_pk3 : pk (.b i) s = pkS (s[i]?) := by
  simp only [pk]
  cases s[i]? with
  | none => rfl
  | some x =>
    cases x with
    | none => rfl
    | some sv => cases sv <;> rfl
theorem e_pk4 : pkS (some (some (.fz d))) = some d := rfl
theorem e_pk5 : pkS (some (some (.ow o))) = some o.fz := rfl
theorem e_pk6 : pkS (some (some (.br o))) = some o.fz := rfl
theorem e_nr1 : nrm (.d d) = .d d := rfl
theorem e_nr2 : nrm (.o o) = .d o.fz := rfl
theorem e_nr3 : nrm (.b i) = .b i := rfl
def frS : Option (Option SV) → SS → Nat → R D
  | some (some (.fz d)), s, _ => .ok d s
  | some (some (.ow o)), s, i => .ok o.fz (s.set i (some (.fz o.fz)))
  | _, _, _ => .no
theorem e_fr1 : frz (.d d) s = .ok d s := rfl
theorem e_fr2 : frz (.o o) s = .ok o.fz s := rfl
theorem e_fr3 : frz (.b i) s = frS (s[i]?) s i := by
  simp only [frz]
  cases s[i]? with
  | none => rfl
  | some x =>
    cases x with
    | none => rfl
    | some sv => cases sv <;> rfl
theorem e_fr4 : frS (some (some (.fz d))) s i = .ok d s := rfl
theorem e_fr5 : frS (some (some (.ow o))) s i = .ok o.fz (s.set i (some (.fz o.fz))) := rfl
theorem e_fz1 : (OD.lst l).fz = .lst l := rfl
theorem e_fz2 {k : Bool} {t : List (Key × D)} : (OD.dk k t).fz = .dk t := rfl
theorem e_fz3 {k : Bool} {t : List (List Key × D)} : (OD.dt k t).fz = .dt t := rfl
theorem e_fz4 {C : Addr} {t : List (Str × D)} : (OD.obj C t).fz = .obj C t := rfl
def owS : Option (Option SV) → Option (SV × OD)
  | some (some (.ow o)) => some (.ow o, o)
  | some (some (.br o)) => some (.br o, o)
  | _ => none
theorem e_ow : ownAt s i = owS (s[i]?) := by
  unfold ownAt
  cases s[i]? with
  | none => rfl
  | some x =>
    cases x with
    | none => rfl
    | some sv => cases sv <;> rfl
theorem e_ow1 : owS (some (some (.ow o))) = some (.ow o, o) := rfl
theorem e_ow2 : owS (some (some (.br o))) = some (.br o, o) := rfl
def lsS : Option (Option SV) → Option (SV × List D)
  | some (some (.ow (.lst l))) => some (.ow (.lst l), l)
  | some (some (.br (.lst l))) => some (.br (.lst l), l)
  | _ => none
theorem e_ls : lstAt s i = lsS (s[i]?) := by
  unfold lstAt ownAt
  cases s[i]? with
  | none => rfl
  | some x =>
    cases x with
    | none => rfl
    | some sv =>
      cases sv with
      | fz d => rfl
      | ow o => cases o <;> rfl
      | br o => cases o <;> rfl
theorem e_ls1 : lsS (some (some (.ow (.lst l)))) = some (.ow (.lst l), l) := rfl
theorem e_ls2 : lsS (some (some (.br (.lst l)))) = some (.br (.lst l), l) := rfl
theorem e_pt1 {o' : OD} : SV.put (.ow o) o' = .ow o' := rfl
theorem e_pt2 {o' : OD} : SV.put (.br o) o' = .br o' := rfl
def feS : Option (Option SV) → Bool
  | some (some (.br _)) => false
  | some _ => true
  | none => false
theorem e_fe : free s i = feS (s[i]?) := by
  unfold free
  cases s[i]? with
  | none => rfl
  | some x =>
    cases x with
    | none => rfl
    | some sv => cases sv <;> rfl
theorem e_fe1 : feS (some none) = true := rfl
theorem e_fe2 : feS (some (some (.fz d))) = true := rfl
theorem e_fe3 : feS (some (some (.ow o))) = true := rfl
/-! parts of expressions -/
variable {α : Type} {Q : Rv → SS → Prop} {f g : D → D → Option Rv} {ma mb mc : M Rv} {h : D → Option Rv}
theorem k_op : Ok1 (mOp f ma mb s) Q ↔ Ok1 (ma s) fun r1 s1 => Ok1 (mb s1) fun r2 s2 => ∃ x, pk (nrm r1) s2 = some x ∧ ∃ y, pk r2 s2 = some y ∧ Ok1 (outR (f x y) s2) Q := by
  unfold mOp
  simp only [Ok1.bind, Ok1.opt]
theorem k_un : Ok1 (mUn h ma s) Q ↔ Ok1 (ma s) fun r1 s1 => ∃ x, pk r1 s1 = some x ∧ Ok1 (outR (h x) s1) Q := by
  unfold mUn
  simp only [Ok1.bind, Ok1.opt]
theorem k_cb1 : Ok1 (mCB1 h ma s) Q ↔ Ok1 (ma s) fun r1 s1 => ∃ x, pk r1 s1 = some x ∧ Ok1 (outR (h x) s1) Q := k_un
theorem k_o1 : Ok1 (outR (some (.d d)) s) Q ↔ Q (.d d) s := Ok1.ok
theorem k_o2 : Ok1 (outR (some (.o o)) s) Q ↔ Q (.o o) s := Ok1.ok
theorem k_tr {Q : Bool → SS → Prop} {h : D → Option Bool} : Ok1 (mTr h ma s) Q ↔ Ok1 (ma s) fun r1 s1 => ∃ x, pk r1 s1 = some x ∧ ∃ b, h x = some b ∧ Q b s1 := by
  unfold mTr
  simp only [Ok1.bind, Ok1.opt, Ok1.ok]
theorem k_and {Q : Bool → SS → Prop} {u v : M Bool} : Ok1 (mAnd u v s) Q ↔ Ok1 (u s) fun b s1 => if b = true then Ok1 (v s1) Q else Q false s1 := by
  unfold mAnd
  simp only [Ok1.bind, Ok1.ite, Ok1.ok]
theorem k_or {Q : Bool → SS → Prop} {u v : M Bool} : Ok1 (mOr u v s) Q ↔ Ok1 (u s) fun b s1 => if b = true then Q true s1 else Ok1 (v s1) Q := by
  unfold mOr
  simp only [Ok1.bind, Ok1.ite, Ok1.ok]
theorem k_not {Q : Bool → SS → Prop} {u : M Bool} : Ok1 (mNot u s) Q ↔ Ok1 (u s) fun b s1 => Q (!b) s1 := by
  unfold mNot
  simp only [Ok1.bind, Ok1.ok]
theorem k_andV : Ok1 (mAndV ma mb s) Q ↔ Ok1 (ma s) fun r s1 => ∃ b, (pk r s1).bind blD = some b ∧ if b = true then Ok1 (mb s1) Q else Q (.d (.bl false)) s1 := by
  unfold mAndV
  simp only [Ok1.bind, Ok1.opt, Ok1.ite, Ok1.ok]
theorem k_orV : Ok1 (mOrV ma mb s) Q ↔ Ok1 (ma s) fun r s1 => ∃ b, (pk r s1).bind blD = some b ∧ if b = true then Q (.d (.bl true)) s1 else Ok1 (mb s1) Q := by
  unfold mOrV
  simp only [Ok1.bind, Ok1.opt, Ok1.ite, Ok1.ok]
theorem k_notV : Ok1 (mNotV ma s) Q ↔ Ok1 (ma s) fun r s1 => ∃ b, (pk r s1).bind blD = some b ∧ Q (.d (.bl !b)) s1 := by
  unfold mNotV
  simp only [Ok1.bind, Ok1.opt, Ok1.ok]
theorem k_if {u : M Bool} : Ok1 (mIf u ma mb s) Q ↔ Ok1 (u s) fun b s1 => if b = true then Ok1 (ma s1) Q else Ok1 (mb s1) Q := by
  unfold mIf
  simp only [Ok1.bind, Ok1.ite]
variable {A : List Rv → SS → Prop} {mr : M (List Rv)}
theorem k_nil : Ok1 (mANil s) A ↔ A [] s := Ok1.ok
theorem k_cons : Ok1 (mACons ma mr s) A ↔ Ok1 (ma s) fun r s1 => Ok1 (frz r s1) fun d s2 => Ok1 (mr s2) fun rs s3 => A (.d d :: rs) s3 := by
  unfold mACons
  simp only [Ok1.bind, Ok1.ok]
theorem k_ref : Ok1 (mARef i mr s) A ↔ Ok1 (rdS (s[i]?) s i) fun r s1 => Ok1 (mr s1) fun rs s2 => A (r :: rs) s2 := by
  unfold mARef
  cases s[i]? with
  | none => (unfold Ok1; exact Iff.rfl)
  | some z =>
    cases z with
    | none => (unfold Ok1; exact Iff.rfl)
    | some sv =>
      cases sv with
      | fz d => simp only [Ok1.bind, Ok1.ok, e_rd1]
      | ow d => simp only [Ok1.bind, Ok1.ok, e_rd2]
      | br d => simp only [Ok1.bind, Ok1.ok, e_rd3]
theorem k_tup : Ok1 (mTup mr s) Q ↔ Ok1 (mr s) fun rs s1 => ∃ ds, allD rs = some ds ∧ if ds.length ≤ 100000 then Q (.d (.tup ds)) s1 else False := by
  unfold mTup
  simp only [Ok1.bind, Ok1.opt, Ok1.ite, Ok1.ok, Ok1.no]
theorem k_lst : Ok1 (mLst mr s) Q ↔ Ok1 (mr s) fun rs s1 => ∃ ds, allD rs = some ds ∧ if ds.length ≤ 100000 then Q (.o (.lst ds)) s1 else False := by
  unfold mLst
  simp only [Ok1.bind, Ok1.opt, Ok1.ite, Ok1.ok, Ok1.no]
theorem e_al1 : allD [] = some [] := rfl
theorem e_al2 {rs : List Rv} : allD (.d d :: rs) = (allD rs).map (d :: ·) := rfl
theorem e_mp {β γ : Type} {z : β} {k : β → γ} : (some z).map k = some (k z) := rfl
theorem e_bd {β γ : Type} {z : β} {k : β → Option γ} : (some z).bind k = k z := rfl
theorem k_cb {h : List D → Option Rv} : Ok1 (mCB h mr s) Q ↔ Ok1 (mr s) fun rs s1 => ∃ ds, allD rs = some ds ∧ Ok1 (outR (h ds) s1) Q := by
  unfold mCB
  simp only [Ok1.bind, Ok1.opt]
theorem k_call {F : MF} {ds : List D} : Ok1 (mCall F ds mr s) Q ↔ Ok1 (mr s) fun rs s1 => Ok1 (noEx (callS F (rs ++ ds.map .d) s1)) Q := by
  unfold mCall
  simp only [Ok1.bind]
theorem k_lm {h : List D → List D → Option (D × List D)} : Ok1 (mLm i h mr s) Q ↔ ∃ z, lsS (s[i]?) = some z ∧ Ok1 (mr s) fun rs s1 => ∃ as, allD rs = some as ∧ ∃ p, lsS (s1[i]?) = some p ∧ ∃ q, h as p.2 = some q ∧ Q (.d q.1) (s1.set i (some (p.1.put (.lst q.2)))) := by
  unfold mLm
  simp only [Ok1.bind, Ok1.opt, Ok1.ok, e_ls]
variable {P : Option Int → SS → Prop}
theorem k_yes {Q : Bool → SS → Prop} : Ok1 (mYes s) Q ↔ Q true s := Ok1.ok
theorem k_np : Ok1 (mNoPart s) P ↔ P none s := Ok1.ok
theorem k_pt : Ok1 (mPart ma s) P ↔ Ok1 (ma s) fun r s1 => ∃ k, (pk r s1).bind intOf = some k ∧ P (some k) s1 := by
  unfold mPart
  simp only [Ok1.bind, Ok1.opt, Ok1.ok]
theorem k_sl {ml mh : M (Option Int)} : Ok1 (mSl ma ml mh s) Q ↔ Ok1 (ma s) fun r s1 => Ok1 (ml s1) fun lo s2 => Ok1 (mh s2) fun hi s3 => ∃ d, pk (nrm r) s3 = some d ∧ Ok1 (outR (slD d lo hi) s3) Q := by
  unfold mSl
  simp only [Ok1.bind, Ok1.opt]
theorem e_io : intOf (.int a) = some a := rfl
/-! operators -/
theorem e_add1 : addD (.int a) (.int b) = some (.d (.int (a + b))) := rfl
theorem e_add2 : addD (.str x) (.str y) = if small (x.length + y.length) then some (.d (.str (x ++ y))) else none := rfl
theorem e_add3 : addD (.lst l) (.lst m) = if small (l.length + m.length) then some (.o (.lst (l ++ m))) else none := rfl
theorem e_sub : subD (.int a) (.int b) = some (.d (.int (a - b))) := rfl
theorem e_mul (h : mulOk a b = true) : mulD (.int a) (.int b) = some (.d (.int (a * b))) := if_pos h
theorem mulOk_r (h : -(2 ^ 64) < b ∧ b < 2 ^ 64) : mulOk a b = true := by unfold mulOk; rw [decide_eq_true h, Bool.or_true]
theorem mulOk_l (h : -(2 ^ 64) < a ∧ a < 2 ^ 64) : mulOk a b = true := by unfold mulOk; rw [decide_eq_true h, Bool.true_or]
theorem e_fdiv (h : 0 < b ∧ b < 1073741824) : fdivD (.int a) (.int b) = some (.d (.int (a / b))) := if_pos (decide_eq_true h)
theorem e_mod (h : 0 < b) : modD (.int a) (.int b) = some (.d (.int (a % b))) := if_pos (decide_eq_true h)
theorem e_pow (h : 0 ≤ b ∧ b ≤ 1000000 ∧ a.natAbs < 2 ^ 64) : powD (.int a) (.int b) = some (.d (.int (a ^ b.toNat))) := if_pos (decide_eq_true h)
theorem e_neg : negD (.int a) = some (.d (.int (-a))) := rfl
theorem e_lt : ltD (.int a) (.int b) = some (.d (.bl (decide (a < b)))) := rfl
theorem e_le : leD (.int a) (.int b) = some (.d (.bl (decide (a ≤ b)))) := rfl
theorem e_gt : gtD (.int a) (.int b) = some (.d (.bl (decide (b < a)))) := rfl
theorem e_ge : geD (.int a) (.int b) = some (.d (.bl (decide (b ≤ a)))) := rfl
theorem e_ltS : ltD (.str x) (.str y) = some (.d (.bl (sLt x y))) := rfl
theorem e_ix1 : ixD (.lst l) (.int a) = (atI l a).map fun e => .d e := rfl
theorem e_ix2 : ixD (.rol l) (.int a) = (atI l a).map fun e => .d e := rfl
theorem e_ix3 : ixD (.tup l) (.int a) = (atI l a).map fun e => .d e := rfl
theorem e_ix4 : ixD (.tuk l) (.int a) = (atI l a).map fun e => .d e := rfl
theorem e_ix5 : ixD (.str x) (.int a) = if small x.length then (atI x.cps.toList a).map fun c => .d (.str ⟨#[c]⟩) else none := rfl
theorem e_len1 : lenD (.lst l) = some (.d (.int (l.length : Nat))) := rfl
theorem e_len2 : lenD (.rol l) = some (.d (.int (l.length : Nat))) := rfl
theorem e_len3 : lenD (.tup l) = some (.d (.int (l.length : Nat))) := rfl
theorem e_len4 : lenD (.tuk l) = some (.d (.int (l.length : Nat))) := rfl
theorem e_len5 : lenD (.str x) = if small x.length then some (.d (.int (x.length : Nat))) else none := rfl
theorem e_bl : blD (.bl p) = some p := rfl
theorem e_int1 : int1D (.int a) = some (.d (.int a)) := rfl
theorem e_abs : absD (.int a) = some (.d (.int (if a < 0 then -a else a))) := rfl
theorem e_lst1 : listD (.lst l) = some (.o (.lst l)) := rfl
theorem e_lst2 : listD (.rol l) = some (.o (.lst l)) := rfl
theorem e_lst3 : listD (.tup l) = some (.o (.lst l)) := rfl
theorem e_lst4 : listD (.tuk l) = some (.o (.lst l)) := rfl
theorem e_tup1 : tupD (.lst l) = some (.d (.tup l)) := rfl
theorem e_tup2 : tupD (.rol l) = some (.d (.tup l)) := rfl
theorem e_tup3 : tupD (.tup l) = some (.d (.tup l)) := rfl
theorem e_app : appendF [d] l = if l.length < 100000 then some (.non, l ++ [d]) else none := rfl
theorem e_ext : extendF [.lst m] l = if small (l.length + m.length) then some (.non, l ++ m) else none := rfl
/-! indices -/
theorem e_at0 {z : α} {r : List α} : atI (z :: r) 0 = some z := atI_nat (j := 0) rfl
theorem e_at1 {z w : α} {r : List α} : atI (z :: w :: r) 1 = some w := atI_nat (j := 1) rfl
theorem e_at2 {z w v : α} {r : List α} : atI (z :: w :: v :: r) 2 = some v := atI_nat (j := 2) rfl
theorem e_at3 {z w v u : α} {r : List α} : atI (z :: w :: v :: u :: r) 3 = some u := atI_nat (j := 3) rfl
theorem e_in0 {n : Nat} : ixN (n + 1) 0 = some 0 := by
  unfold ixN
  (rw [if_pos (by omega), if_pos (by omega)])
  rfl
theorem e_in1 {n : Nat} : ixN (n + 1 + 1) 1 = some 1 := by
  unfold ixN
  (rw [if_pos (by omega), if_pos (by omega)])
  rfl
theorem e_in2 {n : Nat} : ixN (n + 1 + 1 + 1) 2 = some 2 := by
  unfold ixN
  (rw [if_pos (by omega), if_pos (by omega)])
  rfl
theorem e_ixN {n : Nat} {j : Nat} (h : j < n) : ixN n (j : Int) = some j := by
  unfold ixN
  (rw [if_pos (by omega), if_pos (by omega)])
  simp
theorem e_es1 {s : SS} : endS [] s = some [] := by cases s <;> rfl
theorem e_es2 {as : List SV} {z : Option SV} : endS (.fz d :: as) (z :: s) = (endS as s).map (.fz d :: ·) := rfl
theorem e_es3 {as : List SV} {o o' : OD} : endS (.br o :: as) (some (.br o') :: s) = (endS as s).map (.br o' :: ·) := rfl
theorem e_nb1 : (∀ i, Rv.d d ≠ Rv.b i) ↔ True := ⟨fun _ => trivial, fun _ i z => by cases z⟩
theorem e_nb2 : (∀ i, Rv.o o ≠ Rv.b i) ↔ True := ⟨fun _ => trivial, fun _ i z => by cases z⟩
theorem e_rdd : (Rv.d d = Rv.d (.int a)) ↔ d = .int a := ⟨fun h => by cases h; rfl, fun h => by rw [h]⟩
theorem len_seq {d : D} {l : List D} (h : seqD d = some l) : lenD d = some (.d (.int (l.length : Nat))) := by
  cases d <;> first | (cases h; rfl) | cases h
theorem ix_seqD {d : D} {l : List D} {k : Int} (h : seqD d = some l) : ixD d (.int k) = (atI l k).map fun e => .d e := by
  cases d <;> first | (cases h; rfl) | cases h
theorem lst_seq {d : D} {l : List D} (h : seqD d = some l) : listD d = some (.o (.lst l)) := by
  unfold listD
  rw [h]
  rfl
theorem at_in {α : Type} {l : List α} {k : Int} (h0 : 0 ≤ k) (h1 : k < (l.length : Nat)) : ∃ e, e ∈ l ∧ atI l k = some e := by
  obtain ⟨j, rfl⟩ : ∃ j : Nat, k = (j : Int) := ⟨k.toNat, by omega⟩
  have hj : j < l.length := by omega
  exact ⟨l[j], List.getElem_mem hj, atI_nat (List.getElem?_eq_getElem hj)⟩
end
/-! arguments, and what comes back -/
theorem g_as1 {s : SS} : argS s [] = some [] := rfl
theorem g_as2 {s : SS} {d : D} {rs : List Rv} : argS s (.d d :: rs) = (argS s rs).map (.fz d :: ·) := rfl
def asS : Option (Option SV) → Option (List SV) → Option (List SV)
  | some (some (.ow o)), r => r.map (.br o :: ·)
  | some (some (.br o)), r => r.map (.br o :: ·)
  | some (some (.fz d)), r => r.map (.fz d :: ·)
  | _, _ => none
theorem g_as3 {s : SS} {i : Nat} {rs : List Rv} : argS s (.b i :: rs) = asS (s[i]?) (argS s rs) := by
  simp only [argS]
  cases s[i]? with
  | none => rfl
  | some x =>
    cases x with
    | none => rfl
    | some sv => cases sv <;> rfl
theorem g_as4 {o : OD} {r : Option (List SV)} : asS (some (some (.ow o))) r = r.map (.br o :: ·) := rfl
theorem g_as5 {o : OD} {r : Option (List SV)} : asS (some (some (.br o))) r = r.map (.br o :: ·) := rfl
theorem g_as6 {d : D} {r : Option (List SV)} : asS (some (some (.fz d))) r = r.map (.fz d :: ·) := rfl
theorem g_b1 {s : SS} : backS s [] [] = some s := rfl
theorem g_b2 {s : SS} {d : D} {rs : List Rv} {a : SV} {as : List SV} : backS s (.d d :: rs) (a :: as) = backS s rs as := rfl
def bkS : Option (Option SV) → SV → Option SS → Nat → Option SS
  | some (some (.ow _)), .br o, r, i => r.map fun s' => s'.set i (some (.ow o))
  | some (some (.br _)), .br o, r, i => r.map fun s' => s'.set i (some (.br o))
  | some (some (.fz _)), _, r, _ => r
  | _, _, _, _ => none
theorem g_b3 {s : SS} {i : Nat} {rs : List Rv} {a : SV} {as : List SV} : backS s (.b i :: rs) (a :: as) = bkS (s[i]?) a (backS s rs as) i := by
  simp only [backS]
  cases s[i]? with
  | none => rfl
  | some x =>
    cases x with
    | none => rfl
    | some sv => cases sv <;> cases a <;> rfl
theorem g_b4 {o o' : OD} {r : Option SS} {i : Nat} : bkS (some (some (.ow o))) (.br o') r i = r.map fun s' => s'.set i (some (.ow o')) := rfl
theorem g_b5 {o o' : OD} {r : Option SS} {i : Nat} : bkS (some (some (.br o))) (.br o') r i = r.map fun s' => s'.set i (some (.br o')) := rfl
theorem g_b6 {d : D} {a : SV} {r : Option SS} {i : Nat} : bkS (some (some (.fz d))) a r i = r := rfl
/-! sources of loops -/
theorem k_items {me : M Rv} {s : SS} {Q : List D → SS → Prop} : Ok1 (mItems me s) Q ↔ Ok1 (me s) fun r s1 => Ok1 (frz r s1) fun d s2 => ∃ l, itemsD d = some l ∧ Q l s2 := by
  unfold mItems
  simp only [Ok1.bind, Ok1.opt, Ok1.ok]
theorem k_rng {f : List D → Option (List D)} {ma : M (List Rv)} {s : SS} {Q : List D → SS → Prop} : Ok1 (mRng f ma s) Q ↔ Ok1 (ma s) fun rs s1 => ∃ l, (allD rs).bind f = some l ∧ Q l s1 := by
  unfold mRng
  simp only [Ok1.bind, Ok1.opt, Ok1.ok]
theorem e_it1 {l : List D} : itemsD (.lst l) = some l := rfl
theorem e_it2 {l : List D} : itemsD (.rol l) = some l := rfl
theorem e_it3 {l : List D} : itemsD (.tup l) = some l := rfl
theorem e_it4 {l : List D} : itemsD (.tuk l) = some l := rfl
theorem e_en1 {l : List D} : enumD [.lst l] = some (pairsD (nums l.length) l) := rfl
theorem e_en2 {l : List D} : enumD [.rol l] = some (pairsD (nums l.length) l) := rfl
def upTo (n : Nat) : List D := (List.range n).map fun i => .int (0 + (i : Nat))
theorem e_rg {n : Nat} (h : n < 2 ^ 62) : rng1D [.int (n : Nat)] = some (upTo n) := by
  have q : -(2 ^ 62) ≤ ((n : Nat) : Int) ∧ ((n : Nat) : Int) < 2 ^ 62 := by omega
  simp only [rng1D]
  rw [if_pos q, Int.toNat_natCast]
  rfl
theorem k_for {mi : M (List D)} {f : MG} {b : MS} {s : SS} {N : SS → Prop} {T : Rv → SS → Prop} {B C : SS → Prop} : Oo (mFor mi f b s) N T B C ↔ Ok1 (mi s) fun ds s1 => Oo (Cz.loop f b ds s1) N T B C := Oo.out
/-- two targets -/
theorem e_g1 {i : Nat} {d : D} {s : SS} (h : feS (s[i]?) = true) : mgName i d s = some (s.set i (some (.fz d))) := by
  unfold mgName
  rw [e_fe, h]
  rfl
theorem e_g2 {i j : Nat} {d e : D} {s : SS} (h : feS (s[i]?) = true) (h2 : feS ((s.set i (some (.fz d)))[j]?) = true) : mgTup 2 (mgCons (mgName i) (mgCons (mgName j) mgNil)) (.tup [d, e]) s = some ((s.set i (some (.fz d))).set j (some (.fz e))) := by
  unfold mgTup
  show (if [d, e].length = 2 then mgCons (mgName i) (mgCons (mgName j) mgNil) [d, e] s else none) = _
  rw [if_pos (show [d, e].length = 2 from rfl)]
  show (mgName i d s).bind (fun s1 => (mgName j e s1).bind fun s2 => mgNil [] s2) = _
  rw [e_g1 h]
  show (mgName j e (s.set i (some (.fz d)))).bind (fun s2 => mgNil [] s2) = _
  rw [e_g1 h2]
  rfl
theorem pairs_in {l m : List D} {d : D} (h : d ∈ pairsD l m) : ∃ x y, d = .tup [x, y] ∧ x ∈ l ∧ y ∈ m := by
  unfold pairsD at h
  obtain ⟨⟨x, y⟩, h1, rfl⟩ := List.mem_map.mp h
  exact ⟨x, y, rfl, (List.of_mem_zip h1).1, (List.of_mem_zip h1).2⟩
theorem nums_in {n : Nat} {d : D} (h : d ∈ nums n) : ∃ i : Nat, i < n ∧ d = .int (i : Nat) := by
  unfold nums at h
  obtain ⟨i, h1, rfl⟩ := List.mem_map.mp h
  exact ⟨i, by simpa using h1, rfl⟩
theorem upTo_in {n : Nat} {d : D} (h : d ∈ upTo n) : ∃ i : Nat, i < n ∧ d = .int (i : Nat) := by
  unfold upTo at h
  obtain ⟨i, h1, rfl⟩ := List.mem_map.mp h
  exact ⟨i, by simpa using h1, by rw [Int.zero_add]⟩
theorem ints_in {ns : List Int} {d : D} (h : d ∈ ns.map D.int) : ∃ i, d = .int i := by
  obtain ⟨i, _, rfl⟩ := List.mem_map.mp h
  exact ⟨i, rfl⟩
/-- with an assertion between -/
theorem Oo.cut {a b : MS} {s : SS} {N : SS → Prop} {T : Rv → SS → Prop} {B C : SS → Prop} (M : SS → Prop) (h1 : Oo (a s) M T B C) (h2 : ∀ s, M s → Oo (b s) N T B C) : Oo (mSeq a b s) N T B C :=
  Oo.seq.mpr (h1.mono h2 (fun _ _ h => h) (fun _ h => h) (fun _ h => h))
end Cz

/-! # CzZ -/
namespace Cz
open L2 PyProof.Rows PySem.Spec PySem

/-! ## rows of texts -/
theorem toPys_strs : ∀ ts : List Str, toPys (ts.map D.str) = some (ts.map PyData.str)
  | [] => by simp only [List.map_nil, toPys]
  | t :: ts => by
    simp only [List.map_cons, toPys, toPy, Option.bind_some]
    rw [toPys_strs ts]
    rfl
abbrev okW (w : Str) : Prop := PyData.strOk w = true
abbrev okWs (ts : List Str) : Prop := ∀ t ∈ ts, okW t
theorem lay_strs : ∀ ts : List Str, okWs ts → PyData.canLayAll0 (ts.map PyData.str) = true
  | [], _ => by (simp [PyData.canLayAll0])
  | t :: ts, h => by
    have h1 : PyData.strOk t = true := h t List.mem_cons_self
    have h2 := lay_strs ts fun x hx => h x (List.mem_cons_of_mem _ hx)
    simp [PyData.canLayAll0, PyData.canLay0, h1, h2]
theorem deep_strs : ∀ ts : List Str, PyData.depthAll (ts.map PyData.str) ≤ 1
  | [] => by (simp [PyData.depthAll])
  | t :: ts => by
    have h := deep_strs ts
    (simp only [List.map_cons, PyData.depthAll, PyData.depth])
    omega
theorem shp_str {w : Str} (h : okW w) : SeqAt.shaped (.str w) = true := by
  unfold SeqAt.shaped
  rw [Bool.and_eq_true]
  exact ⟨by simp only [PyData.canLay0]; exact h, by simp [PyData.depth]⟩
theorem shp_strs {ts : List Str} (ho : okWs ts) : SeqAt.shaped (.list (ts.map .str)) = true := by
  have h := deep_strs ts
  unfold SeqAt.shaped
  rw [Bool.and_eq_true]
  refine ⟨by simp only [PyData.canLay0]; exact lay_strs ts ho, decide_eq_true ?_⟩
  simp only [PyData.depth]
  omega
theorem cmpb_str {w : Str} (h : okW w) : cmpb (.str w) = true := by
  unfold cmpb
  simp only [toPy]
  exact shp_str h
theorem cmpb_strs {ts : List Str} (h : okWs ts) : cmpb (.lst (ts.map .str)) = true := by
  unfold cmpb
  simp only [toPy]
  rw [toPys_strs ts]
  exact shp_strs h
theorem str_beq (a b : Str) : (a == b) = decide (a = b) := by
  by_cases h : a = b
  · subst h
    rw [decide_eq_true rfl]
    exact beq_self_eq_true a
  · rw [decide_eq_false h]
    exact beq_eq_false_iff_ne.mpr h
theorem any_strs (w : Str) : ∀ ts : List Str, ((ts.map D.str).any fun e => deq e (.str w)) = decide (w ∈ ts)
  | [] => by simp
  | t :: ts => by
    rw [List.map_cons, List.any_cons, any_strs w ts]
    simp only [deq, str_beq]
    by_cases h : t = w
    · subst h
      simp
    · have h' : ¬ w = t := fun z => h z.symm
      simp [h, h']
theorem e_inS {w : Str} {ts : List Str} (h : okW w) (h2 : okWs ts) : inD (.str w) (.lst (ts.map .str)) = some (.d (.bl (decide (w ∈ ts)))) := by
  unfold inD inB
  simp only [seqD, cmpb_str h, cmpb_strs h2, Bool.and_self, if_true, any_strs]
  rfl
theorem e_notS {w : Str} {ts : List Str} (h : okW w) (h2 : okWs ts) : notInD (.str w) (.lst (ts.map .str)) = some (.d (.bl (!decide (w ∈ ts)))) := by
  unfold notInD inB
  simp only [seqD, cmpb_str h, cmpb_strs h2, Bool.and_self, if_true, any_strs]
  rfl

/-! ## a word that is not taken -/
theorem len_of_nodup {α : Type} [DecidableEq α] : ∀ {l m : List α}, l.Nodup → (∀ x ∈ l, x ∈ m) → l.length ≤ m.length
  | [], m, _, _ => Nat.zero_le _
  | x :: l, m, h, hs => by
    (have h' := List.nodup_cons.mp h)
    have hx : x ∈ m := hs x List.mem_cons_self
    have e : (m.erase x).length = m.length - 1 := List.length_erase_of_mem hx
    have q := len_of_nodup (l := l) (m := m.erase x) h'.2 fun y hy => by
      have ny : y ≠ x := fun z => h'.1 (z ▸ hy)
      exact (List.mem_erase_of_ne ny).mpr (hs y (List.mem_cons_of_mem _ hy))
    have p : 0 < m.length := List.length_pos_of_mem hx
    rw [List.length_cons]
    omega
def abc : List Nat := "abcdefghijklmnopqrstuvxyz".toList.map Char.toNat
/-- the k-th pair of letters -/
def pairW (k : Nat) : Str := ⟨#[abc.getD (k / 25 % 25) 0, abc.getD (k % 25) 0]⟩
theorem abc_inj : ∀ i : Fin 25, ∀ j : Fin 25, abc.getD i.val 0 = abc.getD j.val 0 → i = j := by decide +kernel
theorem pairW_inj {i j : Nat} (hi : i < 625) (hj : j < 625) (h : pairW i = pairW j) : i = j := by
  unfold pairW at h
  have h1 : abc.getD (i / 25 % 25) 0 = abc.getD (j / 25 % 25) 0 := by
    (have := congrArg (fun s : Str => s.cps.getD 0 0) h)
    simpa using this
  have h2 : abc.getD (i % 25) 0 = abc.getD (j % 25) 0 := by
    have := congrArg (fun s : Str => s.cps.getD 1 0) h
    simpa using this
  have q1 := congrArg Fin.val (abc_inj ⟨i / 25 % 25, by omega⟩ ⟨j / 25 % 25, by omega⟩ h1)
  have q2 := congrArg Fin.val (abc_inj ⟨i % 25, by omega⟩ ⟨j % 25, by omega⟩ h2)
  simp only at q1 q2
  omega
/-- of the first n + 1 pairs one is not taken, n the number of what is taken -/
theorem pair_new {ts : List Str} (h : ts.length < 625) : ∃ k, k ≤ ts.length ∧ pairW k ∉ ts := by
  (refine Classical.byContradiction fun hn => ?_)
  have all : ∀ k, k ≤ ts.length → pairW k ∈ ts := fun k hk => Classical.byContradiction fun z => hn ⟨k, hk, z⟩
  have nd : ((List.range (ts.length + 1)).map pairW).Nodup := by
    rw [List.nodup_iff_pairwise_ne, List.pairwise_map]
    refine List.Pairwise.imp_of_mem (fun {a b} ha hb hab => ?_) (List.nodup_iff_pairwise_ne.mp List.nodup_range)
    intro z
    exact hab (pairW_inj (by have := List.mem_range.mp ha; omega) (by have := List.mem_range.mp hb; omega) z)
  have q := len_of_nodup nd fun x hx => by
    obtain ⟨k, hk, rfl⟩ := List.mem_map.mp hx
    exact all k (by have := List.mem_range.mp hk; omega)
  rw [List.length_map, List.length_range] at q
  omega
end Cz

/-! # DaG -/
namespace Cz
open L2 PyProof.Rows PySem.Spec PySem

/-! ## more rules to run a mirror -/
section
variable {s : SS} {i : Nat} {d e : D} {o : OD} {l m : List D} {x y : Str} {a b : Int} {p q : Bool} {C C' : Addr} {fs : List (Str × D)}
variable {α : Type} {Q : Rv → SS → Prop} {f g : D → D → Option Rv} {ma mb mc : M Rv} {h : D → Option Rv} {mr : M (List Rv)} {rs : List Rv}
theorem Ok1.congr {r : R α} {P P' : α → SS → Prop} (h : ∀ a s, P a s ↔ P' a s) : Ok1 r P ↔ Ok1 r P' := ⟨fun z => Ok1.mono z fun a s => (h a s).mp, fun z => Ok1.mono z fun a s => (h a s).mpr⟩
/-! calls -/
def nbQ (Q : Rv → SS → Prop) : Rv → SS → Prop
  | .b _, _ => False
  | r, s => Q r s
theorem e_nq1 : nbQ Q (.d d) s ↔ Q (.d d) s := Iff.rfl
theorem e_nq2 : nbQ Q (.o o) s ↔ Q (.o o) s := Iff.rfl
theorem k_callS {F : MF} : Ok1 (noEx (callS F rs s)) Q ↔ ∃ as, argS s rs = some as ∧ (refs rs).Nodup ∧ Ok1 (F as) fun r s2 => ∃ as', svs s2 = some as' ∧ ∃ s3, backS s rs as' = some s3 ∧ nbQ Q r s3 := by
  rw [Ok1.noEx]
  unfold callS
  rw [Ok1.opt]
  refine exists_congr fun as => and_congr_right fun _ => ?_
  rw [Ok1.ite]
  by_cases n : (refs rs).Nodup
  · rw [if_pos n]
    refine ⟨fun z => ⟨n, ?_⟩, fun z => ?_⟩
    · cases e : F as with
      | ok r s2 =>
        rw [e] at z
        obtain ⟨as', e1, z⟩ := Ok1.opt.mp z
        obtain ⟨s3, e2, z⟩ := Ok1.opt.mp z
        refine Ok1.ok.mpr ⟨as', e1, s3, e2, ?_⟩
        cases r with
        | b i => exact z.elim
        | d d => exact (Ok1.ok (Q := Q)).mp z
        | o o => exact (Ok1.ok (Q := Q)).mp z
      | ex c l s2 =>
        rw [e] at z
        obtain ⟨as', e1, z⟩ := Ok1.opt.mp z
        obtain ⟨s3, e2, z⟩ := Ok1.opt.mp z
        exact z.elim
      | no => rw [e] at z; exact Ok1.elim (r := R.no) z
    · obtain ⟨_, z⟩ := z
      cases e : F as with
      | ok r s2 =>
        rw [e] at z
        obtain ⟨as', e1, s3, e2, z⟩ := Ok1.ok.mp z
        refine Ok1.opt.mpr ⟨as', e1, Ok1.opt.mpr ⟨s3, e2, ?_⟩⟩
        cases r with
        | b i => exact z.elim
        | _ => exact Ok1.ok.mpr z
      | ex c l s2 => rw [e] at z; exact z.elim
      | no => rw [e] at z; exact z.elim
  · rw [if_neg n]
    exact ⟨fun z => z.elim, fun z => (n z.1).elim⟩
theorem e_sv1 : svs [] = some [] := rfl
theorem e_sv2 {v : SV} {r : SS} : svs (some v :: r) = (svs r).map (v :: ·) := rfl
theorem e_rf1 : refs [] = [] := rfl
theorem e_rf2 : refs (.d d :: rs) = refs rs := rfl
theorem e_rf3 : refs (.b i :: rs) = i :: refs rs := rfl
theorem OkF.use {F : MF} {as : List SV} {P : Rv → List SV → Prop} (h : OkF F as P) (k : ∀ r as', (∀ i, r ≠ .b i) → P r as' → Q r (as'.map some)) : Ok1 (F as) Q := by
  refine Ok1.mono h fun r s z => ?_
  obtain ⟨as', h1, h2, h3⟩ := z
  rw [svs_eq h1]
  exact k r as' h2 h3
theorem k_make {F : MF} {ds : List D} : Ok1 (mMake C F ds mr s) Q ↔ Ok1 (mr s) fun rs s1 => ∃ as, argS s1 (rs ++ ds.map .d) = some as ∧ (refs (rs ++ ds.map .d)).Nodup ∧ Ok1 (F (.br (.obj C []) :: as)) fun r s2 => r = .d .non ∧ ∃ o as2, svs s2 = some (.br o :: as2) ∧ ∃ s3, backS s1 (rs ++ ds.map .d) as2 = some s3 ∧ Q (.o o) s3 := by
  unfold mMake
  rw [Ok1.bind]
  have key : ∀ rs s1, Ok1 (makeS C F rs s1) Q ↔ ∃ as, argS s1 rs = some as ∧ (refs rs).Nodup ∧ Ok1 (F (.br (.obj C []) :: as)) fun r s2 => r = .d .non ∧ ∃ o as2, svs s2 = some (.br o :: as2) ∧ ∃ s3, backS s1 rs as2 = some s3 ∧ Q (.o o) s3 := by
    intro rs s1
    unfold makeS
    rw [Ok1.opt]
    refine exists_congr fun as => and_congr_right fun _ => ?_
    rw [Ok1.ite]
    by_cases n : (refs rs).Nodup
    · rw [if_pos n]
      cases e : F (.br (.obj C []) :: as) with
      | no => exact ⟨fun z => z.elim, fun z => z.2.elim⟩
      | ex c l s2 => exact ⟨fun z => z.elim, fun z => z.2.elim⟩
      | ok r s2 =>
        cases r with
        | o o => exact ⟨fun z => z.elim, fun z => by cases (Ok1.ok.mp z.2).1⟩
        | b j => exact ⟨fun z => z.elim, fun z => by cases (Ok1.ok.mp z.2).1⟩
        | d d =>
          cases d with
          | non =>
            constructor
            · intro z
              obtain ⟨as', e1, z⟩ := Ok1.opt.mp z
              split at z
              · obtain ⟨s3, e2, z⟩ := Ok1.opt.mp z
                exact ⟨n, Ok1.ok.mpr ⟨rfl, _, _, e1, s3, e2, Ok1.ok.mp z⟩⟩
              · exact z.elim
            · rintro ⟨_, z⟩
              obtain ⟨_, o, as2, e1, s3, e2, z⟩ := Ok1.ok.mp z
              refine Ok1.opt.mpr ⟨_, e1, ?_⟩
              exact Ok1.opt.mpr ⟨s3, e2, Ok1.ok.mpr z⟩
          | _ => exact ⟨fun z => z.elim, fun z => by cases (Ok1.ok.mp z.2).1⟩
    · rw [if_neg n]
      exact ⟨fun z => z.elim, fun z => (n z.1).elim⟩
  exact Ok1.congr fun rs s1 => key _ s1
theorem e_cn {β : Type} {z w : β} {r t : List β} : (z :: r = w :: t) ↔ (z = w ∧ r = t) := List.cons.injEq .. ▸ Iff.rfl
/-! attributes -/
def fldD (Cs : List Addr) (f : Str) : D → Option D
  | .obj C fs => if C ∈ Cs then fs.lookup f else none
  | _ => none
theorem k_fld {Cs : List Addr} : Ok1 (mFld Cs x ma s) Q ↔ Ok1 (ma s) fun r s1 => ∃ z, pk r s1 = some z ∧ ∃ d, fldD Cs x z = some d ∧ Q (.d d) s1 := by
  unfold mFld
  rw [Ok1.bind]
  have key : ∀ r s1, Ok1 (opt (pk r s1) fun z => match z with
    | .obj C fs => if C ∈ Cs then opt (fs.lookup x) fun d => .ok (.d d) s1 else .no
    | _ => .no) Q ↔ ∃ z, pk r s1 = some z ∧ ∃ d, fldD Cs x z = some d ∧ Q (.d d) s1 := by
    intro r s1
    rw [Ok1.opt]
    refine exists_congr fun z => and_congr_right fun _ => ?_
    cases z with
    | obj C fs =>
      dsimp only [fldD]
      split
      · rw [Ok1.opt]
        simp only [Ok1.ok]
      · exact ⟨fun z => z.elim, fun ⟨_, z, _⟩ => by cases z⟩
    | _ => exact ⟨fun z => z.elim, fun ⟨_, z, _⟩ => by cases z⟩
  exact Ok1.congr fun r s1 => key r s1
theorem e_fld {Cs : List Addr} : fldD Cs x (.obj C fs) = if C ∈ Cs then fs.lookup x else none := rfl
variable {N : SS → Prop} {T : Rv → SS → Prop} {B E : SS → Prop} {me mk : M Rv} {G : MG}
def objS : SV × OD → Option (SV × Addr × List (Str × D))
  | (v, .obj C l) => some (v, C, l)
  | _ => none
theorem k_setA {Cs : List Addr} : Oo (mSetA Cs i x me s) N T B E ↔ Ok1 (me s) fun r s1 => Ok1 (frz r s1) fun d s2 => ∃ z, (owS (s2[i]?)).bind objS = some z ∧ z.2.1 ∈ Cs ∧ z.2.2.length < 1000 ∧ N (s2.set i (some (z.1.put (.obj z.2.1 (putA x d z.2.2))))) := by
  unfold mSetA
  rw [Oo.out]
  have key : ∀ d s2, Oo (optO (ownAt s2 i) fun p => match p.2 with
    | .obj C l => if C ∈ Cs ∧ l.length < 1000 then .nx (s2.set i (some (p.1.put (.obj C (putA x d l))))) else .no
    | _ => .no) N T B E ↔ ∃ z, (owS (s2[i]?)).bind objS = some z ∧ z.2.1 ∈ Cs ∧ z.2.2.length < 1000 ∧ N (s2.set i (some (z.1.put (.obj z.2.1 (putA x d z.2.2))))) := by
    intro d s2
    rw [Oo.opt, e_ow]
    cases owS (s2[i]?) with
    | none => exact ⟨fun ⟨_, z, _⟩ => (by cases z), fun ⟨_, z, _⟩ => (by cases z)⟩
    | some p =>
      obtain ⟨v, o⟩ := p
      cases o with
      | obj C l =>
        constructor
        · rintro ⟨z, e, w⟩
          cases e
          dsimp only at w
          split at w
          · rename_i c
            exact ⟨_, rfl, c.1, c.2, Oo.nx.mp w⟩
          · exact w.elim
        · rintro ⟨z, e, c1, c2, w⟩
          cases e
          refine ⟨_, rfl, ?_⟩
          dsimp only
          rw [if_pos ⟨c1, c2⟩]
          exact Oo.nx.mpr w
      | _ => exact ⟨fun ⟨_, e, w⟩ => (by cases e; exact w.elim), fun ⟨_, z, _⟩ => (by cases z)⟩
  have k2 : ∀ r s1, Oo ((frz r s1).out fun d s2 => optO (ownAt s2 i) fun p => match p.2 with
    | .obj C l => if C ∈ Cs ∧ l.length < 1000 then .nx (s2.set i (some (p.1.put (.obj C (putA x d l))))) else .no
    | _ => .no) N T B E ↔ Ok1 (frz r s1) fun d s2 => ∃ z, (owS (s2[i]?)).bind objS = some z ∧ z.2.1 ∈ Cs ∧ z.2.2.length < 1000 ∧ N (s2.set i (some (z.1.put (.obj z.2.1 (putA x d z.2.2))))) := by
    intro r s1
    rw [Oo.out]
    exact Ok1.congr fun d s2 => key d s2
  exact Ok1.congr fun r s1 => k2 r s1
theorem e_ob1 {v : SV} : objS (v, .obj C fs) = some (v, C, fs) := rfl
theorem e_pa1 : putA x d [] = [(x, d)] := rfl
theorem e_pa2 {r : List (Str × D)} {z : D} : putA x d ((y, z) :: r) = if y = x then (y, d) :: r else (y, z) :: putA x d r := rfl
/-! targets -/
theorem k_asgG : Oo (mAsgG G me s) N T B E ↔ Ok1 (me s) fun r s1 => Ok1 (frz r s1) fun d s2 => ∃ s3, G d s2 = some s3 ∧ N s3 := by
  unfold mAsgG
  simp only [Oo.out, Oo.opt, Oo.nx]
theorem e_gn : mgName i d s = if feS (s[i]?) = true then some (s.set i (some (.fz d))) else none := by
  unfold mgName
  rw [e_fe]
theorem e_gnil : mgNil [] s = some s := rfl
theorem e_gcons {F : MG} {R : MGs} : mgCons F R (d :: l) s = (F d s).bind fun s1 => R l s1 := rfl
theorem e_gtup {n : Nat} {R : MGs} : mgTup n R (.tup l) s = if l.length = n then R l s else none := rfl
theorem e_gtuk {n : Nat} {R : MGs} : mgTup n R (.tuk l) s = if l.length = n then R l s else none := rfl
theorem e_gany1 {n : Nat} {R : MGs} : mgAny n R (.tup l) s = if l.length = n then R l s else none := rfl
theorem e_gany2 {n : Nat} {R : MGs} : mgAny n R (.lst l) s = if l.length = n then R l s else none := rfl
theorem e_gany3 {n : Nat} {R : MGs} : mgAny n R (.tuk l) s = if l.length = n then R l s else none := rfl
/-! dicts -/
theorem k_dput : Oo (mDPut i mk me s) N T B E ↔ Ok1 (me s) fun r s1 => Ok1 (frz r s1) fun d s2 => ∃ z, owS (s2[i]?) = some z ∧ Ok1 (mk s2) fun k s3 => ∃ y, pk k s3 = some y ∧ ∃ w, owS (s3[i]?) = some w ∧ ∃ o', oputD w.2 y d = some o' ∧ N (s3.set i (some (w.1.put o'))) := by
  unfold mDPut
  simp only [Oo.out, Oo.opt, Oo.nx, e_ow]
theorem e_opk {t : List (Key × D)} : oputD (.dk false t) d e = if t.length < 100000 then (keyK d).map fun k => .dk false (putD t k e) else none := rfl
theorem e_opt {t : List (List Key × D)} : oputD (.dt false t) d e = if t.length < 100000 then (keyT d).map fun k => .dt false (putD t k e) else none := rfl
theorem e_kt {l : List D} : keyT (.tup l) = keysK l := rfl
theorem e_kk1 : keyK (.int a) = some (.inl a) := rfl
theorem e_kk2 : keyK (.str x) = some (.inr x) := rfl
theorem e_ks1 : keysK [] = some [] := rfl
theorem e_ks2 {d : D} {l : List D} : keysK (d :: l) = (keyK d).bind fun k => (keysK l).map (k :: ·) := rfl
theorem e_dg1 {t : List (Key × D)} : dgetD (.dk t) d = (keyK d).map fun k => valD t k := rfl
theorem e_dg2 {t : List (List Key × D)} : dgetD (.dt t) d = (keyT d).map fun k => valD t k := rfl
theorem e_ixk : ixDk d e = (dgetD d e).bind fun o => o.map .d := rfl
theorem e_din : dinD d e = (dgetD e d).map fun o => .d (.bl o.isSome) := rfl
theorem e_dno : dnotD d e = (dgetD e d).map fun o => .d (.bl !o.isSome) := rfl
theorem k_dnT : Ok1 (mDNewT s) Q ↔ Q (.o (.dt false [])) s := Ok1.ok
theorem k_dnK : Ok1 (mDNewK s) Q ↔ Q (.o (.dk false [])) s := Ok1.ok
theorem k_get2 : Ok1 (mGet2 ma mb mc s) Q ↔ Ok1 (ma s) fun r1 s1 => ∃ x0, pk r1 s1 = some x0 ∧ if isDD x0 = true then Ok1 (mb s1) fun r2 s2 => Ok1 (mc s2) fun r3 s3 => Ok1 (frz r3 s3) fun z s4 => ∃ x, pk (nrm r1) s4 = some x ∧ ∃ y, pk (nrm r2) s4 = some y ∧ ∃ o, dgetD x y = some o ∧ Q (.d (o.getD z)) s4 else False := by
  unfold mGet2
  simp only [Ok1.bind, Ok1.opt, Ok1.ite, Ok1.ok, Ok1.no]
theorem e_dd1 {t : List (Key × D)} : isDD (.dk t) = true := rfl
theorem e_dd2 {t : List (List Key × D)} : isDD (.dt t) = true := rfl
def pairsM : List (Key × M Rv) → SS → (List (Key × D) → SS → Prop) → Prop
  | [], s, A => A [] s
  | (k, m) :: r, s, A => Ok1 (m s) fun v s1 => Ok1 (frz v s1) fun d s2 => pairsM r s2 fun ps s3 => A ((k, d) :: ps) s3
theorem pairsM_eq : ∀ {ps : List (Key × M Rv)} {s : SS} {A : List (Key × D) → SS → Prop}, Ok1 (mPairs ps s) A ↔ pairsM ps s A
  | [], _, _ => Ok1.ok
  | (k, m) :: r, s, A => by
    show Ok1 ((m s).bind fun v s1 => (frz v s1).bind fun d s2 => (mPairs r s2).bind fun ps s3 => .ok ((k, d) :: ps) s3) A ↔ _
    simp only [Ok1.bind, pairsM_eq, Ok1.ok]
    exact Iff.rfl
theorem e_pm1 {A : List (Key × D) → SS → Prop} : pairsM [] s A ↔ A [] s := Iff.rfl
theorem e_pm2 {k : Key} {r : List (Key × M Rv)} {A : List (Key × D) → SS → Prop} : pairsM ((k, ma) :: r) s A ↔ Ok1 (ma s) fun v s1 => Ok1 (frz v s1) fun d s2 => pairsM r s2 fun ps s3 => A ((k, d) :: ps) s3 := Iff.rfl
theorem k_disp {ps : List (Key × M Rv)} : Ok1 (mDisp ps s) Q ↔ if ps.length ≤ 15 then pairsM ps s fun l s1 => Q (.o (.dk false (mergeD [] l))) s1 else False := by
  unfold mDisp
  simp only [Ok1.ite, Ok1.bind, pairsM_eq, Ok1.ok, Ok1.no]
/-! own [] and in, snapshots -/
def isOb (C : Addr) : D → Prop
  | .obj C' _ => C' = C
  | _ => False
theorem k_og {F : MF} : Ok1 (mOG C F ma mb s) Q ↔ Ok1 (ma s) fun r s1 => Ok1 (mb s1) fun r2 s2 => Ok1 (frz r2 s2) fun d s3 => ∃ z, pk (nrm r) s3 = some z ∧ isOb C z ∧ Ok1 (noEx (callS F [nrm r, .d d] s3)) Q := by
  unfold mOG
  simp only [Ok1.bind]
  have key : ∀ r d s3, Ok1 (opt (pk (nrm r) s3) fun x => match x with
    | .obj C' _ => if C' = C then noEx (callS F [nrm r, .d d] s3) else .no
    | _ => .no) Q ↔ ∃ z, pk (nrm r) s3 = some z ∧ isOb C z ∧ Ok1 (noEx (callS F [nrm r, .d d] s3)) Q := by
    intro r d s3
    rw [Ok1.opt]
    refine exists_congr fun z => and_congr_right fun _ => ?_
    cases z with
    | obj C' l =>
      dsimp only [isOb]
      split
      · rename_i c
        exact ⟨fun w => ⟨c, w⟩, fun w => w.2⟩
      · rename_i c
        exact ⟨fun w => w.elim, fun w => (c w.1).elim⟩
    | _ => exact ⟨fun w => w.elim, fun w => w.1.elim⟩
  exact Ok1.congr fun r s1 => Ok1.congr fun r2 s2 => Ok1.congr fun d s3 => key r d s3
theorem e_iob : isOb C (.obj C' fs) ↔ C' = C := Iff.rfl
theorem k_oi {neg : Bool} {F : MF} : Ok1 (mOI neg C F ma mb s) Q ↔ Ok1 (ma s) fun r1 s1 => Ok1 (frz r1 s1) fun d s2 => Ok1 (mb s2) fun r s3 => ∃ z, pk (nrm r) s3 = some z ∧ isOb C z ∧ Ok1 (noEx (callS F [nrm r, .d d] s3)) fun r4 s4 => ∃ b, (pk r4 s4).bind blD = some b ∧ Q (.d (.bl (if neg = true then !b else b))) s4 := by
  unfold mOI
  simp only [Ok1.bind]
  have key : ∀ r d s3, Ok1 (opt (pk (nrm r) s3) fun x => match x with
    | .obj C' _ => if C' = C then (noEx (callS F [nrm r, .d d] s3)).bind fun r4 s4 => opt ((pk r4 s4).bind blD) fun b => .ok (.d (.bl (if neg then !b else b))) s4 else .no
    | _ => .no) Q ↔ ∃ z, pk (nrm r) s3 = some z ∧ isOb C z ∧ Ok1 (noEx (callS F [nrm r, .d d] s3)) fun r4 s4 => ∃ b, (pk r4 s4).bind blD = some b ∧ Q (.d (.bl (if neg = true then !b else b))) s4 := by
    intro r d s3
    rw [Ok1.opt]
    refine exists_congr fun z => and_congr_right fun _ => ?_
    cases z with
    | obj C' l =>
      dsimp only [isOb]
      split
      · rename_i c
        rw [Ok1.bind]
        simp only [Ok1.opt, Ok1.ok]
        exact ⟨fun w => ⟨c, w⟩, fun w => w.2⟩
      · rename_i c
        exact ⟨fun w => w.elim, fun w => (c w.1).elim⟩
    | _ => exact ⟨fun w => w.elim, fun w => w.1.elim⟩
  exact Ok1.congr fun r1 s1 => Ok1.congr fun d s2 => Ok1.congr fun r s3 => key r d s3
theorem snap_d {F : MF} {t : SS} {z : SV × OD} {d : D} (h0 : owS (s[i]?) = some z) (h1 : isDo z.2 = true) (h2 : F [.fz z.2.fz] = .ok (.d d) t) (h3 : ∃ as, svs t = some as) (h4 : noD d = true) : mSnap i F s = .ok (.d d) s := by
  unfold mSnap
  rw [e_ow, h0]
  show (if isDo z.2 = true then _ else _) = _
  rw [if_pos h1, h2]
  obtain ⟨as, h3⟩ := h3
  show opt (svs t) _ = _
  rw [h3]
  exact if_pos h4
theorem k_index : Ok1 (mIndex ma mb s) Q ↔ Ok1 (ma s) fun r1 s1 => ∃ l, (pk (nrm r1) s1).bind lstD = some l ∧ Ok1 (mb s1) fun r2 s2 => ∃ x, pk (nrm r1) s2 = some x ∧ ∃ y, pk r2 s2 = some y ∧ Ok1 (outR (indexD x y) s2) Q := by
  unfold mIndex
  simp only [Ok1.bind, Ok1.opt]
theorem k_isi {Tb : IsTab} : Ok1 (mIsi Tb ma s) Q ↔ Ok1 (ma s) fun r1 s1 => ∃ z, pk r1 s1 = some z ∧ ∃ b, isiB Tb z = some b ∧ Q (.d (.bl b)) s1 := by
  unfold mIsi
  rw [k_un]
  have key : ∀ z s1, Ok1 (outR ((isiB Tb z).map fun b => .d (.bl b)) s1) Q ↔ ∃ b, isiB Tb z = some b ∧ Q (.d (.bl b)) s1 := by
    intro z s1
    cases isiB Tb z with
    | none => exact ⟨fun w => w.elim, fun ⟨_, w, _⟩ => (by cases w)⟩
    | some b => exact ⟨fun w => ⟨b, rfl, Ok1.ok.mp w⟩, fun ⟨_, w, z⟩ => (by cases w; exact Ok1.ok.mpr z)⟩
  simp only [key]
theorem k_chain {mx : M Rv} : Ok1 (mChain f g ma mb mx s) Q ↔ Ok1 (ma s) fun r1 s1 => Ok1 (mb s1) fun r2 s2 => ∃ x, pk (nrm r1) s2 = some x ∧ ∃ y, pk (nrm r2) s2 = some y ∧ ∃ c, f x y = some (.d (.bl c)) ∧ if c = true then Ok1 (mx s2) fun r3 s3 => ∃ y, pk (nrm r2) s3 = some y ∧ ∃ z, pk r3 s3 = some z ∧ Ok1 (outR (g y z) s3) Q else Q (.d (.bl false)) s2 := by
  unfold mChain
  simp only [Ok1.bind, Ok1.opt]
  have key : ∀ r2 s2 x y, Ok1 (match f x y with
    | some (.d (.bl true)) => (mx s2).bind fun r3 s3 => opt (pk (nrm r2) s3) fun y => opt (pk r3 s3) fun z => outR (g y z) s3
    | some (.d (.bl false)) => .ok (.d (.bl false)) s2
    | _ => .no) Q ↔ ∃ c, f x y = some (.d (.bl c)) ∧ if c = true then Ok1 (mx s2) fun r3 s3 => ∃ y, pk (nrm r2) s3 = some y ∧ ∃ z, pk r3 s3 = some z ∧ Ok1 (outR (g y z) s3) Q else Q (.d (.bl false)) s2 := by
    intro r2 s2 x y
    cases e : f x y with
    | none => exact ⟨fun w => w.elim, fun ⟨_, w, _⟩ => (by cases w)⟩
    | some r =>
      cases r with
      | d d =>
        cases d with
        | bl c =>
          cases c with
          | true =>
            dsimp only
            simp only [Ok1.bind, Ok1.opt]
            exact ⟨fun w => ⟨true, rfl, w⟩, fun ⟨c, e, w⟩ => (by cases e; exact w)⟩
          | false => exact ⟨fun w => ⟨false, rfl, Ok1.ok.mp w⟩, fun ⟨c, e, w⟩ => (by cases e; exact Ok1.ok.mpr w)⟩
        | _ => exact ⟨fun w => w.elim, fun ⟨_, w, _⟩ => (by cases w)⟩
      | _ => exact ⟨fun w => w.elim, fun ⟨_, w, _⟩ => (by cases w)⟩
  exact Ok1.congr fun r1 s1 => Ok1.congr fun r2 s2 => exists_congr fun x => and_congr_right fun _ => exists_congr fun y => and_congr_right fun _ => key r2 s2 x y
end
end Cz

/-! # DaH -/
namespace Cz
open L2 PyProof.Rows PySem.Spec PySem

/-! ## comprehensions whose parts change nothing -/
section
variable {s : SS} {i : Nat} {Q : Rv → SS → Prop} {f : MG} {mt : M Bool} {me mk : M Rv} {vs : List Nat} {α : Type}
theorem Ok1.get {r : R α} {P : α → SS → Prop} (h : Ok1 r P) : ∃ a s, r = .ok a s ∧ P a s := by
  cases r with
  | ok a s => exact ⟨a, s, rfl, Ok1.ok.mp h⟩
  | ex c l s => exact h.elim
  | no => exact h.elim
/-- one turn that gives v of d where t says so -/
def TurnP (f : MG) (mt : M Bool) (me : M Rv) (vs : List Nat) (t : D → Bool) (v : D → D) (s : SS) (d : D) : Prop :=
  ∃ s1, f d s = some s1 ∧ Ok1 (mt s1) fun b s2 => b = t d ∧ if b = true then Ok1 (me s2) fun r s3 => Ok1 (frz r s3) fun e s4 => e = v d ∧ loose s4 vs = true ∧ wipeS s4 vs = s else loose s2 vs = true ∧ wipeS s2 vs = s
theorem loopC_pure {t : D → Bool} {v : D → D} : ∀ {ds acc : List D}, acc.length + ds.length ≤ 100000 → (∀ d ∈ ds, TurnP f mt me vs t v s d) → loopC f mt me vs ds acc s = .ok (acc ++ (ds.filter t).map v) s
  | [], acc, _, _ => by
    show R.ok acc s = _
    simp
  | d :: ds, acc, hl, h => by
    obtain ⟨s1, e1, q⟩ := h d List.mem_cons_self
    obtain ⟨b, s2, e2, hb, q⟩ := q.get
    show opt (f d s) _ = _
    rw [e1]
    show (noX (mt s1)).bind _ = _
    rw [e2]
    have hl' : acc.length + (ds.length + 1) ≤ 100000 := hl
    cases b with
    | true =>
      rw [if_pos rfl] at q
      obtain ⟨r, s3, e3, q⟩ := q.get
      obtain ⟨e, s4, e4, q1, q2, q3⟩ := q.get
      show (noX (me s2)).bind _ = _
      rw [e3]
      show (frz r s3).bind _ = _
      rw [e4]
      show (if loose s4 vs = true ∧ acc.length < 100000 then _ else _) = _
      rw [if_pos ⟨q2, by omega⟩, q3, loopC_pure (by rw [List.length_append, List.length_singleton]; omega) fun c hc => h c (List.mem_cons_of_mem _ hc), List.filter_cons, if_pos hb.symm, List.map_cons, q1, List.append_assoc]
      rfl
    | false =>
      rw [if_neg (by decide)] at q
      show (if loose s2 vs = true then _ else _) = _
      rw [if_pos q.1, q.2, loopC_pure (by omega) fun c hc => h c (List.mem_cons_of_mem _ hc), List.filter_cons, if_neg (by rw [← hb]; decide)]
theorem Ok1.lcP {mi : M (List D)} (t : D → Bool) (v : D → D) (h : Ok1 (mi s) fun ds s1 => loose s1 vs = true ∧ ds.length ≤ 100000 ∧ (∀ d ∈ ds, TurnP f mt me vs t v (wipeS s1 vs) d) ∧ Q (.o (.lst ((ds.filter t).map v))) (restS s1 (wipeS s1 vs) vs)) : Ok1 (mLc mi f mt me vs s) Q := by
  refine Ok1.lc (h.mono fun ds s1 z => ?_)
  obtain ⟨h1, h2, h3, h4⟩ := z
  refine ⟨h1, ?_⟩
  rw [loopC_pure (by simpa using h2) h3]
  exact Ok1.ok.mpr h4
/-- without a test -/
theorem Ok1.lcM {mi : M (List D)} (v : D → D) (h : Ok1 (mi s) fun ds s1 => loose s1 vs = true ∧ ds.length ≤ 100000 ∧ (∀ d ∈ ds, ∃ s2, f d (wipeS s1 vs) = some s2 ∧ Ok1 (me s2) fun r s3 => Ok1 (frz r s3) fun e s4 => e = v d ∧ loose s4 vs = true ∧ wipeS s4 vs = wipeS s1 vs) ∧ Q (.o (.lst (ds.map v))) (restS s1 (wipeS s1 vs) vs)) : Ok1 (mLc mi f mYes me vs s) Q := by
  refine Ok1.lcP (fun _ => true) v (h.mono fun ds s1 z => ?_)
  obtain ⟨h1, h2, h3, h4⟩ := z
  refine ⟨h1, h2, fun d hd => ?_, ?_⟩
  · obtain ⟨s2, e, q⟩ := h3 d hd
    exact ⟨s2, e, Ok1.ok.mpr ⟨rfl, by rw [if_pos rfl]; exact q⟩⟩
  · rw [List.filter_eq_self.mpr fun _ _ => rfl]
    exact h4
theorem Ok1.lcD {Q : Rv → SS → Prop} (h : Ok1 (mLc (mKeys i) f mt me vs s) Q) : Ok1 (mLcD i f mt me vs s) Q := by
  unfold mLcD
  rw [Ok1.noEx]
  exact h
def fzS : Option (Option SV) → Prop
  | some (some (.fz _)) => True
  | _ => False
theorem k_keys {P : List D → SS → Prop} : Ok1 (mKeys i s) P ↔ Ok1 (frz (.b i) s) fun d s1 => fzS (s1[i]?) ∧ ∃ ks, keysD d = some ks ∧ P ks s1 := by
  unfold mKeys
  rw [Ok1.bind]
  refine Ok1.congr fun d s1 => ?_
  cases s1[i]? with
  | none => exact ⟨fun w => w.elim, fun w => w.1.elim⟩
  | some x =>
    cases x with
    | none => exact ⟨fun w => w.elim, fun w => w.1.elim⟩
    | some sv =>
      cases sv with
      | fz d' =>
        dsimp only
        simp only [Ok1.opt, Ok1.ok]
        exact ⟨fun w => ⟨trivial, w⟩, fun w => w.2⟩
      | _ => exact ⟨fun w => w.elim, fun w => w.1.elim⟩
theorem e_fzs {d : D} : fzS (some (some (.fz d))) ↔ True := Iff.rfl
variable {N : SS → Prop} {T : Rv → SS → Prop} {B E : SS → Prop} {b : MS}
theorem k_forD : Oo (mForD i f b s) N T B E ↔ Ok1 (frz (.b i) s) fun d s1 => fzS (s1[i]?) ∧ ∃ ks, keysD d = some ks ∧ Oo (loop f b ks s1) N T B E := by
  unfold mForD
  rw [Oo.out]
  refine Ok1.congr fun d s1 => ?_
  have ne : ∀ o : Out, Oo (noE o) N T B E ↔ Oo o N T B E := fun o => by (unfold Oo; cases o <;> exact Iff.rfl)
  cases s1[i]? with
  | none => exact ⟨fun w => w.elim, fun w => w.1.elim⟩
  | some x =>
    cases x with
    | none => exact ⟨fun w => w.elim, fun w => w.1.elim⟩
    | some sv =>
      cases sv with
      | fz d' =>
        dsimp only
        rw [Oo.opt]
        simp only [ne]
        exact ⟨fun w => ⟨trivial, w⟩, fun w => w.2⟩
      | _ => exact ⟨fun w => w.elim, fun w => w.1.elim⟩
/-- a dict by a comprehension, all parts of which change nothing; tuple keys -/
theorem loopD_pure {kk : D → List Key} {k v : D → D} : ∀ {ds : List D} {t : List (List Key × D)}, (∀ d ∈ ds, keyT (k d) = some (kk d)) → t.length + ds.length < 100000 →
    (∀ d ∈ ds, ∃ s1, f d s = some s1 ∧ Ok1 (mk s1) fun r s2 => Ok1 (frz r s2) fun e s3 => e = k d ∧ Ok1 (me s3) fun r2 s4 => Ok1 (frz r2 s4) fun e2 s5 => e2 = v d ∧ loose s5 vs = true ∧ wipeS s5 vs = s) →
    loopD f mYes mk me vs ds (.dt false t) s = .ok (.dt false (ds.foldl (fun t d => putD t (kk d) (v d)) t)) s
  | [], t, _, _, _ => rfl
  | d :: ds, t, hk, hl, h => by
    obtain ⟨s1, e1, q⟩ := h d List.mem_cons_self
    have hl' : t.length + (ds.length + 1) < 100000 := hl
    obtain ⟨r, s2, e2, q⟩ := q.get
    obtain ⟨e, s3, e3, rfl, q⟩ := q.get
    obtain ⟨r2, s4, e4, q⟩ := q.get
    obtain ⟨z, s5, e5, rfl, q2, q3⟩ := q.get
    show opt (f d s) _ = _
    rw [e1]
    show (noX (mk s1)).bind _ = _
    rw [e2]
    show (frz r s2).bind _ = _
    rw [e3]
    show (noX (me s3)).bind _ = _
    rw [e4]
    show (frz r2 s4).bind _ = _
    rw [e5]
    have eo : oputD (.dt false t) (k d) (v d) = some (.dt false (putD t (kk d) (v d))) := by
      rw [e_opt, if_pos (by omega), hk d List.mem_cons_self]
      rfl
    show opt (oputD (.dt false t) (k d) (v d)) _ = _
    rw [eo]
    show (if loose s5 vs = true then _ else _) = _
    have lp : (putD t (kk d) (v d)).length ≤ t.length + 1 := by
      unfold putD
      split
      · rw [List.length_map]
        omega
      · (rw [List.length_append, List.length_singleton])
        exact Nat.le_refl _
    rw [if_pos q2, q3, loopD_pure (fun c hc => hk c (List.mem_cons_of_mem _ hc)) (by omega) fun c hc => h c (List.mem_cons_of_mem _ hc)]
    rfl
theorem Ok1.dcM {mi : M (List D)} (kk : D → List Key) (k v : D → D) (h : Ok1 (mi s) fun ds s1 => loose s1 vs = true ∧ ds.length < 100000 ∧ (∀ d ∈ ds, keyT (k d) = some (kk d)) ∧
    (∀ d ∈ ds, ∃ s2, f d (wipeS s1 vs) = some s2 ∧ Ok1 (mk s2) fun r s3 => Ok1 (frz r s3) fun e s4 => e = k d ∧ Ok1 (me s4) fun r2 s5 => Ok1 (frz r2 s5) fun e2 s6 => e2 = v d ∧ loose s6 vs = true ∧ wipeS s6 vs = wipeS s1 vs) ∧
    Q (.o (.dt false (ds.foldl (fun t d => putD t (kk d) (v d)) []))) (restS s1 (wipeS s1 vs) vs)) : Ok1 (mDc (.dt false []) mi f mYes mk me vs s) Q := by
  unfold mDc
  rw [Ok1.bind]
  refine h.mono fun ds s1 z => ?_
  obtain ⟨h1, h2, hk, h3, h4⟩ := z
  rw [if_pos h1, Ok1.bind, loopD_pure hk (by simpa using h2) h3]
  exact Ok1.ok.mpr (Ok1.ok.mpr h4)
end
theorem e_lo1 {s : SS} : loose s [] = true := rfl
def lsB : Option (Option SV) → Bool
  | some (some (.fz _)) => true
  | some none => true
  | _ => false
theorem e_lo2 {s : SS} {v : Nat} {vs : List Nat} : loose s (v :: vs) = (lsB (s[v]?) && loose s vs) := by
  unfold loose
  rw [List.all_cons]
  congr 1
theorem e_lb1 {d : D} : lsB (some (some (.fz d))) = true := rfl
theorem e_lb2 : lsB (some none) = true := rfl
theorem e_wi1 {s : SS} : wipeS s [] = s := rfl
theorem e_wi2 {s : SS} {v : Nat} {vs : List Nat} : wipeS s (v :: vs) = (wipeS s vs).set v none := rfl
theorem e_re1 {s t : SS} : restS s t [] = t := rfl
theorem e_re2 {s t : SS} {v : Nat} {vs : List Nat} : restS s t (v :: vs) = (restS s t vs).set v ((s[v]?).getD none) := rfl
/-! ranges, enumerate -/
@[irreducible] def InR (k : Int) : Prop := -(2 ^ 62) ≤ k ∧ k < 2 ^ 62
theorem e_inr {k : Int} (h1 : -1000000 ≤ k) (h2 : k ≤ 1000000) : InR k := by
  unfold InR
  omega
theorem e_inrN {n : Nat} (h2 : n ≤ 1000000) : InR (n : Int) := e_inr (by omega) (by omega)
def int1 : List D → Option Int
  | [.int k] => some k
  | _ => none
theorem e_i1 {k : Int} : int1 [.int k] = some k := rfl
theorem k_rng1 {ma : M (List Rv)} {s : SS} {Q : List D → SS → Prop} : Ok1 (mRng rng1D ma s) Q ↔ Ok1 (ma s) fun rs s1 => ∃ l, allD rs = some l ∧ ∃ k, int1 l = some k ∧ InR k ∧ Q (upTo k.toNat) s1 := by
  unfold mRng
  rw [Ok1.bind]
  refine Ok1.congr fun rs s1 => ?_
  rw [Ok1.opt]
  constructor
  · rintro ⟨l, e, q⟩
    rw [Option.bind_eq_some_iff] at e
    obtain ⟨ds, e1, e2⟩ := e
    refine ⟨ds, e1, ?_⟩
    unfold rng1D at e2
    split at e2
    · split at e2
      · rename_i k c
        cases e2
        exact ⟨k, rfl, by (unfold InR; exact c), Ok1.ok.mp q⟩
      · cases e2
    · cases e2
  · rintro ⟨l, e1, k, e2, c, q⟩
    have el : l = [.int k] := by
      unfold int1 at e2
      split at e2
      · cases e2
        rfl
      · cases e2
    subst el
    refine ⟨upTo k.toNat, ?_, Ok1.ok.mpr q⟩
    rw [e1]
    unfold InR at c
    exact if_pos c
theorem k_rngE {ma : M (List Rv)} {s : SS} {Q : List D → SS → Prop} : Ok1 (mRng enumA ma s) Q ↔ Ok1 (ma s) fun rs s1 => ∃ l, allD rs = some l ∧ ∃ m, enumA l = some m ∧ Q m s1 := by
  unfold mRng
  rw [Ok1.bind]
  refine Ok1.congr fun rs s1 => ?_
  rw [Ok1.opt]
  exact ⟨fun ⟨m, e, q⟩ => by rw [Option.bind_eq_some_iff] at e; obtain ⟨l, e1, e2⟩ := e; exact ⟨l, e1, m, e2, Ok1.ok.mp q⟩, fun ⟨l, e1, m, e2, q⟩ => ⟨m, by rw [e1]; exact e2, Ok1.ok.mpr q⟩⟩
theorem e_ea1 {l : List D} : enumA [.tup l] = some (pairsD (nums l.length) l) := rfl
theorem e_ea2 {l : List D} : enumA [.lst l] = some (pairsD (nums l.length) l) := rfl
theorem e_ea3 {l : List D} : enumA [.rol l] = some (pairsD (nums l.length) l) := rfl
theorem e_ea4 {l : List D} : enumA [.tuk l] = some (pairsD (nums l.length) l) := rfl
theorem e_gd {α : Type} {x y : α} : (some x).getD y = x := rfl
end Cz

/-! # KA -/
namespace Cz
open L2 PyProof.Rows PySem.Spec PySem
local macro_rules
  | `(tactic| simp_all only [$xs,*]) => `(tactic| simp (config := {decide := true}) only [mIfS, mRet, mAsg, mSetL, mNext, mDrop, mRetN, Oo.seq, Oo.out, Oo.ite, Oo.opt, Oo.nx, Oo.rt, Oo.bk, Oo.ct, Oo.no, Ok1.bind, Ok1.ok, Ok1.ite, Ok1.opt, e_var, e_rd1, e_rd2, e_rd3, e_c, e_pk1, e_pk2, e_pk3, e_pk4, e_pk5, e_pk6, e_nr1, e_nr2, e_nr3, e_fr1, e_fr2, e_fr3, e_fr4, e_fr5, e_fz1, e_fz2, e_fz3, e_fz4, e_ow, e_ow1, e_ow2, e_ls, e_ls1, e_ls2, e_pt1, e_pt2, e_fe, e_fe1, e_fe2, e_fe3,
    k_op, k_un, k_cb1, k_o1, k_o2, k_tr, k_and, k_or, k_not, k_andV, k_orV, k_notV, k_if, k_nil, k_cons, k_ref, k_tup, k_lst, e_al1, e_al2, e_mp, e_bd, k_cb, k_call, k_lm, k_yes, k_np, k_pt, k_sl, e_io, e_add1, e_add2, e_add3, e_sub, e_mul, mulOk_r, mulOk_l, e_fdiv, e_mod, e_pow, e_neg, e_lt, e_le, e_gt, e_ge, e_ltS, e_ix1, e_ix2, e_ix3, e_ix4, e_ix5, e_len1, e_len2, e_len3, e_len4, e_len5, e_bl, e_int1, e_abs, e_lst1, e_lst2, e_lst3, e_lst4, e_tup1, e_tup2, e_tup3, e_app, e_ext, e_at0, e_at1, e_at2, e_at3, e_in0, e_in1, e_in2, ex_some, k_items, k_rng1, k_rngE, e_i1, e_inr, e_ea1, e_ea2, e_ea3, e_ea4, Int.toNat_natCast, e_it1, e_it2, e_it3, e_it4, e_en1, e_en2, k_for, e_es1, e_es2, e_es3, e_nb1, e_nb2, e_rdd,
    k_callS, e_nq1, e_nq2, e_sv1, e_sv2, e_rf1, e_rf2, e_rf3, g_as1, g_as2, g_as3, g_as4, g_as5, g_as6, g_b1, g_b2, g_b3, g_b4, g_b5, g_b6, k_make, k_fld, e_fld, k_setA, e_ob1, e_pa1, e_pa2, k_asgG, e_gn, e_gnil, e_gcons, e_gtup, e_gtuk, e_gany1, e_gany2, e_gany3, k_dput, e_opk, e_opt, e_kt, e_kk1, e_kk2, e_ks1, e_ks2, e_dg1, e_dg2, e_ixk, e_din, e_dno, k_dnT, k_dnK, k_get2, e_dd1, e_dd2, e_pm1, e_pm2, k_disp, k_og, e_iob, k_oi, k_index, k_isi, k_chain, k_keys, e_fzs, k_forD, e_lo1, e_lo2, e_lb1, e_lb2, e_wi1, e_wi2, e_re1, e_re2, e_gd,
    decide_eq_true_eq, true_and, and_true, List.getElem?_cons_zero, List.getElem?_cons_succ, List.set_cons_zero, List.set_cons_succ, List.map_cons, List.map_nil, List.length_cons, List.length_nil, List.replicate_succ, List.replicate_zero, List.cons_append, List.nil_append, List.append_nil, if_true, if_false, $xs,*])
variable {A : Ad}
/-- a bag: what is left of the number, the state, the count -/
def bagD (b : Int × Int × Int) : List D := [.int b.1, .int b.2.1, .int b.2.2]

theorem pick_ok {b : Int × Int × Int} {n : Int} (hn : 1 ≤ n) (hs : n < 1073741824) : OkF (f_l_pick A) [.br (.lst (bagD b)), .fz (.int n)] fun r as' => ∃ (k : Int) (g : Int × Int × Int), r = .d (.int k) ∧ as' = [.br (.lst (bagD g)), .fz (.int n)] ∧ 0 ≤ k ∧ k < n := by
  obtain ⟨a, b, c⟩ := b
  have h0 : 0 < n := by omega
  refine OkF.run rfl ?_
  unfold m_l_pick bagD
  simp_all only [h0, hs, and_self]
  split
  · exact ⟨0, (a, b, c), rfl, rfl, by omega, by omega⟩
  · split
    · exact ⟨_, (_, _, _), rfl, rfl, Int.emod_nonneg _ (by omega), Int.emod_lt_of_pos _ h0⟩
    · exact ⟨_, (_, _, _), rfl, rfl, Int.emod_nonneg _ (by omega), Int.emod_lt_of_pos _ h0⟩
theorem one_of_ok {b : Int × Int × Int} {d : D} {l : List D} (hd : seqD d = some l) (h1 : 1 ≤ l.length) (h2 : l.length ≤ 100000) : OkF (f_l_one_of A) [.br (.lst (bagD b)), .fz d] fun r as' => ∃ (e : D) (g : Int × Int × Int), r = .d e ∧ as' = [.br (.lst (bagD g)), .fz d] ∧ e ∈ l := by
  refine OkF.run rfl ?_
  unfold m_l_one_of
  simp_all only [len_seq hd]
  refine OkF.use (pick_ok (by omega) (by omega)) ?_
  rintro r as' - ⟨k, g, rfl, rfl, k0, k1⟩
  obtain ⟨e, e1, e2⟩ := at_in k0 k1
  simp_all only [ix_seqD hd, e2]
  exact ⟨e, g, rfl, rfl, e1⟩
theorem bag_of_ok {ns : List Int} {j : Nat} : OkF (f_l_bag_of A) [.fz (.rol (ns.map .int)), .fz (.int (j : Nat))] fun r as' => ∃ g : Int × Int × Int, r = .o (.lst (bagD g)) ∧ as' = [.fz (.rol (ns.map .int)), .fz (.int (j : Nat))] := by
  refine OkF.run rfl ?_
  unfold m_l_bag_of
  refine Oo.cut (fun s => ∃ t : Int, s = [some (.fz (.rol (ns.map .int))), some (.fz (.int (j : Nat))), some (.fz (.int t)), none, none, none, none]) ?_ ?_
  · simp_all only [true_and]
    exact ⟨_, rfl⟩
  rintro s ⟨t, rfl⟩
  refine Oo.cut (fun s => ∃ (t : Int) (z3 z4 : Option SV), s = [some (.fz (.rol (ns.map .int))), some (.fz (.int (j : Nat))), some (.fz (.int t)), z3, z4, none, none] ∧ feS (some z3) = true ∧ feS (some z4) = true) ?_ ?_
  · simp_all only [true_and]
    refine Oo.loop (fun ds s => (∀ d ∈ ds, ∃ x y, d = D.tup [.int x, .int y]) ∧ ∃ (t : Int) (z3 z4 : Option SV), s = [some (.fz (.rol (ns.map .int))), some (.fz (.int (j : Nat))), some (.fz (.int t)), z3, z4, none, none] ∧ feS (some z3) = true ∧ feS (some z4) = true) ?_ ?_ _ _ ⟨?_, _, none, none, rfl, rfl, rfl⟩
    · rintro s ⟨_, h⟩
      exact h
    · rintro d ds s ⟨hd, t, z3, z4, rfl, f3, f4⟩
      obtain ⟨x, y, rfl⟩ := hd d List.mem_cons_self
      refine ⟨_, e_g2 f3 (by simpa using f4), ?_⟩
      simp_all only [true_and]
      split
      · exact ⟨fun d h => hd d (List.mem_cons_of_mem _ h), _, _, _, rfl, rfl, rfl⟩
      · exact ⟨fun d h => hd d (List.mem_cons_of_mem _ h), _, _, _, rfl, rfl, rfl⟩
    · intro d hd
      obtain ⟨x, y, rfl, hx, hy⟩ := pairs_in hd
      obtain ⟨i, _, rfl⟩ := nums_in hx
      obtain ⟨k, rfl⟩ := ints_in hy
      exact ⟨_, _, rfl⟩
  rintro s ⟨t, z3, z4, rfl, f3, f4⟩
  refine Oo.cut (fun s => ∃ c : Int, s = [some (.fz (.rol (ns.map .int))), some (.fz (.int (j : Nat))), some (.fz (.int t)), z3, some (.fz (.int c)), none, none]) ?_ ?_
  · simp_all only [f3, f4]
    split
    · rename_i h
      have h' : j < ns.length := by simpa using h
      have hat : atI (ns.map D.int) (j : Int) = some (.int ns[j]) := atI_nat (by rw [List.getElem?_map, List.getElem?_eq_getElem h']; rfl)
      simp_all only [hat, f3, f4]
      exact ⟨_, rfl⟩
    · exact ⟨_, rfl⟩
  rintro s ⟨c, rfl⟩
  refine Oo.cut (fun s => ∃ z : Int, s = [some (.fz (.rol (ns.map .int))), some (.fz (.int (j : Nat))), some (.fz (.int t)), z3, some (.fz (.int c)), some (.fz (.int z)), none]) ?_ ?_
  · simp_all only [true_and]
    split
    · exact ⟨_, rfl⟩
    · exact ⟨_, rfl⟩
  rintro s ⟨z, rfl⟩
  refine Oo.cut (fun s => ∃ (z : Int) (z3 : Option SV), s = [some (.fz (.rol (ns.map .int))), some (.fz (.int (j : Nat))), some (.fz (.int t)), z3, some (.fz (.int c)), some (.fz (.int z)), none] ∧ feS (some z3) = true) ?_ ?_
  · simp_all only [true_and]
    refine Oo.loop (fun ds s => (∀ d ∈ ds, ∃ x, d = D.int x) ∧ ∃ (z : Int) (z3 : Option SV), s = [some (.fz (.rol (ns.map .int))), some (.fz (.int (j : Nat))), some (.fz (.int t)), z3, some (.fz (.int c)), some (.fz (.int z)), none] ∧ feS (some z3) = true) ?_ ?_ _ _ ⟨?_, _, _, rfl, f3⟩
    · rintro s ⟨_, h⟩
      exact h
    · rintro d ds s ⟨hd, z, z3, rfl, f3⟩
      obtain ⟨x, rfl⟩ := hd d List.mem_cons_self
      refine ⟨_, e_g1 f3, ?_⟩
      simp_all only [true_and]
      exact ⟨fun d h => hd d (List.mem_cons_of_mem _ h), _, _, rfl, rfl⟩
    · intro d hd
      obtain ⟨i, _, rfl⟩ := upTo_in hd
      exact ⟨_, rfl⟩
  rintro s ⟨z, z3, rfl, f3⟩
  refine Oo.cut (fun s => ∃ q : Int, s = [some (.fz (.rol (ns.map .int))), some (.fz (.int (j : Nat))), some (.fz (.int t)), z3, some (.fz (.int c)), some (.fz (.int z)), some (.fz (.int q))]) ?_ ?_
  · simp_all only [true_and]
    repeat' split
    all_goals exact ⟨_, rfl⟩
  rintro s ⟨q, rfl⟩
  simp_all only [true_and]
  exact ⟨(q, z, 0), rfl⟩


theorem abc_len : ("abcdefghijklmnopqrstuvxyz" : Str).cps.toList = abc := by decide +kernel
theorem letter_at {k : Int} (h0 : 0 ≤ k) (h1 : k < 25) : ixD (.str "abcdefghijklmnopqrstuvxyz") (.int k) = some (.d (.str ⟨#[abc.getD k.toNat 0]⟩)) := by
  obtain ⟨j, rfl⟩ : ∃ j : Nat, k = (j : Int) := ⟨k.toNat, by omega⟩
  have hj : j < 25 := by omega
  rw [e_ix5, if_pos (by decide +kernel), abc_len]
  have e : abc[j]? = some (abc.getD j 0) := by
    rw [List.getD_eq_getElem?_getD, List.getElem?_eq_getElem (show j < abc.length from by have q : abc.length = 25 := by decide +kernel
                                                                                          omega)]
    rfl
  rw [show atI abc ((j : Nat) : Int) = some (abc.getD j 0) from atI_nat e]
  rfl
/-- one to eight letters of these -/
structure GoodW (w : Str) : Prop where
  c : ∀ x ∈ w.cps.toList, x ∈ abc
  l : 1 ≤ w.length ∧ w.length ≤ 8
theorem abc_small : ∀ x ∈ abc, x < 0x110000 := by decide +kernel
theorem GoodW.ok {w : Str} (h : GoodW w) : okW w := by
  show w.cps.all (· < 0x110000) = true
  (rw [← Array.all_toList, List.all_eq_true])
  exact fun x hx => decide_eq_true (abc_small x (h.c x hx))
theorem abc_in : ∀ i : Fin 25, abc.getD i.val 0 ∈ abc := by decide +kernel
theorem pairW_good (k : Nat) : GoodW (pairW k) := by
  refine ⟨fun x hx => ?_, (by show 1 ≤ 2; decide), (by show 2 ≤ 8; decide)⟩
  have hx' : x = abc.getD (k / 25 % 25) 0 ∨ x = abc.getD (k % 25) 0 := by simpa [pairW] using hx
  rcases hx' with rfl | rfl
  · exact abc_in ⟨k / 25 % 25, by omega⟩
  · exact abc_in ⟨k % 25, by omega⟩
theorem one_add (a b : Nat) : (⟨#[a]⟩ : Str) ++ (⟨#[b]⟩ : Str) = ⟨#[a, b]⟩ := rfl



theorem strsD_ones : ∀ cs : List Nat, strsD (cs.map fun c => D.str ⟨#[c]⟩) = some (cs.map fun c => ⟨#[c]⟩)
  | [] => rfl
  | c :: cs => by
    show (strsD (cs.map fun c => D.str ⟨#[c]⟩)).map _ = _
    rw [strsD_ones cs]
    rfl
theorem join_ones : ∀ cs : List Nat, (Str.join "" (cs.map fun c => (⟨#[c]⟩ : Str))).cps.toList = cs
  | [] => rfl
  | [c] => rfl
  | c :: c' :: r => by
    show ((⟨#[c]⟩ : Str) ++ (("" : Str)) ++ Str.join "" ((c' :: r).map fun c => (⟨#[c]⟩ : Str))).cps.toList = _
    have ih := join_ones (c' :: r)
    have e : ((⟨#[c]⟩ : Str) ++ (("" : Str)) ++ Str.join "" ((c' :: r).map fun c => (⟨#[c]⟩ : Str))).cps = (#[c] ++ #[]) ++ (Str.join "" ((c' :: r).map fun c => (⟨#[c]⟩ : Str))).cps := rfl
    rw [e, Array.toList_append, ih]
    rfl
theorem ones_sum : ∀ cs : List Nat, ((cs.map fun c => (⟨#[c]⟩ : Str)).map (·.length)).sum = cs.length
  | [] => rfl
  | c :: cs => by
    show 1 + ((cs.map fun c => (⟨#[c]⟩ : Str)).map (·.length)).sum = _
    rw [ones_sum cs, List.length_cons]
    omega
theorem joinD_ones {cs : List Nat} (h : cs.length ≤ 8) : joinD "" (.lst (cs.map fun c => D.str ⟨#[c]⟩)) = some (.d (.str (Str.join "" (cs.map fun c => ⟨#[c]⟩)))) := by
  unfold joinD
  show (strsD (cs.map fun c => D.str ⟨#[c]⟩)).bind _ = _
  rw [strsD_ones cs]
  show (if _ then _ else _) = _
  rw [if_pos]
  · unfold Txt.join
    rw [PySem.StrLaws.glued_eq_join]
  · rw [ones_sum cs]
    show cs.length + (cs.map fun c => (⟨#[c]⟩ : Str)).length * 0 ≤ 16777216
    omega
theorem join_good {cs : List Nat} (hc : ∀ c ∈ cs, c ∈ abc) (h1 : 1 ≤ cs.length) (h8 : cs.length ≤ 8) : GoodW (Str.join "" (cs.map fun c => ⟨#[c]⟩)) := by
  have e := join_ones cs
  refine ⟨fun x hx => hc x (by rw [e] at hx; exact hx), ?_⟩
  have l : (Str.join "" (cs.map fun c => (⟨#[c]⟩ : Str))).length = cs.length := by
    show (Str.join "" (cs.map fun c => (⟨#[c]⟩ : Str))).cps.size = cs.length
    rw [← Array.length_toList, e]
  rw [l]
  exact ⟨h1, h8⟩

theorem word_of_ok {b : Int × Int × Int} {ts : List Str} (hts : okWs ts) (hl : ts.length < 600) : OkF (f_l_word_of A) [.br (.lst (bagD b)), .fz (.lst (ts.map .str))] fun r as' => ∃ (v : Str) (g : Int × Int × Int), r = .d (.str v) ∧ as' = [.br (.lst (bagD g)), .fz (.lst (ts.map .str))] ∧ GoodW v ∧ v ∉ ts := by
  refine OkF.run rfl ?_
  unfold m_l_word_of
  obtain ⟨L, hL⟩ : ∃ L : Str, L = "abcdefghijklmnopqrstuvxyz" := ⟨_, rfl⟩
  have hx : ∀ k : Int, 0 ≤ k → k < 25 → ixD (.str L) (.int k) = some (.d (.str ⟨#[abc.getD k.toNat 0]⟩)) := fun k h0 h1 => by
    rw [hL]
    exact letter_at h0 h1
  rw [← hL]
  refine Oo.cut (fun s => s = [some (.br (.lst (bagD b))), some (.fz (.lst (ts.map .str))), some (.fz (.str L)), none, none, none]) ?_ ?_
  · simp_all only [true_and]
  rintro s rfl
  refine Oo.cut (fun s => ∃ (n : Nat) (g : Int × Int × Int), 1 ≤ n ∧ n ≤ 6 ∧ s = [some (.br (.lst (bagD g))), some (.fz (.lst (ts.map .str))), some (.fz (.str L)), some (.fz (.int (n : Nat))), none, none]) ?_ ?_
  · simp_all only [true_and]
    refine OkF.use (pick_ok (n := 6) (by decide) (by decide)) ?_
    rintro r as' - ⟨k, g, rfl, rfl, k0, k1⟩
    simp_all only [true_and]
    refine ⟨(1 + k).toNat, g, by omega, by omega, ?_⟩
    rw [Int.toNat_of_nonneg (by omega)]
  rintro s ⟨n, g, n1, n6, rfl⟩
  refine Oo.cut (fun s => ∃ (v : Str) (g : Int × Int × Int), GoodW v ∧ s = [some (.br (.lst (bagD g))), some (.fz (.lst (ts.map .str))), some (.fz (.str L)), some (.fz (.int (n : Nat))), some (.fz (.str v)), none]) ?_ ?_
  · simp_all only [true_and]
    refine Ok1.lc ?_
    simp_all only [e_inrN (n := n) (by omega)]
    refine Ok1.loopC (fun ds acc s => ∃ (cs : List Nat) (g : Int × Int × Int), acc = cs.map (fun c => D.str ⟨#[c]⟩) ∧ (∀ c ∈ cs, c ∈ abc) ∧ cs.length + ds.length = n ∧ (∀ d ∈ ds, ∃ i : Nat, d = D.int (i : Nat)) ∧ s = [some (.br (.lst (bagD g))), some (.fz (.lst (ts.map .str))), some (.fz (.str L)), some (.fz (.int (n : Nat))), none, none]) ?_ ?_ _ _ _ ⟨[], g, rfl, (fun _ h => by cases h), by simp [upTo], (fun d hd => by obtain ⟨i, _, e⟩ := upTo_in hd; exact ⟨i, e⟩), rfl⟩
    · rintro acc s ⟨cs, g, rfl, hc, hn, _, rfl⟩
      have hn' : cs.length = n := by simpa using hn
      simp_all only [joinD_ones (show cs.length ≤ 8 by omega)]
      exact ⟨_, g, join_good hc (by omega) (by omega), rfl⟩
    · rintro d ds acc s ⟨cs, g, rfl, hc, hn, hd, rfl⟩
      obtain ⟨i, rfl⟩ := hd d List.mem_cons_self
      refine ⟨_, e_g1 rfl, ?_⟩
      simp_all only [true_and]
      refine OkF.use (pick_ok (n := 25) (by decide) (by decide)) ?_
      rintro r as' - ⟨k, g', rfl, rfl, k0, k1⟩
      simp_all only [hx k k0 k1]
      have hn' : cs.length + (ds.length + 1) = n := by simpa using hn
      refine ⟨by rw [List.length_map]; omega, cs ++ [abc.getD k.toNat 0], g', by simp, fun c h => ?_, by rw [List.length_append, List.length_singleton]; omega, fun d h => hd d (List.mem_cons_of_mem _ h), rfl⟩
      (rcases List.mem_append.mp h with h | h)
      · exact hc c h
      · rw [List.mem_singleton.mp h]
        exact abc_in ⟨k.toNat, by omega⟩
  rintro s ⟨v, g, hv, rfl⟩
  refine Oo.cut (fun s => ∃ (g : Int × Int × Int) (z : Option SV), pairW ts.length ∉ ts ∧ s = [some (.br (.lst (bagD g))), some (.fz (.lst (ts.map .str))), some (.fz (.str L)), some (.fz (.int (n : Nat))), some (.fz (.str (pairW ts.length))), z]) ?_ ?_
  · have hr : InR ((((ts.map D.str).length : Nat) : Int) + 1) := by
      rw [List.length_map]
      exact e_inr (by omega) (by omega)
    have ht : ((((ts.map D.str).length : Nat) : Int) + 1).toNat = ts.length + 1 := by
      rw [List.length_map]
      omega
    simp_all only [hr, ht]
    refine Oo.loop (fun ds s => ∃ (j : Nat) (w : Str) (g : Int × Int × Int) (z : Option SV), ds = (upTo (ts.length + 1)).drop j ∧ j ≤ ts.length + 1 ∧ GoodW w ∧ (∀ i, i + 1 < j → pairW i ∈ ts) ∧ (1 ≤ j → w = pairW (j - 1)) ∧ feS (some z) = true ∧
      s = [some (.br (.lst (bagD g))), some (.fz (.lst (ts.map .str))), some (.fz (.str L)), some (.fz (.int (n : Nat))), some (.fz (.str w)), z]) ?_ ?_ _ _ ⟨0, v, g, none, rfl, by omega, hv, (fun i h => by omega), (fun h => by omega), rfl, rfl⟩
    · rintro s ⟨j, w, g, z, hd, hj, hw, h1, h2, hz, rfl⟩
      have lj : j = ts.length + 1 := by
        have q := congrArg List.length hd
        rw [List.length_drop] at q
        have q2 : (upTo (ts.length + 1)).length = ts.length + 1 := by simp [upTo]
        rw [q2] at q
        have q3 : 0 = ts.length + 1 - j := q
        omega
      subst lj
      have ew := h2 (by omega)
      rw [Nat.add_sub_cancel] at ew
      subst ew
      refine ⟨g, z, ?_, rfl⟩
      obtain ⟨k, k1, k2⟩ := pair_new (ts := ts) (by omega)
      by_cases e : k = ts.length
      · rw [← e]
        exact k2
      · exact absurd (h1 k (by omega)) k2
    · rintro d ds s ⟨j, w, g, z, hd, hj, hw, h1, h2, hz, rfl⟩
      have hjl : j < (upTo (ts.length + 1)).length := by
        refine Nat.lt_of_not_le fun h => ?_
        rw [List.drop_eq_nil_of_le h] at hd
        cases hd
      have hj2 : j < ts.length + 1 := by simpa [upTo] using hjl
      rw [List.drop_eq_getElem_cons hjl] at hd
      have ed : d = .int (j : Nat) := by
        have q := (List.cons.inj hd).1
        rw [q]
        simp [upTo]
      have es := (List.cons.inj hd).2
      subst ed
      subst es
      refine ⟨_, e_g1 hz, ?_⟩
      have a1 : (0 : Int) ≤ ((j : Nat) : Int) / 25 % 25 := by omega
      have a2 : ((j : Nat) : Int) / 25 % 25 < 25 := by omega
      have a3 : (0 : Int) ≤ ((j : Nat) : Int) % 25 := by omega
      have a4 : ((j : Nat) : Int) % 25 < 25 := by omega
      simp_all only [e_notS hw.ok hts, hx _ a1 a2, hx _ a3 a4]
      split
      · rename_i hb
        refine ⟨w, g, rfl, rfl, hw, ?_⟩
        simpa using hb
      · rename_i hb
        have hin : w ∈ ts := by simpa using hb
        have t1 : (((j : Nat) : Int) / 25 % 25).toNat = j / 25 % 25 := by omega
        have t2 : (((j : Nat) : Int) % 25).toNat = j % 25 := by omega
        rw [t1, t2]
        simp_all only [show small ((⟨#[abc.getD (j / 25 % 25) 0]⟩ : Str).length + (⟨#[abc.getD (j % 25) 0]⟩ : Str).length) = true from rfl]
        refine ⟨j + 1, pairW j, g, some (.fz (.int (j : Nat))), rfl, by omega, pairW_good j, fun i hi => ?_, fun _ => by rw [Nat.add_sub_cancel], rfl, rfl⟩
        by_cases q : i + 1 < j
        · exact h1 i q
        · have e : i = j - 1 := by omega
          rw [e, ← h2 (by omega)]
          exact hin
  rintro s ⟨g, z, hn, rfl⟩
  simp_all only [true_and]
  exact ⟨_, g, rfl, rfl, pairW_good _, hn⟩

theorem words_ok {b : Int × Int × Int} {n : Nat} {ts : List Str} (hts : okWs ts) (hl : ts.length + n < 600) : OkF (f_l_words A) [.br (.lst (bagD b)), .fz (.int (n : Nat)), .fz (.lst (ts.map .str))] fun r as' => ∃ (ws : List Str) (g : Int × Int × Int), r = .o (.lst (ws.map .str)) ∧ as' = [.br (.lst (bagD g)), .fz (.int (n : Nat)), .fz (.lst (ts.map .str))] ∧
    ws.length = n ∧ ws.Nodup ∧ ∀ w ∈ ws, GoodW w ∧ w ∉ ts := by
  refine OkF.run rfl ?_
  unfold m_l_words
  refine Oo.cut (fun s => s = [some (.br (.lst (bagD b))), some (.fz (.int (n : Nat))), some (.fz (.lst (ts.map .str))), some (.ow (.lst [])), none]) ?_ ?_
  · simp_all only [true_and]
  rintro s rfl
  refine Oo.cut (fun s => ∃ (ws : List Str) (g : Int × Int × Int) (z : Option SV), s = [some (.br (.lst (bagD g))), some (.fz (.int (n : Nat))), some (.fz (.lst (ts.map .str))), some (.ow (.lst (ws.map .str))), z] ∧ ws.length = n ∧ ws.Nodup ∧ ∀ w ∈ ws, GoodW w ∧ w ∉ ts) ?_ ?_
  · simp_all only [e_inrN (n := n) (by omega)]
    refine Oo.loop (fun ds s => ∃ (ws : List Str) (g : Int × Int × Int) (z : Option SV), (∀ d ∈ ds, ∃ i : Nat, d = D.int (i : Nat)) ∧ s = [some (.br (.lst (bagD g))), some (.fz (.int (n : Nat))), some (.fz (.lst (ts.map .str))), some (.ow (.lst (ws.map .str))), z] ∧ feS (some z) = true ∧ ws.length + ds.length = n ∧ ws.Nodup ∧ ∀ w ∈ ws, GoodW w ∧ w ∉ ts) ?_ ?_ _ _
      ⟨[], b, none, (fun d hd => by obtain ⟨i, _, e⟩ := upTo_in hd; exact ⟨i, e⟩), rfl, rfl, by simp [upTo], List.nodup_nil, (fun w h => by cases h)⟩
    · rintro s ⟨ws, g, z, _, rfl, hz, hn, h1, h2⟩
      exact ⟨ws, g, z, rfl, by simpa using hn, h1, h2⟩
    · rintro d ds s ⟨ws, g, z, hd, rfl, hz, hn, h1, h2⟩
      obtain ⟨i, rfl⟩ := hd d List.mem_cons_self
      have hn' : ws.length + (ds.length + 1) = n := by simpa using hn
      refine ⟨_, e_g1 hz, ?_⟩
      have sm : small ((ts.map D.str).length + (ws.map D.str).length) = true := by
        rw [List.length_map, List.length_map]
        (exact decide_eq_true (by omega))
      simp_all only [sm]
      rw [← List.map_append]
      have ok2 : okWs (ts ++ ws) := fun t ht => by
        rcases List.mem_append.mp ht with h | h
        · exact hts t h
        · exact (h2 t h).1.ok
      refine OkF.use (word_of_ok ok2 (by rw [List.length_append]; omega)) ?_
      rintro r as' - ⟨v, g', rfl, rfl, hv, hnv⟩
      have nv : v ∉ ts ∧ v ∉ ws := ⟨fun h => hnv (List.mem_append_left _ h), fun h => hnv (List.mem_append_right _ h)⟩
      have lw : (ws.map D.str).length < 100000 := by
        rw [List.length_map]
        omega
      simp_all only [lw]
      refine ⟨ws ++ [v], g', _, fun d h => hd d (List.mem_cons_of_mem _ h), by rw [List.map_append]; rfl, rfl, by rw [List.length_append, List.length_singleton]; omega, ?_, fun w hw => ?_⟩
      · rw [List.nodup_append]
        refine ⟨h1, by simp, fun a ha c hc => ?_⟩
        have e : c = v := by simpa using hc
        rw [e]
        exact fun z => nv.2 (z ▸ ha)
      · rcases List.mem_append.mp hw with h | h
        · exact h2 w h
        · rw [List.mem_singleton.mp h]
          exact ⟨hv, nv.1⟩
  rintro s ⟨ws, g, z, rfl, h0, h1, h2⟩
  simp_all only [true_and]
  exact ⟨ws, g, rfl, rfl, h0, h1, h2⟩
end Cz

/-! # KB -/
namespace Cz
open L2 PyProof.Rows PySem.Spec PySem
local macro_rules
  | `(tactic| simp_all only [$xs,*]) => `(tactic| simp (config := {decide := true}) only [mIfS, mRet, mAsg, mSetL, mNext, mDrop, mRetN, Oo.seq, Oo.out, Oo.ite, Oo.opt, Oo.nx, Oo.rt, Oo.bk, Oo.ct, Oo.no, Ok1.bind, Ok1.ok, Ok1.ite, Ok1.opt, e_var, e_rd1, e_rd2, e_rd3, e_c, e_pk1, e_pk2, e_pk3, e_pk4, e_pk5, e_pk6, e_nr1, e_nr2, e_nr3, e_fr1, e_fr2, e_fr3, e_fr4, e_fr5, e_fz1, e_fz2, e_fz3, e_fz4, e_ow, e_ow1, e_ow2, e_ls, e_ls1, e_ls2, e_pt1, e_pt2, e_fe, e_fe1, e_fe2, e_fe3,
    k_op, k_un, k_cb1, k_o1, k_o2, k_tr, k_and, k_or, k_not, k_andV, k_orV, k_notV, k_if, k_nil, k_cons, k_ref, k_tup, k_lst, e_al1, e_al2, e_mp, e_bd, k_cb, k_call, k_lm, k_yes, k_np, k_pt, k_sl, e_io, e_add1, e_add2, e_add3, e_sub, e_mul, mulOk_r, mulOk_l, e_fdiv, e_mod, e_pow, e_neg, e_lt, e_le, e_gt, e_ge, e_ltS, e_ix1, e_ix2, e_ix3, e_ix4, e_ix5, e_len1, e_len2, e_len3, e_len4, e_len5, e_bl, e_int1, e_abs, e_lst1, e_lst2, e_lst3, e_lst4, e_tup1, e_tup2, e_tup3, e_app, e_ext, e_at0, e_at1, e_at2, e_at3, e_in0, e_in1, e_in2, ex_some, k_items, k_rng1, k_rngE, e_i1, e_inr, e_ea1, e_ea2, e_ea3, e_ea4, Int.toNat_natCast, e_it1, e_it2, e_it3, e_it4, e_en1, e_en2, k_for, e_es1, e_es2, e_es3, e_nb1, e_nb2, e_rdd,
    k_callS, e_nq1, e_nq2, e_sv1, e_sv2, e_rf1, e_rf2, e_rf3, g_as1, g_as2, g_as3, g_as4, g_as5, g_as6, g_b1, g_b2, g_b3, g_b4, g_b5, g_b6, k_make, k_fld, e_fld, k_setA, e_ob1, e_pa1, e_pa2, k_asgG, e_gn, e_gnil, e_gcons, e_gtup, e_gtuk, e_gany1, e_gany2, e_gany3, k_dput, e_opk, e_opt, e_kt, e_kk1, e_kk2, e_ks1, e_ks2, e_dg1, e_dg2, e_ixk, e_din, e_dno, k_dnT, k_dnK, k_get2, e_dd1, e_dd2, e_pm1, e_pm2, k_disp, k_og, e_iob, k_oi, k_index, k_isi, k_chain, k_keys, e_fzs, k_forD, e_lo1, e_lo2, e_lb1, e_lb2, e_wi1, e_wi2, e_re1, e_re2, e_gd,
    decide_eq_true_eq, true_and, and_true, List.getElem?_cons_zero, List.getElem?_cons_succ, List.set_cons_zero, List.set_cons_succ, List.map_cons, List.map_nil, List.length_cons, List.length_nil, List.replicate_succ, List.replicate_zero, List.cons_append, List.nil_append, List.append_nil, if_true, if_false, $xs,*])
variable {A : Ad}
theorem pop_in {l : List D} {k : Int} (h0 : 0 ≤ k) (h1 : k < (l.length : Nat)) (hl : l.length ≤ 100000) : ∃ (j : Nat) (h : j < l.length), popF [.int k] l = some (l[j], l.eraseIdx j) := by
  obtain ⟨j, rfl⟩ : ∃ j : Nat, k = (j : Int) := ⟨k.toNat, by omega⟩
  have hj : j < l.length := by omega
  refine ⟨j, hj, ?_⟩
  have e : seqIndex? (j : Int) l.length = some j := by
    unfold seqIndex?
    simp
    omega
  unfold popF
  split
  · rename_i z
    cases z
  · rename_i i m z
    cases z
    rw [if_pos (by omega), e, Option.bind_some, List.getElem?_eq_getElem hj]
    rfl
  · rename_i z1 z2
    exact absurd rfl (z2 _ )
theorem erase_perm {α : Type} {l : List α} {j : Nat} (hj : j < l.length) : (l[j] :: l.eraseIdx j).Perm l := by
  rw [List.eraseIdx_eq_take_drop_succ]
  refine List.perm_middle.symm.trans ?_
  rw [← List.drop_eq_getElem_cons hj, List.take_append_drop]
theorem mixed_ok {b : Int × Int × Int} {d : D} {l : List D} (hd : seqD d = some l) (h2 : l.length ≤ 1000) : OkF (f_l_mixed_of A) [.br (.lst (bagD b)), .fz d] fun r as' => ∃ (m : List D) (g : Int × Int × Int), r = .o (.lst m) ∧ as' = [.br (.lst (bagD g)), .fz d] ∧ m.Perm l := by
  refine OkF.run rfl ?_
  unfold m_l_mixed_of
  refine Oo.cut (fun s => s = [some (.br (.lst (bagD b))), some (.fz d), some (.ow (.lst l)), none, none]) ?_ ?_
  · simp_all only [lst_seq hd]
  rintro s rfl
  refine Oo.cut (fun s => s = [some (.br (.lst (bagD b))), some (.fz d), some (.ow (.lst l)), some (.ow (.lst [])), none]) ?_ ?_
  · simp_all only [true_and]
  rintro s rfl
  refine Oo.cut (fun s => ∃ (m : List D) (g : Int × Int × Int) (z : Option SV), s = [some (.br (.lst (bagD g))), some (.fz d), some (.ow (.lst [])), some (.ow (.lst m)), z] ∧ m.Perm l) ?_ ?_
  · simp_all only [len_seq hd, e_inrN (n := l.length) (by omega)]
    refine Oo.loop (fun ds s => ∃ (rest m : List D) (g : Int × Int × Int) (z : Option SV), s = [some (.br (.lst (bagD g))), some (.fz d), some (.ow (.lst rest)), some (.ow (.lst m)), z] ∧ feS (some z) = true ∧ rest.length = ds.length ∧ (m ++ rest).Perm l) ?_ ?_ _ _ ⟨l, [], b, none, rfl, rfl, by simp [upTo], List.Perm.refl _⟩
    · rintro s ⟨rest, m, g, z, rfl, _, h1, h3⟩
      have e : rest = [] := List.eq_nil_of_length_eq_zero h1
      subst e
      rw [List.append_nil] at h3
      exact ⟨m, g, z, rfl, h3⟩
    · rintro e ds s ⟨rest, m, g, z, rfl, hz, h1, h3⟩
      have h1' : rest.length = ds.length + 1 := h1
      have hp := h3.length_eq
      rw [List.length_append] at hp
      refine ⟨_, (e_gn.trans (if_pos hz)), ?_⟩
      simp_all only [true_and]
      refine OkF.use (pick_ok (n := (rest.length : Nat)) (by omega) (by omega)) ?_
      rintro r as' - ⟨k, g', rfl, rfl, k0, k1⟩
      obtain ⟨j, hj, ep⟩ := pop_in k0 k1 (by omega)
      simp_all only [ep, show m.length < 100000 by omega]
      refine ⟨rest.eraseIdx j, m ++ [rest[j]], g', _, rfl, rfl, ?_, ?_⟩
      · rw [List.length_eraseIdx_of_lt hj]
        omega
      · rw [List.append_assoc]
        exact (List.Perm.append_left m (erase_perm hj)).trans h3
  rintro s ⟨m, g, z, rfl, hm⟩
  simp_all only [true_and]
  exact ⟨m, g, rfl, rfl, hm⟩
/-! rows of texts that rise -/
def Asc (ks : List Str) : Prop := ks.Pairwise fun a b => sLt a b = true
theorem sort_strs {ts : List Str} (h : ts.length < 64) : sortD (.lst (ts.map .str)) = some (.o (.lst ((srt sLt ts).map .str))) := by
  cases ts with
  | nil => rfl
  | cons t ts =>
    show (strsD ((t :: ts).map D.str)).bind _ = _
    rw [strs_of, Option.bind_some, if_pos h]
theorem asc_srt {ts : List Str} (h : ts.Nodup) : Asc (srt sLt ts) := by
  have h1 := srt_srt (lt := sLt) (fun _ _ _ => sLt_tr) (fun _ _ => sLt_as) ts
  have h2 : (srt sLt ts).Nodup := (srt_perm sLt ts).nodup_iff.mpr h
  refine (h1.and h2).imp fun {a b} q => ?_
  cases e : sLt a b with
  | true => rfl
  | false => exact absurd (sLt_an e q.1) q.2
theorem mem_srt {ts : List Str} {x : Str} : x ∈ srt sLt ts ↔ x ∈ ts := (srt_perm sLt ts).mem_iff
theorem len_srt {ts : List Str} : (srt sLt ts).length = ts.length := (srt_perm sLt ts).length_eq
theorem cut_to {α : Type} {l : List α} {k : Int} (h : 0 ≤ k) : cutL l none (some k) = l.take k.toNat := by
  have e1 : HT.sIx l.length 0 none = 0 := rfl
  have e2 : HT.sIx l.length l.length (some k) = min k.toNat l.length := if_neg (show ¬ k < 0 by omega)
  unfold cutL
  rw [e1, e2, List.drop_zero, Nat.sub_zero]
  by_cases q : k.toNat ≤ l.length
  · rw [Nat.min_eq_left q]
  · rw [Nat.min_eq_right (by omega), List.take_length, List.take_of_length_le (by omega)]
theorem perm_strs {m : List D} {ns : List Str} (h : m.Perm (ns.map .str)) : ∃ ms : List Str, m = ms.map .str ∧ ms.Perm ns := by
  have : ∃ ms : List Str, m = ms.map .str := by
    have hm : ∀ x ∈ m, ∃ t, x = D.str t := fun x hx => by
      obtain ⟨t, _, rfl⟩ := List.mem_map.mp (h.mem_iff.mp hx)
      exact ⟨t, rfl⟩
    clear h
    induction m with
    | nil => exact ⟨[], rfl⟩
    | cons x m ih =>
      obtain ⟨t, rfl⟩ := hm x List.mem_cons_self
      obtain ⟨ms, rfl⟩ := ih fun y hy => hm y (List.mem_cons_of_mem _ hy)
      exact ⟨t :: ms, rfl⟩
  obtain ⟨ms, rfl⟩ := this
  refine ⟨ms, rfl, ?_⟩
  have q := h.map (fun d => match d with
    | D.str t => t
    | _ => "")
  rw [List.map_map, List.map_map] at q
  have e : ((fun d => match d with
    | D.str t => t
    | _ => "") ∘ D.str : Str → Str) = id := rfl
  rw [e, List.map_id, List.map_id] at q
  exact q
theorem some_ok {b : Int × Int × Int} {ns : List Str} {k : Nat} (hn : ns.Nodup) (hl : ns.length ≤ 20) (hk : k ≤ 5) : OkF (f_l_some A) [.br (.lst (bagD b)), .fz (.lst (ns.map .str)), .fz (.int (k : Nat))] fun r as' => ∃ (ks : List Str) (g : Int × Int × Int), r = .d (.tup (ks.map .str)) ∧ as' = [.br (.lst (bagD g)), .fz (.lst (ns.map .str)), .fz (.int (k : Nat))] ∧ Asc ks ∧ ks.length ≤ k ∧ ∀ x ∈ ks, x ∈ ns := by
  refine OkF.run rfl ?_
  unfold m_l_some
  refine Oo.cut (fun s => ∃ (j : Nat) (g : Int × Int × Int), j ≤ k ∧ s = [some (.br (.lst (bagD g))), some (.fz (.lst (ns.map .str))), some (.fz (.int (k : Nat))), some (.fz (.int (j : Nat)))]) ?_ ?_
  · have em : min2D [.int (k : Nat), .int ((ns.map D.str).length : Nat)] = some (.d (.int (min k ns.length : Nat))) := by
      have e : (if (((ns.map D.str).length : Nat) : Int) < ((k : Nat) : Int) then (((ns.map D.str).length : Nat) : Int) else ((k : Nat) : Int)) = ((min k ns.length : Nat) : Int) := by
        rw [List.length_map]
        split <;> omega
      rw [← e]
      rfl
    simp_all only [em]
    refine OkF.use (pick_ok (n := ((min k ns.length : Nat) : Int) + 1) (by omega) (by omega)) ?_
    rintro r as' - ⟨i, g', rfl, rfl, k0, k1⟩
    simp_all only [true_and]
    refine ⟨i.toNat, g', by omega, ?_⟩
    rw [Int.toNat_of_nonneg k0]
  rintro s ⟨j, g, hj, rfl⟩
  simp_all only [true_and]
  refine OkF.use (mixed_ok (l := ns.map .str) rfl (by rw [List.length_map]; omega)) ?_
  rintro r as' - ⟨m, g', rfl, rfl, hm⟩
  obtain ⟨ms, rfl, hp⟩ := perm_strs hm
  have hpl := hp.length_eq
  have ec : cutL (ms.map D.str) none (some (j : Int)) = (ms.take j).map D.str := by
    rw [cut_to (by omega), Int.toNat_natCast, List.map_take]
  have es : slD (.lst (ms.map .str)) none (some (j : Int)) = some (.o (.lst ((ms.take j).map .str))) := by
    show some (Rv.o (.lst (cutL _ _ _))) = _
    rw [ec]
  have ln : (ms.take j).length ≤ j := by
    rw [List.length_take]
    omega
  have nd : (ms.take j).Nodup := (hp.nodup_iff.mpr hn).sublist (List.take_sublist _ _)
  simp_all only [es, sort_strs (show (ms.take j).length < 64 by omega)]
  refine ⟨srt sLt (ms.take j), g', rfl, rfl, asc_srt nd, by rw [len_srt]; omega, fun x hx => hp.mem_iff.mp (List.mem_of_mem_take (mem_srt.mp hx))⟩
end Cz

/-! # KC -/
namespace Cz
open L2 PyProof.Rows PySem.Spec PySem
theorem e_eqI {a b : Int} : eqD (.int a) (.int b) = some (.d (.bl (decide (a = b)))) := rfl
theorem e_neI {a b : Int} : neD (.int a) (.int b) = some (.d (.bl (!decide (a = b)))) := rfl
theorem e_eqS {x y : Str} : eqD (.str x) (.str y) = some (.d (.bl (decide (x = y)))) := rfl
theorem e_neS {x y : Str} : neD (.str x) (.str y) = some (.d (.bl (!decide (x = y)))) := rfl
theorem e_ntd {p : Prop} [Decidable p] : ((!decide p) = true) = ¬ p := by simp
local macro_rules
  | `(tactic| simp_all only [$xs,*]) => `(tactic| simp (config := {decide := true}) only [mIfS, mRet, mAsg, mSetL, mNext, mDrop, mRetN, Oo.seq, Oo.out, Oo.ite, Oo.opt, Oo.nx, Oo.rt, Oo.bk, Oo.ct, Oo.no, Ok1.bind, Ok1.ok, Ok1.ite, Ok1.opt, e_var, e_rd1, e_rd2, e_rd3, e_c, e_pk1, e_pk2, e_pk3, e_pk4, e_pk5, e_pk6, e_nr1, e_nr2, e_nr3, e_fr1, e_fr2, e_fr3, e_fr4, e_fr5, e_fz1, e_fz2, e_fz3, e_fz4, e_ow, e_ow1, e_ow2, e_ls, e_ls1, e_ls2, e_pt1, e_pt2, e_fe, e_fe1, e_fe2, e_fe3,
    k_op, k_un, k_cb1, k_o1, k_o2, k_tr, k_and, k_or, k_not, k_andV, k_orV, k_notV, k_if, k_nil, k_cons, k_ref, k_tup, k_lst, e_al1, e_al2, e_mp, e_bd, k_cb, k_call, k_lm, k_yes, k_np, k_pt, k_sl, e_io, e_add1, e_add2, e_add3, e_sub, e_mul, mulOk_r, mulOk_l, e_fdiv, e_mod, e_pow, e_neg, e_lt, e_le, e_gt, e_ge, e_ltS, e_ix1, e_ix2, e_ix3, e_ix4, e_ix5, e_len1, e_len2, e_len3, e_len4, e_len5, e_bl, e_int1, e_abs, e_lst1, e_lst2, e_lst3, e_lst4, e_tup1, e_tup2, e_tup3, e_app, e_ext, e_at0, e_at1, e_at2, e_at3, e_in0, e_in1, e_in2, ex_some, k_items, k_rng1, k_rngE, e_i1, e_inr, e_ea1, e_ea2, e_ea3, e_ea4, Int.toNat_natCast, e_it1, e_it2, e_it3, e_it4, e_en1, e_en2, k_for, e_es1, e_es2, e_es3, e_nb1, e_nb2, e_rdd,
    k_callS, e_nq1, e_nq2, e_sv1, e_sv2, e_rf1, e_rf2, e_rf3, g_as1, g_as2, g_as3, g_as4, g_as5, g_as6, g_b1, g_b2, g_b3, g_b4, g_b5, g_b6, k_make, k_fld, e_fld, k_setA, e_ob1, e_pa1, e_pa2, k_asgG, e_gn, e_gnil, e_gcons, e_gtup, e_gtuk, e_gany1, e_gany2, e_gany3, k_dput, e_opk, e_opt, e_kt, e_kk1, e_kk2, e_ks1, e_ks2, e_dg1, e_dg2, e_ixk, e_din, e_dno, k_dnT, k_dnK, k_get2, e_dd1, e_dd2, e_pm1, e_pm2, k_disp, k_og, e_iob, k_oi, k_index, k_isi, k_chain, k_keys, e_fzs, k_forD, e_lo1, e_lo2, e_lb1, e_lb2, e_wi1, e_wi2, e_re1, e_re2, e_gd,
    decide_eq_true_eq, true_and, and_true, List.getElem?_cons_zero, List.getElem?_cons_succ, List.set_cons_zero, List.set_cons_succ, List.map_cons, List.map_nil, List.length_cons, List.length_nil, List.replicate_succ, List.replicate_zero, List.cons_append, List.nil_append, List.append_nil, if_true, if_false, e_eqI, e_neI, e_eqS, e_neS, e_ntd, $xs,*])
variable {A : Ad}
theorem e_gnT {i : Nat} {d : D} {s : SS} (h : feS (s[i]?) = true) : mgName i d s = some (s.set i (some (.fz d))) := e_gn.trans (if_pos h)
theorem ink_ok {b : Int × Int × Int} {n o : Str} {hs : List Str} (h1 : 1 ≤ hs.length) (h2 : hs.length < 60) : OkF (f_l_ink A) [.br (.lst (bagD b)), .fz (.str n), .fz (.str o), .fz (.lst (hs.map .str))] fun r as' => ∃ (d : D) (g : Int × Int × Int), r = .d d ∧ as' = [.br (.lst (bagD g)), .fz (.str n), .fz (.str o), .fz (.lst (hs.map .str))] := by
  refine OkF.run rfl ?_
  unfold m_l_ink
  refine Oo.cut (fun s => s = [some (.br (.lst (bagD b))), some (.fz (.str n)), some (.fz (.str o)), some (.fz (.lst (hs.map .str))), some (.ow (.lst [])), none, none]) ?_ ?_
  · simp_all only [true_and]
  rintro s rfl
  refine Oo.cut (fun s => ∃ (l : List D) (g : Int × Int × Int) (z5 z6 : Option SV), s = [some (.br (.lst (bagD g))), some (.fz (.str n)), some (.fz (.str o)), some (.fz (.lst (hs.map .str))), some (.ow (.lst l)), z5, z6]) ?_ ?_
  · simp_all only [sort_strs (show hs.length < 64 by omega)]
    refine Oo.loop (fun ds s => ∃ (l : List D) (g : Int × Int × Int) (z5 z6 : Option SV), s = [some (.br (.lst (bagD g))), some (.fz (.str n)), some (.fz (.str o)), some (.fz (.lst (hs.map .str))), some (.ow (.lst l)), z5, z6] ∧ feS (some z5) = true ∧ feS (some z6) = true ∧ l.length + ds.length ≤ 60 ∧ ∀ d ∈ ds, ∃ x, d = D.str x) ?_ ?_ _ _ ⟨[], b, none, none, rfl, rfl, rfl, by simp [len_srt]; omega, fun d hd => by obtain ⟨x, _, rfl⟩ := List.mem_map.mp hd; exact ⟨x, rfl⟩⟩
    · rintro s ⟨l, g, z5, z6, rfl, -⟩
      exact ⟨l, g, z5, z6, rfl⟩
    · rintro d ds s ⟨l, g, z5, z6, rfl, f5, f6, hl, hd⟩
      obtain ⟨x, rfl⟩ := hd d List.mem_cons_self
      have hd' : ∀ d ∈ ds, ∃ x, d = D.str x := fun d h => hd d (List.mem_cons_of_mem _ h)
      have hl' : l.length + (ds.length + 1) ≤ 60 := hl
      refine ⟨_, e_gnT f5, ?_⟩
      have no : ∀ g : Int × Int × Int, ∃ (l' : List D) (g' : Int × Int × Int) (z5 z6' : Option SV), [some (SV.br (.lst (bagD g))), some (.fz (.str n)), some (.fz (.str o)), some (.fz (.lst (hs.map .str))), some (.ow (.lst l)), some (.fz (.str x)), z6] = [some (SV.br (.lst (bagD g'))), some (.fz (.str n)), some (.fz (.str o)), some (.fz (.lst (hs.map .str))), some (.ow (.lst l')), z5, z6'] ∧ feS (some z5) = true ∧ feS (some z6') = true ∧ l'.length + ds.length ≤ 60 ∧ ∀ d ∈ ds, ∃ x, d = D.str x :=
        fun g => ⟨l, g, _, _, rfl, rfl, f6, by omega, hd'⟩
      simp_all only [f6]
      split
      · refine OkF.use (pick_ok (n := 2) (by decide) (by decide)) ?_
        rintro r as' - ⟨k, g', rfl, rfl, k0, k1⟩
        simp_all only [f6]
        split
        · refine OkF.use (one_of_ok (l := hs.map .str) rfl (by simpa using h1) (by simp; omega)) ?_
          rintro r as' - ⟨e, g', rfl, rfl, he⟩
          simp_all only [f6]
          refine OkF.use (pick_ok (n := 16) (by decide) (by decide)) ?_
          rintro r as' - ⟨k, g', rfl, rfl, k0, k1⟩
          simp_all only [f6]
          split
          · simp_all only [show l.length < 100000 by omega]
            exact ⟨_, g', _, _, rfl, rfl, rfl, by simp; omega, hd'⟩
          · simp_all only [show l.length < 100000 by omega]
            exact ⟨_, g', _, _, rfl, rfl, rfl, by simp; omega, hd'⟩
        · exact no g'
      · exact no g
  rintro s ⟨l, g, z5, z6, rfl⟩
  simp_all only [true_and]
  exact ⟨_, g, rfl, rfl⟩
end Cz

/-! # KD -/
namespace Cz
open L2 PyProof.Rows PySem.Spec PySem
local macro_rules
  | `(tactic| simp_all only [$xs,*]) => `(tactic| simp (config := {decide := true}) only [mIfS, mRet, mAsg, mSetL, mNext, mDrop, mRetN, Oo.seq, Oo.out, Oo.ite, Oo.opt, Oo.nx, Oo.rt, Oo.bk, Oo.ct, Oo.no, Ok1.bind, Ok1.ok, Ok1.ite, Ok1.opt, e_var, e_rd1, e_rd2, e_rd3, e_c, e_pk1, e_pk2, e_pk3, e_pk4, e_pk5, e_pk6, e_nr1, e_nr2, e_nr3, e_fr1, e_fr2, e_fr3, e_fr4, e_fr5, e_fz1, e_fz2, e_fz3, e_fz4, e_ow, e_ow1, e_ow2, e_ls, e_ls1, e_ls2, e_pt1, e_pt2, e_fe, e_fe1, e_fe2, e_fe3,
    k_op, k_un, k_cb1, k_o1, k_o2, k_tr, k_and, k_or, k_not, k_andV, k_orV, k_notV, k_if, k_nil, k_cons, k_ref, k_tup, k_lst, e_al1, e_al2, e_mp, e_bd, k_cb, k_call, k_lm, k_yes, k_np, k_pt, k_sl, e_io, e_add1, e_add2, e_add3, e_sub, e_mul, mulOk_r, mulOk_l, e_fdiv, e_mod, e_pow, e_neg, e_lt, e_le, e_gt, e_ge, e_ltS, e_ix1, e_ix2, e_ix3, e_ix4, e_ix5, e_len1, e_len2, e_len3, e_len4, e_len5, e_bl, e_int1, e_abs, e_lst1, e_lst2, e_lst3, e_lst4, e_tup1, e_tup2, e_tup3, e_app, e_ext, e_at0, e_at1, e_at2, e_at3, e_in0, e_in1, e_in2, ex_some, k_items, k_rng1, k_rngE, e_i1, e_inr, e_ea1, e_ea2, e_ea3, e_ea4, Int.toNat_natCast, e_it1, e_it2, e_it3, e_it4, e_en1, e_en2, k_for, e_es1, e_es2, e_es3, e_nb1, e_nb2, e_rdd,
    k_callS, e_nq1, e_nq2, e_sv1, e_sv2, e_rf1, e_rf2, e_rf3, g_as1, g_as2, g_as3, g_as4, g_as5, g_as6, g_b1, g_b2, g_b3, g_b4, g_b5, g_b6, k_make, k_fld, e_fld, k_setA, e_ob1, e_pa1, e_pa2, k_asgG, e_gn, e_gnil, e_gcons, e_gtup, e_gtuk, e_gany1, e_gany2, e_gany3, k_dput, e_opk, e_opt, e_kt, e_kk1, e_kk2, e_ks1, e_ks2, e_dg1, e_dg2, e_ixk, e_din, e_dno, k_dnT, k_dnK, k_get2, e_dd1, e_dd2, e_pm1, e_pm2, k_disp, k_og, e_iob, k_oi, k_index, k_isi, k_chain, k_keys, e_fzs, k_forD, e_lo1, e_lo2, e_lb1, e_lb2, e_wi1, e_wi2, e_re1, e_re2, e_gd,
    decide_eq_true_eq, true_and, and_true, List.getElem?_cons_zero, List.getElem?_cons_succ, List.set_cons_zero, List.set_cons_succ, List.map_cons, List.map_nil, List.length_cons, List.length_nil, List.replicate_succ, List.replicate_zero, List.cons_append, List.nil_append, List.append_nil, if_true, if_false, e_eqI, e_neI, e_eqS, e_neS, e_ntd, $xs,*])
variable {A : Ad}
structure Wld where
  inks : List D
  names : List Str
  own : List Str
  third : List Str
  hues : List Str
  pal : List Str
def Wld.r (w : Wld) : List (Key × D) := [(.inr "inks", .lst w.inks), (.inr "names", .lst (w.names.map .str)), (.inr "own", .lst (w.own.map .str)), (.inr "third", .lst (w.third.map .str)), (.inr "hues", .lst (w.hues.map .str)), (.inr "palette", .lst (w.pal.map .str))]
structure Wld.Ok (w : Wld) : Prop where
  nn : w.names.Nodup
  ng : ∀ x ∈ w.names, GoodW x
  nl : 2 ≤ w.names.length ∧ w.names.length ≤ 4
  ol : w.own.length = w.names.length
  og : ∀ x ∈ w.own, GoodW x
  tl : 1 ≤ w.third.length ∧ w.third.length ≤ 3
  tg : ∀ x ∈ w.third, GoodW x
  pl : 1 ≤ w.pal.length ∧ w.pal.length ≤ 3
  pg : ∀ x ∈ w.pal, GoodW x
theorem get_names (w : Wld) : valD w.r (.inr "names") = some (.lst (w.names.map .str)) := rfl
theorem get_own (w : Wld) : valD w.r (.inr "own") = some (.lst (w.own.map .str)) := rfl
theorem get_third (w : Wld) : valD w.r (.inr "third") = some (.lst (w.third.map .str)) := rfl
theorem get_pal (w : Wld) : valD w.r (.inr "palette") = some (.lst (w.pal.map .str)) := rfl
theorem wld_disp (a b c d e f : D) : mergeD [] [(.inr "inks", a), (.inr "names", b), (.inr "own", c), (.inr "third", d), (.inr "hues", e), (.inr "palette", f)] = [(.inr "inks", a), (.inr "names", b), (.inr "own", c), (.inr "third", d), (.inr "hues", e), (.inr "palette", f)] := rfl
theorem okWs_of {ts : List Str} (h : ∀ x ∈ ts, GoodW x) : okWs ts := fun t ht => (h t ht).ok
theorem ix_strs {ts : List Str} {k : Int} (h0 : 0 ≤ k) (h1 : k < (ts.length : Nat)) : ∃ x, x ∈ ts ∧ atI (ts.map D.str) k = some (.str x) := by
  obtain ⟨e, h2, h3⟩ := at_in (l := ts.map D.str) h0 (by rw [List.length_map]; exact h1)
  obtain ⟨x, hx, rfl⟩ := List.mem_map.mp h2
  exact ⟨x, hx, h3⟩
theorem world_ok {b : Int × Int × Int} : OkF (f_l_world_of A) [.br (.lst (bagD b))] fun r as' => ∃ (w : Wld) (g : Int × Int × Int), r = .o (.dk false w.r) ∧ as' = [.br (.lst (bagD g))] ∧ w.Ok := by
  refine OkF.run rfl ?_
  unfold m_l_world_of
  refine Oo.cut (fun s => ∃ (n : Nat) (g : Int × Int × Int), 2 ≤ n ∧ n ≤ 4 ∧ s = [some (.br (.lst (bagD g))), some (.fz (.int (n : Nat))), none, none, none, none, none, none, none, none]) ?_ ?_
  · simp_all only [true_and]
    refine OkF.use (one_of_ok (l := [.int 2, .int 2, .int 3, .int 3, .int 4]) rfl (by decide) (by decide)) ?_
    rintro r as' - ⟨e, g', rfl, rfl, he⟩
    obtain ⟨n, n2, n4, rfl⟩ : ∃ n : Nat, 2 ≤ n ∧ n ≤ 4 ∧ e = .int n := by
      simp only [List.mem_cons, List.not_mem_nil, or_false] at he
      rcases he with rfl | rfl | rfl | rfl | rfl
      · exact ⟨2, by decide, by decide, rfl⟩
      · exact ⟨2, by decide, by decide, rfl⟩
      · exact ⟨3, by decide, by decide, rfl⟩
      · exact ⟨3, by decide, by decide, rfl⟩
      · exact ⟨4, by decide, by decide, rfl⟩
    simp_all only [true_and]
    exact ⟨n, g', n2, n4, rfl⟩
  rintro s ⟨n, g, n2, n4, rfl⟩
  refine Oo.cut (fun s => ∃ (ns : List Str) (g : Int × Int × Int), ns.length = n ∧ ns.Nodup ∧ (∀ x ∈ ns, GoodW x) ∧ s = [some (.br (.lst (bagD g))), some (.fz (.int (n : Nat))), some (.ow (.lst (ns.map .str))), none, none, none, none, none, none, none]) ?_ ?_
  · simp_all only [true_and]
    refine OkF.use (words_ok (n := n) (ts := []) (fun t h => by cases h) (by simp; omega)) ?_
    rintro r as' - ⟨ns, g', rfl, rfl, h1, h2, h3⟩
    simp_all only [true_and]
    exact ⟨ns, g', h1, h2, fun x hx => (h3 x hx).1, rfl⟩
  rintro s ⟨ns, g, nl, nn, ng, rfl⟩
  refine Oo.cut (fun s => ∃ (os : List Str) (g : Int × Int × Int), os.length = n ∧ (∀ x ∈ os, GoodW x) ∧ s = [some (.br (.lst (bagD g))), some (.fz (.int (n : Nat))), some (.ow (.lst (ns.map .str))), some (.ow (.lst (os.map .str))), none, none, none, none, none, none]) ?_ ?_
  · simp_all only [true_and]
    refine OkF.use (words_ok (n := n) (ts := []) (fun t h => by cases h) (by simp; omega)) ?_
    rintro r as' - ⟨os, g', rfl, rfl, h1, h2, h3⟩
    simp_all only [true_and]
    exact ⟨os, g', h1, fun x hx => (h3 x hx).1, rfl⟩
  rintro s ⟨os, g, ol, og, rfl⟩
  refine Oo.cut (fun s => ∃ (ts : List Str) (g : Int × Int × Int), 1 ≤ ts.length ∧ ts.length ≤ 3 ∧ (∀ x ∈ ts, GoodW x) ∧ s = [some (.br (.lst (bagD g))), some (.fz (.int (n : Nat))), some (.ow (.lst (ns.map .str))), some (.fz (.lst (os.map .str))), some (.ow (.lst (ts.map .str))), none, none, none, none, none]) ?_ ?_
  · simp_all only [true_and]
    refine OkF.use (pick_ok (n := 3) (by decide) (by decide)) ?_
    rintro r as' - ⟨k, g', rfl, rfl, k0, k1⟩
    obtain ⟨j, rfl⟩ : ∃ j : Nat, k = (j : Int) := ⟨k.toNat, by omega⟩
    simp_all only [true_and]
    rw [show (1 : Int) + (j : Int) = ((1 + j : Nat) : Int) by omega]
    refine OkF.use (words_ok (n := 1 + j) (ts := os) (okWs_of og) (by omega)) ?_
    rintro r as' - ⟨ts, g', rfl, rfl, h1, h2, h3⟩
    simp_all only [true_and]
    exact ⟨ts, g', by omega, by omega, fun x hx => (h3 x hx).1, rfl⟩
  rintro s ⟨ts, g, t1, t3, tg, rfl⟩
  have sm : ∀ a b : Nat, a ≤ 100 → b ≤ 100 → small (a + b) = true := fun a b h1 h2 => decide_eq_true (by omega)
  have lo : (os.map D.str).length = n := by rw [List.length_map, ol]
  have lt : (ts.map D.str).length ≤ 3 := by rw [List.length_map]; exact t3
  refine Oo.cut (fun s => ∃ (is : List D) (g : Int × Int × Int), s = [some (.br (.lst (bagD g))), some (.fz (.int (n : Nat))), some (.ow (.lst (ns.map .str))), some (.fz (.lst (os.map .str))), some (.ow (.lst (ts.map .str))), some (.ow (.lst is)), none, none, none, none]) ?_ ?_
  · simp_all only [true_and]
    refine Ok1.lc ?_
    simp_all only [e_inrN (n := n) (by omega)]
    refine Ok1.loopC (fun ds acc s => ∃ (g : Int × Int × Int), acc.length + ds.length ≤ n ∧ (∀ d ∈ ds, ∃ i : Nat, i < n ∧ d = D.int (i : Nat)) ∧ s = [some (.br (.lst (bagD g))), some (.fz (.int (n : Nat))), some (.ow (.lst (ns.map .str))), some (.fz (.lst (os.map .str))), some (.ow (.lst (ts.map .str))), none, none, none, none, none]) ?_ ?_ _ _ _ ⟨g, by simp [upTo], fun d hd => upTo_in hd, rfl⟩
    · rintro acc s ⟨g, hl, -, rfl⟩
      simp_all only [true_and]
      exact ⟨acc, g, rfl⟩
    · rintro d ds acc s ⟨g, hl, hd, rfl⟩
      obtain ⟨i, hi, rfl⟩ := hd d List.mem_cons_self
      have hd' : ∀ d ∈ ds, ∃ i : Nat, i < n ∧ d = D.int (i : Nat) := fun d h => hd d (List.mem_cons_of_mem _ h)
      have hl' : acc.length + (ds.length + 1) ≤ n := hl
      obtain ⟨x, hx, ex⟩ := ix_strs (ts := ns) (k := (i : Nat)) (by omega) (by omega)
      obtain ⟨y, hy, ey⟩ := ix_strs (ts := os) (k := (i : Nat)) (by omega) (by omega)
      refine ⟨_, e_gnT rfl, ?_⟩
      simp_all only [ex, ey, sm ((os.map D.str).length) ((ts.map D.str).length) (by omega) (by omega)]
      rw [← List.map_append]
      refine OkF.use (ink_ok (hs := os ++ ts) (by rw [List.length_append]; omega) (by rw [List.length_append]; omega)) ?_
      rintro r as' - ⟨d, g', rfl, rfl⟩
      simp_all only [true_and]
      exact ⟨by omega, g', by rw [List.length_append, List.length_singleton]; omega, hd', rfl⟩
  rintro s ⟨is, g, rfl⟩
  refine Oo.cut (fun s => ∃ (ps : List Str) (g : Int × Int × Int), 1 ≤ ps.length ∧ ps.length ≤ 100 ∧ (∀ x ∈ ps, GoodW x) ∧ s = [some (.br (.lst (bagD g))), some (.fz (.int (n : Nat))), some (.ow (.lst (ns.map .str))), some (.fz (.lst (os.map .str))), some (.ow (.lst (ts.map .str))), some (.ow (.lst is)), none, some (.ow (.lst (ps.map .str))), none, none]) ?_ ?_
  · simp_all only [sm ((os.map D.str).length) ((os.map D.str).length) (by omega) (by omega), sm ((os.map D.str).length) ((ts.map D.str).length) (by omega) (by omega), sm ((os.map D.str ++ os.map D.str).length) ((ts.map D.str).length) (by rw [List.length_append]; omega) (by omega)]
    rw [← List.map_append, ← List.map_append, ← List.map_append]
    have hg : ∀ x ∈ os ++ ts, GoodW x := fun x hx => by
      rcases List.mem_append.mp hx with h | h
      · exact og x h
      · exact tg x h
    refine OkF.use (words_ok (n := 1) (ts := os ++ ts) (okWs_of hg) (by rw [List.length_append]; omega)) ?_
    rintro r as' - ⟨us, g', rfl, rfl, h1, h2, h3⟩
    simp_all only [sm (((os ++ os ++ ts).map D.str).length) ((us.map D.str).length) (by rw [List.length_map, List.length_append, List.length_append]; omega) (by rw [List.length_map]; omega)]
    refine ⟨os ++ os ++ ts ++ us, g', by rw [List.length_append]; omega, by rw [List.length_append, List.length_append, List.length_append]; omega, fun x hx => ?_, by rw [← List.map_append]⟩
    rcases List.mem_append.mp hx with h | h
    · (rcases List.mem_append.mp h with h | h)
      · (rcases List.mem_append.mp h with h | h)
        · exact og x h
        · exact og x h
      · exact tg x h
    · exact (h3 x h).1
  rintro s ⟨ps, g, p1, p2, pg, rfl⟩
  refine Oo.cut (fun s => s = [some (.br (.lst (bagD g))), some (.fz (.int (n : Nat))), some (.ow (.lst (ns.map .str))), some (.fz (.lst (os.map .str))), some (.ow (.lst (ts.map .str))), some (.ow (.lst is)), none, some (.ow (.lst (ps.map .str))), some (.ow (.lst [])), none]) ?_ ?_
  · simp_all only [true_and]
  rintro s rfl
  refine Oo.cut (fun s => ∃ (qs : List Str) (z7 : SV) (g : Int × Int × Int) (z6 z9 : Option SV), 1 ≤ qs.length ∧ qs.length ≤ 3 ∧ (∀ x ∈ qs, GoodW x) ∧ s = [some (.br (.lst (bagD g))), some (.fz (.int (n : Nat))), some (.ow (.lst (ns.map .str))), some (.fz (.lst (os.map .str))), some (.ow (.lst (ts.map .str))), some (.ow (.lst is)), z6, some z7, some (.ow (.lst (qs.map .str))), z9]) ?_ ?_
  · simp_all only [true_and]
    refine OkF.use (one_of_ok (l := [.int 1, .int 2, .int 2, .int 2, .int 2, .int 3]) rfl (by decide) (by decide)) ?_
    rintro r as' - ⟨e, g', rfl, rfl, he⟩
    obtain ⟨m, m1, m3, rfl⟩ : ∃ n : Nat, 1 ≤ n ∧ n ≤ 3 ∧ e = .int n := by
      simp only [List.mem_cons, List.not_mem_nil, or_false] at he
      rcases he with rfl | rfl | rfl | rfl | rfl | rfl
      · exact ⟨1, by decide, by decide, rfl⟩
      · exact ⟨2, by decide, by decide, rfl⟩
      · exact ⟨2, by decide, by decide, rfl⟩
      · exact ⟨2, by decide, by decide, rfl⟩
      · exact ⟨2, by decide, by decide, rfl⟩
      · exact ⟨3, by decide, by decide, rfl⟩
    simp_all only [e_inrN (n := m) (by omega)]
    refine Oo.loop (fun ds s => ∃ (qs : List Str) (z7 : SV) (g : Int × Int × Int) (z6 z9 : Option SV), (z7 = .ow (.lst (ps.map .str)) ∨ z7 = .fz (.lst (ps.map .str))) ∧ feS (some z6) = true ∧ feS (some z9) = true ∧ qs.length + ds.length ≤ m ∧ (1 ≤ qs.length + ds.length) ∧ (∀ x ∈ qs, GoodW x) ∧ s = [some (.br (.lst (bagD g))), some (.fz (.int (n : Nat))), some (.ow (.lst (ns.map .str))), some (.fz (.lst (os.map .str))), some (.ow (.lst (ts.map .str))), some (.ow (.lst is)), z6, some z7, some (.ow (.lst (qs.map .str))), z9]) ?_ ?_ _ _ ⟨[], .ow (.lst (ps.map .str)), g', none, none, .inl rfl, rfl, rfl, by simp [upTo], by simp [upTo]; omega, (fun x hx => by cases hx), rfl⟩
    · rintro s ⟨qs, z7, g, z6, z9, h7, f6, f9, hl, h1, hq, rfl⟩
      have hl' : qs.length + 0 ≤ m := hl
      have h1' : 1 ≤ qs.length + 0 := h1
      exact ⟨qs, z7, g, z6, z9, by omega, by omega, hq, rfl⟩
    · rintro d ds s ⟨qs, z7, g, z6, z9, h7, f6, f9, hl, h1, hq, rfl⟩
      have hl' : qs.length + (ds.length + 1) ≤ m := hl
      have h1' : 1 ≤ qs.length + (ds.length + 1) := h1
      refine ⟨_, e_gnT f6, ?_⟩
      rcases h7 with rfl | rfl
      all_goals
        simp_all only [f9]
        refine OkF.use (one_of_ok (l := ps.map .str) rfl (by rw [List.length_map]; omega) (by rw [List.length_map]; omega)) ?_
        rintro r as' - ⟨e, g', rfl, rfl, he⟩
        obtain ⟨x, hx, rfl⟩ := List.mem_map.mp he
        simp_all only [f9, e_notS (pg x hx).ok (okWs_of hq)]
        split
        · simp_all only [show (qs.map D.str).length < 100000 by rw [List.length_map]; omega]
          refine ⟨qs ++ [x], _, g', _, _, .inr rfl, rfl, rfl, by rw [List.length_append, List.length_singleton]; omega, by rw [List.length_append, List.length_singleton]; omega, fun y hy => ?_, by rw [List.map_append]; rfl⟩
          rcases List.mem_append.mp hy with h | h
          · exact hq y h
          · rw [List.mem_singleton.mp h]
            exact pg x hx
        · rename_i hb
          have hin : x ∈ qs := by simpa using hb
          have hpos := List.length_pos_of_mem hin
          exact ⟨qs, _, g', _, _, .inr rfl, rfl, rfl, by omega, by omega, hq, rfl⟩
  rintro s ⟨qs, z7, g, z6, z9, q1, q3, qg, rfl⟩
  have e1 : sortD (.lst (os.map D.str ++ ts.map D.str)) = some (.o (.lst ((srt sLt (os ++ ts)).map .str))) := by
    rw [← List.map_append]
    exact sort_strs (by rw [List.length_append]; omega)
  simp_all only [sm ((os.map D.str).length) ((ts.map D.str).length) (by omega) (by omega), e1, sort_strs (show qs.length < 64 by omega), wld_disp]
  refine ⟨⟨is, ns, os, ts, srt sLt (os ++ ts), srt sLt qs⟩, g, rfl, rfl, nn, ng, (show 2 ≤ ns.length ∧ ns.length ≤ 4 by omega), (show os.length = ns.length by omega), og, ⟨t1, t3⟩, tg, ⟨by rw [len_srt]; omega, by rw [len_srt]; omega⟩, fun x hx => qg x (mem_srt.mp hx)⟩
end Cz

/-! # KE -/
namespace Cz
open L2 PyProof.Rows PySem.Spec PySem
local macro_rules
  | `(tactic| simp_all only [$xs,*]) => `(tactic| simp (config := {decide := true}) only [mIfS, mRet, mAsg, mSetL, mNext, mDrop, mRetN, Oo.seq, Oo.out, Oo.ite, Oo.opt, Oo.nx, Oo.rt, Oo.bk, Oo.ct, Oo.no, Ok1.bind, Ok1.ok, Ok1.ite, Ok1.opt, e_var, e_rd1, e_rd2, e_rd3, e_c, e_pk1, e_pk2, e_pk3, e_pk4, e_pk5, e_pk6, e_nr1, e_nr2, e_nr3, e_fr1, e_fr2, e_fr3, e_fr4, e_fr5, e_fz1, e_fz2, e_fz3, e_fz4, e_ow, e_ow1, e_ow2, e_ls, e_ls1, e_ls2, e_pt1, e_pt2, e_fe, e_fe1, e_fe2, e_fe3,
    k_op, k_un, k_cb1, k_o1, k_o2, k_tr, k_and, k_or, k_not, k_andV, k_orV, k_notV, k_if, k_nil, k_cons, k_ref, k_tup, k_lst, e_al1, e_al2, e_mp, e_bd, k_cb, k_call, k_lm, k_yes, k_np, k_pt, k_sl, e_io, e_add1, e_add2, e_add3, e_sub, e_mul, mulOk_r, mulOk_l, e_fdiv, e_mod, e_pow, e_neg, e_lt, e_le, e_gt, e_ge, e_ltS, e_ix1, e_ix2, e_ix3, e_ix4, e_ix5, e_len1, e_len2, e_len3, e_len4, e_len5, e_bl, e_int1, e_abs, e_lst1, e_lst2, e_lst3, e_lst4, e_tup1, e_tup2, e_tup3, e_app, e_ext, e_at0, e_at1, e_at2, e_at3, e_in0, e_in1, e_in2, ex_some, k_items, k_rng1, k_rngE, e_i1, e_inr, e_ea1, e_ea2, e_ea3, e_ea4, Int.toNat_natCast, e_it1, e_it2, e_it3, e_it4, e_en1, e_en2, k_for, e_es1, e_es2, e_es3, e_nb1, e_nb2, e_rdd,
    k_callS, e_nq1, e_nq2, e_sv1, e_sv2, e_rf1, e_rf2, e_rf3, g_as1, g_as2, g_as3, g_as4, g_as5, g_as6, g_b1, g_b2, g_b3, g_b4, g_b5, g_b6, k_make, k_fld, e_fld, k_setA, e_ob1, e_pa1, e_pa2, k_asgG, e_gn, e_gnil, e_gcons, e_gtup, e_gtuk, e_gany1, e_gany2, e_gany3, k_dput, e_opk, e_opt, e_kt, e_kk1, e_kk2, e_ks1, e_ks2, e_dg1, e_dg2, e_ixk, e_din, e_dno, k_dnT, k_dnK, k_get2, e_dd1, e_dd2, e_pm1, e_pm2, k_disp, k_og, e_iob, k_oi, k_index, k_isi, k_chain, k_keys, e_fzs, k_forD, e_lo1, e_lo2, e_lb1, e_lb2, e_wi1, e_wi2, e_re1, e_re2, e_gd,
    decide_eq_true_eq, true_and, and_true, List.getElem?_cons_zero, List.getElem?_cons_succ, List.set_cons_zero, List.set_cons_succ, List.map_cons, List.map_nil, List.length_cons, List.length_nil, List.replicate_succ, List.replicate_zero, List.cons_append, List.nil_append, List.append_nil, if_true, if_false, e_eqI, e_neI, e_eqS, e_neS, e_ntd, $xs,*])
variable {A : Ad}
/-- a rule -/
inductive Rl where
  | pl (c : Str) (ks : List Str)
  | sd (c s b : Str) (ks : List Str)
def Rl.d : Rl → D
  | .pl c ks => .tup [.str c, .tup (ks.map .str)]
  | .sd c s b ks => .tup [.str c, .str s, .str b, .tup (ks.map .str)]
def Rl.ks : Rl → List Str
  | .pl _ ks => ks
  | .sd _ _ _ ks => ks
def sixS : List Str := ["up", "left", "right", "down", "near", "hemmed"]
def HueW (x : Str) : Prop := GoodW x ∨ x = "white"
structure Inks (ks : List Str) : Prop where
  a : Asc ks
  l : ks.length ≤ 5
  g : ∀ x ∈ ks, GoodW x
def Rl.Ok : Rl → Prop
  | .pl c ks => GoodW c ∧ Inks ks
  | .sd c s b ks => HueW c ∧ s ∈ sixS ∧ HueW b ∧ ¬ (c = "white" ∧ b = "white") ∧ Inks ks
theorem good_white {x : Str} (h : GoodW x) : x ≠ "white" := fun e => by
  subst e
  exact absurd (h.c 119 (by decide +kernel)) (by decide +kernel)
theorem inks_some {ks ns : List Str} {k : Nat} (h1 : Asc ks) (h2 : ks.length ≤ k) (hk : k ≤ 5) (h3 : ∀ x ∈ ks, x ∈ ns) (h4 : ∀ x ∈ ns, GoodW x) : Inks ks := ⟨h1, by omega, fun x hx => h4 x (h3 x hx)⟩
theorem hue_pick {ps : List Str} (pg : ∀ x ∈ ps, GoodW x) {d : D} (h : d ∈ ps.map D.str ++ ps.map D.str ++ [D.str "white"]) : ∃ x, d = .str x ∧ HueW x := by
  (rcases List.mem_append.mp h with h | h)
  · (rcases List.mem_append.mp h with h | h)
    · obtain ⟨x, hx, rfl⟩ := List.mem_map.mp h
      exact ⟨x, rfl, .inl (pg x hx)⟩
    · obtain ⟨x, hx, rfl⟩ := List.mem_map.mp h
      exact ⟨x, rfl, .inl (pg x hx)⟩
  · rw [List.mem_singleton.mp h]
    exact ⟨_, rfl, .inr rfl⟩
theorem side_pick {d : D} (h : d ∈ [D.str "up", .str "left", .str "right", .str "down", .str "near", .str "near", .str "hemmed"]) : ∃ s, d = .str s ∧ s ∈ sixS := by
  simp only [List.mem_cons, List.not_mem_nil, or_false] at h
  rcases h with rfl | rfl | rfl | rfl | rfl | rfl | rfl <;> exact ⟨_, rfl, by simp [sixS]⟩
theorem siderule_ok {b : Int × Int × Int} {w : Wld} (hw : w.Ok) : OkF (f_l_side_rule A) [.br (.lst (bagD b)), .fz (.dk w.r)] fun r as' => ∃ (u : Rl) (g : Int × Int × Int), r = .d u.d ∧ as' = [.br (.lst (bagD g)), .fz (.dk w.r)] ∧ u.Ok := by
  have p1 := hw.pl
  have nl := hw.nl
  have lp : (w.pal.map D.str).length ≤ 3 := by rw [List.length_map]; omega
  have lq : 1 ≤ (w.pal.map D.str).length := by rw [List.length_map]; omega
  have sm : ∀ a b : Nat, a ≤ 100 → b ≤ 100 → small (a + b) = true := fun a b h1 h2 => decide_eq_true (by omega)
  have s1 := sm ((w.pal.map D.str).length) ((w.pal.map D.str).length) (by omega) (by omega)
  have s2 := sm ((w.pal.map D.str ++ w.pal.map D.str).length) (0 + 1) (by rw [List.length_append]; omega) (by omega)
  have lw : (w.pal.map D.str ++ w.pal.map D.str ++ [D.str "white"]).length ≤ 7 := by rw [List.length_append, List.length_append]; show _ + _ + 1 ≤ 7; omega
  have lv : 1 ≤ (w.pal.map D.str ++ w.pal.map D.str ++ [D.str "white"]).length := by rw [List.length_append, List.length_append]; show 1 ≤ _ + _ + 1; omega
  obtain ⟨W, hW⟩ : ∃ W : Str, W = "white" := ⟨_, rfl⟩
  refine OkF.run rfl ?_
  unfold m_l_side_rule
  refine Oo.cut (fun s => ∃ (c : Str) (g : Int × Int × Int), HueW c ∧ s = [some (.br (.lst (bagD g))), some (.fz (.dk w.r)), some (.fz (.str c)), none, none]) ?_ ?_
  · simp_all only [get_pal, s1, s2]
    refine OkF.use (one_of_ok (l := w.pal.map D.str ++ w.pal.map D.str ++ [D.str "white"]) rfl lv (by omega)) ?_
    rintro r as' - ⟨e, g', rfl, rfl, he⟩
    obtain ⟨x, rfl, hx⟩ := hue_pick hw.pg he
    simp_all only [true_and]
    exact ⟨x, g', hx, rfl⟩
  rintro s ⟨c, g, hc, rfl⟩
  refine Oo.cut (fun s => ∃ (t : Str) (g : Int × Int × Int), t ∈ sixS ∧ s = [some (.br (.lst (bagD g))), some (.fz (.dk w.r)), some (.fz (.str c)), some (.fz (.str t)), none]) ?_ ?_
  · simp_all only [true_and]
    refine OkF.use (one_of_ok (l := [D.str "up", .str "left", .str "right", .str "down", .str "near", .str "near", .str "hemmed"]) rfl (by decide) (by decide)) ?_
    rintro r as' - ⟨e, g', rfl, rfl, he⟩
    obtain ⟨x, rfl, hx⟩ := side_pick he
    simp_all only [true_and]
    exact ⟨x, g', hx, rfl⟩
  rintro s ⟨t, g, ht, rfl⟩
  refine Oo.cut (fun s => ∃ (e : Str) (g : Int × Int × Int), HueW e ∧ s = [some (.br (.lst (bagD g))), some (.fz (.dk w.r)), some (.fz (.str c)), some (.fz (.str t)), some (.fz (.str e))]) ?_ ?_
  · simp_all only [get_pal, s1, s2]
    refine OkF.use (one_of_ok (l := w.pal.map D.str ++ w.pal.map D.str ++ [D.str "white"]) rfl lv (by omega)) ?_
    rintro r as' - ⟨e, g', rfl, rfl, he⟩
    obtain ⟨x, rfl, hx⟩ := hue_pick hw.pg he
    simp_all only [true_and]
    exact ⟨x, g', hx, rfl⟩
  rintro s ⟨e, g, he, rfl⟩
  refine Oo.cut (fun s => ∃ (e : Str) (g : Int × Int × Int), HueW e ∧ ¬ (c = "white" ∧ e = "white") ∧ s = [some (.br (.lst (bagD g))), some (.fz (.dk w.r)), some (.fz (.str c)), some (.fz (.str t)), some (.fz (.str e))]) ?_ ?_
  · simp_all only [get_pal]
    split
    · split
      · refine OkF.use (one_of_ok (l := w.pal.map D.str) rfl lq (by omega)) ?_
        rintro r as' - ⟨e, g', rfl, rfl, he⟩
        obtain ⟨x, hx, rfl⟩ := List.mem_map.mp he
        simp_all only [true_and]
        exact ⟨x, g', .inl (hw.pg x hx), fun z => good_white (hw.pg x hx) z.2, rfl⟩
      · exact ⟨e, g, he, fun z => by simp_all, rfl⟩
    · exact ⟨e, g, he, fun z => by simp_all, rfl⟩
  rintro s ⟨e, g, he, hce, rfl⟩
  simp_all only [get_names]
  refine OkF.use (some_ok (ns := w.names) (k := 2) hw.nn (by omega) (by decide)) ?_
  rintro r as' - ⟨ks, g', rfl, rfl, h1, h2, h3⟩
  simp_all only [true_and]
  exact ⟨.sd c t e ks, g', rfl, rfl, hc, ht, he, hce, inks_some h1 h2 (by decide) h3 hw.ng⟩

theorem take_nil {α : Type} {l : List α} : cutL l none (some 0) = [] := by
  rw [cut_to (by decide)]
  rfl
end Cz

/-! # KF -/
namespace Cz
open L2 PyProof.Rows PySem.Spec PySem
local macro_rules
  | `(tactic| simp_all only [$xs,*]) => `(tactic| simp (config := {decide := true}) only [mIfS, mRet, mAsg, mSetL, mNext, mDrop, mRetN, Oo.seq, Oo.out, Oo.ite, Oo.opt, Oo.nx, Oo.rt, Oo.bk, Oo.ct, Oo.no, Ok1.bind, Ok1.ok, Ok1.ite, Ok1.opt, e_var, e_rd1, e_rd2, e_rd3, e_c, e_pk1, e_pk2, e_pk3, e_pk4, e_pk5, e_pk6, e_nr1, e_nr2, e_nr3, e_fr1, e_fr2, e_fr3, e_fr4, e_fr5, e_fz1, e_fz2, e_fz3, e_fz4, e_ow, e_ow1, e_ow2, e_ls, e_ls1, e_ls2, e_pt1, e_pt2, e_fe, e_fe1, e_fe2, e_fe3,
    k_op, k_un, k_cb1, k_o1, k_o2, k_tr, k_and, k_or, k_not, k_andV, k_orV, k_notV, k_if, k_nil, k_cons, k_ref, k_tup, k_lst, e_al1, e_al2, e_mp, e_bd, k_cb, k_call, k_lm, k_yes, k_np, k_pt, k_sl, e_io, e_add1, e_add2, e_add3, e_sub, e_mul, mulOk_r, mulOk_l, e_fdiv, e_mod, e_pow, e_neg, e_lt, e_le, e_gt, e_ge, e_ltS, e_ix1, e_ix2, e_ix3, e_ix4, e_ix5, e_len1, e_len2, e_len3, e_len4, e_len5, e_bl, e_int1, e_abs, e_lst1, e_lst2, e_lst3, e_lst4, e_tup1, e_tup2, e_tup3, e_app, e_ext, e_at0, e_at1, e_at2, e_at3, e_in0, e_in1, e_in2, ex_some, k_items, k_rng1, k_rngE, e_i1, e_inr, e_ea1, e_ea2, e_ea3, e_ea4, Int.toNat_natCast, e_it1, e_it2, e_it3, e_it4, e_en1, e_en2, k_for, e_es1, e_es2, e_es3, e_nb1, e_nb2, e_rdd,
    k_callS, e_nq1, e_nq2, e_sv1, e_sv2, e_rf1, e_rf2, e_rf3, g_as1, g_as2, g_as3, g_as4, g_as5, g_as6, g_b1, g_b2, g_b3, g_b4, g_b5, g_b6, k_make, k_fld, e_fld, k_setA, e_ob1, e_pa1, e_pa2, k_asgG, e_gn, e_gnil, e_gcons, e_gtup, e_gtuk, e_gany1, e_gany2, e_gany3, k_dput, e_opk, e_opt, e_kt, e_kk1, e_kk2, e_ks1, e_ks2, e_dg1, e_dg2, e_ixk, e_din, e_dno, k_dnT, k_dnK, k_get2, e_dd1, e_dd2, e_pm1, e_pm2, k_disp, k_og, e_iob, k_oi, k_index, k_isi, k_chain, k_keys, e_fzs, k_forD, e_lo1, e_lo2, e_lb1, e_lb2, e_wi1, e_wi2, e_re1, e_re2, e_gd,
    decide_eq_true_eq, true_and, and_true, List.getElem?_cons_zero, List.getElem?_cons_succ, List.set_cons_zero, List.set_cons_succ, List.map_cons, List.map_nil, List.length_cons, List.length_nil, List.replicate_succ, List.replicate_zero, List.cons_append, List.nil_append, List.append_nil, if_true, if_false, e_eqI, e_neI, e_eqS, e_neS, e_ntd, $xs,*])
variable {A : Ad}
theorem findI_strs {c : Str} : ∀ {ts : List Str}, c ∈ ts → ∃ j : Nat, j < ts.length ∧ findI (.str c) (ts.map D.str) = some j
  | [], h => by cases h
  | t :: ts, h => by
    by_cases q : t = c
    · subst q
      refine ⟨0, Nat.zero_lt_succ _, ?_⟩
      show (if deq (.str t) (.str t) then some 0 else _) = _
      rw [if_pos (by simp [deq])]
    · obtain ⟨j, h1, h2⟩ := findI_strs (ts := ts) (by
        rcases List.mem_cons.mp h with h | h
        · exact absurd h.symm q
        · exact h)
      refine ⟨j + 1, by rw [List.length_cons]; omega, ?_⟩
      show (if deq (.str t) (.str c) then some 0 else (findI (.str c) (ts.map D.str)).map _) = _
      rw [if_neg (by simpa [deq] using q), h2]
      rfl
theorem index_strs {c : Str} {ts : List Str} (hc : okW c) (hs : okWs ts) (h : c ∈ ts) : ∃ j : Nat, j < ts.length ∧ indexD (.lst (ts.map .str)) (.str c) = some (.d (.int (j : Nat))) := by
  obtain ⟨j, h1, h2⟩ := findI_strs h
  refine ⟨j, h1, ?_⟩
  unfold indexD
  show (if cmpb (.str c) && cmpb (.lst (ts.map .str)) then (findI (.str c) (ts.map D.str)).map _ else none) = _
  rw [cmpb_str hc, cmpb_strs hs, h2]
  rfl
theorem Oo.ifs {u : M Bool} {a b : MS} {s : SS} {N : SS → Prop} {T : Rv → SS → Prop} {B C : SS → Prop} (P : Bool → SS → Prop) (h : Ok1 (u s) P) (h1 : ∀ s, P true s → Oo (a s) N T B C) (h2 : ∀ s, P false s → Oo (b s) N T B C) : Oo (mIfS u a b s) N T B C := by
  unfold mIfS
  rw [Oo.out]
  refine h.mono fun p s1 q => ?_
  cases p with
  | true => exact h1 s1 q
  | false => exact h2 s1 q
theorem lst_d {l : List D} : lstD (.lst l) = some l := rfl
theorem ix_str {ts : List Str} {j : Nat} (h : j < ts.length) : atI (ts.map D.str) (j : Int) = some (.str ts[j]) := atI_nat (by rw [List.getElem?_map, List.getElem?_eq_getElem h]; rfl)
theorem inksfor_ok {b : Int × Int × Int} {w : Wld} {c : Str} (hw : w.Ok) (hc : GoodW c) : OkF (f_l_inks_for A) [.br (.lst (bagD b)), .fz (.dk w.r), .fz (.str c)] fun r as' => ∃ (ks : List Str) (g : Int × Int × Int), r = .d (.tup (ks.map .str)) ∧ as' = [.br (.lst (bagD g)), .fz (.dk w.r), .fz (.str c)] ∧ Inks ks := by
  have nl := hw.nl
  have ol := hw.ol
  refine OkF.run rfl ?_
  unfold m_l_inks_for
  refine Oo.cut (fun s => ∃ (g : Int × Int × Int), s = [some (.br (.lst (bagD g))), some (.fz (.dk w.r)), some (.fz (.str c)), none, none]) ?_ ?_
  · refine Oo.ifs (fun p s => ∃ (g : Int × Int × Int), s = [some (.br (.lst (bagD g))), some (.fz (.dk w.r)), some (.fz (.str c)), none, none] ∧ (p = true → c ∈ w.own)) ?_ ?_ ?_
    · simp_all only [get_own, e_inS hc.ok (okWs_of hw.og)]
      split
      · rename_i hin
        refine OkF.use (pick_ok (n := 4) (by decide) (by decide)) ?_
        rintro r as' - ⟨k, g', rfl, rfl, k0, k1⟩
        simp_all only [get_own]
        exact ⟨g', rfl, fun _ => hin⟩
      · exact ⟨b, rfl, fun z => by cases z⟩
    · rintro s ⟨g', rfl, hin⟩
      have hin := hin rfl
      obtain ⟨j, hj, ej⟩ := index_strs hc.ok (okWs_of hw.og) hin
      have hj' : j < w.names.length := by omega
      refine Oo.cut (fun s => s = [some (.br (.lst (bagD g'))), some (.fz (.dk w.r)), some (.fz (.str c)), some (.ow (.lst ([w.names[j]].map .str))), none]) ?_ ?_
      · simp_all only [get_own, get_names, lst_d, ej, ix_str hj']
        exact ⟨_, rfl⟩
      rintro s rfl
      refine Oo.cut (fun s => ∃ (ts : List Str) (g : Int × Int × Int), 1 ≤ ts.length ∧ ts.length ≤ 2 ∧ (∀ x ∈ ts, x ∈ w.names) ∧ s = [some (.br (.lst (bagD g))), some (.fz (.dk w.r)), some (.fz (.str c)), some (.ow (.lst (ts.map .str))), none]) ?_ ?_
      · simp_all only [true_and]
        refine OkF.use (pick_ok (n := 4) (by decide) (by decide)) ?_
        rintro r as' - ⟨k, g', rfl, rfl, k0, k1⟩
        simp_all only [true_and]
        split
        · simp_all only [get_names]
          refine OkF.use (one_of_ok (l := w.names.map .str) rfl (by rw [List.length_map]; omega) (by rw [List.length_map]; omega)) ?_
          rintro r as' - ⟨e, g', rfl, rfl, he⟩
          obtain ⟨x, hx, rfl⟩ := List.mem_map.mp he
          simp_all only [true_and]
          refine ⟨[w.names[j], x], g', (show 1 ≤ 2 by decide), (show 2 ≤ 2 by decide), fun y hy => ?_, rfl⟩
          simp only [List.mem_cons, List.not_mem_nil, or_false] at hy
          rcases hy with rfl | rfl
          · exact List.getElem_mem hj'
          · exact hx
        · exact ⟨[w.names[j]], g', (show 1 ≤ 1 by decide), (show 1 ≤ 2 by decide), fun y hy => by rw [List.mem_singleton.mp hy]; exact List.getElem_mem hj', rfl⟩
      rintro s ⟨ts, g, t1, t2, tn, rfl⟩
      have tg : ∀ x ∈ ts, GoodW x := fun x hx => hw.ng x (tn x hx)
      simp_all only [true_and]
      refine Ok1.lc ?_
      have lt : (ts.map D.str).length = ts.length := List.length_map _
      simp_all only [lt, e_inrN (n := ts.length) (by omega)]
      refine Ok1.loopC (fun ds acc s => ∃ (i : Nat) (es : List Str), ds = (upTo ts.length).drop i ∧ acc = es.map D.str ∧ es.length ≤ i ∧ i ≤ ts.length ∧ es.Nodup ∧ (∀ x ∈ es, x ∈ ts.take i) ∧ s = [some (.br (.lst (bagD g))), some (.fz (.dk w.r)), some (.fz (.str c)), some (.ow (.lst (ts.map .str))), none]) ?_ ?_ _ _ _ ⟨0, [], rfl, rfl, by simp, by omega, List.nodup_nil, (fun x hx => by cases hx), rfl⟩
      · rintro acc s ⟨i, es, hd, rfl, el, hi, en, em, rfl⟩
        have ln : es.length ≤ 2 := by omega
        simp_all only [sort_strs (show es.length < 64 by omega)]
        refine ⟨srt sLt es, g, rfl, rfl, asc_srt en, by rw [len_srt]; omega, fun x hx => tg x (List.mem_of_mem_take (em x (mem_srt.mp hx)))⟩
      · rintro d ds acc s ⟨i, es, hd, rfl, el, hi, en, em, rfl⟩
        have lu : (upTo ts.length).length = ts.length := by simp [upTo]
        have hil : i < (upTo ts.length).length := by
          refine Nat.lt_of_not_le fun h => ?_
          rw [List.drop_eq_nil_of_le h] at hd
          cases hd
        have hi2 : i < ts.length := by omega
        rw [List.drop_eq_getElem_cons hil] at hd
        obtain ⟨rfl, rfl⟩ := List.cons.inj hd
        have ed : (upTo ts.length)[i] = .int (i : Nat) := by simp [upTo]
        rw [ed]
        refine ⟨_, e_gnT rfl, ?_⟩
        have ec : cutL (ts.map D.str) none (some (i : Int)) = (ts.take i).map D.str := by
          rw [cut_to (by omega), Int.toNat_natCast, List.map_take]
        have es2 : slD (.lst (ts.map .str)) none (some (i : Int)) = some (.o (.lst ((ts.take i).map .str))) := by
          show some (Rv.o (.lst (cutL _ _ _))) = _
          rw [ec]
        have gi := tg ts[i] (List.getElem_mem hi2)
        have ht : ∀ x ∈ ts.take i, GoodW x := fun x hx => tg x (List.mem_of_mem_take hx)
        have ein := e_notS gi.ok (okWs_of ht)
        have tk : ts.take (i + 1) = ts.take i ++ [ts[i]] := (List.take_append_getElem hi2).symm
        simp_all only [ix_str hi2, es2, ein]
        split
        · rename_i hn
          simp_all only [show (es.map D.str).length < 100000 by rw [List.length_map]; omega]
          refine ⟨i + 1, es ++ [ts[i]], rfl, by rw [List.map_append]; rfl, by rw [List.length_append, List.length_singleton]; omega, hi2, ?_, fun x hx => ?_⟩
          · rw [List.nodup_append]
            refine ⟨en, by simp, fun a ha c hc => ?_⟩
            rw [List.mem_singleton.mp hc]
            exact fun z => hn (z ▸ em a ha)
          · rw [tk]
            rcases List.mem_append.mp hx with h | h
            · exact List.mem_append_left _ (em x h)
            · exact List.mem_append_right _ h
        · refine ⟨i + 1, es, rfl, rfl, by omega, hi2, en, fun x hx => ?_⟩
          rw [tk]
          exact List.mem_append_left _ (em x hx)
    · rintro s ⟨g', rfl, -⟩
      simp_all only [true_and]
      exact ⟨g', rfl⟩
  rintro s ⟨g, rfl⟩
  simp_all only [get_names]
  refine OkF.use (some_ok (ns := w.names) (k := 2) hw.nn (by omega) (by decide)) ?_
  rintro r as' - ⟨ks, g', rfl, rfl, h1, h2, h3⟩
  simp_all only [true_and]
  exact ⟨ks, g', rfl, rfl, inks_some h1 h2 (by decide) h3 hw.ng⟩
end Cz

/-! # KG -/
namespace Cz
open L2 PyProof.Rows PySem.Spec PySem
local macro_rules
  | `(tactic| simp_all only [$xs,*]) => `(tactic| simp (config := {decide := true}) only [mIfS, mRet, mAsg, mSetL, mNext, mDrop, mRetN, Oo.seq, Oo.out, Oo.ite, Oo.opt, Oo.nx, Oo.rt, Oo.bk, Oo.ct, Oo.no, Ok1.bind, Ok1.ok, Ok1.ite, Ok1.opt, e_var, e_rd1, e_rd2, e_rd3, e_c, e_pk1, e_pk2, e_pk3, e_pk4, e_pk5, e_pk6, e_nr1, e_nr2, e_nr3, e_fr1, e_fr2, e_fr3, e_fr4, e_fr5, e_fz1, e_fz2, e_fz3, e_fz4, e_ow, e_ow1, e_ow2, e_ls, e_ls1, e_ls2, e_pt1, e_pt2, e_fe, e_fe1, e_fe2, e_fe3,
    k_op, k_un, k_cb1, k_o1, k_o2, k_tr, k_and, k_or, k_not, k_andV, k_orV, k_notV, k_if, k_nil, k_cons, k_ref, k_tup, k_lst, e_al1, e_al2, e_mp, e_bd, k_cb, k_call, k_lm, k_yes, k_np, k_pt, k_sl, e_io, e_add1, e_add2, e_add3, e_sub, e_mul, mulOk_r, mulOk_l, e_fdiv, e_mod, e_pow, e_neg, e_lt, e_le, e_gt, e_ge, e_ltS, e_ix1, e_ix2, e_ix3, e_ix4, e_ix5, e_len1, e_len2, e_len3, e_len4, e_len5, e_bl, e_int1, e_abs, e_lst1, e_lst2, e_lst3, e_lst4, e_tup1, e_tup2, e_tup3, e_app, e_ext, e_at0, e_at1, e_at2, e_at3, e_in0, e_in1, e_in2, ex_some, k_items, k_rng1, k_rngE, e_i1, e_inr, e_ea1, e_ea2, e_ea3, e_ea4, Int.toNat_natCast, e_it1, e_it2, e_it3, e_it4, e_en1, e_en2, k_for, e_es1, e_es2, e_es3, e_nb1, e_nb2, e_rdd,
    k_callS, e_nq1, e_nq2, e_sv1, e_sv2, e_rf1, e_rf2, e_rf3, g_as1, g_as2, g_as3, g_as4, g_as5, g_as6, g_b1, g_b2, g_b3, g_b4, g_b5, g_b6, k_make, k_fld, e_fld, k_setA, e_ob1, e_pa1, e_pa2, k_asgG, e_gn, e_gnil, e_gcons, e_gtup, e_gtuk, e_gany1, e_gany2, e_gany3, k_dput, e_opk, e_opt, e_kt, e_kk1, e_kk2, e_ks1, e_ks2, e_dg1, e_dg2, e_ixk, e_din, e_dno, k_dnT, k_dnK, k_get2, e_dd1, e_dd2, e_pm1, e_pm2, k_disp, k_og, e_iob, k_oi, k_index, k_isi, k_chain, k_keys, e_fzs, k_forD, e_lo1, e_lo2, e_lb1, e_lb2, e_wi1, e_wi2, e_re1, e_re2, e_gd,
    decide_eq_true_eq, true_and, and_true, List.getElem?_cons_zero, List.getElem?_cons_succ, List.set_cons_zero, List.set_cons_succ, List.map_cons, List.map_nil, List.length_cons, List.length_nil, List.replicate_succ, List.replicate_zero, List.cons_append, List.nil_append, List.append_nil, if_true, if_false, e_eqI, e_neI, e_eqS, e_neS, e_ntd, $xs,*])
variable {A : Ad}
theorem rulesof_ok {b : Int × Int × Int} {w : Wld} {n : Nat} (hw : w.Ok) (hn : n ≤ 9) : OkF (f_l_rules_of A) [.br (.lst (bagD b)), .fz (.dk w.r), .fz (.int (n : Nat))] fun r as' => ∃ (us : List Rl) (g : Int × Int × Int), r = .o (.lst (us.map Rl.d)) ∧ as' = [.br (.lst (bagD g)), .fz (.dk w.r), .fz (.int (n : Nat))] ∧ us.length ≤ 12 ∧ ∀ u ∈ us, u.Ok := by
  have pl := hw.pl
  refine OkF.run rfl ?_
  unfold m_l_rules_of
  refine Oo.cut (fun s => ∃ (us : List Rl) (g : Int × Int × Int), us.length = n ∧ (∀ u ∈ us, u.Ok) ∧ s = [some (.br (.lst (bagD g))), some (.fz (.dk w.r)), some (.fz (.int (n : Nat))), some (.ow (.lst (us.map Rl.d))), none, none]) ?_ ?_
  · simp_all only [true_and]
    refine Ok1.lc ?_
    simp_all only [e_inrN (n := n) (by omega)]
    refine Ok1.loopC (fun ds acc s => ∃ (us : List Rl) (g : Int × Int × Int), acc = us.map Rl.d ∧ us.length + ds.length = n ∧ (∀ u ∈ us, u.Ok) ∧ s = [some (.br (.lst (bagD g))), some (.fz (.dk w.r)), some (.fz (.int (n : Nat))), none, none, none]) ?_ ?_ _ _ _ ⟨[], b, rfl, by simp [upTo], (fun u hu => by cases hu), rfl⟩
    · rintro acc s ⟨us, g, rfl, hl, hu, rfl⟩
      simp_all only [true_and]
      exact ⟨us, g, hl, hu, rfl⟩
    · rintro d ds acc s ⟨us, g, rfl, hl, hu, rfl⟩
      have hl' : us.length + (ds.length + 1) = n := hl
      refine ⟨_, e_gnT rfl, ?_⟩
      simp_all only [true_and]
      refine OkF.use (siderule_ok hw) ?_
      rintro r as' - ⟨u, g', rfl, rfl, h1⟩
      simp_all only [show (us.map Rl.d).length < 100000 by rw [List.length_map]; omega]
      refine ⟨us ++ [u], g', by rw [List.map_append]; rfl, by rw [List.length_append, List.length_singleton]; omega, fun v hv => ?_, rfl⟩
      rcases List.mem_append.mp hv with h | h
      · exact hu v h
      · rw [List.mem_singleton.mp h]
        exact h1
  rintro s ⟨us, g, ul, uo, rfl⟩
  refine Oo.cut (fun s => ∃ (us : List Rl) (g : Int × Int × Int) (z4 z5 : Option SV), us.length ≤ 12 ∧ (∀ u ∈ us, u.Ok) ∧ s = [some (.br (.lst (bagD g))), some (.fz (.dk w.r)), some (.fz (.int (n : Nat))), some (.ow (.lst (us.map Rl.d))), z4, z5]) ?_ ?_
  · simp_all only [get_pal]
    refine OkF.use (mixed_ok (l := w.pal.map .str) rfl (by rw [List.length_map]; omega)) ?_
    rintro r as' - ⟨m, g', rfl, rfl, hm⟩
    obtain ⟨ms, rfl, hp⟩ := perm_strs hm
    have hpl := hp.length_eq
    simp_all only [true_and]
    refine Oo.loop (fun ds s => ∃ (us : List Rl) (g : Int × Int × Int) (z5 : Option SV), us.length + ds.length ≤ 12 ∧ (∀ u ∈ us, u.Ok) ∧ (∀ d ∈ ds, ∃ c, d = D.str c ∧ GoodW c) ∧ feS (some z5) = true ∧ s = [some (.br (.lst (bagD g))), some (.fz (.dk w.r)), some (.fz (.int (n : Nat))), some (.ow (.lst (us.map Rl.d))), none, z5]) ?_ ?_ _ _ ⟨us, g', none, by rw [List.length_map]; omega, uo, fun d hd => ?_, rfl, rfl⟩
    · rintro s ⟨us, g, z5, h1, h2, -, -, rfl⟩
      exact ⟨us, g, none, z5, h1, h2, rfl⟩
    · rintro d ds s ⟨us, g, z5, hl, hu, hd, f5, rfl⟩
      obtain ⟨c, rfl, hc⟩ := hd d List.mem_cons_self
      have hd' : ∀ d ∈ ds, ∃ c, d = D.str c ∧ GoodW c := fun d h => hd d (List.mem_cons_of_mem _ h)
      have hl' : us.length + (ds.length + 1) ≤ 12 := hl
      refine ⟨_, e_gnT f5, ?_⟩
      simp_all only [true_and]
      refine OkF.use (pick_ok (n := 8) (by decide) (by decide)) ?_
      rintro r as' - ⟨k, g', rfl, rfl, k0, k1⟩
      simp_all only [true_and]
      split
      · refine OkF.use (inksfor_ok hw hc) ?_
        rintro r as' - ⟨ks, g', rfl, rfl, h1⟩
        simp_all only [show (us.map Rl.d).length < 100000 by rw [List.length_map]; omega]
        refine ⟨us ++ [.pl c ks], g', _, by rw [List.length_append, List.length_singleton]; omega, fun v hv => ?_, hd', rfl, by rw [List.map_append]; rfl⟩
        rcases List.mem_append.mp hv with h | h
        · exact hu v h
        · rw [List.mem_singleton.mp h]
          exact ⟨hc, h1⟩
      · exact ⟨us, g', _, by omega, hu, hd', rfl, rfl⟩
    · obtain ⟨c, hc, rfl⟩ := List.mem_map.mp hd
      exact ⟨c, rfl, hw.pg c (hp.mem_iff.mp hc)⟩
  rintro s ⟨us, g, z4, z5, h1, h2, rfl⟩
  simp_all only [true_and]
  exact ⟨us, g, rfl, rfl, h1, h2⟩
theorem pre_map {α : Type} {f : α → D} {l : List α} : ∀ {m : List D}, (∀ d ∈ m, d ∈ l.map f) → ∃ l' : List α, m = l'.map f ∧ ∀ x ∈ l', x ∈ l
  | [], _ => ⟨[], rfl, fun x h => by cases h⟩
  | d :: m, h => by
    obtain ⟨x, hx, rfl⟩ := List.mem_map.mp (h d List.mem_cons_self)
    obtain ⟨l', rfl, hl⟩ := pre_map (m := m) fun e he => h e (List.mem_cons_of_mem _ he)
    refine ⟨x :: l', rfl, fun y hy => ?_⟩
    (rcases List.mem_cons.mp hy with rfl | hy)
    · exact hx
    · exact hl y hy
def Rl.cut : Rl → D
  | .pl c _ => .tup [.str c]
  | .sd c s b _ => .tup [.str c, .str s, .str b]
def Rl.wi (ks : List Str) : Rl → Rl
  | .pl c _ => .pl c ks
  | .sd c s b _ => .sd c s b ks
theorem rl_cut (u : Rl) : slD u.d none (some (-1)) = some (.d u.cut) := by cases u <;> rfl
theorem rl_add (u : Rl) (ks : List Str) : addD u.cut (.tup [.tup (ks.map .str)]) = some (.d (u.wi ks).d) := by cases u <;> rfl
theorem longrules_ok {b : Int × Int × Int} {w : Wld} (hw : w.Ok) : OkF (f_l_long_rules A) [.br (.lst (bagD b)), .fz (.dk w.r)] fun r as' => ∃ (us : List Rl) (g : Int × Int × Int), r = .o (.lst (us.map Rl.d)) ∧ as' = [.br (.lst (bagD g)), .fz (.dk w.r)] ∧ us.length ≤ 12 ∧ ∀ u ∈ us, u.Ok := by
  have pl := hw.pl
  refine OkF.run rfl ?_
  unfold m_l_long_rules
  refine Oo.cut (fun s => ∃ (us : List Rl) (g : Int × Int × Int), us.length ≤ 12 ∧ (∀ u ∈ us, u.Ok) ∧ s = [some (.br (.lst (bagD g))), some (.fz (.dk w.r)), some (.ow (.lst (us.map Rl.d))), none, none, none]) ?_ ?_
  · simp_all only [true_and]
    refine OkF.use (one_of_ok (l := [.int 0, .int 1, .int 2, .int 2, .int 3, .int 4, .int 5, .int 6, .int 9]) rfl (by decide) (by decide)) ?_
    rintro r as' - ⟨e, g', rfl, rfl, he⟩
    obtain ⟨m, m9, rfl⟩ : ∃ n : Nat, n ≤ 9 ∧ e = .int n := by
      simp only [List.mem_cons, List.not_mem_nil, or_false] at he
      rcases he with rfl | rfl | rfl | rfl | rfl | rfl | rfl | rfl | rfl
      · exact ⟨0, by decide, rfl⟩
      · exact ⟨1, by decide, rfl⟩
      · exact ⟨2, by decide, rfl⟩
      · exact ⟨2, by decide, rfl⟩
      · exact ⟨3, by decide, rfl⟩
      · exact ⟨4, by decide, rfl⟩
      · exact ⟨5, by decide, rfl⟩
      · exact ⟨6, by decide, rfl⟩
      · exact ⟨9, by decide, rfl⟩
    simp_all only [true_and]
    refine OkF.use (rulesof_ok hw m9) ?_
    rintro r as' - ⟨us, g', rfl, rfl, h1, h2⟩
    simp_all only [true_and]
    exact ⟨us, g', h1, h2, rfl⟩
  rintro s ⟨us, g, ul, uo, rfl⟩
  refine Oo.cut (fun s => ∃ (ns : List Str) (g : Int × Int × Int), ns.length = 5 ∧ ns.Nodup ∧ (∀ x ∈ ns, GoodW x) ∧ s = [some (.br (.lst (bagD g))), some (.fz (.dk w.r)), some (.ow (.lst (us.map Rl.d))), some (.ow (.lst (ns.map .str))), none, none]) ?_ ?_
  · simp_all only [true_and]
    refine OkF.use (words_ok (n := 5) (ts := []) (fun t h => by cases h) (by simp)) ?_
    rintro r as' - ⟨ns, g', rfl, rfl, h1, h2, h3⟩
    simp_all only [true_and]
    exact ⟨ns, g', h1, h2, fun x hx => (h3 x hx).1, rfl⟩
  rintro s ⟨ns, g, nl, nn, ng, rfl⟩
  refine Oo.cut (fun s => s = [some (.br (.lst (bagD g))), some (.fz (.dk w.r)), some (.ow (.lst (us.map Rl.d))), some (.ow (.lst (ns.map .str))), some (.ow (.lst [])), none]) ?_ ?_
  · simp_all only [true_and]
  rintro s rfl
  refine Oo.cut (fun s => ∃ (vs : List Rl) (g : Int × Int × Int) (z2 z3 z5 : Option SV), vs.length ≤ 12 ∧ (∀ u ∈ vs, u.Ok) ∧ s = [some (.br (.lst (bagD g))), some (.fz (.dk w.r)), z2, z3, some (.ow (.lst (vs.map Rl.d))), z5]) ?_ ?_
  · simp_all only [true_and]
    refine Oo.loop (fun ds s => ∃ (vs : List Rl) (g : Int × Int × Int) (z3 : SV) (z5 : Option SV), vs.length + ds.length ≤ 12 ∧ (∀ u ∈ vs, u.Ok) ∧ (∀ d ∈ ds, ∃ u : Rl, d = u.d ∧ u.Ok) ∧ (z3 = .ow (.lst (ns.map .str)) ∨ z3 = .fz (.lst (ns.map .str))) ∧ feS (some z5) = true ∧ s = [some (.br (.lst (bagD g))), some (.fz (.dk w.r)), some (.fz (.lst (us.map Rl.d))), some z3, some (.ow (.lst (vs.map Rl.d))), z5]) ?_ ?_ _ _ ⟨[], g, .ow (.lst (ns.map .str)), none, by rw [List.length_map]; simpa using ul, (fun u hu => by cases hu), fun d hd => ?_, .inl rfl, rfl, rfl⟩
    · rintro s ⟨vs, g, z3, z5, h1, h2, -, -, -, rfl⟩
      exact ⟨vs, g, _, _, z5, h1, h2, rfl⟩
    · rintro d ds s ⟨vs, g, z3, z5, hl, hu, hd, h3, f5, rfl⟩
      obtain ⟨u, rfl, hu1⟩ := hd d List.mem_cons_self
      have hd' : ∀ d ∈ ds, ∃ u : Rl, d = u.d ∧ u.Ok := fun d h => hd d (List.mem_cons_of_mem _ h)
      have hl' : vs.length + (ds.length + 1) ≤ 12 := hl
      refine ⟨_, e_gnT f5, ?_⟩
      rcases h3 with rfl | rfl
      all_goals
        simp_all only [true_and]
        refine OkF.use (pick_ok (n := 8) (by decide) (by decide)) ?_
        rintro r as' - ⟨k, g', rfl, rfl, k0, k1⟩
        simp_all only [true_and]
        have lv : (vs.map Rl.d).length < 100000 := by
          rw [List.length_map]
          omega
        split
        · simp_all only [rl_cut]
          refine OkF.use (some_ok (ns := ns) (k := 5) nn (by omega) (by decide)) ?_
          rintro r as' - ⟨ks, g', rfl, rfl, h1, h2, h3⟩
          simp_all only [rl_add, lv]
          refine ⟨vs ++ [u.wi ks], g', _, _, by rw [List.length_append, List.length_singleton]; omega, fun v hv => ?_, hd', .inr rfl, rfl, by rw [List.map_append]; rfl⟩
          rcases List.mem_append.mp hv with h | h
          · exact hu v h
          · rw [List.mem_singleton.mp h]
            have hi := inks_some h1 h2 (by decide) h3 ng
            cases u with
            | pl c k0 => exact ⟨hu1.1, hi⟩
            | sd c s b k0 => exact ⟨hu1.1, hu1.2.1, hu1.2.2.1, hu1.2.2.2.1, hi⟩
        · simp_all only [lv]
          have hm : ∀ v ∈ vs ++ [u], v.Ok := fun v hv => by
            rcases List.mem_append.mp hv with h | h
            · exact hu v h
            · rw [List.mem_singleton.mp h]
              exact hu1
          have hL : (vs ++ [u]).length + ds.length ≤ 12 := by
            (rw [List.length_append, List.length_singleton])
            omega
          first
          | exact ⟨vs ++ [u], g', _, _, hL, hm, hd', .inl rfl, rfl, by rw [List.map_append]; rfl⟩
          | exact ⟨vs ++ [u], g', _, _, hL, hm, hd', .inr rfl, rfl, by rw [List.map_append]; rfl⟩
    · obtain ⟨u, hu, rfl⟩ := List.mem_map.mp hd
      exact ⟨u, rfl, uo u hu⟩
  rintro s ⟨vs, g, z2, z3, z5, h1, h2, rfl⟩
  simp_all only [true_and]
  refine OkF.use (pick_ok (n := 3) (by decide) (by decide)) ?_
  rintro r as' - ⟨k, g', rfl, rfl, k0, k1⟩
  simp_all only [true_and]
  split
  · refine OkF.use (mixed_ok (l := vs.map Rl.d) rfl (by rw [List.length_map]; omega)) ?_
    rintro r as' - ⟨m, g', rfl, rfl, hm⟩
    have ml := hm.length_eq
    rw [List.length_map] at ml
    obtain ⟨ws, rfl, hw2⟩ := pre_map fun d hd => hm.mem_iff.mp hd
    rw [List.length_map] at ml
    simp_all only [true_and]
    exact ⟨ws, g', rfl, rfl, by omega, fun u hu => h2 u (hw2 u hu)⟩
  · exact ⟨vs, g', rfl, rfl, h1, h2⟩
end Cz

/-! # KH -/
namespace Cz
open L2 PyProof.Rows PySem.Spec PySem
abbrev Cell := Int × Int
def cD (c : Cell) : D := .tup [.int c.1, .int c.2]
def cK (c : Cell) : List Key := [.inl c.1, .inl c.2]
theorem cK_inj {c d : Cell} : cK c = cK d ↔ c = d := by
  constructor
  · intro h
    have h' : [(Sum.inl c.1 : Key), .inl c.2] = [.inl d.1, .inl d.2] := h
    simp only [List.cons.injEq, Sum.inl.injEq, and_true] at h'
    exact Prod.ext h'.1 h'.2
  · rintro rfl
    rfl
abbrev Tl := List (Cell × Str)
def tD (t : Tl) : List (List Key × D) := t.map fun p => (cK p.1, .str p.2)
def getT (t : Tl) (c : Cell) : Option Str := (t.find? fun p => decide (p.1 = c)).map (·.2)
def putT (t : Tl) (c : Cell) (x : Str) : Tl := if (t.any fun p => decide (p.1 = c)) = true then t.map (fun p => if p.1 = c then (p.1, x) else p) else t ++ [(c, x)]
theorem key_c (c : Cell) : keyT (cD c) = some (cK c) := rfl
theorem len_tD (t : Tl) : (tD t).length = t.length := List.length_map _
theorem val_c (t : Tl) (c : Cell) : valD (tD t) (cK c) = (getT t c).map D.str := by
  unfold valD getT tD
  induction t with
  | nil => rfl
  | cons p t ih =>
    rw [List.map_cons, List.find?_cons, List.find?_cons]
    by_cases h : p.1 = c
    · rw [decide_eq_true (cK_inj.mpr h), decide_eq_true h]
      rfl
    · rw [decide_eq_false (fun z => h (cK_inj.mp z)), decide_eq_false h]
      exact ih
theorem any_c (t : Tl) (c : Cell) : ((tD t).any fun kv => decide (kv.1 = cK c)) = t.any fun p => decide (p.1 = c) := by
  unfold tD
  rw [List.any_map]
  congr 1
  funext p
  exact decide_eq_decide.mpr cK_inj
theorem put_c (t : Tl) (c : Cell) (x : Str) : putD (tD t) (cK c) (.str x) = tD (putT t c x) := by
  unfold putD putT
  rw [any_c]
  split
  · unfold tD
    (rw [List.map_map, List.map_map])
    (refine List.map_congr_left fun p _ => ?_)
    show (if cK p.1 = cK c then (cK p.1, D.str x) else (cK p.1, D.str p.2)) = _
    by_cases h : p.1 = c
    · rw [if_pos (cK_inj.mpr h)]
      show _ = (cK (if p.1 = c then (p.1, x) else p).1, D.str (if p.1 = c then (p.1, x) else p).2)
      rw [if_pos h]
    · rw [if_neg (fun z => h (cK_inj.mp z))]
      show _ = (cK (if p.1 = c then (p.1, x) else p).1, D.str (if p.1 = c then (p.1, x) else p).2)
      rw [if_neg h]
  · unfold tD
    rw [List.map_append]
    rfl
theorem get_put (t : Tl) (c e : Cell) (x : Str) : getT (putT t c x) e = if c = e then some x else getT t e := by
  unfold putT
  by_cases ha : (t.any fun p => decide (p.1 = c)) = true
  · rw [if_pos ha]
    unfold getT
    induction t with
    | nil => cases ha
    | cons p t ih =>
      rw [List.map_cons, List.find?_cons, List.find?_cons]
      by_cases h : p.1 = c
      · rw [if_pos h]
        by_cases q : c = e
        · subst q
          rw [decide_eq_true h, if_pos rfl]
          rfl
        · rw [decide_eq_false (show ¬ (p.1, x).1 = e from fun z => q (h ▸ z)), if_neg q]
          by_cases ht : (t.any fun p => decide (p.1 = c)) = true
          · have i2 := ih ht
            rw [if_neg q] at i2
            exact i2
          · have em : t.map (fun p => if p.1 = c then (p.1, x) else p) = t := by
              rw [List.map_congr_left (g := id), List.map_id]
              intro p hp
              refine if_neg fun z => ht ?_
              rw [List.any_eq_true]
              exact ⟨p, hp, decide_eq_true z⟩
            rw [em]
      · rw [if_neg h]
        have ht : (t.any fun p => decide (p.1 = c)) = true := by
          rw [List.any_cons, decide_eq_false h, Bool.false_or] at ha
          exact ha
        by_cases q : p.1 = e
        · rw [decide_eq_true q, if_neg (fun z => h (q.trans z.symm))]
        · rw [decide_eq_false q]
          exact ih ht
  · rw [if_neg ha]
    unfold getT
    rw [List.find?_append]
    by_cases q : c = e
    · subst q
      have hn : (t.find? fun p => decide (p.1 = c)) = none := by
        rw [List.find?_eq_none]
        intro p hp z
        refine ha ?_
        rw [List.any_eq_true]
        exact ⟨p, hp, z⟩
      rw [hn, if_pos rfl, Option.none_or]
      rw [List.find?_cons, decide_eq_true rfl]
      rfl
    · rw [if_neg q]
      have e2 : List.find? (fun p : Cell × Str => decide (p.1 = e)) [(c, x)] = none := by
        rw [List.find?_cons, decide_eq_false q]
        rfl
      rw [e2, Option.or_none]
def keysT (t : Tl) : List Cell := t.map (·.1)
theorem keys_put (t : Tl) (c : Cell) (x : Str) : keysT (putT t c x) = if c ∈ keysT t then keysT t else keysT t ++ [c] := by
  have ha : (t.any fun p => decide (p.1 = c)) = true ↔ c ∈ keysT t := by
    rw [List.any_eq_true]
    unfold keysT
    rw [List.mem_map]
    simp only [decide_eq_true_eq]
  unfold putT
  by_cases h : c ∈ keysT t
  · rw [if_pos (ha.mpr h), if_pos h]
    unfold keysT
    rw [List.map_map]
    (refine List.map_congr_left fun p _ => ?_)
    show (if p.1 = c then (p.1, x) else p).1 = p.1
    split <;> rfl
  · rw [if_neg (fun z => h (ha.mp z)), if_neg h]
    unfold keysT
    rw [List.map_append]
    rfl
theorem nodup_put {t : Tl} {c : Cell} {x : Str} (h : (keysT t).Nodup) : (keysT (putT t c x)).Nodup := by
  rw [keys_put]
  split
  · exact h
  · rename_i hc
    rw [List.nodup_append]
    refine ⟨h, by simp, fun a ha b hb => ?_⟩
    rw [List.mem_singleton.mp hb]
    exact fun z => hc (z ▸ ha)
theorem vals_put {t : Tl} {c : Cell} {x : Str} {P : Str → Prop} (h : ∀ p ∈ t, P p.2) (hx : P x) : ∀ p ∈ putT t c x, P p.2 := by
  unfold putT
  split
  · intro p hp
    (obtain ⟨q, hq, rfl⟩ := List.mem_map.mp hp)
    split
    · exact hx
    · exact h q hq
  · intro p hp
    (rcases List.mem_append.mp hp with hp | hp)
    · exact h p hp
    · (rw [List.mem_singleton.mp hp])
      exact hx
theorem len_put (t : Tl) (c : Cell) (x : Str) : (putT t c x).length ≤ t.length + 1 := by
  unfold putT
  split
  · rw [List.length_map]
    omega
  · (rw [List.length_append, List.length_singleton])
    exact Nat.le_refl _
theorem get_mem {t : Tl} {c : Cell} {x : Str} (h : getT t c = some x) : (c, x) ∈ t := by
  unfold getT at h
  rw [Option.map_eq_some_iff] at h
  obtain ⟨⟨d, y⟩, h1, h2⟩ := h
  have h3 := List.find?_some h1
  have h4 := List.mem_of_find?_eq_some h1
  have h5 : d = c := by simpa using h3
  subst h5
  cases h2
  exact h4
theorem get_some {t : Tl} {c : Cell} (h : c ∈ keysT t) : ∃ x, getT t c = some x := by
  unfold keysT at h
  (obtain ⟨p, hp, rfl⟩ := List.mem_map.mp h)
  unfold getT
  cases e : t.find? fun q => decide (q.1 = p.1) with
  | some q => exact ⟨_, rfl⟩
  | none =>
    rw [List.find?_eq_none] at e
    exact absurd (by simp) (e p hp)
def ar (c : Cell) : List Cell := [(c.1 - 1, c.2), (c.1, c.2 - 1), (c.1, c.2 + 1), (c.1 + 1, c.2)]
local macro_rules
  | `(tactic| simp_all only [$xs,*]) => `(tactic| simp (config := {decide := true}) only [mIfS, mRet, mAsg, mSetL, mNext, mDrop, mRetN, Oo.seq, Oo.out, Oo.ite, Oo.opt, Oo.nx, Oo.rt, Oo.bk, Oo.ct, Oo.no, Ok1.bind, Ok1.ok, Ok1.ite, Ok1.opt, e_var, e_rd1, e_rd2, e_rd3, e_c, e_pk1, e_pk2, e_pk3, e_pk4, e_pk5, e_pk6, e_nr1, e_nr2, e_nr3, e_fr1, e_fr2, e_fr3, e_fr4, e_fr5, e_fz1, e_fz2, e_fz3, e_fz4, e_ow, e_ow1, e_ow2, e_ls, e_ls1, e_ls2, e_pt1, e_pt2, e_fe, e_fe1, e_fe2, e_fe3,
    k_op, k_un, k_cb1, k_o1, k_o2, k_tr, k_and, k_or, k_not, k_andV, k_orV, k_notV, k_if, k_nil, k_cons, k_ref, k_tup, k_lst, e_al1, e_al2, e_mp, e_bd, k_cb, k_call, k_lm, k_yes, k_np, k_pt, k_sl, e_io, e_add1, e_add2, e_add3, e_sub, e_mul, mulOk_r, mulOk_l, e_fdiv, e_mod, e_pow, e_neg, e_lt, e_le, e_gt, e_ge, e_ltS, e_ix1, e_ix2, e_ix3, e_ix4, e_ix5, e_len1, e_len2, e_len3, e_len4, e_len5, e_bl, e_int1, e_abs, e_lst1, e_lst2, e_lst3, e_lst4, e_tup1, e_tup2, e_tup3, e_app, e_ext, e_at0, e_at1, e_at2, e_at3, e_in0, e_in1, e_in2, ex_some, k_items, k_rng1, k_rngE, e_i1, e_inr, e_ea1, e_ea2, e_ea3, e_ea4, Int.toNat_natCast, e_it1, e_it2, e_it3, e_it4, e_en1, e_en2, k_for, e_es1, e_es2, e_es3, e_nb1, e_nb2, e_rdd,
    k_callS, e_nq1, e_nq2, e_sv1, e_sv2, e_rf1, e_rf2, e_rf3, g_as1, g_as2, g_as3, g_as4, g_as5, g_as6, g_b1, g_b2, g_b3, g_b4, g_b5, g_b6, k_make, k_fld, e_fld, k_setA, e_ob1, e_pa1, e_pa2, k_asgG, e_gn, e_gnil, e_gcons, e_gtup, e_gtuk, e_gany1, e_gany2, e_gany3, k_dput, e_opk, e_opt, e_kt, e_kk1, e_kk2, e_ks1, e_ks2, e_dg1, e_dg2, e_ixk, e_din, e_dno, k_dnT, k_dnK, k_get2, e_dd1, e_dd2, e_pm1, e_pm2, k_disp, k_og, e_iob, k_oi, k_index, k_isi, k_chain, k_keys, e_fzs, k_forD, e_lo1, e_lo2, e_lb1, e_lb2, e_wi1, e_wi2, e_re1, e_re2, e_gd,
    decide_eq_true_eq, true_and, and_true, List.getElem?_cons_zero, List.getElem?_cons_succ, List.set_cons_zero, List.set_cons_succ, List.map_cons, List.map_nil, List.length_cons, List.length_nil, List.replicate_succ, List.replicate_zero, List.cons_append, List.nil_append, List.append_nil, if_true, if_false, e_eqI, e_neI, e_eqS, e_neS, e_ntd, $xs,*])
variable {A : Ad}
theorem around_ok {c : Cell} : OkF (f_l_around_of A) [.fz (cD c)] fun r as' => r = .o (.lst ((ar c).map cD)) ∧ as' = [.fz (cD c)] := by
  refine OkF.run rfl ?_
  unfold m_l_around_of cD
  simp_all only [true_and]
  rfl
def Near (c e : Cell) : Prop := -3 ≤ e.1 - c.1 ∧ e.1 - c.1 ≤ 3 ∧ -3 ≤ e.2 - c.2 ∧ e.2 - c.2 ≤ 3
structure Told (cs : List Str) (c : Cell) (t : Tl) : Prop where
  n : (keysT t).Nodup
  v : ∀ p ∈ t, p.2 ∈ cs
  k : ∀ p ∈ t, Near c p.1
theorem near_put {t : Tl} {e : Cell} {x : Str} {P : Cell → Prop} (h : ∀ p ∈ t, P p.1) (hx : P e) : ∀ p ∈ putT t e x, P p.1 := by
  unfold putT
  split
  · intro p hp
    (obtain ⟨q, hq, rfl⟩ := List.mem_map.mp hp)
    have hk : (if q.1 = e then (q.1, x) else q).1 = q.1 := by split <;> rfl
    rw [hk]
    exact h q hq
  · intro p hp
    (rcases List.mem_append.mp hp with hp | hp)
    · exact h p hp
    · (rw [List.mem_singleton.mp hp])
      exact hx
theorem Told.put {cs : List Str} {c e : Cell} {t : Tl} {x : Str} (h : Told cs c t) (hx : x ∈ cs) (he : Near c e) : Told cs c (putT t e x) := ⟨nodup_put h.n, vals_put (P := (· ∈ cs)) h.v hx, near_put h.k he⟩
theorem near_ar {c e : Cell} (h : e ∈ ar c) : Near c e := by
  unfold ar at h
  simp only [List.mem_cons, List.not_mem_nil, or_false] at h
  unfold Near
  rcases h with rfl | rfl | rfl | rfl <;> simp only [] <;> omega
theorem near_self (c : Cell) : Near c c := by
  unfold Near
  omega
theorem toldof_ok {b : Int × Int × Int} {c : Cell} {cs : List Str} (h1 : 1 ≤ cs.length) (h2 : cs.length ≤ 20) : OkF (f_l_told_of A) [.br (.lst (bagD b)), .fz (cD c), .fz (.lst (cs.map .str))] fun r as' => ∃ (t : Tl) (g : Int × Int × Int), r = .o (.dt false (tD t)) ∧ as' = [.br (.lst (bagD g)), .fz (cD c), .fz (.lst (cs.map .str))] ∧ Told cs c t ∧ t.length ≤ 9 := by
  refine OkF.run rfl ?_
  unfold m_l_told_of
  refine Oo.cut (fun s => s = [some (.br (.lst (bagD b))), some (.fz (cD c)), some (.fz (.lst (cs.map .str))), some (.ow (.dt false (tD []))), none, none, none]) ?_ ?_
  · simp_all only [true_and]
    rfl
  rintro s rfl
  refine Oo.cut (fun s => ∃ (j : Int) (g : Int × Int × Int), s = [some (.br (.lst (bagD g))), some (.fz (cD c)), some (.fz (.lst (cs.map .str))), some (.ow (.dt false (tD []))), some (.fz (.int j)), none, none]) ?_ ?_
  · simp_all only [true_and]
    refine OkF.use (pick_ok (n := 4) (by decide) (by decide)) ?_
    rintro r as' - ⟨k, g', rfl, rfl, k0, k1⟩
    simp_all only [true_and]
    exact ⟨k, g', rfl⟩
  rintro s ⟨j, g, rfl⟩
  refine Oo.cut (fun s => ∃ (t : Tl) (g : Int × Int × Int) (z5 : Option SV), Told cs c t ∧ t.length ≤ 5 ∧ s = [some (.br (.lst (bagD g))), some (.fz (cD c)), some (.fz (.lst (cs.map .str))), some (.ow (.dt false (tD t))), some (.fz (.int j)), z5, none]) ?_ ?_
  · simp_all only [true_and]
    refine OkF.use around_ok ?_
    rintro r as' - ⟨rfl, rfl⟩
    have sm : small (((ar c).map cD).length + (0 + 1)) = true := by
      rw [List.length_map]
      rfl
    simp_all only [sm]
    refine OkF.use (mixed_ok (l := (ar c).map cD ++ [cD c]) rfl (by simp [ar])) ?_
    rintro r as' - ⟨m, g', rfl, rfl, hm⟩
    have ml : m.length = 5 := by
      rw [hm.length_eq]
      simp [ar]
    have hm2 : ∀ d ∈ m, ∃ e : Cell, d = cD e ∧ Near c e := fun d hd => by
      rcases List.mem_append.mp (hm.mem_iff.mp hd) with h | h
      · obtain ⟨e, he, rfl⟩ := List.mem_map.mp h
        exact ⟨e, rfl, near_ar he⟩
      · exact ⟨c, List.mem_singleton.mp h, near_self c⟩
    simp_all only [true_and]
    refine Oo.loop (fun ds s => ∃ (t : Tl) (g : Int × Int × Int) (z5 : Option SV), (∀ d ∈ ds, ∃ e : Cell, d = cD e ∧ Near c e) ∧ feS (some z5) = true ∧ Told cs c t ∧ t.length + ds.length ≤ 5 ∧ s = [some (.br (.lst (bagD g))), some (.fz (cD c)), some (.fz (.lst (cs.map .str))), some (.ow (.dt false (tD t))), some (.fz (.int j)), z5, none]) ?_ ?_ _ _ ⟨[], g', none, hm2, rfl, ⟨List.nodup_nil, (fun p hp => by cases hp), (fun p hp => by cases hp)⟩, by simp [ml], rfl⟩
    · rintro s ⟨t, g, z5, -, -, ht, hl, rfl⟩
      exact ⟨t, g, z5, ht, hl, rfl⟩
    · rintro d ds s ⟨t, g, z5, hd, f5, ht, hl, rfl⟩
      obtain ⟨e, rfl, hne⟩ := hd d List.mem_cons_self
      have hd' : ∀ d ∈ ds, ∃ e : Cell, d = cD e ∧ Near c e := fun d h => hd d (List.mem_cons_of_mem _ h)
      have hl' : t.length + (ds.length + 1) ≤ 5 := hl
      refine ⟨_, e_gnT f5, ?_⟩
      simp_all only [true_and]
      refine OkF.use (pick_ok (n := 3) (by decide) (by decide)) ?_
      rintro r as' - ⟨k, g', rfl, rfl, k0, k1⟩
      simp_all only [true_and]
      split
      · refine OkF.use (one_of_ok (l := cs.map .str) rfl (by rw [List.length_map]; omega) (by rw [List.length_map]; omega)) ?_
        rintro r as' - ⟨x, g', rfl, rfl, hx⟩
        obtain ⟨x, hy, rfl⟩ := List.mem_map.mp hx
        have lt : (tD t).length < 100000 := by rw [len_tD]; omega
        simp_all only [lt, key_c, put_c]
        have lp := len_put t e x
        exact ⟨_, g', _, hd', rfl, ht.put hy hne, by omega, rfl⟩
      · exact ⟨t, g', _, hd', rfl, ht, by omega, rfl⟩
  rintro s ⟨t, g, z5, ht, hl, rfl⟩
  refine Oo.cut (fun s => ∃ (t : Tl) (g : Int × Int × Int) (z6 : Option SV), Told cs c t ∧ t.length ≤ 9 ∧ s = [some (.br (.lst (bagD g))), some (.fz (cD c)), some (.fz (.lst (cs.map .str))), some (.ow (.dt false (tD t))), some (.fz (.int j)), z5, z6]) ?_ ?_
  · simp_all only [true_and]
    refine OkF.use (pick_ok (n := 5) (by decide) (by decide)) ?_
    rintro r as' - ⟨k, g', rfl, rfl, k0, k1⟩
    obtain ⟨m, rfl⟩ : ∃ m : Nat, k = (m : Int) := ⟨k.toNat, by omega⟩
    simp_all only [e_inrN (n := m) (by omega)]
    refine Oo.loop (fun ds s => ∃ (t : Tl) (g : Int × Int × Int) (z6 : Option SV), feS (some z6) = true ∧ Told cs c t ∧ t.length + ds.length ≤ 9 ∧ s = [some (.br (.lst (bagD g))), some (.fz (cD c)), some (.fz (.lst (cs.map .str))), some (.ow (.dt false (tD t))), some (.fz (.int j)), z5, z6]) ?_ ?_ _ _ ⟨t, g', none, rfl, ht, by simp [upTo]; omega, rfl⟩
    · rintro s ⟨t, g, z6, -, ht, hl, rfl⟩
      exact ⟨t, g, z6, ht, hl, rfl⟩
    · rintro d ds s ⟨t, g, z6, f6, ht, hl, rfl⟩
      have hl' : t.length + (ds.length + 1) ≤ 9 := hl
      refine ⟨_, e_gnT f6, ?_⟩
      simp_all only [true_and]
      refine OkF.use (one_of_ok (l := cs.map .str) rfl (by rw [List.length_map]; omega) (by rw [List.length_map]; omega)) ?_
      rintro r as' - ⟨x, g', rfl, rfl, hx⟩
      obtain ⟨x, hy, rfl⟩ := List.mem_map.mp hx
      simp_all only [cD]
      refine OkF.use (pick_ok (n := 5) (by decide) (by decide)) ?_
      rintro r as' - ⟨k1, g', rfl, rfl, k10, k11⟩
      simp_all only [true_and]
      refine OkF.use (pick_ok (n := 5) (by decide) (by decide)) ?_
      rintro r as' - ⟨k2, g', rfl, rfl, k20, k21⟩
      have lt : (tD t).length < 100000 := by rw [len_tD]; omega
      simp_all only [lt]
      have lp := len_put t (c.1 + k1 - 2, c.2 + k2 - 2) x
      refine ⟨putT t (c.1 + k1 - 2, c.2 + k2 - 2) x, g', some (.fz d), rfl, ht.put hy (by unfold Near; simp only []; omega), by omega, ?_⟩
      rw [← put_c]
      rfl
  rintro s ⟨t, g, z6, ht, hl, rfl⟩
  simp_all only [true_and]
  exact ⟨t, g, rfl, rfl, ht, hl⟩
end Cz

/-! # KI -/
namespace Cz
open L2 PyProof.Rows PySem.Spec PySem
section
variable {i : Int} {x : Str} {l : List D} {b : Bool}
theorem y_lt1 : isiB tab_lt (.int i) = some false := by first | rfl | decide +kernel
theorem y_lt2 : isiB tab_lt (.str x) = some false := by first | rfl | decide +kernel
theorem y_lt3 : isiB tab_lt (.tup l) = some true := by first | rfl | decide +kernel
theorem y_lt4 : isiB tab_lt (.lst l) = some true := by first | rfl | decide +kernel
theorem y_lt5 : isiB tab_lt (.tuk l) = some true := by first | rfl | decide +kernel
theorem y_tu1 : isiB tab_tuple (.int i) = some false := by first | rfl | decide +kernel
theorem y_tu2 : isiB tab_tuple (.str x) = some false := by first | rfl | decide +kernel
theorem y_tu3 : isiB tab_tuple (.tup l) = some true := by first | rfl | decide +kernel
theorem y_tu4 : isiB tab_tuple (.lst l) = some false := by first | rfl | decide +kernel
theorem y_tu5 : isiB tab_tuple (.tuk l) = some true := by first | rfl | decide +kernel
theorem y_st1 : isiB tab_str (.int i) = some false := by first | rfl | decide +kernel
theorem y_st2 : isiB tab_str (.str x) = some true := by first | rfl | decide +kernel
theorem y_in1 : isiB tab_int (.int i) = some true := by first | rfl | decide +kernel
theorem y_bo1 : isiB tab_bool (.int i) = some false := by first | rfl | decide +kernel
end
def lsOf : D → Option (List D)
  | .tup l => some l
  | .lst l => some l
  | .tuk l => some l
  | _ => none
def plF (mk : List D → D) : Nat → D → D
  | 0, d => d
  | n + 1, d => match lsOf d with
    | some l => mk (l.map (plF mk n))
    | none => d
inductive PlOk : Nat → D → Prop where
  | int {n : Nat} {i : Int} : PlOk (n + 1) (.int i)
  | str {n : Nat} {x : Str} : PlOk (n + 1) (.str x)
  | tup {n : Nat} {l : List D} : l.length ≤ 1000 → (∀ d ∈ l, PlOk n d) → PlOk (n + 1) (.tup l)
  | lst {n : Nat} {l : List D} : l.length ≤ 1000 → (∀ d ∈ l, PlOk n d) → PlOk (n + 1) (.lst l)
  | tuk {n : Nat} {l : List D} : l.length ≤ 1000 → (∀ d ∈ l, PlOk n d) → PlOk (n + 1) (.tuk l)
local macro_rules
  | `(tactic| simp_all only [$xs,*]) => `(tactic| simp (config := {decide := true}) only [mIfS, mRet, mAsg, mSetL, mNext, mDrop, mRetN, Oo.seq, Oo.out, Oo.ite, Oo.opt, Oo.nx, Oo.rt, Oo.bk, Oo.ct, Oo.no, Ok1.bind, Ok1.ok, Ok1.ite, Ok1.opt, e_var, e_rd1, e_rd2, e_rd3, e_c, e_pk1, e_pk2, e_pk3, e_pk4, e_pk5, e_pk6, e_nr1, e_nr2, e_nr3, e_fr1, e_fr2, e_fr3, e_fr4, e_fr5, e_fz1, e_fz2, e_fz3, e_fz4, e_ow, e_ow1, e_ow2, e_ls, e_ls1, e_ls2, e_pt1, e_pt2, e_fe, e_fe1, e_fe2, e_fe3,
    k_op, k_un, k_cb1, k_o1, k_o2, k_tr, k_and, k_or, k_not, k_andV, k_orV, k_notV, k_if, k_nil, k_cons, k_ref, k_tup, k_lst, e_al1, e_al2, e_mp, e_bd, k_cb, k_call, k_lm, k_yes, k_np, k_pt, k_sl, e_io, e_add1, e_add2, e_add3, e_sub, e_mul, mulOk_r, mulOk_l, e_fdiv, e_mod, e_pow, e_neg, e_lt, e_le, e_gt, e_ge, e_ltS, e_ix1, e_ix2, e_ix3, e_ix4, e_ix5, e_len1, e_len2, e_len3, e_len4, e_len5, e_bl, e_int1, e_abs, e_lst1, e_lst2, e_lst3, e_lst4, e_tup1, e_tup2, e_tup3, e_app, e_ext, e_at0, e_at1, e_at2, e_at3, e_in0, e_in1, e_in2, ex_some, k_items, k_rng1, k_rngE, e_i1, e_inr, e_ea1, e_ea2, e_ea3, e_ea4, Int.toNat_natCast, e_it1, e_it2, e_it3, e_it4, e_en1, e_en2, k_for, e_es1, e_es2, e_es3, e_nb1, e_nb2, e_rdd,
    k_callS, e_nq1, e_nq2, e_sv1, e_sv2, e_rf1, e_rf2, e_rf3, g_as1, g_as2, g_as3, g_as4, g_as5, g_as6, g_b1, g_b2, g_b3, g_b4, g_b5, g_b6, k_make, k_fld, e_fld, k_setA, e_ob1, e_pa1, e_pa2, k_asgG, e_gn, e_gnil, e_gcons, e_gtup, e_gtuk, e_gany1, e_gany2, e_gany3, k_dput, e_opk, e_opt, e_kt, e_kk1, e_kk2, e_ks1, e_ks2, e_dg1, e_dg2, e_ixk, e_din, e_dno, k_dnT, k_dnK, k_get2, e_dd1, e_dd2, e_pm1, e_pm2, k_disp, k_og, e_iob, k_oi, k_index, k_isi, k_chain, k_keys, e_fzs, k_forD, e_lo1, e_lo2, e_lb1, e_lb2, e_wi1, e_wi2, e_re1, e_re2, e_gd,
    decide_eq_true_eq, true_and, and_true, List.getElem?_cons_zero, List.getElem?_cons_succ, List.set_cons_zero, List.set_cons_succ, List.map_cons, List.map_nil, List.length_cons, List.length_nil, List.replicate_succ, List.replicate_zero, List.cons_append, List.nil_append, List.append_nil, if_true, if_false, e_eqI, e_neI, e_eqS, e_neS, e_ntd, y_lt1, y_lt2, y_lt3, y_lt4, y_lt5, y_tu1, y_tu2, y_tu3, y_tu4, y_tu5, y_st1, y_st2, y_in1, y_bo1, $xs,*])
variable {A : Ad}
theorem plain_ok : ∀ (n : Nat) (d : D), PlOk n d → OkF (fr_plain_g A n) [.fz d] fun r as' => r = .d (plF .tup n d) ∧ as' = [.fz d]
  | 0, d, h => by cases h
  | n + 1, d, h => by
    show OkF (runN 1 2 (m_plain_g A (fr_plain_g A n))) _ _
    refine OkF.run rfl ?_
    unfold m_plain_g
    have go : ∀ l : List D, l.length ≤ 1000 → (∀ d ∈ l, PlOk n d) → lsOf d = some l → itemsD d = some l → isiB tab_lt d = some true → Oo (mSeq (mIfS (mTr blD (mIsi tab_lt (mVar 0))) (mRet (mCB1 tupD (mLc (mItems (mVar 0)) (mgName 1) mYes (mCall (fr_plain_g A n) [] (mACons (mVar 1) mANil)) [1]))) mNext) (mRet (mVar 0)) ([some (.fz d), none])) (fun s => ∃ as', endS [.fz d] s = some as' ∧ Rv.d .non = .d (plF .tup (n + 1) d) ∧ as' = [.fz d]) (fun r s => ∃ as', endS [.fz d] s = some as' ∧ (∀ i, r ≠ .b i) ∧ r = .d (plF .tup (n + 1) d) ∧ as' = [.fz d]) (fun _ => False) (fun _ => False) := by
      intro l hl hs hl2 hi ht
      simp_all only [ht]
      refine Ok1.lcM (plF .tup n) ?_
      simp_all only [hi]
      refine ⟨by omega, fun e he => ?_, ?_⟩
      · refine OkF.use (plain_ok n e (hs e he)) ?_
        rintro r as' - ⟨rfl, rfl⟩
        simp_all only [true_and]
      · simp only [plF, hl2]
    cases h with
    | int => simp_all only [plF]; rfl
    | str => simp_all only [plF]; rfl
    | tup h1 h2 => exact go _ h1 h2 rfl rfl y_lt3
    | lst h1 h2 => exact go _ h1 h2 rfl rfl y_lt4
    | tuk h1 h2 => exact go _ h1 h2 rfl rfl y_lt5
theorem tupled_ok : ∀ (n : Nat) (d : D), PlOk n d → OkF (fr_l_tupled A n) [.fz d] fun r as' => r = .d (plF .tup n d) ∧ as' = [.fz d]
  | 0, d, h => by cases h
  | n + 1, d, h => by
    show OkF (runN 1 2 (m_l_tupled A (fr_l_tupled A n))) _ _
    refine OkF.run rfl ?_
    unfold m_l_tupled
    have go : ∀ l : List D, l.length ≤ 1000 → (∀ d ∈ l, PlOk n d) → lsOf d = some l → itemsD d = some l → isiB tab_lt d = some true → Oo (mSeq (mIfS (mTr blD (mIsi tab_lt (mVar 0))) (mRet (mCB1 tupD (mLc (mItems (mVar 0)) (mgName 1) mYes (mCall (fr_l_tupled A n) [] (mACons (mVar 1) mANil)) [1]))) mNext) (mRet (mVar 0)) ([some (.fz d), none])) (fun s => ∃ as', endS [.fz d] s = some as' ∧ Rv.d .non = .d (plF .tup (n + 1) d) ∧ as' = [.fz d]) (fun r s => ∃ as', endS [.fz d] s = some as' ∧ (∀ i, r ≠ .b i) ∧ r = .d (plF .tup (n + 1) d) ∧ as' = [.fz d]) (fun _ => False) (fun _ => False) := by
      intro l hl hs hl2 hi ht
      simp_all only [ht]
      refine Ok1.lcM (plF .tup n) ?_
      simp_all only [hi]
      refine ⟨by omega, fun e he => ?_, ?_⟩
      · refine OkF.use (tupled_ok n e (hs e he)) ?_
        rintro r as' - ⟨rfl, rfl⟩
        simp_all only [true_and]
      · simp only [plF, hl2]
    cases h with
    | int => simp_all only [plF]; rfl
    | str => simp_all only [plF]; rfl
    | tup h1 h2 => exact go _ h1 h2 rfl rfl y_lt3
    | lst h1 h2 => exact go _ h1 h2 rfl rfl y_lt4
    | tuk h1 h2 => exact go _ h1 h2 rfl rfl y_lt5
theorem listed_ok : ∀ (n : Nat) (d : D), PlOk n d → OkF (fr_l_listed A n) [.fz d] fun r as' => (r = .d (plF .lst n d) ∨ ∃ l, r = .o (.lst l) ∧ plF .lst n d = .lst l) ∧ as' = [.fz d]
  | 0, d, h => by cases h
  | n + 1, d, h => by
    show OkF (runN 1 2 (m_l_listed A (fr_l_listed A n))) _ _
    refine OkF.run rfl ?_
    unfold m_l_listed
    have go : ∀ l : List D, l.length ≤ 1000 → (∀ d ∈ l, PlOk n d) → lsOf d = some l → itemsD d = some l → isiB tab_lt d = some true → Oo (mSeq (mIfS (mTr blD (mIsi tab_lt (mVar 0))) (mRet (mLc (mItems (mVar 0)) (mgName 1) mYes (mCall (fr_l_listed A n) [] (mACons (mVar 1) mANil)) [1])) mNext) (mRet (mVar 0)) ([some (.fz d), none])) (fun s => ∃ as', endS [.fz d] s = some as' ∧ (Rv.d .non = .d (plF .lst (n + 1) d) ∨ ∃ l, Rv.d .non = .o (.lst l) ∧ plF .lst (n + 1) d = .lst l) ∧ as' = [.fz d]) (fun r s => ∃ as', endS [.fz d] s = some as' ∧ (∀ i, r ≠ .b i) ∧ (r = .d (plF .lst (n + 1) d) ∨ ∃ l, r = .o (.lst l) ∧ plF .lst (n + 1) d = .lst l) ∧ as' = [.fz d]) (fun _ => False) (fun _ => False) := by
      intro l hl hs hl2 hi ht
      simp_all only [ht]
      refine Ok1.lcM (plF .lst n) ?_
      simp_all only [hi]
      refine ⟨by omega, fun e he => ?_, ?_⟩
      · refine OkF.use (listed_ok n e (hs e he)) ?_
        rintro r as' - ⟨rfl | ⟨l, rfl, el⟩, rfl⟩
        · simp_all only [true_and]
        · simp_all only [el]
      · exact .inr ⟨_, rfl, by simp only [plF, hl2]⟩
    cases h with
    | int => simp_all only [plF]; exact .inl rfl
    | str => simp_all only [plF]; exact .inl rfl
    | tup h1 h2 => exact go _ h1 h2 rfl rfl y_lt3
    | lst h1 h2 => exact go _ h1 h2 rfl rfl y_lt4
    | tuk h1 h2 => exact go _ h1 h2 rfl rfl y_lt5

/-! on rules and triples -/
def Rl.ld : Rl → D
  | .pl c ks => .lst [.str c, .lst (ks.map .str)]
  | .sd c s b ks => .lst [.str c, .str s, .str b, .lst (ks.map .str)]
theorem pl_strs {mk : List D → D} {n : Nat} {ks : List Str} : (ks.map D.str).map (plF mk (n + 1)) = ks.map D.str := by
  rw [List.map_map]
  rfl
theorem po_strs {n : Nat} {ks : List Str} : ∀ d ∈ ks.map D.str, PlOk (n + 1) d := fun d hd => by
  obtain ⟨x, _, rfl⟩ := List.mem_map.mp hd
  exact .str
theorem plT_d {n : Nat} (u : Rl) : plF .tup (n + 3) u.d = u.d := by
  cases u with
  | pl c ks => exact congrArg (fun z => D.tup [.str c, .tup z]) pl_strs
  | sd c s b ks => exact congrArg (fun z => D.tup [.str c, .str s, .str b, .tup z]) pl_strs
theorem plT_ld {n : Nat} (u : Rl) : plF .tup (n + 3) u.ld = u.d := by
  cases u with
  | pl c ks => exact congrArg (fun z => D.tup [.str c, .tup z]) pl_strs
  | sd c s b ks => exact congrArg (fun z => D.tup [.str c, .str s, .str b, .tup z]) pl_strs
theorem plL_d {n : Nat} (u : Rl) : plF .lst (n + 3) u.d = u.ld := by
  cases u with
  | pl c ks => exact congrArg (fun z => D.lst [.str c, .lst z]) pl_strs
  | sd c s b ks => exact congrArg (fun z => D.lst [.str c, .str s, .str b, .lst z]) pl_strs
theorem Rl.Ok.inks {u : Rl} (h : u.Ok) : Inks u.ks := by
  cases u with
  | pl c ks => exact h.2
  | sd c s b ks => exact h.2.2.2.2
theorem po_d {n : Nat} {u : Rl} (h : u.Ok) : PlOk (n + 3) u.d := by
  have hl := h.inks.l
  cases u with
  | pl c ks =>
    refine .tup (by simp) fun d hd => ?_
    simp only [List.mem_cons, List.not_mem_nil, or_false] at hd
    rcases hd with rfl | rfl
    · exact .str
    · exact .tup (by rw [List.length_map]; exact Nat.le_trans hl (by decide)) po_strs
  | sd c s b ks =>
    refine .tup (by simp) fun d hd => ?_
    simp only [List.mem_cons, List.not_mem_nil, or_false] at hd
    rcases hd with rfl | rfl | rfl | rfl
    · exact .str
    · exact .str
    · exact .str
    · exact .tup (by rw [List.length_map]; exact Nat.le_trans hl (by decide)) po_strs
theorem po_ld {n : Nat} {u : Rl} (h : u.Ok) : PlOk (n + 3) u.ld := by
  have hl := h.inks.l
  cases u with
  | pl c ks =>
    refine .lst (by simp) fun d hd => ?_
    simp only [List.mem_cons, List.not_mem_nil, or_false] at hd
    rcases hd with rfl | rfl
    · exact .str
    · exact .lst (by rw [List.length_map]; exact Nat.le_trans hl (by decide)) po_strs
  | sd c s b ks =>
    refine .lst (by simp) fun d hd => ?_
    simp only [List.mem_cons, List.not_mem_nil, or_false] at hd
    rcases hd with rfl | rfl | rfl | rfl
    · exact .str
    · exact .str
    · exact .str
    · exact .lst (by rw [List.length_map]; exact Nat.le_trans hl (by decide)) po_strs
theorem map_same {f g : D → D} {k m : Rl → D} {us : List Rl} (h : ∀ u, f (k u) = m u) : (us.map k).map f = us.map m := by
  rw [List.map_map]
  exact List.map_congr_left fun u _ => h u
structure Rules (us : List Rl) : Prop where
  l : us.length ≤ 12
  o : ∀ u ∈ us, u.Ok
theorem Rules.poD {us : List Rl} (h : Rules us) : ∀ d ∈ us.map Rl.d, PlOk 5 d := fun d hd => by
  obtain ⟨u, hu, rfl⟩ := List.mem_map.mp hd
  exact po_d (n := 2) (h.o u hu)
theorem Rules.poL {us : List Rl} (h : Rules us) : ∀ d ∈ us.map Rl.ld, PlOk 5 d := fun d hd => by
  obtain ⟨u, hu, rfl⟩ := List.mem_map.mp hd
  exact po_ld (n := 2) (h.o u hu)
theorem plain_rules {us : List Rl} (h : Rules us) : OkF (f_plain_g A) [.fz (.lst (us.map Rl.d))] fun r as' => r = .d (.tup (us.map Rl.d)) ∧ as' = [.fz (.lst (us.map Rl.d))] := by
  have hl := h.l
  refine (plain_ok 6 _ (.lst (by rw [List.length_map]; omega) h.poD)).mono fun r as' q => ⟨q.1.trans ?_, q.2⟩
  exact congrArg (fun z => Rv.d (.tup z)) (map_same (g := id) fun u => plT_d (n := 2) u)
theorem plain_rulesL {us : List Rl} (h : Rules us) : OkF (f_plain_g A) [.fz (.lst (us.map Rl.ld))] fun r as' => r = .d (.tup (us.map Rl.d)) ∧ as' = [.fz (.lst (us.map Rl.ld))] := by
  have hl := h.l
  refine (plain_ok 6 _ (.lst (by rw [List.length_map]; omega) h.poL)).mono fun r as' q => ⟨q.1.trans ?_, q.2⟩
  exact congrArg (fun z => Rv.d (.tup z)) (map_same (g := id) fun u => plT_ld (n := 2) u)
theorem listed_rules {us : List Rl} (h : Rules us) : OkF (f_l_listed A) [.fz (.lst (us.map Rl.d))] fun r as' => (r = .d (.lst (us.map Rl.ld)) ∨ r = .o (.lst (us.map Rl.ld))) ∧ as' = [.fz (.lst (us.map Rl.d))] := by
  have hl := h.l
  have e : plF .lst 6 (.lst (us.map Rl.d)) = .lst (us.map Rl.ld) := congrArg D.lst (map_same (g := id) fun u => plL_d (n := 2) u)
  refine (listed_ok 6 _ (.lst (by rw [List.length_map]; omega) h.poD)).mono fun r as' q => ⟨?_, q.2⟩
  rcases q.1 with h | ⟨l, h, e2⟩
  · exact .inl (h.trans (congrArg Rv.d e))
  · rw [e] at e2
    cases e2
    exact .inr h
end Cz

/-! # KJ -/
namespace Cz
open L2 PyProof.Rows PySem.Spec PySem
theorem ex_bl {p : Bool} {P : Bool → Prop} : (∃ c, some (Rv.d (.bl p)) = some (.d (.bl c)) ∧ P c) ↔ P p := ⟨fun ⟨c, h, q⟩ => by cases h; exact q, fun q => ⟨p, rfl, q⟩⟩
theorem sm_le {n : Nat} (h : n ≤ 100000) : small n = true := decide_eq_true (by omega)
theorem blsD_true : ∀ {l : List D}, (∀ d ∈ l, d = .bl true) → ∃ bs, blsD l = some bs ∧ bs.all id = true
  | [], _ => ⟨[], rfl, rfl⟩
  | d :: l, h => by
    obtain ⟨bs, h1, h2⟩ := blsD_true (l := l) fun e he => h e (List.mem_cons_of_mem _ he)
    have hd := h d List.mem_cons_self
    subst hd
    refine ⟨true :: bs, ?_, by simpa using h2⟩
    show (blsD l).map (true :: ·) = _
    rw [h1]
    rfl
theorem all_true {l : List D} (h : ∀ d ∈ l, d = .bl true) : allB (.lst l) = some (.d (.bl true)) := by
  obtain ⟨bs, h1, h2⟩ := blsD_true h
  show (blsD l).map _ = _
  rw [h1]
  show some (Rv.d (.bl (bs.all id))) = _
  rw [h2]
theorem all_map {α : Type} {l : List α} : allB (.lst (l.map fun _ => .bl true)) = some (.d (.bl true)) := all_true fun d hd => by
  obtain ⟨x, _, rfl⟩ := List.mem_map.mp hd
  rfl
def abc26 : List Nat := ("abcdefghijklmnopqrstuvwxyz" : Str).cps.toList
structure WordW (x : Str) : Prop where
  c : ∀ k ∈ x.cps.toList, k ∈ abc26
  l : 1 ≤ x.length ∧ x.length ≤ 8
theorem abc_sub : ∀ k ∈ abc, k ∈ abc26 := by decide +kernel
theorem GoodW.w {x : Str} (h : GoodW x) : WordW x := ⟨fun k hk => abc_sub k (h.c k hk), h.l⟩
theorem white_w : WordW "white" := ⟨by decide +kernel, by decide +kernel⟩
theorem HueW.w {x : Str} (h : HueW x) : WordW x := by
  rcases h with h | rfl
  · exact h.w
  · exact white_w
local macro_rules
  | `(tactic| simp_all only [$xs,*]) => `(tactic| simp (config := {decide := true}) only [mIfS, mRet, mAsg, mSetL, mNext, mDrop, mRetN, Oo.seq, Oo.out, Oo.ite, Oo.opt, Oo.nx, Oo.rt, Oo.bk, Oo.ct, Oo.no, Ok1.bind, Ok1.ok, Ok1.ite, Ok1.opt, e_var, e_rd1, e_rd2, e_rd3, e_c, e_pk1, e_pk2, e_pk3, e_pk4, e_pk5, e_pk6, e_nr1, e_nr2, e_nr3, e_fr1, e_fr2, e_fr3, e_fr4, e_fr5, e_fz1, e_fz2, e_fz3, e_fz4, e_ow, e_ow1, e_ow2, e_ls, e_ls1, e_ls2, e_pt1, e_pt2, e_fe, e_fe1, e_fe2, e_fe3,
    k_op, k_un, k_cb1, k_o1, k_o2, k_tr, k_and, k_or, k_not, k_andV, k_orV, k_notV, k_if, k_nil, k_cons, k_ref, k_tup, k_lst, e_al1, e_al2, e_mp, e_bd, k_cb, k_call, k_lm, k_yes, k_np, k_pt, k_sl, e_io, e_add1, e_add2, e_add3, e_sub, e_mul, mulOk_r, mulOk_l, e_fdiv, e_mod, e_pow, e_neg, e_lt, e_le, e_gt, e_ge, e_ltS, e_ix1, e_ix2, e_ix3, e_ix4, e_ix5, e_len1, e_len2, e_len3, e_len4, e_len5, e_bl, e_int1, e_abs, e_lst1, e_lst2, e_lst3, e_lst4, e_tup1, e_tup2, e_tup3, e_app, e_ext, e_at0, e_at1, e_at2, e_at3, e_in0, e_in1, e_in2, ex_some, k_items, k_rng1, k_rngE, e_i1, e_inr, e_ea1, e_ea2, e_ea3, e_ea4, Int.toNat_natCast, e_it1, e_it2, e_it3, e_it4, e_en1, e_en2, k_for, e_es1, e_es2, e_es3, e_nb1, e_nb2, e_rdd,
    k_callS, e_nq1, e_nq2, e_sv1, e_sv2, e_rf1, e_rf2, e_rf3, g_as1, g_as2, g_as3, g_as4, g_as5, g_as6, g_b1, g_b2, g_b3, g_b4, g_b5, g_b6, k_make, k_fld, e_fld, k_setA, e_ob1, e_pa1, e_pa2, k_asgG, e_gn, e_gnil, e_gcons, e_gtup, e_gtuk, e_gany1, e_gany2, e_gany3, k_dput, e_opk, e_opt, e_kt, e_kk1, e_kk2, e_ks1, e_ks2, e_dg1, e_dg2, e_ixk, e_din, e_dno, k_dnT, k_dnK, k_get2, e_dd1, e_dd2, e_pm1, e_pm2, k_disp, k_og, e_iob, k_oi, k_index, k_isi, k_chain, k_keys, e_fzs, k_forD, e_lo1, e_lo2, e_lb1, e_lb2, e_wi1, e_wi2, e_re1, e_re2, e_gd,
    decide_eq_true_eq, true_and, and_true, List.getElem?_cons_zero, List.getElem?_cons_succ, List.set_cons_zero, List.set_cons_succ, List.map_cons, List.map_nil, List.length_cons, List.length_nil, List.replicate_succ, List.replicate_zero, List.cons_append, List.nil_append, List.append_nil, if_true, if_false, e_eqI, e_neI, e_eqS, e_neS, e_ntd, y_lt1, y_lt2, y_lt3, y_lt4, y_lt5, y_tu1, y_tu2, y_tu3, y_tu4, y_tu5, y_st1, y_st2, y_in1, y_bo1, ex_bl, $xs,*])
variable {A : Ad}
theorem is_tuple_ok {l : List D} {a c : Int} (hl : l.length ≤ 1000) : OkF (f_is_tuple_g A) [.fz (.tup l), .fz (.int a), .fz (.int c)] fun r as' => r = .d (.bl (decide (a ≤ (l.length : Nat) ∧ ((l.length : Nat) : Int) ≤ c))) ∧ as' = [.fz (.tup l), .fz (.int a), .fz (.int c)] := by
  refine OkF.run rfl ?_
  unfold m_is_tuple_g
  simp_all only [true_and]
  split
  · rename_i h
    simp [h]
  · rename_i h
    simp [h]
theorem is_word_ok {x : Str} (h : WordW x) : OkF (f_is_word_g A) [.fz (.str x)] fun r as' => r = .d (.bl true) ∧ as' = [.fz (.str x)] := by
  have h1 := h.l
  refine OkF.run rfl ?_
  unfold m_is_word_g
  obtain ⟨L, hL⟩ : ∃ L : Str, L = "abcdefghijklmnopqrstuvwxyz" := ⟨_, rfl⟩
  rw [← hL]
  have e1 : (1 : Int) ≤ (x.length : Nat) := by omega
  have e2 : ((x.length : Nat) : Int) ≤ 8 := by omega
  have hc : ∀ k ∈ x.cps.toList, k ∈ L.cps.toList := fun k hk => by
    rw [hL]
    exact h.c k hk
  simp_all only [sm_le (show x.length ≤ 100000 by omega), e1, e2]
  refine Ok1.lcM (fun _ => .bl true) ?_
  have ei : itemsD (.str x) = some (x.cps.toList.map fun c => .str ⟨#[c]⟩) := rfl
  simp_all only [ei]
  refine ⟨?_, fun d hd => ?_, ?_⟩
  · rw [List.length_map]
    show x.cps.toList.length ≤ 100000
    have : x.cps.toList.length = x.length := Array.length_toList
    omega
  · obtain ⟨k, hk, rfl⟩ := List.mem_map.mp hd
    have e3 : inD (.str ⟨#[k]⟩) (.str L) = some (.d (.bl true)) := by
      show some (Rv.d (.bl (decide (k ∈ L.cps.toList)))) = _
      rw [decide_eq_true (hc k hk)]
    simp_all only [e3]
  · simp_all only [all_map]
theorem is_hue_ok {x : Str} (h : GoodW x) : OkF (f_is_hue_g A) [.fz (.str x)] fun r as' => r = .d (.bl true) ∧ as' = [.fz (.str x)] := by
  refine OkF.run rfl ?_
  unfold m_is_hue_g
  simp_all only [true_and]
  refine OkF.use (is_word_ok h.w) ?_
  rintro r as' - ⟨rfl, rfl⟩
  obtain ⟨W, hW⟩ : ∃ W : Str, W = "white" := ⟨_, rfl⟩
  rw [← hW]
  have hn : x ≠ W := fun z => good_white h (z.trans hW)
  simp_all only [decide_eq_false hn, Bool.not_false]
theorem is_asc_ok {ks : List Str} (h : Asc ks) (hl : ks.length ≤ 1000) : OkF (f_is_ascending_g A) [.fz (.tup (ks.map .str))] fun r as' => r = .d (.bl true) ∧ as' = [.fz (.tup (ks.map .str))] := by
  refine OkF.run rfl ?_
  unfold m_is_ascending_g
  simp_all only [true_and]
  refine Ok1.lcM (fun _ => .bl true) ?_
  have hr : InR ((((ks.map D.str).length : Nat) : Int) - 1) := by
    rw [List.length_map]
    exact e_inr (by omega) (by omega)
  simp_all only [hr]
  refine ⟨?_, fun d hd => ?_, ?_⟩
  · simp [upTo]
    omega
  · obtain ⟨i, hi, rfl⟩ := upTo_in hd
    have hi2 : i + 1 < ks.length := by
      rw [List.length_map] at hi
      omega
    have hlt : sLt ks[i] ks[i + 1] = true := List.pairwise_iff_getElem.mp h i (i + 1) (by omega) hi2 (by omega)
    have e1 : atI (ks.map D.str) (i : Int) = some (.str ks[i]) := ix_str (by omega)
    have e2 : atI (ks.map D.str) ((i : Int) + 1) = some (.str ks[i + 1]) := ix_str (j := i + 1) hi2
    simp_all only [e1, e2, e_ltS, hlt]
  · simp_all only [all_map]
theorem are_inks_ok {ks : List Str} (h : Inks ks) : OkF (f_are_inks_f A) [.fz (.tup (ks.map .str))] fun r as' => r = .d (.bl true) ∧ as' = [.fz (.tup (ks.map .str))] := by
  have hl := h.l
  refine OkF.run rfl ?_
  unfold m_are_inks_f
  simp_all only [true_and]
  refine OkF.use (is_tuple_ok (by rw [List.length_map]; omega)) ?_
  rintro r as' - ⟨rfl, rfl⟩
  have e0 : ((0 : Int) ≤ (((ks.map D.str).length : Nat) : Int) ∧ (((ks.map D.str).length : Nat) : Int) ≤ 5) := by
    rw [List.length_map]
    omega
  simp_all only [decide_eq_true e0]
  refine Ok1.lcM (fun _ => .bl true) ?_
  simp_all only [true_and]
  refine ⟨by rw [List.length_map]; omega, fun d hd => ?_, ?_⟩
  · obtain ⟨x, hx, rfl⟩ := List.mem_map.mp hd
    refine OkF.use (is_word_ok (h.g x hx).w) ?_
    rintro r as' - ⟨rfl, rfl⟩
    simp_all only [true_and]
  · simp_all only [all_map]
    refine OkF.use (is_asc_ok h.a (by omega)) ?_
    rintro r as' - ⟨rfl, rfl⟩
    simp_all only [true_and]
end Cz

/-! # KK -/
namespace Cz
open L2 PyProof.Rows PySem.Spec PySem
theorem shp_tups {ts : List Str} (ho : okWs ts) : SeqAt.shaped (.tuple (ts.map .str)) = true := by
  have h := deep_strs ts
  unfold SeqAt.shaped
  rw [Bool.and_eq_true]
  refine ⟨by simp only [PyData.canLay0]; exact lay_strs ts ho, decide_eq_true ?_⟩
  simp only [PyData.depth]
  omega
theorem cmpb_tuks {ts : List Str} (h : okWs ts) : cmpb (.tuk (ts.map .str)) = true := by
  unfold cmpb
  simp only [toPy]
  rw [toPys_strs ts]
  exact shp_tups h
theorem cmpb_tups {ts : List Str} (h : okWs ts) : cmpb (.tup (ts.map .str)) = true := by
  unfold cmpb
  simp only [toPy]
  rw [toPys_strs ts]
  exact shp_tups h
theorem e_inK {w : Str} {ts : List Str} (h : okW w) (h2 : okWs ts) : inD (.str w) (.tuk (ts.map .str)) = some (.d (.bl (decide (w ∈ ts)))) := by
  unfold inD inB
  simp only [seqD, cmpb_str h, cmpb_tuks h2, Bool.and_self, if_true, any_strs]
  rfl
theorem e_inT {w : Str} {ts : List Str} (h : okW w) (h2 : okWs ts) : inD (.str w) (.tup (ts.map .str)) = some (.d (.bl (decide (w ∈ ts)))) := by
  unfold inD inB
  simp only [seqD, cmpb_str h, cmpb_tups h2, Bool.and_self, if_true, any_strs]
  rfl
theorem okWs_six : okWs sixS := by
  intro t ht
  have : ∀ t ∈ sixS, t.cps.all (· < 0x110000) = true := by decide +kernel
  exact this t ht
theorem in_six {s : Str} (h : s ∈ sixS) : inD (.str s) (.tuk (sixS.map .str)) = some (.d (.bl true)) := by
  rw [e_inK (okWs_six s h) okWs_six, decide_eq_true h]
theorem e_mem1 {a : Addr} : a ∈ [a] ↔ True := by simp
local macro_rules
  | `(tactic| simp_all only [$xs,*]) => `(tactic| simp (config := {decide := true}) only [mIfS, mRet, mAsg, mSetL, mNext, mDrop, mRetN, Oo.seq, Oo.out, Oo.ite, Oo.opt, Oo.nx, Oo.rt, Oo.bk, Oo.ct, Oo.no, Ok1.bind, Ok1.ok, Ok1.ite, Ok1.opt, e_var, e_rd1, e_rd2, e_rd3, e_c, e_pk1, e_pk2, e_pk3, e_pk4, e_pk5, e_pk6, e_nr1, e_nr2, e_nr3, e_fr1, e_fr2, e_fr3, e_fr4, e_fr5, e_fz1, e_fz2, e_fz3, e_fz4, e_ow, e_ow1, e_ow2, e_ls, e_ls1, e_ls2, e_pt1, e_pt2, e_fe, e_fe1, e_fe2, e_fe3,
    k_op, k_un, k_cb1, k_o1, k_o2, k_tr, k_and, k_or, k_not, k_andV, k_orV, k_notV, k_if, k_nil, k_cons, k_ref, k_tup, k_lst, e_al1, e_al2, e_mp, e_bd, k_cb, k_call, k_lm, k_yes, k_np, k_pt, k_sl, e_io, e_add1, e_add2, e_add3, e_sub, e_mul, mulOk_r, mulOk_l, e_fdiv, e_mod, e_pow, e_neg, e_lt, e_le, e_gt, e_ge, e_ltS, e_ix1, e_ix2, e_ix3, e_ix4, e_ix5, e_len1, e_len2, e_len3, e_len4, e_len5, e_bl, e_int1, e_abs, e_lst1, e_lst2, e_lst3, e_lst4, e_tup1, e_tup2, e_tup3, e_app, e_ext, e_at0, e_at1, e_at2, e_at3, e_in0, e_in1, e_in2, ex_some, k_items, k_rng1, k_rngE, e_i1, e_inr, e_ea1, e_ea2, e_ea3, e_ea4, Int.toNat_natCast, e_it1, e_it2, e_it3, e_it4, e_en1, e_en2, k_for, e_es1, e_es2, e_es3, e_nb1, e_nb2, e_rdd,
    k_callS, e_nq1, e_nq2, e_sv1, e_sv2, e_rf1, e_rf2, e_rf3, g_as1, g_as2, g_as3, g_as4, g_as5, g_as6, g_b1, g_b2, g_b3, g_b4, g_b5, g_b6, k_make, k_fld, e_fld, k_setA, e_ob1, e_pa1, e_pa2, k_asgG, e_gn, e_gnil, e_gcons, e_gtup, e_gtuk, e_gany1, e_gany2, e_gany3, k_dput, e_opk, e_opt, e_kt, e_kk1, e_kk2, e_ks1, e_ks2, e_dg1, e_dg2, e_ixk, e_din, e_dno, k_dnT, k_dnK, k_get2, e_dd1, e_dd2, e_pm1, e_pm2, k_disp, k_og, e_iob, k_oi, k_index, k_isi, k_chain, k_keys, e_fzs, k_forD, e_lo1, e_lo2, e_lb1, e_lb2, e_wi1, e_wi2, e_re1, e_re2, e_gd,
    decide_eq_true_eq, true_and, and_true, List.getElem?_cons_zero, List.getElem?_cons_succ, List.set_cons_zero, List.set_cons_succ, List.map_cons, List.map_nil, List.length_cons, List.length_nil, List.replicate_succ, List.replicate_zero, List.cons_append, List.nil_append, List.append_nil, if_true, if_false, e_mem1, e_eqI, e_neI, e_eqS, e_neS, e_ntd, y_lt1, y_lt2, y_lt3, y_lt4, y_lt5, y_tu1, y_tu2, y_tu3, y_tu4, y_tu5, y_st1, y_st2, y_in1, y_bo1, ex_bl, $xs,*])
variable {A : Ad}
theorem is_rule_ok {u : Rl} (h : u.Ok) : OkF (f_is_rule_g A) [.fz u.d] fun r as' => r = .d (.bl true) ∧ as' = [.fz u.d] := by
  refine OkF.run rfl ?_
  unfold m_is_rule_g
  have e6 : (D.tuk [(.str "up"), (.str "left"), (.str "right"), (.str "down"), (.str "near"), (.str "hemmed")]) = .tuk (sixS.map .str) := rfl
  rw [e6]
  obtain ⟨W, hW⟩ : ∃ W : Str, W = "white" := ⟨_, rfl⟩
  rw [← hW]
  cases u with
  | pl c ks =>
    obtain ⟨hc, hk⟩ := h
    simp_all only [Rl.d]
    refine OkF.use (is_tuple_ok (by simp)) ?_
    rintro r as' - ⟨rfl, rfl⟩
    simp_all only [true_and]
    refine OkF.use (is_hue_ok hc) ?_
    rintro r as' - ⟨rfl, rfl⟩
    simp_all only [true_and]
    refine OkF.use (are_inks_ok hk) ?_
    rintro r as' - ⟨rfl, rfl⟩
    simp_all only [true_and]
  | sd c s b ks =>
    obtain ⟨hc, hs, hb, hn, hk⟩ := h
    have hn' : ¬ (c = W ∧ b = W) := by rw [hW]; exact hn
    simp_all only [Rl.d]
    refine OkF.use (is_tuple_ok (by simp)) ?_
    rintro r as' - ⟨rfl, rfl⟩
    simp_all only [true_and]
    refine OkF.use (is_tuple_ok (by simp)) ?_
    rintro r as' - ⟨rfl, rfl⟩
    simp_all only [true_and]
    refine OkF.use (is_word_ok hc.w) ?_
    rintro r as' - ⟨rfl, rfl⟩
    simp_all only [true_and]
    refine OkF.use (is_word_ok hb.w) ?_
    rintro r as' - ⟨rfl, rfl⟩
    simp_all only [in_six hs]
    split
    · rename_i h1
      have h2 : ¬ b = W := fun z => hn' ⟨by simpa using h1, z⟩
      simp_all only [h2]
      refine OkF.use (are_inks_ok hk) ?_
      rintro r as' - ⟨rfl, rfl⟩
      simp_all only [true_and]
    · simp_all only [in_six hs]
      refine OkF.use (are_inks_ok hk) ?_
      rintro r as' - ⟨rfl, rfl⟩
      simp_all only [true_and]
theorem book_init_ok {us : List Rl} {d : D} (h : Rules us) (hd : OkF (f_plain_g A) [.fz d] fun r as' => r = .d (.tup (us.map Rl.d)) ∧ as' = [.fz d]) : OkF (f_Book_init A) [.br (.obj A.Book []), .fz d] fun r as' => r = .d .non ∧ as' = [.br (.obj A.Book [("rules", .tup (us.map Rl.d))]), .fz d] := by
  have hl := h.l
  refine OkF.run rfl ?_
  unfold m_Book_init
  refine Oo.cut (fun s => s = [some (.br (.obj A.Book [])), some (.fz d), some (.fz (.tup (us.map Rl.d))), none, none]) ?_ ?_
  · simp_all only [true_and]
    refine OkF.use hd ?_
    rintro r as' - ⟨rfl, rfl⟩
    simp_all only [true_and]
  rintro s rfl
  refine Oo.cut (fun s => s = [some (.br (.obj A.Book [])), some (.fz d), some (.fz (.tup (us.map Rl.d))), none, none]) ?_ ?_
  · simp_all only [true_and]
    refine OkF.use (is_tuple_ok (by rw [List.length_map]; omega)) ?_
    rintro r as' - ⟨rfl, rfl⟩
    have e0 : ((0 : Int) ≤ (((us.map Rl.d).length : Nat) : Int) ∧ (((us.map Rl.d).length : Nat) : Int) ≤ 12) := by
      rw [List.length_map]
      omega
    simp_all only [decide_eq_true e0, Bool.not_true, Bool.false_eq_true]
  rintro s rfl
  refine Oo.cut (fun s => ∃ z3 z4 : Option SV, s = [some (.br (.obj A.Book [])), some (.fz d), some (.fz (.tup (us.map Rl.d))), z3, z4]) ?_ ?_
  · simp_all only [true_and]
    refine Oo.loop (fun ds s => ∃ z3 z4 : Option SV, (∀ e ∈ ds, ∃ (i : D) (u : Rl), e = .tup [i, u.d] ∧ u.Ok) ∧ feS (some z3) = true ∧ feS (some z4) = true ∧ s = [some (.br (.obj A.Book [])), some (.fz d), some (.fz (.tup (us.map Rl.d))), z3, z4]) ?_ ?_ _ _ ⟨none, none, fun e he => ?_, rfl, rfl, rfl⟩
    · rintro s ⟨z3, z4, -, -, -, rfl⟩
      exact ⟨z3, z4, rfl⟩
    · rintro e ds s ⟨z3, z4, he, f3, f4, rfl⟩
      obtain ⟨i, u, rfl, hu⟩ := he e List.mem_cons_self
      refine ⟨_, e_g2 f3 (by simpa using f4), ?_⟩
      simp_all only [true_and]
      refine OkF.use (is_rule_ok hu) ?_
      rintro r as' - ⟨rfl, rfl⟩
      simp_all only [Bool.not_true, Bool.false_eq_true]
      exact ⟨_, _, fun e h => he e (List.mem_cons_of_mem _ h), rfl, rfl, rfl⟩
    · obtain ⟨x, y, rfl, -, hy⟩ := pairs_in he
      obtain ⟨u, hu, rfl⟩ := List.mem_map.mp hy
      exact ⟨x, u, rfl, h.o u hu⟩
  rintro s ⟨z3, z4, rfl⟩
  simp_all only [true_and]
end Cz

/-! # KL -/
namespace Cz
open L2 PyProof.Rows PySem.Spec PySem
/-! ## what a reading tells -/
inductive Sd where
  | cell (c : Cell)
  | yes
  | no
def Sd.d : Sd → D
  | .cell c => cD c
  | .yes => .bl true
  | .no => .bl false
inductive Due where
  | needs (c : Cell)
  | prints (ks : List Str)
def Due.d : Due → D
  | .needs c => .tup [.str "needs", cD c]
  | .prints ks => .tup [.str "prints", .tup (ks.map .str)]
def sideR (near : Bool) (b : Str) (t : Tl) : List Cell → Sd
  | [] => if near = true then .no else .yes
  | c :: cs => match getT t c with
    | none => .cell c
    | some x => if near = true then (if x = b then .yes else sideR near b t cs) else (if x = b then sideR near b t cs else .no)
theorem sideR_none {near : Bool} {b : Str} {t : Tl} {c : Cell} {cs : List Cell} (h : getT t c = none) : sideR near b t (c :: cs) = .cell c := by
  show (match getT t c with
    | none => Sd.cell c
    | some x => _) = _
  rw [h]
theorem sideR_some {near : Bool} {b : Str} {t : Tl} {c : Cell} {cs : List Cell} {x : Str} (h : getT t c = some x) : sideR near b t (c :: cs) = if near = true then (if x = b then .yes else sideR near b t cs) else (if x = b then sideR near b t cs else .no) := by
  show (match getT t c with
    | none => Sd.cell c
    | some x => _) = _
  rw [h]
def four : List Str := ["up", "left", "right", "down"]
def sI (s : Str) : Nat := if s = "up" then 0 else if s = "left" then 1 else if s = "right" then 2 else 3
theorem sI_lt (s : Str) : sI s < 4 := by
  unfold sI
  repeat' split
  all_goals decide
def cellsR (s : Str) (c : Cell) : List Cell := if s ∈ four then [(ar c)[sI s]'(sI_lt s)] else ar c
def isNear (s : Str) : Bool := decide (s = "near")
def Rl.c : Rl → Str
  | .pl c _ => c
  | .sd c _ _ _ => c
def ruleR (t : Tl) (c : Cell) : Rl → Sd
  | .pl _ _ => .yes
  | .sd _ s b _ => sideR (isNear s) b t (cellsR s c)
def goR (t : Tl) (c : Cell) (x : Str) : List Rl → Due
  | [] => .prints []
  | u :: us => if u.c = x then (match ruleR t c u with
    | .yes => .prints u.ks
    | .cell e => .needs e
    | .no => goR t c x us) else goR t c x us
def readR (us : List Rl) (t : Tl) (c : Cell) : Due := match getT t c with
  | none => .needs c
  | some x => goR t c x us
theorem four_near : ∀ s ∈ four, s ≠ "near" := by decide +kernel
theorem index_four {s : Str} (h : s ∈ four) : indexD (.lst (four.map .str)) (.str s) = some (.d (.int (sI s : Nat))) := by
  have hk : okWs four := by
    intro t ht
    have : ∀ t ∈ four, t.cps.all (· < 0x110000) = true := by decide +kernel
    exact this t ht
  have e : ∀ s ∈ four, findI (.str s) (four.map D.str) = some (sI s) := by decide +kernel
  unfold indexD
  show (if cmpb (.str s) && cmpb (.lst (four.map .str)) then (findI (.str s) (four.map D.str)).map _ else none) = _
  rw [cmpb_str (hk s h), cmpb_strs hk, e s h]
  rfl
theorem index_six {s : Str} (h : s ∈ four) : indexS sixS (.str s) = some (.d (.int (sI s : Nat))) := by
  have e : ∀ s ∈ four, findT s sixS = some (sI s) := by decide +kernel
  unfold indexS
  show (findT s sixS).map _ = _
  rw [e s h]
  rfl
theorem okWs_four : okWs four := by
  intro t ht
  have : ∀ t ∈ four, t.cps.all (· < 0x110000) = true := by decide +kernel
  exact this t ht
theorem in_four {s : Str} (h : s ∈ sixS) : inD (.str s) (.tup (four.map .str)) = some (.d (.bl (decide (s ∈ four)))) := e_inT (okWs_six s h) okWs_four
theorem ix_ar {c : Cell} {j : Nat} (h : j < 4) : atI ((ar c).map cD) (j : Int) = some (cD ((ar c)[j]'h)) := atI_nat (by rw [List.getElem?_map, List.getElem?_eq_getElem (show j < (ar c).length from h)]; rfl)
theorem e_dnt {t : Tl} {c : Cell} : dnotD (cD c) (.dt (tD t)) = some (.d (.bl (!(getT t c).isSome))) := by
  unfold dnotD
  show ((keyT (cD c)).map fun k => valD (tD t) k).map _ = _
  rw [key_c]
  show some (Rv.d (.bl (!(valD (tD t) (cK c)).isSome))) = _
  rw [val_c, Option.isSome_map]
theorem e_dgt {t : Tl} {c : Cell} : ixDk (.dt (tD t)) (cD c) = (getT t c).map fun x => .d (.str x) := by
  unfold ixDk
  show ((keyT (cD c)).map fun k => valD (tD t) k).bind _ = _
  rw [key_c]
  show (valD (tD t) (cK c)).map _ = _
  rw [val_c, Option.map_map]
  rfl
theorem e_is1 {p q : Bool} : isD (.bl p) (.bl q) = some (.d (.bl (decide (p = q)))) := by cases p <;> cases q <;> rfl
theorem e_is2 {l : List D} {q : Bool} : isD (.tup l) (.bl q) = some (.d (.bl false)) := rfl
theorem e_isn1 {p q : Bool} : isNotD (.bl p) (.bl q) = some (.d (.bl (!decide (p = q)))) := by cases p <;> cases q <;> rfl
theorem e_isn2 {l : List D} {q : Bool} : isNotD (.tup l) (.bl q) = some (.d (.bl true)) := rfl
theorem rl_0 (u : Rl) : ixD u.d (.int 0) = some (.d (.str u.c)) := by cases u <;> rfl
theorem rl_last (u : Rl) : ixD u.d (.int (-1)) = some (.d (.tup (u.ks.map .str))) := by cases u <;> rfl
theorem rl_len (u : Rl) : lenD u.d = some (.d (.int (match u with
    | .pl _ _ => 2
    | .sd _ _ _ _ => 4))) := by cases u <;> rfl
local macro_rules
  | `(tactic| simp_all only [$xs,*]) => `(tactic| simp (config := {decide := true}) only [mIfS, mRet, mAsg, mSetL, mNext, mDrop, mRetN, Oo.seq, Oo.out, Oo.ite, Oo.opt, Oo.nx, Oo.rt, Oo.bk, Oo.ct, Oo.no, Ok1.bind, Ok1.ok, Ok1.ite, Ok1.opt, e_var, e_rd1, e_rd2, e_rd3, e_c, e_pk1, e_pk2, e_pk3, e_pk4, e_pk5, e_pk6, e_nr1, e_nr2, e_nr3, e_fr1, e_fr2, e_fr3, e_fr4, e_fr5, e_fz1, e_fz2, e_fz3, e_fz4, e_ow, e_ow1, e_ow2, e_ls, e_ls1, e_ls2, e_pt1, e_pt2, e_fe, e_fe1, e_fe2, e_fe3,
    k_op, k_un, k_cb1, k_o1, k_o2, k_tr, k_and, k_or, k_not, k_andV, k_orV, k_notV, k_if, k_nil, k_cons, k_ref, k_tup, k_lst, e_al1, e_al2, e_mp, e_bd, k_cb, k_call, k_lm, k_yes, k_np, k_pt, k_sl, e_io, e_add1, e_add2, e_add3, e_sub, e_mul, mulOk_r, mulOk_l, e_fdiv, e_mod, e_pow, e_neg, e_lt, e_le, e_gt, e_ge, e_ltS, e_ix1, e_ix2, e_ix3, e_ix4, e_ix5, e_len1, e_len2, e_len3, e_len4, e_len5, e_bl, e_int1, e_abs, e_lst1, e_lst2, e_lst3, e_lst4, e_tup1, e_tup2, e_tup3, e_app, e_ext, e_at0, e_at1, e_at2, e_at3, e_in0, e_in1, e_in2, ex_some, k_items, k_rng1, k_rngE, e_i1, e_inr, e_ea1, e_ea2, e_ea3, e_ea4, Int.toNat_natCast, e_it1, e_it2, e_it3, e_it4, e_en1, e_en2, k_for, e_es1, e_es2, e_es3, e_nb1, e_nb2, e_rdd,
    k_callS, e_nq1, e_nq2, e_sv1, e_sv2, e_rf1, e_rf2, e_rf3, g_as1, g_as2, g_as3, g_as4, g_as5, g_as6, g_b1, g_b2, g_b3, g_b4, g_b5, g_b6, k_make, k_fld, e_fld, k_setA, e_ob1, e_pa1, e_pa2, k_asgG, e_gn, e_gnil, e_gcons, e_gtup, e_gtuk, e_gany1, e_gany2, e_gany3, k_dput, e_opk, e_opt, e_kt, e_kk1, e_kk2, e_ks1, e_ks2, e_dg1, e_dg2, e_ixk, e_din, e_dno, k_dnT, k_dnK, k_get2, e_dd1, e_dd2, e_pm1, e_pm2, k_disp, k_og, e_iob, k_oi, k_index, k_isi, k_chain, k_keys, e_fzs, k_forD, e_lo1, e_lo2, e_lb1, e_lb2, e_wi1, e_wi2, e_re1, e_re2, e_gd,
    decide_eq_true_eq, true_and, and_true, List.getElem?_cons_zero, List.getElem?_cons_succ, List.set_cons_zero, List.set_cons_succ, List.map_cons, List.map_nil, List.length_cons, List.length_nil, List.replicate_succ, List.replicate_zero, List.cons_append, List.nil_append, List.append_nil, if_true, if_false, e_mem1, e_eqI, e_neI, e_eqS, e_neS, e_ntd, y_lt1, y_lt2, y_lt3, y_lt4, y_lt5, y_tu1, y_tu2, y_tu3, y_tu4, y_tu5, y_st1, y_st2, y_in1, y_bo1, ex_bl, key_c, val_c, Option.map_none, e_is1, e_is2, e_isn1, e_isn2, Option.isSome_some, Option.isSome_none, Bool.not_true, Bool.not_false, Bool.false_eq_true, Bool.true_eq_false, Bool.not_eq_true', decide_eq_false_iff_not, $xs,*])
variable {A : Ad}
theorem sideof_ok {c s b : Str} {ks : List Str} {t : Tl} {e : Cell} (hs : s ∈ sixS) : OkF (f_l_side_of A) [.fz (Rl.sd c s b ks).d, .br (.dt false (tD t)), .fz (.lst ((ar e).map cD))] fun r as' => r = .d (sideR (isNear s) b t (cellsR s e)).d ∧ as' = [.fz (Rl.sd c s b ks).d, .br (.dt false (tD t)), .fz (.lst ((ar e).map cD))] := by
  refine OkF.run rfl ?_
  unfold m_l_side_of isNear
  obtain ⟨NE, hNE⟩ : ∃ W : Str, W = "near" := ⟨_, rfl⟩
  rw [← hNE]
  have fx : ∀ (k : List D → D), True := fun _ => trivial
  refine Oo.cut (fun st => st = [some (.fz (Rl.sd c s b ks).d), some (.br (.dt false (tD t))), some (.fz (.lst ((ar e).map cD))), some (.fz (.lst ((ar e).map cD))), none]) ?_ ?_
  · simp_all only [true_and]
  rintro st rfl
  refine Oo.cut (fun st => ∃ z3 : SV, (z3 = .ow (.lst ((cellsR s e).map cD)) ∨ z3 = .fz (.lst ((cellsR s e).map cD))) ∧ st = [some (.fz (Rl.sd c s b ks).d), some (.br (.dt false (tD t))), some (.fz (.lst ((ar e).map cD))), some z3, none]) ?_ ?_
  · have e4 : (D.tup [.str "up", .str "left", .str "right", .str "down"]) = .tup (four.map .str) := rfl
    have e5 : (D.lst [.str "up", .str "left", .str "right", .str "down"]) = .lst (four.map .str) := rfl
    simp_all only [Rl.d, e4, e5, in_four hs]
    split
    · rename_i hf
      simp_all only [lst_d, index_four hf, ix_ar (sI_lt s)]
      unfold cellsR
      rw [if_pos hf]
      exact ⟨_, .inl rfl, rfl⟩
    · rename_i hf
      unfold cellsR
      rw [if_neg hf]
      exact ⟨_, .inr rfl, rfl⟩
  rintro st ⟨z3, h3, rfl⟩
  refine Oo.cut (fun st => ∃ z3 z4 : Option SV, Sd.d (sideR (decide (s = NE)) b t (cellsR s e)) = .bl (!decide (s = NE)) ∧ st = [some (.fz (Rl.sd c s b ks).d), some (.br (.dt false (tD t))), some (.fz (.lst ((ar e).map cD))), z3, z4]) ?_ ?_
  · have go : Oo (loop (mgName 4) (mSeq (mIfS (mTr blD (mOp dnotD (mVar 4) (mVar 1))) (mRet (mVar 4)) mNext)
  (mSeq (mIfS (mAnd (mTr blD (mOp eqD (mOp ixD (mVar 0) (mC (.int 1))) (mC (.str NE)))) (mTr blD (mOp eqD (mOp ixDk (mVar 1) (mVar 4)) (mOp ixD (mVar 0) (mC (.int 2)))))) (mRet (mC (.bl true))) mNext)
  (mIfS (mAnd (mTr blD (mOp neD (mOp ixD (mVar 0) (mC (.int 1))) (mC (.str NE)))) (mTr blD (mOp neD (mOp ixDk (mVar 1) (mVar 4)) (mOp ixD (mVar 0) (mC (.int 2)))))) (mRet (mC (.bl false))) mNext))) ((cellsR s e).map cD) [some (.fz (Rl.sd c s b ks).d), some (.br (.dt false (tD t))), some (.fz (.lst ((ar e).map cD))), some (.fz (.lst ((cellsR s e).map cD))), none])
      (fun st => ∃ z3 z4 : Option SV, Sd.d (sideR (decide (s = NE)) b t (cellsR s e)) = .bl (!decide (s = NE)) ∧ st = [some (.fz (Rl.sd c s b ks).d), some (.br (.dt false (tD t))), some (.fz (.lst ((ar e).map cD))), z3, z4])
      (fun r st => ∃ as', endS [.fz (Rl.sd c s b ks).d, .br (.dt false (tD t)), .fz (.lst ((ar e).map cD))] st = some as' ∧ (∀ i, r ≠ .b i) ∧ r = .d (sideR (decide (s = NE)) b t (cellsR s e)).d ∧ as' = [.fz (Rl.sd c s b ks).d, .br (.dt false (tD t)), .fz (.lst ((ar e).map cD))]) (fun _ => False) (fun _ => False) := by
      refine Oo.loop (fun ds st => ∃ (cs : List Cell) (z4 : Option SV), ds = cs.map cD ∧ sideR (decide (s = NE)) b t cs = sideR (decide (s = NE)) b t (cellsR s e) ∧ feS (some z4) = true ∧ st = [some (.fz (Rl.sd c s b ks).d), some (.br (.dt false (tD t))), some (.fz (.lst ((ar e).map cD))), some (.fz (.lst ((cellsR s e).map cD))), z4]) ?_ ?_ _ _ ⟨cellsR s e, none, rfl, rfl, rfl, rfl⟩
      · rintro st ⟨cs, z4, hd, hr, -, rfl⟩
        have e0 : cs = [] := by simpa using hd.symm
        subst e0
        refine ⟨_, z4, ?_, rfl⟩
        rw [← hr]
        unfold sideR
        by_cases q : s = NE
        · rw [decide_eq_true q]
          rfl
        · rw [decide_eq_false q]
          rfl
      · rintro d ds st ⟨cs, z4, hd, hr, f4, rfl⟩
        cases cs with
        | nil => cases hd
        | cons a cs =>
          rw [List.map_cons] at hd
          obtain ⟨rfl, rfl⟩ := List.cons.inj hd
          refine ⟨_, e_gnT f4, ?_⟩
          cases hg : getT t a with
          | none =>
            rw [sideR_none hg] at hr
            simp_all only [hg]
            rw [← hr]
            rfl
          | some x =>
            rw [sideR_some hg] at hr
            by_cases q : s = NE
            · subst q
              have hr' := (if_pos (decide_eq_true rfl)).symm.trans hr
              have dn : decide (s = s) = true := decide_eq_true rfl
              rw [dn] at hr'
              rw [dn]
              by_cases q2 : x = b
              · rw [if_pos q2] at hr'
                simp_all only [hg, Rl.d, q2]
                exact congrArg (fun z => Rv.d (Sd.d z)) hr'
              · rw [if_neg q2] at hr'
                simp_all only [hg, Rl.d, q2]
                exact ⟨cs, _, rfl, hr', rfl, rfl⟩
            · have hr' := (if_neg (show ¬ decide (s = NE) = true by simpa using q)).symm.trans hr
              have dn : decide (s = NE) = false := decide_eq_false q
              rw [dn] at hr'
              rw [dn]
              by_cases q2 : x = b
              · rw [if_pos q2] at hr'
                simp_all only [hg, Rl.d, q, q2]
                exact ⟨cs, _, rfl, hr', rfl, rfl⟩
              · rw [if_neg q2] at hr'
                simp_all only [hg, Rl.d, q, q2]
                exact congrArg (fun z => Rv.d (Sd.d z)) hr'
    rcases h3 with rfl | rfl
    · simp_all only [true_and]
      exact go
    · simp_all only [true_and]
      exact go
  rintro st ⟨z3, z4, hr, rfl⟩
  simp_all only [Rl.d]
  rw [hr]
theorem read_ok {us : List Rl} {t : Tl} {c : Cell} (h : Rules us) : OkF (f_l_read A) [.fz (.lst (us.map Rl.d)), .br (.dt false (tD t)), .fz (cD c)] fun r as' => r = .d (readR us t c).d ∧ as' = [.fz (.lst (us.map Rl.d)), .br (.dt false (tD t)), .fz (cD c)] := by
  refine OkF.run rfl ?_
  unfold m_l_read
  cases hg : getT t c with
  | none =>
    have e : readR us t c = .needs c := by
      unfold readR
      rw [hg]
    rw [e]
    simp_all only [hg]
    rfl
  | some x =>
    have e : readR us t c = goR t c x us := by
      unfold readR
      rw [hg]
    rw [e]
    refine Oo.cut (fun st => st = [some (.fz (.lst (us.map Rl.d))), some (.br (.dt false (tD t))), some (.fz (cD c)), none, none, none]) ?_ ?_
    · simp_all only [hg]
    rintro st rfl
    refine Oo.cut (fun st => st = [some (.fz (.lst (us.map Rl.d))), some (.br (.dt false (tD t))), some (.fz (cD c)), some (.ow (.lst ((ar c).map cD))), none, none]) ?_ ?_
    · simp_all only [true_and]
      refine OkF.use around_ok ?_
      rintro r as' - ⟨rfl, rfl⟩
      simp_all only [true_and]
    rintro st rfl
    refine Oo.cut (fun st => ∃ z3 z4 z5 : Option SV, goR t c x us = .prints [] ∧ st = [some (.fz (.lst (us.map Rl.d))), some (.br (.dt false (tD t))), some (.fz (cD c)), z3, z4, z5]) ?_ ?_
    · simp_all only [true_and]
      refine Oo.loop (fun ds st => ∃ (vs : List Rl) (z3 : SV) (z4 z5 : Option SV), ds = vs.map Rl.d ∧ (∀ u ∈ vs, u.Ok) ∧ goR t c x vs = goR t c x us ∧ (z3 = .ow (.lst ((ar c).map cD)) ∨ z3 = .fz (.lst ((ar c).map cD))) ∧ feS (some z4) = true ∧ feS (some z5) = true ∧ st = [some (.fz (.lst (us.map Rl.d))), some (.br (.dt false (tD t))), some (.fz (cD c)), some z3, z4, z5]) ?_ ?_ _ _ ⟨us, _, none, none, rfl, h.o, rfl, .inl rfl, rfl, rfl, rfl⟩
      · rintro st ⟨vs, z3, z4, z5, hd, -, hr, -, -, -, rfl⟩
        have e0 : vs = [] := by simpa using hd.symm
        subst e0
        exact ⟨_, z4, z5, hr.symm, rfl⟩
      · rintro d ds st ⟨vs, z3, z4, z5, hd, ho, hr, h3, f4, f5, rfl⟩
        cases vs with
        | nil => cases hd
        | cons u vs =>
          rw [List.map_cons] at hd
          obtain ⟨rfl, rfl⟩ := List.cons.inj hd
          have hu := ho u List.mem_cons_self
          have ho' : ∀ u ∈ vs, u.Ok := fun v hv => ho v (List.mem_cons_of_mem _ hv)
          refine ⟨_, e_gnT f4, ?_⟩
          by_cases q : u.c = x
          · have hr' : (match ruleR t c u with
              | .yes => Due.prints u.ks
              | .cell e => .needs e
              | .no => goR t c x vs) = goR t c x us := (if_pos q).symm.trans hr
            have hd0 := rl_0 u
            have hln := rl_len u
            have hla := rl_last u
            cases u with
            | pl c0 k0 =>
              have hr2 : Due.prints k0 = goR t c x us := hr'
              rcases h3 with rfl | rfl
              all_goals
                simp_all only [hd0, hln, hla, hg, q, f5]
                rw [← hr2]
                rfl
            | sd c0 s b k0 =>
              have hr2 : (match sideR (isNear s) b t (cellsR s c) with
                | .yes => Due.prints k0
                | .cell e => .needs e
                | .no => goR t c x vs) = goR t c x us := hr'
              rcases h3 with rfl | rfl
              all_goals
                simp_all only [hd0, hln, hla, hg, q, f5]
                refine OkF.use (sideof_ok hu.2.1) ?_
                rintro r as' - ⟨rfl, rfl⟩
                cases hs : sideR (isNear s) b t (cellsR s c) with
                | yes =>
                  rw [hs] at hr2
                  simp_all only [Sd.d, hla, f5]
                  rw [← hr2]
                  rfl
                | cell e =>
                  rw [hs] at hr2
                  have e1 : ∀ q, isD (cD e) (.bl q) = some (.d (.bl false)) := fun _ => rfl
                  have e2 : ∀ q, isNotD (cD e) (.bl q) = some (.d (.bl true)) := fun _ => rfl
                  simp_all only [Sd.d, hla, e1, e2, f5]
                  rw [← hr2]
                  rfl
                | no =>
                  rw [hs] at hr2
                  simp_all only [Sd.d, hla, f5]
                  exact ⟨vs, _, _, _, rfl, ho', hr2, .inr rfl, rfl, rfl, rfl⟩
          · have hr' : goR t c x vs = goR t c x us := (if_neg q).symm.trans hr
            rcases h3 with rfl | rfl
            · simp_all only [rl_0, hg, q]
              exact ⟨vs, _, _, _, rfl, ho', hr', .inl rfl, rfl, f5, rfl⟩
            · simp_all only [rl_0, hg, q]
              exact ⟨vs, _, _, _, rfl, ho', hr', .inr rfl, rfl, f5, rfl⟩
    rintro st ⟨z3, z4, z5, hr, rfl⟩
    rw [hr]
    simp_all only [true_and]
    rfl
end Cz

/-! # KM -/
namespace Cz
open L2 PyProof.Rows PySem.Spec PySem
open PySem.W (dataLt alike)
/-! ## told cells in order -/
def tri (p : Cell × Str) : D := .tup [.int p.1.1, .int p.1.2, .str p.2]
def triP (p : Cell × Str) : PyData := .tuple [.int p.1.1, .int p.1.2, .str p.2]
theorem toPy_tri (p : Cell × Str) : toPy (tri p) = some (triP p) := by
  unfold tri triP
  simp only [toPy, toPys]
  rfl
theorem pyD_tri (p : Cell × Str) : pyD (tri p) = triP p := by
  unfold pyD
  rw [toPy_tri]
  rfl
theorem toPys_tri : ∀ t : Tl, toPys (t.map tri) = some (t.map triP)
  | [] => by simp only [List.map_nil, toPys]
  | p :: t => by
    (rw [List.map_cons, List.map_cons])
    simp only [toPys, toPy_tri, Option.bind_some]
    rw [toPys_tri t]
    rfl
theorem sortOk_tri {t : Tl} (h : t.length ≤ 1000) : sortOk (t.map triP) = true := by
  unfold sortOk
  rw [Bool.and_eq_true, List.all_eq_true, decide_eq_true_eq, List.length_map]
  refine ⟨fun p hp => ?_, by omega⟩
  obtain ⟨p, _, rfl⟩ := List.mem_map.mp hp
  rw [Bool.and_eq_true, Bool.and_eq_true, decide_eq_true_eq, List.all_eq_true]
  refine ⟨⟨rfl, ?_⟩, fun q hq => ?_⟩
  · unfold triP
    simp [PyData.depth, PyData.depthAll]
  · obtain ⟨q, _, rfl⟩ := List.mem_map.mp hq
    unfold triP
    simp [PySem.W.alike, PySem.W.alikeAll]
def sortT (t : Tl) : Tl := t.mergeSort fun p q => leG (tri p) (tri q)
theorem sortG_tri {t : Tl} (h : t.length ≤ 1000) : sortG (.lst (t.map tri)) = some (.o (.lst ((sortT t).map tri))) := by
  unfold sortG
  show (toPys (t.map tri)).bind _ = _
  rw [toPys_tri, Option.bind_some, if_pos (sortOk_tri h)]
  congr 3
  exact (List.map_mergeSort (r := fun p q => leG (tri p) (tri q)) (s := leG) (f := tri) (fun a _ b _ => rfl)).symm
theorem leG_tr (a b c : D) (h1 : leG a b = true) (h2 : leG b c = true) : leG a c = true := by
  unfold leG at *
  rw [Bool.not_eq_true'] at *
  cases e : dataLt (pyD c) (pyD a) with
  | false => rfl
  | true =>
    rw [PySem.W.dataLt] at e h1 h2
    rcases lex_negTrans _ (PySem.W.keyToks (pyD b)) _ e with z | z
    · rw [z] at h2
      cases h2
    · rw [z] at h1
      cases h1
theorem leG_tot (a b : D) : (leG a b || leG b a) = true := by
  unfold leG
  cases e1 : dataLt (pyD b) (pyD a) with
  | false => rfl
  | true =>
    cases e2 : dataLt (pyD a) (pyD b) with
    | false => rfl
    | true =>
      rw [PySem.W.dataLt] at e1 e2
      have z := lex_trans _ _ _ e1 e2
      rw [lex_irrefl] at z
      cases z
def ltC (c e : Cell) : Prop := c.1 < e.1 ∨ c.1 = e.1 ∧ c.2 < e.2
theorem dataLt_tri {p q : Cell × Str} (h : p.1 ≠ q.1) : dataLt (triP p) (triP q) = decide (p.1.1 < q.1.1 ∨ p.1.1 = q.1.1 ∧ p.1.2 < q.1.2) := by
  rw [← PySem.W.dataLt_ii]
  unfold triP
  have al : ∀ i j : Int, alike (.int i) (.int j) = true := fun i j => by simp [PySem.W.alike]
  simp only [PySem.W.dataLt_tuple, PySem.W.dataLt_cons (al _ _)]
  split
  · rename_i e1
    split
    · rename_i e2
      refine absurd (Prod.ext ?_ ?_) h
      · simpa [PyData.eqv] using e1
      · simpa [PyData.eqv] using e2
    · rfl
  · rfl
theorem sortT_perm (t : Tl) : (sortT t).Perm t := List.mergeSort_perm _ _
theorem sortT_lt {t : Tl} (h : (keysT t).Nodup) : (sortT t).Pairwise fun p q => ltC p.1 q.1 := by
  have h1 := List.pairwise_mergeSort (le := fun p q : Cell × Str => leG (tri p) (tri q)) (fun a b c => leG_tr _ _ _) (fun a b => leG_tot _ _) t
  have h2 : (keysT (sortT t)).Nodup := ((sortT_perm t).map (fun p : Cell × Str => p.1)).nodup_iff.mpr h
  have h3 : (sortT t).Pairwise fun p q => p.1 ≠ q.1 := by
    unfold keysT at h2
    rw [List.nodup_iff_pairwise_ne, List.pairwise_map] at h2
    exact h2
  refine (List.Pairwise.and h1 h3).imp fun {p q} z => ?_
  obtain ⟨z1, z2⟩ := z
  unfold leG at z1
  rw [Bool.not_eq_true', pyD_tri, pyD_tri, dataLt_tri (fun e => z2 e.symm), decide_eq_false_iff_not] at z1
  unfold ltC
  have ne : ¬ (p.1.1 = q.1.1 ∧ p.1.2 = q.1.2) := fun e => z2 (Prod.ext e.1 e.2)
  omega
theorem get_of_mem {t : Tl} {c : Cell} {x : Str} (h : (keysT t).Nodup) (hm : (c, x) ∈ t) : getT t c = some x := by
  induction t with
  | nil => cases hm
  | cons p t ih =>
    unfold keysT at h
    (rw [List.map_cons, List.nodup_cons] at h)
    unfold getT
    rw [List.find?_cons]
    (rcases List.mem_cons.mp hm with e | hm)
    · subst e
      rw [decide_eq_true rfl]
      rfl
    · have ne : ¬ p.1 = c := fun z => h.1 (z ▸ List.mem_map_of_mem (f := (·.1)) hm)
      rw [decide_eq_false ne]
      exact ih h.2 hm
theorem get_perm {t t' : Tl} (h : (keysT t).Nodup) (p : t'.Perm t) (c : Cell) : getT t' c = getT t c := by
  have h' : (keysT t').Nodup := (p.map (fun p : Cell × Str => p.1)).nodup_iff.mpr h
  cases e : getT t c with
  | some x => exact get_of_mem h' (p.mem_iff.mpr (get_mem e))
  | none =>
    cases e' : getT t' c with
    | none => rfl
    | some x =>
      rw [get_of_mem h (p.mem_iff.mp (get_mem e'))] at e
      cases e
/-- a dict put together of rows anew -/
theorem fold_put : ∀ {t acc : Tl}, (keysT (acc ++ t)).Nodup → t.foldl (fun a p => putT a p.1 p.2) acc = acc ++ t
  | [], acc, _ => by simp
  | p :: t, acc, h => by
    have e : putT acc p.1 p.2 = acc ++ [p] := by
      unfold putT
      rw [if_neg]
      intro z
      rw [List.any_eq_true] at z
      obtain ⟨q, hq, e⟩ := z
      have e' : q.1 = p.1 := by simpa using e
      unfold keysT at h
      rw [List.map_append, List.nodup_append] at h
      exact h.2.2 q.1 (List.mem_map_of_mem hq) p.1 (List.mem_map_of_mem List.mem_cons_self) e'
    rw [List.foldl_cons, e, fold_put (by rw [List.append_assoc]; exact h), List.append_assoc]
    rfl
theorem keys_tD (t : Tl) : keysD (.dt (tD t)) = some ((keysT t).map cD) := by
  unfold tD keysT
  show some _ = some _
  (rw [List.map_map, List.map_map])
  rfl
local macro_rules
  | `(tactic| simp_all only [$xs,*]) => `(tactic| simp (config := {decide := true}) only [mIfS, mRet, mAsg, mSetL, mNext, mDrop, mRetN, Oo.seq, Oo.out, Oo.ite, Oo.opt, Oo.nx, Oo.rt, Oo.bk, Oo.ct, Oo.no, Ok1.bind, Ok1.ok, Ok1.ite, Ok1.opt, e_var, e_rd1, e_rd2, e_rd3, e_c, e_pk1, e_pk2, e_pk3, e_pk4, e_pk5, e_pk6, e_nr1, e_nr2, e_nr3, e_fr1, e_fr2, e_fr3, e_fr4, e_fr5, e_fz1, e_fz2, e_fz3, e_fz4, e_ow, e_ow1, e_ow2, e_ls, e_ls1, e_ls2, e_pt1, e_pt2, e_fe, e_fe1, e_fe2, e_fe3,
    k_op, k_un, k_cb1, k_o1, k_o2, k_tr, k_and, k_or, k_not, k_andV, k_orV, k_notV, k_if, k_nil, k_cons, k_ref, k_tup, k_lst, e_al1, e_al2, e_mp, e_bd, k_cb, k_call, k_lm, k_yes, k_np, k_pt, k_sl, e_io, e_add1, e_add2, e_add3, e_sub, e_mul, mulOk_r, mulOk_l, e_fdiv, e_mod, e_pow, e_neg, e_lt, e_le, e_gt, e_ge, e_ltS, e_ix1, e_ix2, e_ix3, e_ix4, e_ix5, e_len1, e_len2, e_len3, e_len4, e_len5, e_bl, e_int1, e_abs, e_lst1, e_lst2, e_lst3, e_lst4, e_tup1, e_tup2, e_tup3, e_app, e_ext, e_at0, e_at1, e_at2, e_at3, e_in0, e_in1, e_in2, ex_some, k_items, k_rng1, k_rngE, e_i1, e_inr, e_ea1, e_ea2, e_ea3, e_ea4, Int.toNat_natCast, e_it1, e_it2, e_it3, e_it4, e_en1, e_en2, k_for, e_es1, e_es2, e_es3, e_nb1, e_nb2, e_rdd,
    k_callS, e_nq1, e_nq2, e_sv1, e_sv2, e_rf1, e_rf2, e_rf3, g_as1, g_as2, g_as3, g_as4, g_as5, g_as6, g_b1, g_b2, g_b3, g_b4, g_b5, g_b6, k_make, k_fld, e_fld, k_setA, e_ob1, e_pa1, e_pa2, k_asgG, e_gn, e_gnil, e_gcons, e_gtup, e_gtuk, e_gany1, e_gany2, e_gany3, k_dput, e_opk, e_opt, e_kt, e_kk1, e_kk2, e_ks1, e_ks2, e_dg1, e_dg2, e_ixk, e_din, e_dno, k_dnT, k_dnK, k_get2, e_dd1, e_dd2, e_pm1, e_pm2, k_disp, k_og, e_iob, k_oi, k_index, k_isi, k_chain, k_keys, e_fzs, k_forD, e_lo1, e_lo2, e_lb1, e_lb2, e_wi1, e_wi2, e_re1, e_re2, e_gd,
    decide_eq_true_eq, true_and, and_true, List.getElem?_cons_zero, List.getElem?_cons_succ, List.set_cons_zero, List.set_cons_succ, List.map_cons, List.map_nil, List.length_cons, List.length_nil, List.replicate_succ, List.replicate_zero, List.cons_append, List.nil_append, List.append_nil, if_true, if_false, e_mem1, e_eqI, e_neI, e_eqS, e_neS, e_ntd, y_lt1, y_lt2, y_lt3, y_lt4, y_lt5, y_tu1, y_tu2, y_tu3, y_tu4, y_tu5, y_st1, y_st2, y_in1, y_bo1, ex_bl, key_c, val_c, Option.map_none, e_is1, e_is2, e_isn1, e_isn2, Option.isSome_some, Option.isSome_none, Bool.not_true, Bool.not_false, Bool.false_eq_true, Bool.true_eq_false, Bool.not_eq_true', decide_eq_false_iff_not, $xs,*])
variable {A : Ad}
def vTri (t : Tl) : D → D
  | .tup [.int a, .int b] => tri ((a, b), (getT t (a, b)).getD "")
  | d => d
theorem vTri_map {t : Tl} (h : (keysT t).Nodup) : ((keysT t).map cD).map (vTri t) = t.map tri := by
  unfold keysT
  (rw [List.map_map, List.map_map])
  (refine List.map_congr_left fun p hp => ?_)
  show tri (p.1, (getT t p.1).getD "") = tri p
  rw [get_of_mem h hp]
  rfl
theorem triples_ok {t : Tl} (h : (keysT t).Nodup) (hl : t.length ≤ 1000) : OkF (f_l_triples A) [.fz (.dt (tD t))] fun r as' => r = .d (.tup ((sortT t).map tri)) ∧ as' = [.fz (.dt (tD t))] := by
  refine OkF.run rfl ?_
  unfold m_l_triples
  simp_all only [true_and]
  refine Ok1.lcD (Ok1.lcM (vTri t) ?_)
  simp_all only [keys_tD]
  have lk : ((keysT t).map cD).length ≤ 100000 := by
    rw [List.length_map]
    unfold keysT
    rw [List.length_map]
    omega
  refine ⟨lk, fun d hd => ?_, ?_⟩
  · obtain ⟨c, hc, rfl⟩ := List.mem_map.mp hd
    obtain ⟨x, hx⟩ := get_some hc
    have e0 : ixD (cD c) (.int 0) = some (.d (.int c.1)) := rfl
    have e1 : ixD (cD c) (.int 1) = some (.d (.int c.2)) := rfl
    simp_all only [e0, e1, hx]
    show D.tup [.int c.1, .int c.2, .str x] = tri (c, (getT t c).getD "")
    rw [hx]
    rfl
  · simp_all only [vTri_map h, sortG_tri hl]
end Cz

/-! # KN -/
namespace Cz
open L2 PyProof.Rows PySem.Spec PySem
def triL (p : Cell × Str) : D := .lst [.int p.1.1, .int p.1.2, .str p.2]
def cellOf : D → Cell
  | .tup [.int a, .int b, _] => (a, b)
  | .lst [.int a, .int b, _] => (a, b)
  | _ => (0, 0)
def colOf : D → Str
  | .tup [_, _, .str x] => x
  | .lst [_, _, .str x] => x
  | _ => ""
theorem fold_tD {f : Cell × Str → D} (h1 : ∀ p, cellOf (f p) = p.1) (h2 : ∀ p, colOf (f p) = p.2) : ∀ {t acc : Tl}, (t.map f).foldl (fun m d => putD m (cK (cellOf d)) (.str (colOf d))) (tD acc) = tD (t.foldl (fun a p => putT a p.1 p.2) acc)
  | [], acc => rfl
  | p :: t, acc => by
    rw [List.map_cons, List.foldl_cons, List.foldl_cons, h1, h2, put_c]
    exact fold_tD h1 h2
theorem tri_cell (p : Cell × Str) : cellOf (tri p) = p.1 := rfl
theorem tri_col (p : Cell × Str) : colOf (tri p) = p.2 := rfl
theorem triL_cell (p : Cell × Str) : cellOf (triL p) = p.1 := rfl
theorem triL_col (p : Cell × Str) : colOf (triL p) = p.2 := rfl
theorem e_oC {C : Addr} {l : List (Str × D)} {x : Str} : ∀ Cs : List Addr, fldD Cs x (.obj C l) = if C ∈ Cs then l.lookup x else none := fun _ => rfl
theorem eqK1 {x y : Str} (hx : okW x) (hy : okW y) : eqD (.tuk [.str x]) (.tuk [.str y]) = some (.d (.bl (decide (x = y)))) := by
  have c1 : cmpb (.tuk [.str x]) = true := cmpb_tuks (ts := [x]) (fun t ht => by rw [List.mem_singleton.mp ht]; exact hx)
  have c2 : cmpb (.tuk [.str y]) = true := cmpb_tuks (ts := [y]) (fun t ht => by rw [List.mem_singleton.mp ht]; exact hy)
  unfold eqD eqB
  show (if cmpb (.tuk [.str x]) && cmpb (.tuk [.str y]) then some (deq (.tuk [.str x]) (.tuk [.str y])) else none).map _ = _
  rw [c1, c2]
  show some (Rv.d (.bl (deqs [.str x] [.str y]))) = _
  show some (Rv.d (.bl ((x == y) && true))) = _
  rw [Bool.and_true, str_beq]
theorem cmpb_need {x : Str} {q : Cell} (hx : okW x) : cmpb (.tup [.str x, cD q]) = true := by
  unfold cmpb cD
  simp only [toPy, toPys]
  show SeqAt.shaped (.tuple [.str x, .tuple [.int q.1, .int q.2]]) = true
  have h : PyData.strOk x = true := hx
  unfold SeqAt.shaped
  simp [PyData.canLay0, PyData.canLayAll0, PyData.depth, PyData.depthAll, h]
theorem eqN1 {x y : Str} {q : Cell} (hx : okW x) (hy : okW y) : eqD (.tup [.str x, cD q]) (.tuk [.str y]) = some (.d (.bl false)) := by
  have c2 : cmpb (.tuk [.str y]) = true := cmpb_tuks (ts := [y]) (fun t ht => by rw [List.mem_singleton.mp ht]; exact hy)
  unfold eqD eqB
  show (if cmpb (.tup [.str x, cD q]) && cmpb (.tuk [.str y]) then some (deq (.tup [.str x, cD q]) (.tuk [.str y])) else none).map _ = _
  rw [cmpb_need hx, c2]
  show some (Rv.d (.bl (deqs [.str x, cD q] [.str y]))) = _
  show some (Rv.d (.bl ((x == y) && false))) = _
  rw [Bool.and_false]
theorem ok_met : okW "met" := by decide +kernel
theorem ok_unmet : okW "unmet" := by decide +kernel
theorem ok_needs : okW "needs" := by decide +kernel
def fitD : Sd → D
  | .yes => .tuk [.str "met"]
  | .no => .tuk [.str "unmet"]
  | .cell q => .tup [.str "needs", cD q]
theorem fit_met (z : Sd) : eqD (fitD z) (.tuk [.str "met"]) = some (.d (.bl (match z with
    | .yes => true
    | _ => false))) := by
  cases z with
  | yes => exact eqK1 ok_met ok_met
  | no => exact eqK1 ok_unmet ok_met
  | cell q => exact eqN1 ok_needs ok_met
theorem fit_unmet (z : Sd) : neD (fitD z) (.tuk [.str "unmet"]) = some (.d (.bl (match z with
    | .no => false
    | _ => true))) := by
  have e : ∀ x y b, eqD x y = some (.d (.bl b)) → neD x y = some (.d (.bl !b)) := fun x y b h => by
    unfold eqD at h
    unfold neD
    cases q : eqB x y with
    | none => rw [q] at h; cases h
    | some p =>
      rw [q] at h
      cases h
      rfl
  cases z with
  | yes => exact e _ _ _ (eqK1 ok_met ok_unmet)
  | no => exact e _ _ _ (eqK1 ok_unmet ok_unmet)
  | cell q => exact e _ _ _ (eqN1 ok_needs ok_unmet)
theorem notin_nh {s : Str} (h : s ∈ sixS) : notInD (.str s) (.tup [.str "near", .str "hemmed"]) = some (.d (.bl (decide (s ∈ four)))) := by
  have hk : okWs ["near", "hemmed"] := by
    intro t ht
    have : ∀ t ∈ (["near", "hemmed"] : List Str), t.cps.all (· < 0x110000) = true := by decide +kernel
    exact this t ht
  have e := e_inT (okWs_six s h) hk
  have d2 : ∀ s ∈ sixS, decide (s ∈ four) = !decide (s ∈ (["near", "hemmed"] : List Str)) := by decide +kernel
  unfold inD at e
  unfold notInD
  have e' : (inB (.str s) (.tup [.str "near", .str "hemmed"])).map (fun b => Rv.d (.bl b)) = some (.d (.bl (decide (s ∈ (["near", "hemmed"] : List Str))))) := e
  cases q : inB (.str s) (.tup [.str "near", .str "hemmed"]) with
  | none => rw [q] at e'; cases e'
  | some p =>
    rw [q] at e'
    rw [d2 s h]
    cases e'
    rfl
local macro_rules
  | `(tactic| simp_all only [$xs,*]) => `(tactic| simp (config := {decide := true}) only [mIfS, mRet, mAsg, mSetL, mNext, mDrop, mRetN, Oo.seq, Oo.out, Oo.ite, Oo.opt, Oo.nx, Oo.rt, Oo.bk, Oo.ct, Oo.no, Ok1.bind, Ok1.ok, Ok1.ite, Ok1.opt, e_var, e_rd1, e_rd2, e_rd3, e_c, e_pk1, e_pk2, e_pk3, e_pk4, e_pk5, e_pk6, e_nr1, e_nr2, e_nr3, e_fr1, e_fr2, e_fr3, e_fr4, e_fr5, e_fz1, e_fz2, e_fz3, e_fz4, e_ow, e_ow1, e_ow2, e_ls, e_ls1, e_ls2, e_pt1, e_pt2, e_fe, e_fe1, e_fe2, e_fe3,
    k_op, k_un, k_cb1, k_o1, k_o2, k_tr, k_and, k_or, k_not, k_andV, k_orV, k_notV, k_if, k_nil, k_cons, k_ref, k_tup, k_lst, e_al1, e_al2, e_mp, e_bd, k_cb, k_call, k_lm, k_yes, k_np, k_pt, k_sl, e_io, e_add1, e_add2, e_add3, e_sub, e_mul, mulOk_r, mulOk_l, e_fdiv, e_mod, e_pow, e_neg, e_lt, e_le, e_gt, e_ge, e_ltS, e_ix1, e_ix2, e_ix3, e_ix4, e_ix5, e_len1, e_len2, e_len3, e_len4, e_len5, e_bl, e_int1, e_abs, e_lst1, e_lst2, e_lst3, e_lst4, e_tup1, e_tup2, e_tup3, e_app, e_ext, e_at0, e_at1, e_at2, e_at3, e_in0, e_in1, e_in2, ex_some, k_items, k_rng1, k_rngE, e_i1, e_inr, e_ea1, e_ea2, e_ea3, e_ea4, Int.toNat_natCast, e_it1, e_it2, e_it3, e_it4, e_en1, e_en2, k_for, e_es1, e_es2, e_es3, e_nb1, e_nb2, e_rdd,
    k_callS, e_nq1, e_nq2, e_sv1, e_sv2, e_rf1, e_rf2, e_rf3, g_as1, g_as2, g_as3, g_as4, g_as5, g_as6, g_b1, g_b2, g_b3, g_b4, g_b5, g_b6, k_make, k_fld, e_fld, k_setA, e_ob1, e_pa1, e_pa2, k_asgG, e_gn, e_gnil, e_gcons, e_gtup, e_gtuk, e_gany1, e_gany2, e_gany3, k_dput, e_opk, e_opt, e_kt, e_kk1, e_kk2, e_ks1, e_ks2, e_dg1, e_dg2, e_ixk, e_din, e_dno, k_dnT, k_dnK, k_get2, e_dd1, e_dd2, e_pm1, e_pm2, k_disp, k_og, e_iob, k_oi, k_index, k_isi, k_chain, k_keys, e_fzs, k_forD, e_lo1, e_lo2, e_lb1, e_lb2, e_wi1, e_wi2, e_re1, e_re2, e_gd,
    decide_eq_true_eq, true_and, and_true, List.getElem?_cons_zero, List.getElem?_cons_succ, List.set_cons_zero, List.set_cons_succ, List.map_cons, List.map_nil, List.length_cons, List.length_nil, List.replicate_succ, List.replicate_zero, List.cons_append, List.nil_append, List.append_nil, if_true, if_false, e_mem1, e_eqI, e_neI, e_eqS, e_neS, e_ntd, y_lt1, y_lt2, y_lt3, y_lt4, y_lt5, y_tu1, y_tu2, y_tu3, y_tu4, y_tu5, y_st1, y_st2, y_in1, y_bo1, ex_bl, key_c, val_c, Option.map_none, e_is1, e_is2, e_isn1, e_isn2, Option.isSome_some, Option.isSome_none, Bool.not_true, Bool.not_false, Bool.false_eq_true, Bool.true_eq_false, Bool.not_eq_true', decide_eq_false_iff_not, $xs,*])
variable {A : Ad}
theorem bycells_ok {d : D} {t : Tl} {f : Cell × Str → D} (hd : itemsD d = some (t.map f)) (hn : (keysT t).Nodup) (hl : t.length ≤ 1000) (h1 : ∀ p, cellOf (f p) = p.1) (h2 : ∀ p, colOf (f p) = p.2)
    (h3 : ∀ p : Cell × Str, ∀ st : SS, st = [some (.fz d), none, none, none] → mgAny 3 (mgCons (mgName 1) (mgCons (mgName 2) (mgCons (mgName 3) mgNil))) (f p) st = some [some (.fz d), some (.fz (.int p.1.1)), some (.fz (.int p.1.2)), some (.fz (.str p.2))]) :
    OkF (f_by_cells_f A) [.fz d] fun r as' => r = .o (.dt false (tD t)) ∧ as' = [.fz d] := by
  refine OkF.run rfl ?_
  unfold m_by_cells_f
  simp_all only [true_and]
  refine Ok1.dcM (fun d => cK (cellOf d)) (fun d => cD (cellOf d)) (fun d => .str (colOf d)) ?_
  simp_all only [hd]
  refine ⟨by rw [List.length_map]; omega, fun e he => trivial, fun e he => ?_, ?_⟩
  · obtain ⟨p, _, rfl⟩ := List.mem_map.mp he
    refine ⟨_, h3 p _ rfl, ?_⟩
    simp_all only [h1, h2]
    rfl
  · have e := fold_tD h1 h2 (t := t) (acc := [])
    rw [fold_put (acc := []) (by simpa using hn), List.nil_append] at e
    have e' : (t.map f).foldl (fun m d => putD m (cK (cellOf d)) (.str (colOf d))) [] = tD t := e
    simp_all only [e']
theorem neigh_ok {c : Cell} : OkF (f_neighbours_g A) [.fz (cD c)] fun r as' => r = .d (.tup ((ar c).map cD)) ∧ as' = [.fz (cD c)] := by
  refine OkF.run rfl ?_
  unfold m_neighbours_g cD
  simp_all only [true_and]
  rfl

theorem fit_ok {u : Rl} {t : Tl} {e : Cell} (hu : u.Ok) : OkF (f_fit_f A) [.fz u.d, .fz (.dt (tD t)), .fz (cD e)] fun r as' => r = .d (fitD (ruleR t e u)) ∧ as' = [.fz u.d, .fz (.dt (tD t)), .fz (cD e)] := by
  refine OkF.run rfl ?_
  unfold m_fit_f
  cases u with
  | pl c ks =>
    have e1 := rl_len (.pl c ks)
    simp_all only [e1]
    rfl
  | sd c s b ks =>
    have hs := hu.2.1
    have e6 : (["up", "left", "right", "down", "near", "hemmed"] : List Str) = sixS := rfl
    rw [e6]
    have er : ruleR t e (.sd c s b ks) = sideR (decide (s = "near")) b t (cellsR s e) := rfl
    rw [er]
    refine Oo.cut (fun st => st = [some (.fz (Rl.sd c s b ks).d), some (.fz (.dt (tD t))), some (.fz (cD e)), none, none, none, none, none]) ?_ ?_
    · have e1 := rl_len (.sd c s b ks)
      simp_all only [e1]
    rintro st rfl
    refine Oo.cut (fun st => st = [some (.fz (Rl.sd c s b ks).d), some (.fz (.dt (tD t))), some (.fz (cD e)), some (.fz (.tup (ks.map .str))), some (.fz (.str s)), some (.fz (.str b)), none, none]) ?_ ?_
    · simp_all only [Rl.d]
    rintro st rfl
    refine Oo.cut (fun st => st = [some (.fz (Rl.sd c s b ks).d), some (.fz (.dt (tD t))), some (.fz (cD e)), some (.fz (.tup (ks.map .str))), some (.fz (.str s)), some (.fz (.str b)), some (.fz (.tup ((ar e).map cD))), none]) ?_ ?_
    · simp_all only [true_and]
      refine OkF.use neigh_ok ?_
      rintro r as' - ⟨rfl, rfl⟩
      simp_all only [true_and]
    rintro st rfl
    refine Oo.cut (fun st => st = [some (.fz (Rl.sd c s b ks).d), some (.fz (.dt (tD t))), some (.fz (cD e)), some (.fz (.tup (ks.map .str))), some (.fz (.str s)), some (.fz (.str b)), some (.fz (.tup ((cellsR s e).map cD))), none]) ?_ ?_
    · simp_all only [notin_nh hs]
      split
      · rename_i hf
        simp_all only [index_six hf, ix_ar (sI_lt s)]
        unfold cellsR
        rw [if_pos hf]
        rfl
      · rename_i hf
        unfold cellsR
        rw [if_neg hf]
    rintro st rfl
    obtain ⟨NE, hNE⟩ : ∃ W : Str, W = "near" := ⟨_, rfl⟩
    rw [← hNE]
    refine Oo.cut (fun st => ∃ z7 : Option SV, sideR (decide (s = NE)) b t (cellsR s e) = (if s = NE then .no else .yes) ∧ st = [some (.fz (Rl.sd c s b ks).d), some (.fz (.dt (tD t))), some (.fz (cD e)), some (.fz (.tup (ks.map .str))), some (.fz (.str s)), some (.fz (.str b)), some (.fz (.tup ((cellsR s e).map cD))), z7]) ?_ ?_
    · simp_all only [true_and]
      refine Oo.loop (fun ds st => ∃ (cs : List Cell) (z7 : Option SV), ds = cs.map cD ∧ sideR (decide (s = NE)) b t cs = sideR (decide (s = NE)) b t (cellsR s e) ∧ feS (some z7) = true ∧ st = [some (.fz (Rl.sd c s b ks).d), some (.fz (.dt (tD t))), some (.fz (cD e)), some (.fz (.tup (ks.map .str))), some (.fz (.str s)), some (.fz (.str b)), some (.fz (.tup ((cellsR s e).map cD))), z7]) ?_ ?_ _ _ ⟨cellsR s e, none, rfl, rfl, rfl, rfl⟩
      · rintro st ⟨cs, z7, hd, hr, -, rfl⟩
        have e0 : cs = [] := by simpa using hd.symm
        subst e0
        refine ⟨z7, ?_, rfl⟩
        rw [← hr]
        unfold sideR
        by_cases q : s = NE
        · rw [decide_eq_true q, if_pos rfl, if_pos q]
        · rw [decide_eq_false q, if_neg (by decide), if_neg q]
      · rintro d ds st ⟨cs, z7, hd, hr, f7, rfl⟩
        cases cs with
        | nil => cases hd
        | cons a cs =>
          rw [List.map_cons] at hd
          obtain ⟨rfl, rfl⟩ := List.cons.inj hd
          refine ⟨_, e_gnT f7, ?_⟩
          cases hg : getT t a with
          | none =>
            rw [sideR_none hg] at hr
            simp_all only [hg]
            rw [← hr]
            rfl
          | some x =>
            rw [sideR_some hg] at hr
            by_cases q : s = NE
            · subst q
              have hr' := (if_pos (decide_eq_true rfl)).symm.trans hr
              have dn : decide (s = s) = true := decide_eq_true rfl
              rw [dn] at hr'
              rw [dn]
              by_cases q2 : x = b
              · rw [if_pos q2] at hr'
                simp_all only [hg, q2]
                exact congrArg (fun z => Rv.d (fitD z)) hr'
              · rw [if_neg q2] at hr'
                simp_all only [hg, q2]
                exact ⟨cs, _, rfl, hr', rfl, rfl⟩
            · have hr' := (if_neg (show ¬ decide (s = NE) = true by simpa using q)).symm.trans hr
              have dn : decide (s = NE) = false := decide_eq_false q
              rw [dn] at hr'
              rw [dn]
              by_cases q2 : x = b
              · rw [if_pos q2] at hr'
                simp_all only [hg, q, q2]
                exact ⟨cs, _, rfl, hr', rfl, rfl⟩
              · rw [if_neg q2] at hr'
                simp_all only [hg, q, q2]
                exact congrArg (fun z => Rv.d (fitD z)) hr'
    rintro st ⟨z7, hr, rfl⟩
    rw [hr]
    by_cases q : s = NE
    · simp_all only [q]
      rfl
    · simp_all only [q]
      rfl
end Cz

/-! # KO -/
namespace Cz
open L2 PyProof.Rows PySem.Spec PySem
def CntOk (us : List Rl) (w : Due) (e : D) : Prop := (∃ q, e = .tup [.str "needs", cD q] ∧ w = .needs q) ∨ (∃ (k : Nat) (h : k < us.length), e = .tup [.str "counts", .int (k : Nat)] ∧ w = .prints us[k].ks) ∨ (e = .tup [.str "counts", .non] ∧ w = .prints [])
theorem enum_at {l : List D} {j : Nat} (h : j < l.length) : ∃ hj : j < (pairsD (nums l.length) l).length, (pairsD (nums l.length) l)[j] = .tup [.int (j : Nat), l[j]] := by
  have hj : j < (pairsD (nums l.length) l).length := by
    unfold pairsD nums
    simp
    exact h
  refine ⟨hj, ?_⟩
  simp only [pairsD, nums, List.getElem_map, List.getElem_zip, List.getElem_range]
theorem enum_ln {l : List D} : (pairsD (nums l.length) l).length = l.length := by
  unfold pairsD nums
  simp
theorem enum_cons {l : List D} {d : D} {ds : List D} {j : Nat} (h : d :: ds = (pairsD (nums l.length) l).drop j) : ∃ hj : j < l.length, d = .tup [.int (j : Nat), l[j]] ∧ ds = (pairsD (nums l.length) l).drop (j + 1) := by
  have hj : j < l.length := by
    refine Nat.lt_of_not_le fun z => ?_
    rw [List.drop_eq_nil_of_le (by rw [enum_ln]; exact z)] at h
    cases h
  obtain ⟨h2, e⟩ := enum_at hj
  rw [List.drop_eq_getElem_cons h2, e] at h
  obtain ⟨rfl, rfl⟩ := List.cons.inj h
  exact ⟨hj, rfl, rfl⟩
theorem enum_nil {l : List D} {j : Nat} (h : [] = (pairsD (nums l.length) l).drop j) : l.length ≤ j := by
  (have e := congrArg List.length h)
  rw [List.length_drop, enum_ln] at e
  have e' : 0 = l.length - j := e
  omega
theorem e_isn3 {d : D} : isD .non .non = some (.d (.bl true)) := rfl
theorem e_isn4 {i : Int} : isD (.int i) .non = some (.d (.bl false)) := rfl
theorem goR_same {t t' : Tl} (h : ∀ c, getT t' c = getT t c) {c : Cell} {x : Str} : ∀ {us : List Rl}, goR t' c x us = goR t c x us
  | [] => rfl
  | u :: us => by
    have hs : ∀ near b (cs : List Cell), sideR near b t' cs = sideR near b t cs := by
      intro near b cs
      induction cs with
      | nil => rfl
      | cons a cs ih =>
        unfold sideR
        rw [h a, ih]
    have hr : ruleR t' c u = ruleR t c u := by
      cases u with
      | pl _ _ => rfl
      | sd _ s b _ => exact hs _ _ _
    unfold goR
    rw [hr, goR_same h]
theorem readR_same {t t' : Tl} (h : ∀ c, getT t' c = getT t c) {c : Cell} {us : List Rl} : readR us t' c = readR us t c := by
  unfold readR
  rw [h c]
  cases getT t c with
  | none => rfl
  | some x => exact goR_same h
local macro_rules
  | `(tactic| simp_all only [$xs,*]) => `(tactic| simp (config := {decide := true}) only [mIfS, mRet, mAsg, mSetL, mNext, mDrop, mRetN, Oo.seq, Oo.out, Oo.ite, Oo.opt, Oo.nx, Oo.rt, Oo.bk, Oo.ct, Oo.no, Ok1.bind, Ok1.ok, Ok1.ite, Ok1.opt, e_var, e_rd1, e_rd2, e_rd3, e_c, e_pk1, e_pk2, e_pk3, e_pk4, e_pk5, e_pk6, e_nr1, e_nr2, e_nr3, e_fr1, e_fr2, e_fr3, e_fr4, e_fr5, e_fz1, e_fz2, e_fz3, e_fz4, e_ow, e_ow1, e_ow2, e_ls, e_ls1, e_ls2, e_pt1, e_pt2, e_fe, e_fe1, e_fe2, e_fe3,
    k_op, k_un, k_cb1, k_o1, k_o2, k_tr, k_and, k_or, k_not, k_andV, k_orV, k_notV, k_if, k_nil, k_cons, k_ref, k_tup, k_lst, e_al1, e_al2, e_mp, e_bd, k_cb, k_call, k_lm, k_yes, k_np, k_pt, k_sl, e_io, e_add1, e_add2, e_add3, e_sub, e_mul, mulOk_r, mulOk_l, e_fdiv, e_mod, e_pow, e_neg, e_lt, e_le, e_gt, e_ge, e_ltS, e_ix1, e_ix2, e_ix3, e_ix4, e_ix5, e_len1, e_len2, e_len3, e_len4, e_len5, e_bl, e_int1, e_abs, e_lst1, e_lst2, e_lst3, e_lst4, e_tup1, e_tup2, e_tup3, e_app, e_ext, e_at0, e_at1, e_at2, e_at3, e_in0, e_in1, e_in2, ex_some, k_items, k_rng1, k_rngE, e_i1, e_inr, e_ea1, e_ea2, e_ea3, e_ea4, Int.toNat_natCast, e_it1, e_it2, e_it3, e_it4, e_en1, e_en2, k_for, e_es1, e_es2, e_es3, e_nb1, e_nb2, e_rdd,
    k_callS, e_nq1, e_nq2, e_sv1, e_sv2, e_rf1, e_rf2, e_rf3, g_as1, g_as2, g_as3, g_as4, g_as5, g_as6, g_b1, g_b2, g_b3, g_b4, g_b5, g_b6, k_make, k_fld, e_fld, k_setA, e_ob1, e_pa1, e_pa2, k_asgG, e_gn, e_gnil, e_gcons, e_gtup, e_gtuk, e_gany1, e_gany2, e_gany3, k_dput, e_opk, e_opt, e_kt, e_kk1, e_kk2, e_ks1, e_ks2, e_dg1, e_dg2, e_ixk, e_din, e_dno, k_dnT, k_dnK, k_get2, e_dd1, e_dd2, e_pm1, e_pm2, k_disp, k_og, e_iob, k_oi, k_index, k_isi, k_chain, k_keys, e_fzs, k_forD, e_lo1, e_lo2, e_lb1, e_lb2, e_wi1, e_wi2, e_re1, e_re2, e_gd,
    decide_eq_true_eq, true_and, and_true, List.getElem?_cons_zero, List.getElem?_cons_succ, List.set_cons_zero, List.set_cons_succ, List.map_cons, List.map_nil, List.length_cons, List.length_nil, List.replicate_succ, List.replicate_zero, List.cons_append, List.nil_append, List.append_nil, if_true, if_false, e_mem1, e_eqI, e_neI, e_eqS, e_neS, e_ntd, y_lt1, y_lt2, y_lt3, y_lt4, y_lt5, y_tu1, y_tu2, y_tu3, y_tu4, y_tu5, y_st1, y_st2, y_in1, y_bo1, ex_bl, key_c, val_c, Option.map_none, e_is1, e_is2, e_isn1, e_isn2, Option.isSome_some, Option.isSome_none, Bool.not_true, Bool.not_false, Bool.false_eq_true, Bool.true_eq_false, Bool.not_eq_true', decide_eq_false_iff_not, $xs,*])
variable {A : Ad}
theorem counting_ok {us : List Rl} {t : Tl} {c : Cell} (h : Rules us) : OkF (f_counting_told_g A) [.fz (.tup (us.map Rl.d)), .fz (.dt (tD t)), .fz (cD c)] fun r as' => ∃ e, r = .d e ∧ CntOk us (readR us t c) e ∧ as' = [.fz (.tup (us.map Rl.d)), .fz (.dt (tD t)), .fz (cD c)] := by
  refine OkF.run rfl ?_
  unfold m_counting_told_g
  cases hg : getT t c with
  | none =>
    have e : readR us t c = .needs c := by
      unfold readR
      rw [hg]
    rw [e]
    simp_all only [hg]
    exact ⟨_, rfl, .inl ⟨c, rfl, rfl⟩⟩
  | some x =>
    have e : readR us t c = goR t c x us := by
      unfold readR
      rw [hg]
    rw [e]
    refine Oo.cut (fun st => st = [some (.fz (.tup (us.map Rl.d))), some (.fz (.dt (tD t))), some (.fz (cD c)), none, none, none]) ?_ ?_
    · simp_all only [hg]
    rintro st rfl
    have hlm : (us.map Rl.d).length = us.length := List.length_map _
    refine Oo.cut (fun st => ∃ z3 z4 z5 : Option SV, goR t c x us = .prints [] ∧ st = [some (.fz (.tup (us.map Rl.d))), some (.fz (.dt (tD t))), some (.fz (cD c)), z3, z4, z5]) ?_ ?_
    · simp_all only [true_and]
      refine Oo.loop (fun ds st => ∃ (j : Nat) (z3 z4 z5 : Option SV), ds = (pairsD (nums (us.map Rl.d).length) (us.map Rl.d)).drop j ∧ goR t c x (us.drop j) = goR t c x us ∧ feS (some z3) = true ∧ feS (some z4) = true ∧ feS (some z5) = true ∧ st = [some (.fz (.tup (us.map Rl.d))), some (.fz (.dt (tD t))), some (.fz (cD c)), z3, z4, z5]) ?_ ?_ _ _ ⟨0, none, none, none, rfl, rfl, rfl, rfl, rfl, rfl⟩
      · rintro st ⟨j, z3, z4, z5, hd, hr, -, -, -, rfl⟩
        have e0 := enum_nil hd
        rw [List.drop_eq_nil_of_le (by omega)] at hr
        exact ⟨z3, z4, z5, hr.symm, rfl⟩
      · rintro d ds st ⟨j, z3, z4, z5, hd, hr, f3, f4, f5, rfl⟩
        obtain ⟨hj, rfl, rfl⟩ := enum_cons hd
        have hj2 : j < us.length := by omega
        rw [List.getElem_map]
        rw [List.drop_eq_getElem_cons hj2] at hr
        have hu := h.o us[j] (List.getElem_mem hj2)
        refine ⟨_, e_g2 f3 (by simpa using f4), ?_⟩
        have hd0 := rl_0 us[j]
        by_cases q : us[j].c = x
        · have hr' : (match ruleR t c us[j] with
            | .yes => Due.prints us[j].ks
            | .cell e => .needs e
            | .no => goR t c x (us.drop (j + 1))) = goR t c x us := (if_pos q).symm.trans hr
          simp_all only [hd0, hg, q]
          refine OkF.use (fit_ok hu) ?_
          rintro r as' - ⟨rfl, rfl⟩
          have e1 := fit_met (ruleR t c us[j])
          have e2 := fit_unmet (ruleR t c us[j])
          cases hs : ruleR t c us[j] with
          | yes =>
            rw [hs] at hr' e1 e2
            simp_all only [e1, e2, f5]
            exact ⟨_, rfl, .inr (.inl ⟨j, hj2, rfl, hr'.symm⟩)⟩
          | cell e =>
            rw [hs] at hr' e1 e2
            simp_all only [e1, e2, f5]
            exact ⟨_, rfl, .inl ⟨e, rfl, hr'.symm⟩⟩
          | no =>
            rw [hs] at hr' e1 e2
            simp_all only [e1, e2, f5]
            exact ⟨j + 1, _, _, _, rfl, hr', rfl, rfl, rfl, rfl⟩
        · have hr' : goR t c x (us.drop (j + 1)) = goR t c x us := (if_neg q).symm.trans hr
          simp_all only [hd0, hg, q]
          exact ⟨j + 1, _, _, _, rfl, hr', rfl, rfl, f5, rfl⟩
    rintro st ⟨z3, z4, z5, hr, rfl⟩
    rw [hr]
    simp_all only [true_and]
    exact ⟨_, rfl, .inr (.inr ⟨rfl, rfl⟩)⟩
theorem inksof_k {us : List Rl} {k : Nat} (hk : k < us.length) : OkF (f_inks_of_g A) [.fz (.tup (us.map Rl.d)), .fz (.int (k : Nat))] fun r as' => r = .d (.tup (us[k].ks.map .str)) ∧ as' = [.fz (.tup (us.map Rl.d)), .fz (.int (k : Nat))] := by
  refine OkF.run rfl ?_
  unfold m_inks_of_g
  have e1 : atI (us.map Rl.d) (k : Int) = some us[k].d := atI_nat (by rw [List.getElem?_map, List.getElem?_eq_getElem hk]; rfl)
  simp_all only [e_isn4, e1, rl_last]
theorem inksof_n {us : List Rl} : OkF (f_inks_of_g A) [.fz (.tup (us.map Rl.d)), .fz .non] fun r as' => r = .d (.tup []) ∧ as' = [.fz (.tup (us.map Rl.d)), .fz .non] := by
  refine OkF.run rfl ?_
  unfold m_inks_of_g
  have e1 := e_isn3 (d := .non)
  simp_all only [e1]
theorem reading_ok {us : List Rl} {t : Tl} {c : Cell} (h : Rules us) : OkF (f_reading_g A) [.fz (.tup (us.map Rl.d)), .fz (.dt (tD t)), .fz (cD c)] fun r as' => r = .d (readR us t c).d ∧ as' = [.fz (.tup (us.map Rl.d)), .fz (.dt (tD t)), .fz (cD c)] := by
  refine OkF.run rfl ?_
  unfold m_reading_g
  refine Oo.cut (fun st => ∃ e, CntOk us (readR us t c) e ∧ st = [some (.fz (.tup (us.map Rl.d))), some (.fz (.dt (tD t))), some (.fz (cD c)), some (.fz e)]) ?_ ?_
  · simp_all only [true_and]
    refine OkF.use (counting_ok h) ?_
    rintro r as' - ⟨e, rfl, he, rfl⟩
    simp_all only [true_and]
    exact ⟨e, he, rfl⟩
  rintro st ⟨e, he, rfl⟩
  obtain ⟨NE, hNE⟩ : ∃ W : Str, W = "needs" := ⟨_, rfl⟩
  obtain ⟨CO, hCO⟩ : ∃ W : Str, W = "counts" := ⟨_, rfl⟩
  have ne : ¬ CO = NE := by
    rw [hNE, hCO]
    decide +kernel
  unfold CntOk at he
  rw [← hNE, ← hCO] at he
  rcases he with ⟨q, rfl, hw⟩ | ⟨k, hk, rfl, hw⟩ | ⟨rfl, hw⟩
  · rw [← hNE, hw]
    simp_all only [true_and]
    rw [hNE]
    rfl
  · rw [← hNE, hw]
    simp_all only [ne]
    refine OkF.use (inksof_k hk) ?_
    rintro r as' - ⟨rfl, rfl⟩
    simp_all only [true_and]
    rfl
  · rw [← hNE, hw]
    simp_all only [ne]
    refine OkF.use inksof_n ?_
    rintro r as' - ⟨rfl, rfl⟩
    simp_all only [true_and]
    rfl
/-- the book as it stands -/
def bookD (A : Ad) (us : List Rl) : D := .obj A.Book [("rules", .tup (us.map Rl.d))]
theorem readtold_ok {us : List Rl} {t : Tl} {c : Cell} {x y : D} (h : Rules us) (hx : OkF (f_by_cells_f A) [.fz x] fun r as' => r = .o (.dt false (tD t)) ∧ as' = [.fz x]) (hy : OkF (f_plain_g A) [.fz y] fun r as' => r = .d (cD c) ∧ as' = [.fz y]) : OkF (f_read_told_g A) [.fz (bookD A us), .fz x, .fz y] fun r as' => r = .d (readR us t c).d ∧ as' = [.fz (bookD A us), .fz x, .fz y] := by
  refine OkF.run rfl ?_
  unfold m_read_told_g bookD
  have e1 : List.lookup ("rules" : Str) [(("rules" : Str), D.tup (us.map Rl.d))] = some (.tup (us.map Rl.d)) := rfl
  simp_all only [e1]
  refine OkF.use hx ?_
  rintro r as' - ⟨rfl, rfl⟩
  simp_all only [true_and]
  refine OkF.use hy ?_
  rintro r as' - ⟨rfl, rfl⟩
  simp_all only [true_and]
  refine OkF.use (reading_ok h) ?_
  rintro r as' - ⟨rfl, rfl⟩
  simp_all only [true_and]
theorem plain_cell {c : Cell} : OkF (f_plain_g A) [.fz (cD c)] fun r as' => r = .d (cD c) ∧ as' = [.fz (cD c)] := by
  refine (plain_ok 6 (cD c) (.tup (by simp) fun d hd => ?_)).mono fun r as' q => ⟨q.1.trans rfl, q.2⟩
  simp only [List.mem_cons, List.not_mem_nil, or_false] at hd
  rcases hd with rfl | rfl
  · exact .int
  · exact .int
def cL (c : Cell) : D := .lst [.int c.1, .int c.2]
theorem plain_cellL {c : Cell} : OkF (f_plain_g A) [.fz (cL c)] fun r as' => r = .d (cD c) ∧ as' = [.fz (cL c)] := by
  refine (plain_ok 6 (cL c) (.lst (by simp) fun d hd => ?_)).mono fun r as' q => ⟨q.1.trans rfl, q.2⟩
  simp only [List.mem_cons, List.not_mem_nil, or_false] at hd
  rcases hd with rfl | rfl
  · exact .int
  · exact .int
theorem bycells_T {t : Tl} (hn : (keysT t).Nodup) (hl : t.length ≤ 1000) : OkF (f_by_cells_f A) [.fz (.tup (t.map tri))] fun r as' => r = .o (.dt false (tD t)) ∧ as' = [.fz (.tup (t.map tri))] :=
  bycells_ok rfl hn hl tri_cell tri_col fun p st e => by
    subst e
    rfl
theorem bycells_L {t : Tl} (hn : (keysT t).Nodup) (hl : t.length ≤ 1000) : OkF (f_by_cells_f A) [.fz (.lst (t.map triL))] fun r as' => r = .o (.dt false (tD t)) ∧ as' = [.fz (.lst (t.map triL))] :=
  bycells_ok rfl hn hl triL_cell triL_col fun p st e => by
    subst e
    rfl
end Cz

/-! # KP -/
namespace Cz
open L2 PyProof.Rows PySem.Spec PySem
inductive SmOk : Nat → D → Prop where
  | int {n : Nat} {i : Int} : SmOk (n + 1) (.int i)
  | str {n : Nat} {x : Str} : SmOk (n + 1) (.str x)
  | tup {n : Nat} {l : List D} : l.length ≤ 1000 → (∀ d ∈ l, SmOk n d) → SmOk (n + 1) (.tup l)
theorem e_is5 {x : Str} : isD (.str x) .non = some (.d (.bl false)) := rfl
theorem e_is6 {x : Str} {b : Bool} : isD (.str x) (.bl b) = some (.d (.bl false)) := rfl
theorem e_is7 {i : Int} {b : Bool} : isD (.int i) (.bl b) = some (.d (.bl false)) := rfl
theorem e_is8 {i : Int} : isD (.int i) .non = some (.d (.bl false)) := rfl
local macro_rules
  | `(tactic| simp_all only [$xs,*]) => `(tactic| simp (config := {decide := true}) only [mIfS, mRet, mAsg, mSetL, mNext, mDrop, mRetN, Oo.seq, Oo.out, Oo.ite, Oo.opt, Oo.nx, Oo.rt, Oo.bk, Oo.ct, Oo.no, Ok1.bind, Ok1.ok, Ok1.ite, Ok1.opt, e_var, e_rd1, e_rd2, e_rd3, e_c, e_pk1, e_pk2, e_pk3, e_pk4, e_pk5, e_pk6, e_nr1, e_nr2, e_nr3, e_fr1, e_fr2, e_fr3, e_fr4, e_fr5, e_fz1, e_fz2, e_fz3, e_fz4, e_ow, e_ow1, e_ow2, e_ls, e_ls1, e_ls2, e_pt1, e_pt2, e_fe, e_fe1, e_fe2, e_fe3,
    k_op, k_un, k_cb1, k_o1, k_o2, k_tr, k_and, k_or, k_not, k_andV, k_orV, k_notV, k_if, k_nil, k_cons, k_ref, k_tup, k_lst, e_al1, e_al2, e_mp, e_bd, k_cb, k_call, k_lm, k_yes, k_np, k_pt, k_sl, e_io, e_add1, e_add2, e_add3, e_sub, e_mul, mulOk_r, mulOk_l, e_fdiv, e_mod, e_pow, e_neg, e_lt, e_le, e_gt, e_ge, e_ltS, e_ix1, e_ix2, e_ix3, e_ix4, e_ix5, e_len1, e_len2, e_len3, e_len4, e_len5, e_bl, e_int1, e_abs, e_lst1, e_lst2, e_lst3, e_lst4, e_tup1, e_tup2, e_tup3, e_app, e_ext, e_at0, e_at1, e_at2, e_at3, e_in0, e_in1, e_in2, ex_some, k_items, k_rng1, k_rngE, e_i1, e_inr, e_ea1, e_ea2, e_ea3, e_ea4, Int.toNat_natCast, e_it1, e_it2, e_it3, e_it4, e_en1, e_en2, k_for, e_es1, e_es2, e_es3, e_nb1, e_nb2, e_rdd,
    k_callS, e_nq1, e_nq2, e_sv1, e_sv2, e_rf1, e_rf2, e_rf3, g_as1, g_as2, g_as3, g_as4, g_as5, g_as6, g_b1, g_b2, g_b3, g_b4, g_b5, g_b6, k_make, k_fld, e_fld, k_setA, e_ob1, e_pa1, e_pa2, k_asgG, e_gn, e_gnil, e_gcons, e_gtup, e_gtuk, e_gany1, e_gany2, e_gany3, k_dput, e_opk, e_opt, e_kt, e_kk1, e_kk2, e_ks1, e_ks2, e_dg1, e_dg2, e_ixk, e_din, e_dno, k_dnT, k_dnK, k_get2, e_dd1, e_dd2, e_pm1, e_pm2, k_disp, k_og, e_iob, k_oi, k_index, k_isi, k_chain, k_keys, e_fzs, k_forD, e_lo1, e_lo2, e_lb1, e_lb2, e_wi1, e_wi2, e_re1, e_re2, e_gd,
    decide_eq_true_eq, true_and, and_true, List.getElem?_cons_zero, List.getElem?_cons_succ, List.set_cons_zero, List.set_cons_succ, List.map_cons, List.map_nil, List.length_cons, List.length_nil, List.replicate_succ, List.replicate_zero, List.cons_append, List.nil_append, List.append_nil, if_true, if_false, e_mem1, e_eqI, e_neI, e_eqS, e_neS, e_ntd, y_lt1, y_lt2, y_lt3, y_lt4, y_lt5, y_tu1, y_tu2, y_tu3, y_tu4, y_tu5, y_st1, y_st2, y_in1, y_bo1, ex_bl, key_c, val_c, Option.map_none, e_is1, e_is2, e_isn1, e_isn2, Option.isSome_some, Option.isSome_none, Bool.not_true, Bool.not_false, Bool.false_eq_true, Bool.true_eq_false, Bool.not_eq_true', decide_eq_false_iff_not, e_is5, e_is6, e_is7, e_is8, $xs,*])
variable {A : Ad}
theorem isint_ok {i : Int} : OkF (f_l_is_int A) [.fz (.int i)] fun r as' => r = .d (.bl true) ∧ as' = [.fz (.int i)] := by
  refine OkF.run rfl ?_
  unfold m_l_is_int
  simp_all only [true_and]
theorem same_ok : ∀ (n : Nat) (d : D), SmOk n d → OkF (fr_l_same A n) [.fz d, .fz d] fun r as' => r = .d (.bl true) ∧ as' = [.fz d, .fz d]
  | 0, d, h => by cases h
  | n + 1, d, h => by
    show OkF (runN 2 3 (m_l_same A (fr_l_same A n))) _ _
    refine OkF.run rfl ?_
    unfold m_l_same
    cases h with
    | int =>
      simp_all only [true_and]
      refine OkF.use isint_ok ?_
      rintro r as' - ⟨rfl, rfl⟩
      simp_all only [true_and]
      rfl
    | str =>
      simp_all only [true_and]
      rfl
    | tup h1 h2 =>
      rename_i l
      simp_all only [true_and]
      refine Ok1.lcP (fun _ => false) id ?_
      simp_all only [e_inrN (n := l.length) (by omega)]
      refine ⟨by simp [upTo]; omega, fun e he => ?_, ?_⟩
      · obtain ⟨i, hi, rfl⟩ := upTo_in he
        have ei : atI l (i : Int) = some l[i] := atI_nat (List.getElem?_eq_getElem hi)
        refine ⟨_, e_gnT rfl, ?_⟩
        simp_all only [ei]
        refine OkF.use (same_ok n l[i] (h2 _ (List.getElem_mem hi))) ?_
        rintro r as' - ⟨rfl, rfl⟩
        simp_all only [true_and]
      · have ef : ∀ ds : List D, (ds.filter fun _ => false).map id = [] := fun ds => by simp
        simp_all only [ef]
        rfl
theorem sm_strs {n : Nat} {ks : List Str} (h : ks.length ≤ 1000) : SmOk (n + 2) (.tup (ks.map .str)) := .tup (by rw [List.length_map]; exact h) fun d hd => by
  obtain ⟨x, _, rfl⟩ := List.mem_map.mp hd
  exact .str
theorem sm_due {n : Nat} {w : Due} (h : ∀ ks, w = .prints ks → ks.length ≤ 1000) : SmOk (n + 3) w.d := by
  cases w with
  | needs c =>
    refine .tup (by simp) fun d hd => ?_
    simp only [List.mem_cons, List.not_mem_nil, or_false] at hd
    rcases hd with rfl | rfl
    · exact .str
    · refine .tup (by simp) fun d hd => ?_
      simp only [List.mem_cons, List.not_mem_nil, or_false] at hd
      rcases hd with rfl | rfl
      · exact .int
      · exact .int
  | prints ks =>
    refine .tup (by simp) fun d hd => ?_
    simp only [List.mem_cons, List.not_mem_nil, or_false] at hd
    rcases hd with rfl | rfl
    · exact .str
    · exact sm_strs (h ks rfl)
theorem goR_len {t : Tl} {c : Cell} {x : Str} : ∀ {us : List Rl} {ks : List Str}, (∀ u ∈ us, u.Ok) → goR t c x us = .prints ks → Inks ks
  | [], ks, _, e => by
    cases e
    exact ⟨.nil, by simp, fun x h => by cases h⟩
  | u :: us, ks, h, e => by
    have ih := fun e : goR t c x us = .prints ks => goR_len (us := us) (ks := ks) (fun v hv => h v (List.mem_cons_of_mem _ hv)) e
    unfold goR at e
    split at e
    · split at e
      · cases e
        exact (h u List.mem_cons_self).inks
      · cases e
      · exact ih e
    · exact ih e
theorem readR_len {us : List Rl} {t : Tl} {c : Cell} {ks : List Str} (h : Rules us) (e : readR us t c = .prints ks) : Inks ks := by
  unfold readR at e
  split at e
  · cases e
  · exact goR_len h.o e
theorem same_due {us : List Rl} {t : Tl} {c : Cell} (h : Rules us) : OkF (f_l_same A) [.fz (readR us t c).d, .fz (readR us t c).d] fun r as' => r = .d (.bl true) ∧ as' = [.fz (readR us t c).d, .fz (readR us t c).d] :=
  same_ok 6 _ (sm_due (n := 3) fun ks e => Nat.le_trans (readR_len h e).l (by decide))
/-! what is equal to itself -/
theorem deqs_refl {f : Cell × Str → D} (h : ∀ p, deq (f p) (f p) = true) : ∀ t : Tl, deqs (t.map f) (t.map f) = true
  | [] => rfl
  | p :: t => by
    show (deq (f p) (f p) && deqs (t.map f) (t.map f)) = true
    rw [h p, deqs_refl h t]
    rfl
theorem deq_tri (p : Cell × Str) : deq (tri p) (tri p) = true := by
  show ((p.1.1 == p.1.1) && ((p.1.2 == p.1.2) && ((p.2 == p.2) && true))) = true
  simp
theorem deq_cell (c : Cell) : deq (cD c) (cD c) = true := by
  show ((c.1 == c.1) && ((c.2 == c.2) && true)) = true
  simp
theorem cmpb_cell (c : Cell) : cmpb (cD c) = true := by
  unfold cmpb cD
  simp only [toPy, toPys]
  show SeqAt.shaped (.tuple [.int c.1, .int c.2]) = true
  unfold SeqAt.shaped
  simp [PyData.canLay0, PyData.canLayAll0, PyData.depth, PyData.depthAll]
theorem lay_tri : ∀ t : Tl, (∀ p ∈ t, okW p.2) → PyData.canLayAll0 (t.map triP) = true ∧ PyData.depthAll (t.map triP) ≤ 2
  | [], _ => by simp [PyData.canLayAll0, PyData.depthAll]
  | p :: t, h => by
    obtain ⟨h1, h2⟩ := lay_tri t fun q hq => h q (List.mem_cons_of_mem _ hq)
    have h3 : PyData.strOk p.2 = true := h p List.mem_cons_self
    rw [List.map_cons]
    constructor
    · simp only [PyData.canLayAll0, h1, Bool.and_true]
      simp [triP, PyData.canLay0, PyData.canLayAll0, h3]
    · simp only [PyData.depthAll]
      have : (triP p).depth ≤ 2 := by simp [triP, PyData.depth, PyData.depthAll]
      omega
theorem cmpb_tris {t : Tl} (h : ∀ p ∈ t, okW p.2) : cmpb (.tup (t.map tri)) = true := by
  obtain ⟨h1, h2⟩ := lay_tri t h
  unfold cmpb
  simp only [toPy]
  rw [toPys_tri]
  show SeqAt.shaped (.tuple (t.map triP)) = true
  unfold SeqAt.shaped
  rw [Bool.and_eq_true]
  refine ⟨by simp only [PyData.canLay0]; exact h1, decide_eq_true ?_⟩
  simp only [PyData.depth]
  omega
theorem ne_tup {l : List D} (h1 : cmpb (.tup l) = true) (h2 : deqs l l = true) : neD (.tup l) (.tup l) = some (.d (.bl false)) := by
  unfold neD eqB
  show (if cmpb (.tup l) && cmpb (.tup l) then some (deqs l l) else none).map _ = _
  rw [h1, h2]
  rfl
theorem ne_tris {t : Tl} (h : ∀ p ∈ t, okW p.2) : neD (.tup (t.map tri)) (.tup (t.map tri)) = some (.d (.bl false)) := ne_tup (cmpb_tris h) (deqs_refl deq_tri t)
theorem ne_cell (c : Cell) : neD (cD c) (cD c) = some (.d (.bl false)) := ne_tup (cmpb_cell c) (deq_cell c)
/-! lists and tuples of triples -/
theorem plL_tri {t : Tl} : (t.map tri).map (plF .lst 5) = t.map triL := by
  rw [List.map_map]
  rfl
theorem plT_tri {t : Tl} : (t.map tri).map (plF .tup 5) = t.map tri := by
  rw [List.map_map]
  rfl
theorem plT_triL {t : Tl} : (t.map triL).map (plF .tup 5) = t.map tri := by
  rw [List.map_map]
  rfl
theorem po_tri {t : Tl} : ∀ d ∈ t.map tri, PlOk 5 d := fun d hd => by
  obtain ⟨p, _, rfl⟩ := List.mem_map.mp hd
  refine .tup (by simp) fun d hd => ?_
  simp only [List.mem_cons, List.not_mem_nil, or_false] at hd
  rcases hd with rfl | rfl | rfl
  · exact .int
  · exact .int
  · exact .str
theorem po_triL {t : Tl} : ∀ d ∈ t.map triL, PlOk 5 d := fun d hd => by
  obtain ⟨p, _, rfl⟩ := List.mem_map.mp hd
  refine .lst (by simp) fun d hd => ?_
  simp only [List.mem_cons, List.not_mem_nil, or_false] at hd
  rcases hd with rfl | rfl | rfl
  · exact .int
  · exact .int
  · exact .str
theorem listed_tri {t : Tl} (hl : t.length ≤ 1000) : OkF (f_l_listed A) [.fz (.tup (t.map tri))] fun r as' => (r = .d (.lst (t.map triL)) ∨ r = .o (.lst (t.map triL))) ∧ as' = [.fz (.tup (t.map tri))] := by
  have e : plF .lst 6 (.tup (t.map tri)) = .lst (t.map triL) := congrArg D.lst plL_tri
  refine (listed_ok 6 _ (.tup (by rw [List.length_map]; exact hl) po_tri)).mono fun r as' q => ⟨?_, q.2⟩
  rcases q.1 with h | ⟨l, h, e2⟩
  · exact .inl (h.trans (congrArg Rv.d e))
  · rw [e] at e2
    cases e2
    exact .inr h
theorem tupled_tri {t : Tl} (hl : t.length ≤ 1000) : OkF (f_l_tupled A) [.fz (.tup (t.map tri))] fun r as' => r = .d (.tup (t.map tri)) ∧ as' = [.fz (.tup (t.map tri))] :=
  (tupled_ok 6 _ (.tup (by rw [List.length_map]; exact hl) po_tri)).mono fun r as' q => ⟨q.1.trans (congrArg (fun z => Rv.d (.tup z)) plT_tri), q.2⟩
theorem tupled_triL {t : Tl} (hl : t.length ≤ 1000) : OkF (f_l_tupled A) [.fz (.lst (t.map triL))] fun r as' => r = .d (.tup (t.map tri)) ∧ as' = [.fz (.lst (t.map triL))] :=
  (tupled_ok 6 _ (.lst (by rw [List.length_map]; exact hl) po_triL)).mono fun r as' q => ⟨q.1.trans (congrArg (fun z => Rv.d (.tup z)) plT_triL), q.2⟩
theorem noDs_tri : ∀ t : Tl, noDs (t.map tri) = true
  | [] => rfl
  | p :: t => by
    show (noD (tri p) && noDs (t.map tri)) = true
    rw [noDs_tri t]
    rfl
theorem snap_t {t : Tl} (hn : (keysT t).Nodup) (hl : t.length ≤ 1000) (z0 z1 : Option SV) (rest : SS) : mSnap 2 (f_l_triples A) (z0 :: z1 :: some (.br (.dt false (tD t))) :: rest) = .ok (.d (.tup ((sortT t).map tri))) (z0 :: z1 :: some (.br (.dt false (tD t))) :: rest) := by
  obtain ⟨a, s, e, as', h1, h2, h3, h4⟩ := Ok1.get (triples_ok (A := A) hn hl)
  subst h3
  exact snap_d (z := (.br (.dt false (tD t)), .dt false (tD t))) rfl rfl e ⟨as', h1⟩ (noDs_tri _)
end Cz

/-! # KQ -/
namespace Cz
open L2 PyProof.Rows PySem.Spec PySem
/-! the cells not told yet -/
def ntl (t : Tl) (a : Cell) : Nat := match getT t a with
  | none => 1
  | some _ => 0
def unt (t : Tl) : List Cell → Nat
  | [] => 0
  | a :: l => ntl t a + unt t l
theorem ntl_le {t : Tl} {e : Cell} {x : Str} (a : Cell) : ntl (putT t e x) a ≤ ntl t a := by
  unfold ntl
  rw [get_put]
  by_cases q : e = a
  · rw [if_pos q]
    exact Nat.zero_le _
  · rw [if_neg q]
    exact Nat.le_refl _
theorem unt_le {t : Tl} {e : Cell} {x : Str} : ∀ l : List Cell, unt (putT t e x) l ≤ unt t l
  | [] => Nat.le_refl _
  | a :: l => Nat.add_le_add (ntl_le a) (unt_le l)
theorem unt_lt {t : Tl} {e : Cell} {x : Str} (hn : getT t e = none) : ∀ {l : List Cell}, e ∈ l → unt (putT t e x) l + 1 ≤ unt t l
  | [], h => by cases h
  | a :: l, h => by
    have le := unt_le (t := t) (e := e) (x := x) l
    have la := ntl_le (t := t) (e := e) (x := x) a
    show ntl (putT t e x) a + unt (putT t e x) l + 1 ≤ ntl t a + unt t l
    by_cases q : e = a
    · subst q
      have e1 : ntl (putT t e x) e = 0 := by
        unfold ntl
        rw [get_put, if_pos rfl]
      have e2 : ntl t e = 1 := by
        unfold ntl
        rw [hn]
      omega
    · have hm : e ∈ l := by
        rcases List.mem_cons.mp h with h | h
        · exact absurd h q
        · exact h
      have ih := unt_lt (t := t) (e := e) (x := x) hn hm
      omega
theorem ntl_one (t : Tl) (a : Cell) : ntl t a ≤ 1 := by
  unfold ntl
  split <;> decide
theorem side_need {near : Bool} {b : Str} {t : Tl} {e : Cell} : ∀ {cs : List Cell}, sideR near b t cs = .cell e → e ∈ cs ∧ getT t e = none
  | [], h => by
    unfold sideR at h
    split at h <;> cases h
  | a :: cs, h => by
    have ih := fun z : sideR near b t cs = .cell e => side_need (cs := cs) z
    cases hg : getT t a with
    | none =>
      rw [sideR_none hg] at h
      cases h
      exact ⟨List.mem_cons_self, hg⟩
    | some x =>
      rw [sideR_some hg] at h
      split at h
      · split at h
        · cases h
        · exact ⟨List.mem_cons_of_mem _ (ih h).1, (ih h).2⟩
      · split at h
        · exact ⟨List.mem_cons_of_mem _ (ih h).1, (ih h).2⟩
        · cases h
theorem cells_ar {s : Str} {c e : Cell} (h : e ∈ cellsR s c) : e ∈ ar c := by
  unfold cellsR at h
  split at h
  · rw [List.mem_singleton.mp h]
    exact List.getElem_mem _
  · exact h
theorem go_need {t : Tl} {c e : Cell} {x : Str} : ∀ {us : List Rl}, goR t c x us = .needs e → e ∈ ar c ∧ getT t e = none
  | [], h => by cases h
  | u :: us, h => by
    have ih := fun z : goR t c x us = .needs e => go_need (us := us) z
    unfold goR at h
    split at h
    · split at h
      · cases h
      · rename_i a hr
        cases h
        cases u with
        | pl _ _ => cases hr
        | sd _ s b _ =>
          have z := side_need hr
          exact ⟨cells_ar z.1, z.2⟩
      · exact ih h
    · exact ih h
theorem read_need {us : List Rl} {t : Tl} {c e : Cell} (h : readR us t c = .needs e) : e ∈ c :: ar c ∧ getT t e = none := by
  unfold readR at h
  split at h
  · rename_i hg
    cases h
    exact ⟨List.mem_cons_self, hg⟩
  · have z := go_need h
    exact ⟨List.mem_cons_of_mem _ z.1, z.2⟩
theorem unt_five (t : Tl) (c : Cell) : unt t (c :: ar c) ≤ 5 := by
  have h := fun a => ntl_one t a
  show ntl t c + (ntl t _ + (ntl t _ + (ntl t _ + (ntl t _ + 0)))) ≤ 5
  have h1 := h c
  have h2 := h (c.1 - 1, c.2)
  have h3 := h (c.1, c.2 - 1)
  have h4 := h (c.1, c.2 + 1)
  have h5 := h (c.1 + 1, c.2)
  omega
theorem HueW.ok {x : Str} (h : HueW x) : okW x := by
  rcases h with h | rfl
  · exact h.ok
  · decide +kernel
local macro_rules
  | `(tactic| simp_all only [$xs,*]) => `(tactic| simp (config := {decide := true}) only [mIfS, mRet, mAsg, mSetL, mNext, mDrop, mRetN, Oo.seq, Oo.out, Oo.ite, Oo.opt, Oo.nx, Oo.rt, Oo.bk, Oo.ct, Oo.no, Ok1.bind, Ok1.ok, Ok1.ite, Ok1.opt, e_var, e_rd1, e_rd2, e_rd3, e_c, e_pk1, e_pk2, e_pk3, e_pk4, e_pk5, e_pk6, e_nr1, e_nr2, e_nr3, e_fr1, e_fr2, e_fr3, e_fr4, e_fr5, e_fz1, e_fz2, e_fz3, e_fz4, e_ow, e_ow1, e_ow2, e_ls, e_ls1, e_ls2, e_pt1, e_pt2, e_fe, e_fe1, e_fe2, e_fe3,
    k_op, k_un, k_cb1, k_o1, k_o2, k_tr, k_and, k_or, k_not, k_andV, k_orV, k_notV, k_if, k_nil, k_cons, k_ref, k_tup, k_lst, e_al1, e_al2, e_mp, e_bd, k_cb, k_call, k_lm, k_yes, k_np, k_pt, k_sl, e_io, e_add1, e_add2, e_add3, e_sub, e_mul, mulOk_r, mulOk_l, e_fdiv, e_mod, e_pow, e_neg, e_lt, e_le, e_gt, e_ge, e_ltS, e_ix1, e_ix2, e_ix3, e_ix4, e_ix5, e_len1, e_len2, e_len3, e_len4, e_len5, e_bl, e_int1, e_abs, e_lst1, e_lst2, e_lst3, e_lst4, e_tup1, e_tup2, e_tup3, e_app, e_ext, e_at0, e_at1, e_at2, e_at3, e_in0, e_in1, e_in2, ex_some, k_items, k_rng1, k_rngE, e_i1, e_inr, e_ea1, e_ea2, e_ea3, e_ea4, Int.toNat_natCast, e_it1, e_it2, e_it3, e_it4, e_en1, e_en2, k_for, e_es1, e_es2, e_es3, e_nb1, e_nb2, e_rdd,
    k_callS, e_nq1, e_nq2, e_sv1, e_sv2, e_rf1, e_rf2, e_rf3, g_as1, g_as2, g_as3, g_as4, g_as5, g_as6, g_b1, g_b2, g_b3, g_b4, g_b5, g_b6, k_make, k_fld, e_fld, k_setA, e_ob1, e_pa1, e_pa2, k_asgG, e_gn, e_gnil, e_gcons, e_gtup, e_gtuk, e_gany1, e_gany2, e_gany3, k_dput, e_opk, e_opt, e_kt, e_kk1, e_kk2, e_ks1, e_ks2, e_dg1, e_dg2, e_ixk, e_din, e_dno, k_dnT, k_dnK, k_get2, e_dd1, e_dd2, e_pm1, e_pm2, k_disp, k_og, e_iob, k_oi, k_index, k_isi, k_chain, k_keys, e_fzs, k_forD, e_lo1, e_lo2, e_lb1, e_lb2, e_wi1, e_wi2, e_re1, e_re2, e_gd,
    decide_eq_true_eq, true_and, and_true, List.getElem?_cons_zero, List.getElem?_cons_succ, List.set_cons_zero, List.set_cons_succ, List.map_cons, List.map_nil, List.length_cons, List.length_nil, List.replicate_succ, List.replicate_zero, List.cons_append, List.nil_append, List.append_nil, if_true, if_false, e_mem1, e_eqI, e_neI, e_eqS, e_neS, e_ntd, y_lt1, y_lt2, y_lt3, y_lt4, y_lt5, y_tu1, y_tu2, y_tu3, y_tu4, y_tu5, y_st1, y_st2, y_in1, y_bo1, ex_bl, key_c, val_c, Option.map_none, e_is1, e_is2, e_isn1, e_isn2, Option.isSome_some, Option.isSome_none, Bool.not_true, Bool.not_false, Bool.false_eq_true, Bool.true_eq_false, Bool.not_eq_true', decide_eq_false_iff_not, e_is5, e_is6, e_is7, e_is8, $xs,*])
variable {A : Ad}
/-- a value that is frozen when it is handed on -/
def Fzs (z : SV) (d : D) : Prop := z = .fz d ∨ ∃ l, z = .ow (.lst l) ∧ d = .lst l
theorem led_ok {b : Int × Int × Int} {us : List Rl} {t : Tl} {c : Cell} {cs : List Str} (h : Rules us) (hc1 : 1 ≤ cs.length) (hc2 : cs.length ≤ 20) (hcs : ∀ x ∈ cs, HueW x) (ht : Told cs c t) (htl : t.length ≤ 9) :
    OkF (f_l_led A) [.br (.lst (bagD b)), .fz (.lst (us.map Rl.d)), .br (.dt false (tD t)), .fz (cD c), .fz (.lst (cs.map .str))] fun r as' => ∃ (ks : List Str) (t' : Tl) (g : Int × Int × Int), r = .d (.tup (ks.map .str)) ∧ as' = [.br (.lst (bagD g)), .fz (.lst (us.map Rl.d)), .br (.dt false (tD t')), .fz (cD c), .fz (.lst (cs.map .str))] ∧ readR us t' c = .prints ks ∧ Told cs c t' ∧ t'.length ≤ 15 := by
  have hl := h.l
  refine OkF.run rfl ?_
  unfold m_l_led
  refine Oo.cut (fun st => st = [some (.br (.lst (bagD b))), some (.fz (.lst (us.map Rl.d))), some (.br (.dt false (tD t))), some (.fz (cD c)), some (.fz (.lst (cs.map .str))), some (.ow (.obj A.Book [("rules", .tup (us.map Rl.d))])), none, none, none, none]) ?_ ?_
  · simp_all only [true_and]
    refine OkF.use (listed_rules h) ?_
    rintro r as' - ⟨hr, rfl⟩
    rcases hr with rfl | rfl
    all_goals
      simp_all only [true_and]
      refine OkF.use (book_init_ok h (plain_rulesL h)) ?_
      rintro r as' - ⟨rfl, rfl⟩
      simp_all only [true_and]
      refine ⟨_, _, rfl, _, rfl, ?_⟩
      simp_all only [true_and]
  rintro st rfl
  refine Oo.cut (fun st => False) ?_ (fun st z => z.elim)
  simp_all only [e_inrN (n := 6) (by decide)]
  refine Oo.loop (fun ds st => ∃ (t : Tl) (g : Int × Int × Int) (z5 : SV) (z6 z7 z8 z9 : Option SV), (∀ d ∈ ds, ∃ i : Nat, d = D.int (i : Nat)) ∧ unt t (c :: ar c) + 1 ≤ ds.length ∧ Told cs c t ∧ t.length + ds.length ≤ 15 ∧ (z5 = .ow (.obj A.Book [("rules", .tup (us.map Rl.d))]) ∨ z5 = .fz (bookD A us)) ∧ feS (some z6) = true ∧ feS (some z7) = true ∧ feS (some z8) = true ∧ feS (some z9) = true ∧
    st = [some (.br (.lst (bagD g))), some (.fz (.lst (us.map Rl.d))), some (.br (.dt false (tD t))), some (.fz (cD c)), some (.fz (.lst (cs.map .str))), some z5, z6, z7, z8, z9]) ?_ ?_ _ _ ⟨t, b, _, none, none, none, none, fun d hd => ?_, ?_, ht, ?_, .inl rfl, rfl, rfl, rfl, rfl, rfl⟩
  · rintro st ⟨t, g, z5, z6, z7, z8, z9, -, hu, -⟩
    have hu' : unt t (c :: ar c) + 1 ≤ 0 := hu
    omega
  · rintro d ds st ⟨t, g, z5, z6, z7, z8, z9, hd, hu, ht, htl, h5, f6, f7, f8, f9, rfl⟩
    obtain ⟨i, rfl⟩ := hd d List.mem_cons_self
    have hd' : ∀ d ∈ ds, ∃ i : Nat, d = D.int (i : Nat) := fun d h => hd d (List.mem_cons_of_mem _ h)
    have hu' : unt t (c :: ar c) + 1 ≤ ds.length + 1 := hu
    have htl' : t.length + (ds.length + 1) ≤ 15 := htl
    refine ⟨_, e_gnT f6, ?_⟩
    have tl : t.length ≤ 1000 := by omega
    have sl : (sortT t).length ≤ 1000 := by
      rw [(sortT_perm t).length_eq]
      exact tl
    have sn : (keysT (sortT t)).Nodup := ((sortT_perm t).map (fun p : Cell × Str => p.1)).nodup_iff.mpr ht.n
    have gs : ∀ a, getT (sortT t) a = getT t a := get_perm ht.n (sortT_perm t)
    have ok : ∀ p ∈ sortT t, okW p.2 := fun p hp => (hcs _ (ht.v p ((sortT_perm t).mem_iff.mp hp))).ok
    have sp := snap_t (A := A) ht.n tl
    refine Oo.cut (fun st => st = [some (.br (.lst (bagD g))), some (.fz (.lst (us.map Rl.d))), some (.br (.dt false (tD t))), some (.fz (cD c)), some (.fz (.lst (cs.map .str))), some z5, some (.fz (.int (i : Nat))), some (.fz (readR us t c).d), z8, z9]) ?_ ?_
    · simp_all only [f7]
      refine OkF.use (read_ok h) ?_
      rintro r as' - ⟨rfl, rfl⟩
      simp_all only [f7]
    rintro st rfl
    refine Oo.cut (fun st => ∃ (z8 : SV) (x8 : D), Fzs z8 x8 ∧ (OkF (f_by_cells_f A) [.fz x8] fun r as' => r = .o (.dt false (tD (sortT t))) ∧ as' = [.fz x8]) ∧ (OkF (f_l_tupled A) [.fz x8] fun r as' => r = .d (.tup ((sortT t).map tri)) ∧ as' = [.fz x8]) ∧
      st = [some (.br (.lst (bagD g))), some (.fz (.lst (us.map Rl.d))), some (.br (.dt false (tD t))), some (.fz (cD c)), some (.fz (.lst (cs.map .str))), some z5, some (.fz (.int (i : Nat))), some (.fz (readR us t c).d), some z8, z9]) ?_ ?_
    · simp_all only [f8]
      split
      · simp_all only [sp]
        refine OkF.use (listed_tri sl) ?_
        rintro r as' - ⟨rfl | rfl, rfl⟩
        · simp_all only [f8]
          exact ⟨_, _, .inl rfl, bycells_L sn sl, tupled_triL sl, rfl⟩
        · simp_all only [f8]
          exact ⟨_, _, .inr ⟨_, rfl, rfl⟩, bycells_L sn sl, tupled_triL sl, rfl⟩
      · simp_all only [sp, f8]
        exact ⟨_, _, .inl rfl, bycells_T sn sl, tupled_tri sl, rfl⟩
    rintro st ⟨z8, x8, h8, hby, htp, rfl⟩
    refine Oo.cut (fun st => ∃ (z9 : SV) (y9 : D), Fzs z9 y9 ∧ (OkF (f_plain_g A) [.fz y9] fun r as' => r = .d (cD c) ∧ as' = [.fz y9]) ∧ tupD y9 = some (.d (cD c)) ∧
      st = [some (.br (.lst (bagD g))), some (.fz (.lst (us.map Rl.d))), some (.br (.dt false (tD t))), some (.fz (cD c)), some (.fz (.lst (cs.map .str))), some z5, some (.fz (.int (i : Nat))), some (.fz (readR us t c).d), some z8, some z9]) ?_ ?_
    · have el : listD (cD c) = some (.o (.lst [.int c.1, .int c.2])) := rfl
      simp_all only [f9]
      split
      · simp_all only [el, f9]
        exact ⟨_, _, .inr ⟨_, rfl, rfl⟩, plain_cellL, rfl, rfl⟩
      · exact ⟨_, _, .inl rfl, plain_cell, rfl, rfl⟩
    rintro st ⟨z9, y9, h9, hpl, htu, rfl⟩
    have hrd := readR_same (us := us) (c := c) gs
    refine Oo.cut (fun st => st = [some (.br (.lst (bagD g))), some (.fz (.lst (us.map Rl.d))), some (.br (.dt false (tD t))), some (.fz (cD c)), some (.fz (.lst (cs.map .str))), some (.fz (bookD A us)), some (.fz (.int (i : Nat))), some (.fz (readR us t c).d), some (.fz x8), some (.fz y9)]) ?_ ?_
    · rcases h5 with rfl | rfl <;> rcases h8 with rfl | ⟨l8, rfl, rfl⟩ <;> rcases h9 with rfl | ⟨l9, rfl, rfl⟩
      all_goals
        simp_all only [true_and]
        refine OkF.use (readtold_ok h hby hpl) ?_
        rintro r as' - ⟨rfl, rfl⟩
        rw [hrd]
        simp_all only [true_and]
        refine OkF.use (same_due h) ?_
        rintro r as' - ⟨rfl, rfl⟩
        simp_all only [true_and]
        all_goals rfl
    rintro st rfl
    refine Oo.cut (fun st => st = [some (.br (.lst (bagD g))), some (.fz (.lst (us.map Rl.d))), some (.br (.dt false (tD t))), some (.fz (cD c)), some (.fz (.lst (cs.map .str))), some (.fz (bookD A us)), some (.fz (.int (i : Nat))), some (.fz (readR us t c).d), some (.fz x8), some (.fz y9)]) ?_ ?_
    · simp_all only [true_and]
      refine OkF.use htp ?_
      rintro r as' - ⟨rfl, rfl⟩
      simp_all only [sp, ne_tris ok, htu, ne_cell]
    rintro st rfl
    obtain ⟨NE, hNE⟩ : ∃ W : Str, W = "prints" := ⟨_, rfl⟩
    rw [← hNE]
    cases hw : readR us t c with
    | prints ks =>
      have ed : (Due.prints ks).d = .tup [.str NE, .tup (ks.map .str)] := by
        rw [hNE]
        rfl
      rw [ed]
      simp_all only [true_and]
      exact ⟨ks, t, g, rfl, rfl, hw, ht, by omega⟩
    | needs e =>
      obtain ⟨NC, hNC⟩ : ∃ W : Str, W = "needs" := ⟨_, rfl⟩
      have ed : (Due.needs e).d = .tup [.str NC, cD e] := by
        rw [hNC]
        rfl
      have nn : ¬ NC = NE := by
        rw [hNE, hNC]
        decide +kernel
      rw [ed]
      obtain ⟨hm, hn⟩ := read_need hw
      simp_all only [nn]
      refine OkF.use (one_of_ok (l := cs.map .str) rfl (by rw [List.length_map]; omega) (by rw [List.length_map]; omega)) ?_
      rintro r as' - ⟨x, g', rfl, rfl, hx⟩
      obtain ⟨x, hy, rfl⟩ := List.mem_map.mp hx
      have lt : (tD t).length < 100000 := by rw [len_tD]; omega
      simp_all only [lt, key_c, put_c]
      have lp := len_put t e x
      have lu := unt_lt (x := x) hn hm
      have hne : Near c e := by
        rcases List.mem_cons.mp hm with h | h
        · rw [h]
          exact near_self c
        · exact near_ar h
      exact ⟨putT t e x, g', _, _, _, _, _, hd', by omega, ht.put hy hne, by omega, .inr rfl, rfl, rfl, rfl, rfl, rfl⟩
  · obtain ⟨i, _, e⟩ := upTo_in hd
    exact ⟨i, e⟩
  · have := unt_five t c
    simp [upTo]
    omega
  · simp [upTo]
    omega
end Cz

/-! # KR -/
namespace Cz
open L2 PyProof.Rows PySem.Spec PySem
/-! ## the printed page -/
def pg (p : Tl) (e : Cell) : Str := (getT p e).getD "white"
def fitP (u : Rl) (x : Str) (vs : List Str) : Bool := decide (u.c = x) && match u with
  | .pl _ _ => true
  | .sd _ s b _ => if s = "near" then decide (b ∈ vs) else if s = "hemmed" then decide (vs = [b, b, b, b]) else decide (vs[sI s]? = some b)
def goP (x : Str) (vs : List Str) : List Rl → List Str
  | [] => []
  | u :: us => if fitP u x vs = true then u.ks else goP x vs us
def printP (us : List Rl) (p : Tl) (c : Cell) : List Str := goP (pg p c) ((ar c).map (pg p)) us
theorem side_page {near : Bool} {b : Str} {t p : Tl} (h : ∀ e x, getT t e = some x → pg p e = x) : ∀ {cs : List Cell}, (sideR near b t cs = .yes → if near = true then b ∈ cs.map (pg p) else ∀ e ∈ cs, pg p e = b) ∧ (sideR near b t cs = .no → if near = true then b ∉ cs.map (pg p) else ∃ e ∈ cs, pg p e ≠ b)
  | [] => by
    unfold sideR
    cases near <;> simp
  | a :: cs => by
    have ih := side_page (near := near) (b := b) h (cs := cs)
    cases hg : getT t a with
    | none =>
      rw [sideR_none hg]
      exact ⟨(fun z => by cases z), (fun z => by cases z)⟩
    | some x =>
      rw [sideR_some hg]
      have hx := h a x hg
      cases near with
      | true =>
        simp only [if_true] at ih ⊢
        by_cases q : x = b
        · rw [if_pos q]
          refine ⟨fun _ => ?_, (fun z => by cases z)⟩
          rw [List.map_cons, hx, q]
          exact List.mem_cons_self
        · rw [if_neg q]
          (refine ⟨fun z => ?_, fun z => ?_⟩)
          · rw [List.map_cons]
            exact List.mem_cons_of_mem _ (ih.1 z)
          · rw [List.map_cons, List.mem_cons, hx]
            rintro (w | w)
            · exact q w.symm
            · exact ih.2 z w
      | false =>
        simp only [Bool.false_eq_true, if_false] at ih ⊢
        by_cases q : x = b
        · rw [if_pos q]
          (refine ⟨fun z => ?_, fun z => ?_⟩)
          · intro e he
            (rcases List.mem_cons.mp he with rfl | he)
            · exact hx.trans q
            · exact ih.1 z e he
          · obtain ⟨e, he, w⟩ := ih.2 z
            exact ⟨e, List.mem_cons_of_mem _ he, w⟩
        · rw [if_neg q]
          exact ⟨(fun z => by cases z), fun _ => ⟨a, List.mem_cons_self, fun w => q (hx.symm.trans w)⟩⟩
theorem six_cases : ∀ s ∈ sixS, s = "near" ∨ (s ≠ "near" ∧ s = "hemmed" ∧ s ∉ four) ∨ (s ≠ "near" ∧ s ≠ "hemmed" ∧ s ∈ four) := by decide +kernel
theorem near_four : ("near" : Str) ∉ four := by decide +kernel
theorem rule_page {u : Rl} {t p : Tl} {c : Cell} (hu : u.Ok) (h : ∀ e x, getT t e = some x → pg p e = x) (hc : u.c = pg p c) : (ruleR t c u = .yes → fitP u (pg p c) ((ar c).map (pg p)) = true) ∧ (ruleR t c u = .no → fitP u (pg p c) ((ar c).map (pg p)) = false) := by
  unfold fitP
  rw [decide_eq_true hc, Bool.true_and]
  cases u with
  | pl _ _ => exact ⟨fun _ => rfl, (fun z => by cases z)⟩
  | sd c0 s b ks =>
    have hs := hu.2.1
    have z := side_page (near := isNear s) (b := b) h (cs := cellsR s c)
    show (sideR (isNear s) b t (cellsR s c) = .yes → (if s = "near" then decide (b ∈ (ar c).map (pg p)) else if s = "hemmed" then decide ((ar c).map (pg p) = [b, b, b, b]) else decide (((ar c).map (pg p))[sI s]? = some b)) = true) ∧ (sideR (isNear s) b t (cellsR s c) = .no → (if s = "near" then decide (b ∈ (ar c).map (pg p)) else if s = "hemmed" then decide ((ar c).map (pg p) = [b, b, b, b]) else decide (((ar c).map (pg p))[sI s]? = some b)) = false)
    rcases six_cases s hs with q | ⟨q1, q2, q3⟩ | ⟨q1, q2, q3⟩
    · have ec : cellsR s c = ar c := by
        unfold cellsR
        rw [q, if_neg near_four]
      have en : isNear s = true := decide_eq_true q
      rw [en, ec] at z
      rw [if_pos rfl, if_pos rfl] at z
      rw [en, ec, if_pos q]
      exact ⟨fun w => decide_eq_true (z.1 w), fun w => decide_eq_false (z.2 w)⟩
    · have ec : cellsR s c = ar c := by
        unfold cellsR
        rw [if_neg q3]
      have en : isNear s = false := decide_eq_false q1
      rw [en, ec] at z
      rw [if_neg (by decide), if_neg (by decide)] at z
      rw [en, ec, if_neg q1, if_pos q2]
      refine ⟨fun w => decide_eq_true ?_, fun w => decide_eq_false ?_⟩
      · have y := z.1 w
        show [pg p _, pg p _, pg p _, pg p _] = [b, b, b, b]
        rw [y (c.1 - 1, c.2) (by simp [ar]), y (c.1, c.2 - 1) (by simp [ar]), y (c.1, c.2 + 1) (by simp [ar]), y (c.1 + 1, c.2) (by simp [ar])]
      · obtain ⟨e, he, w⟩ := z.2 w
        intro y
        have me : pg p e ∈ (ar c).map (pg p) := List.mem_map_of_mem he
        rw [y] at me
        simp only [List.mem_cons, List.not_mem_nil, or_false, or_self] at me
        exact w me
    · have hi := sI_lt s
      have ec : cellsR s c = [(ar c)[sI s]'(sI_lt s)] := by
        unfold cellsR
        rw [if_pos q3]
      have en : isNear s = false := decide_eq_false q1
      rw [en, ec] at z
      rw [if_neg (by decide), if_neg (by decide)] at z
      rw [en, ec, if_neg q1, if_neg q2]
      have eg : ((ar c).map (pg p))[sI s]? = some (pg p ((ar c)[sI s]'(sI_lt s))) := by
        rw [List.getElem?_map, List.getElem?_eq_getElem (show sI s < (ar c).length from hi)]
        rfl
      rw [eg]
      refine ⟨fun w => decide_eq_true ?_, fun w => decide_eq_false ?_⟩
      · rw [z.1 w _ List.mem_cons_self]
      · obtain ⟨e, he, w⟩ := z.2 w
        rw [List.mem_singleton.mp he] at w
        exact fun y => w (Option.some.inj y)
theorem go_page {t p : Tl} {c : Cell} {ks : List Str} (h : ∀ e x, getT t e = some x → pg p e = x) : ∀ {us : List Rl}, (∀ u ∈ us, u.Ok) → goR t c (pg p c) us = .prints ks → goP (pg p c) ((ar c).map (pg p)) us = ks
  | [], _, e => by
    cases e
    rfl
  | u :: us, ho, e => by
    have ih := fun z : goR t c (pg p c) us = .prints ks => go_page h (us := us) (fun v hv => ho v (List.mem_cons_of_mem _ hv)) z
    unfold goR at e
    unfold goP
    by_cases q : u.c = pg p c
    · rw [if_pos q] at e
      have z := rule_page (ho u List.mem_cons_self) h q
      split at e
      · rename_i hr
        cases e
        rw [if_pos (z.1 hr)]
      · cases e
      · rename_i hr
        rw [z.2 hr, if_neg (by decide)]
        exact ih e
    · rw [if_neg q] at e
      have ef : fitP u (pg p c) ((ar c).map (pg p)) = false := by
        unfold fitP
        rw [decide_eq_false q, Bool.false_and]
      rw [ef, if_neg (by decide)]
      exact ih e
theorem read_page {us : List Rl} {t p : Tl} {c : Cell} {ks : List Str} (hr : Rules us) (h : ∀ e x, getT t e = some x → pg p e = x) (e : readR us t c = .prints ks) : printP us p c = ks := by
  unfold readR at e
  split at e
  · cases e
  · rename_i x hg
    have hx := h c x hg
    rw [← hx] at e
    exact go_page h hr.o e
end Cz

/-! # KS -/
namespace Cz
open L2 PyProof.Rows PySem.Spec PySem
structure Page (cs : List Str) (c : Cell) (t p : Tl) : Prop where
  n : (keysT p).Nodup
  v : ∀ q ∈ p, q.2 ∈ cs ∧ q.2 ≠ "white"
  k : ∀ q ∈ p, Near c q.1
  l : p.length ≤ 60
  t : ∀ e x, getT t e = some x → pg p e = x
theorem keys_mem {t : Tl} {e : Cell} : e ∈ keysT t ↔ ∃ x, getT t e = some x := by
  constructor
  · exact get_some
  · rintro ⟨x, h⟩
    exact List.mem_map_of_mem (f := (·.1)) (get_mem h)
local macro_rules
  | `(tactic| simp_all only [$xs,*]) => `(tactic| simp (config := {decide := true}) only [mIfS, mRet, mAsg, mSetL, mNext, mDrop, mRetN, Oo.seq, Oo.out, Oo.ite, Oo.opt, Oo.nx, Oo.rt, Oo.bk, Oo.ct, Oo.no, Ok1.bind, Ok1.ok, Ok1.ite, Ok1.opt, e_var, e_rd1, e_rd2, e_rd3, e_c, e_pk1, e_pk2, e_pk3, e_pk4, e_pk5, e_pk6, e_nr1, e_nr2, e_nr3, e_fr1, e_fr2, e_fr3, e_fr4, e_fr5, e_fz1, e_fz2, e_fz3, e_fz4, e_ow, e_ow1, e_ow2, e_ls, e_ls1, e_ls2, e_pt1, e_pt2, e_fe, e_fe1, e_fe2, e_fe3,
    k_op, k_un, k_cb1, k_o1, k_o2, k_tr, k_and, k_or, k_not, k_andV, k_orV, k_notV, k_if, k_nil, k_cons, k_ref, k_tup, k_lst, e_al1, e_al2, e_mp, e_bd, k_cb, k_call, k_lm, k_yes, k_np, k_pt, k_sl, e_io, e_add1, e_add2, e_add3, e_sub, e_mul, mulOk_r, mulOk_l, e_fdiv, e_mod, e_pow, e_neg, e_lt, e_le, e_gt, e_ge, e_ltS, e_ix1, e_ix2, e_ix3, e_ix4, e_ix5, e_len1, e_len2, e_len3, e_len4, e_len5, e_bl, e_int1, e_abs, e_lst1, e_lst2, e_lst3, e_lst4, e_tup1, e_tup2, e_tup3, e_app, e_ext, e_at0, e_at1, e_at2, e_at3, e_in0, e_in1, e_in2, ex_some, k_items, k_rng1, k_rngE, e_i1, e_inr, e_ea1, e_ea2, e_ea3, e_ea4, Int.toNat_natCast, e_it1, e_it2, e_it3, e_it4, e_en1, e_en2, k_for, e_es1, e_es2, e_es3, e_nb1, e_nb2, e_rdd,
    k_callS, e_nq1, e_nq2, e_sv1, e_sv2, e_rf1, e_rf2, e_rf3, g_as1, g_as2, g_as3, g_as4, g_as5, g_as6, g_b1, g_b2, g_b3, g_b4, g_b5, g_b6, k_make, k_fld, e_fld, k_setA, e_ob1, e_pa1, e_pa2, k_asgG, e_gn, e_gnil, e_gcons, e_gtup, e_gtuk, e_gany1, e_gany2, e_gany3, k_dput, e_opk, e_opt, e_kt, e_kk1, e_kk2, e_ks1, e_ks2, e_dg1, e_dg2, e_ixk, e_din, e_dno, k_dnT, k_dnK, k_get2, e_dd1, e_dd2, e_pm1, e_pm2, k_disp, k_og, e_iob, k_oi, k_index, k_isi, k_chain, k_keys, e_fzs, k_forD, e_lo1, e_lo2, e_lb1, e_lb2, e_wi1, e_wi2, e_re1, e_re2, e_gd,
    decide_eq_true_eq, true_and, and_true, List.getElem?_cons_zero, List.getElem?_cons_succ, List.set_cons_zero, List.set_cons_succ, List.map_cons, List.map_nil, List.length_cons, List.length_nil, List.replicate_succ, List.replicate_zero, List.cons_append, List.nil_append, List.append_nil, if_true, if_false, e_mem1, e_eqI, e_neI, e_eqS, e_neS, e_ntd, y_lt1, y_lt2, y_lt3, y_lt4, y_lt5, y_tu1, y_tu2, y_tu3, y_tu4, y_tu5, y_st1, y_st2, y_in1, y_bo1, ex_bl, key_c, val_c, Option.map_none, e_is1, e_is2, e_isn1, e_isn2, Option.isSome_some, Option.isSome_none, Bool.not_true, Bool.not_false, Bool.false_eq_true, Bool.true_eq_false, Bool.not_eq_true', decide_eq_false_iff_not, e_is5, e_is6, e_is7, e_is8, $xs,*])
variable {A : Ad}
theorem otherpage_ok {b : Int × Int × Int} {t : Tl} {c : Cell} {cs : List Str} (hc1 : 1 ≤ cs.length) (hc2 : cs.length ≤ 20) (ht : Told cs c t) (htl : t.length ≤ 15) :
    OkF (f_l_other_page A) [.br (.lst (bagD b)), .fz (.dt (tD t)), .fz (cD c), .fz (.lst (cs.map .str))] fun r as' => ∃ (p : Tl) (g : Int × Int × Int), r = .o (.dt false (tD p)) ∧ as' = [.br (.lst (bagD g)), .fz (.dt (tD t)), .fz (cD c), .fz (.lst (cs.map .str))] ∧ Page cs c t p := by
  refine OkF.run rfl ?_
  unfold m_l_other_page
  refine Oo.cut (fun st => st = [some (.br (.lst (bagD b))), some (.fz (.dt (tD t))), some (.fz (cD c)), some (.fz (.lst (cs.map .str))), some (.ow (.dt false (tD []))), none, none, none]) ?_ ?_
  · simp_all only [true_and]
    rfl
  rintro st rfl
  refine Oo.cut (fun st => ∃ (q : Tl) (g : Int × Int × Int) (z5 z6 : Option SV), Told cs c q ∧ q.length ≤ 12 ∧ feS (some z6) = true ∧ st = [some (.br (.lst (bagD g))), some (.fz (.dt (tD t))), some (.fz (cD c)), some (.fz (.lst (cs.map .str))), some (.ow (.dt false (tD q))), z5, z6, none]) ?_ ?_
  · simp_all only [e_inrN (n := 12) (by decide)]
    refine Oo.loop (fun ds st => ∃ (q : Tl) (g : Int × Int × Int) (z5 z6 : Option SV), Told cs c q ∧ q.length + ds.length ≤ 12 ∧ feS (some z5) = true ∧ feS (some z6) = true ∧ st = [some (.br (.lst (bagD g))), some (.fz (.dt (tD t))), some (.fz (cD c)), some (.fz (.lst (cs.map .str))), some (.ow (.dt false (tD q))), z5, z6, none]) ?_ ?_ _ _ ⟨[], b, none, none, ⟨List.nodup_nil, (fun p hp => by cases hp), (fun p hp => by cases hp)⟩, by simp [upTo], rfl, rfl, rfl⟩
    · rintro st ⟨q, g, z5, z6, hq, hl, -, f6, rfl⟩
      exact ⟨q, g, z5, z6, hq, hl, f6, rfl⟩
    · rintro d ds st ⟨q, g, z5, z6, hq, hl, f5, f6, rfl⟩
      have hl' : q.length + (ds.length + 1) ≤ 12 := hl
      refine ⟨_, e_gnT f5, ?_⟩
      have e0 : ixD (cD c) (.int 0) = some (.d (.int c.1)) := rfl
      have e1 : ixD (cD c) (.int 1) = some (.d (.int c.2)) := rfl
      simp_all only [e0]
      refine OkF.use (pick_ok (n := 7) (by decide) (by decide)) ?_
      rintro r as' - ⟨k1, g', rfl, rfl, k10, k11⟩
      simp_all only [e1]
      refine OkF.use (pick_ok (n := 7) (by decide) (by decide)) ?_
      rintro r as' - ⟨k2, g', rfl, rfl, k20, k21⟩
      simp_all only [f6]
      refine OkF.use (one_of_ok (l := cs.map .str) rfl (by rw [List.length_map]; omega) (by rw [List.length_map]; omega)) ?_
      rintro r as' - ⟨x, g', rfl, rfl, hx⟩
      obtain ⟨x, hy, rfl⟩ := List.mem_map.mp hx
      have lt : (tD q).length < 100000 := by rw [len_tD]; omega
      simp_all only [lt]
      have lp := len_put q (c.1 + k1 - 3, c.2 + k2 - 3) x
      refine ⟨putT q (c.1 + k1 - 3, c.2 + k2 - 3) x, g', some (.fz d), some (.fz (cD (c.1 + k1 - 3, c.2 + k2 - 3))), hq.put hy (by unfold Near; simp only []; omega), by omega, rfl, rfl, ?_⟩
      rw [← put_c]
      rfl
  rintro st ⟨q, g, z5, z6, hq, ql, f6, rfl⟩
  refine Oo.cut (fun st => ∃ (q : Tl) (z6 : Option SV), Told cs c q ∧ q.length ≤ 27 ∧ (∀ e x, getT t e = some x → getT q e = some x) ∧ feS (some z6) = true ∧ st = [some (.br (.lst (bagD g))), some (.fz (.dt (tD t))), some (.fz (cD c)), some (.fz (.lst (cs.map .str))), some (.ow (.dt false (tD q))), z5, z6, none]) ?_ ?_
  · simp_all only [keys_tD]
    refine Oo.loop (fun ds st => ∃ (q : Tl) (es : List Cell) (z6 : Option SV), ds = es.map cD ∧ (∀ e ∈ es, e ∈ keysT t) ∧ (∀ e x, e ∉ es → getT t e = some x → getT q e = some x) ∧ Told cs c q ∧ q.length + ds.length ≤ 27 ∧ feS (some z6) = true ∧ st = [some (.br (.lst (bagD g))), some (.fz (.dt (tD t))), some (.fz (cD c)), some (.fz (.lst (cs.map .str))), some (.ow (.dt false (tD q))), z5, z6, none]) ?_ ?_ _ _ ⟨q, keysT t, z6, rfl, fun e h => h, (fun e x h1 h2 => absurd (keys_mem.mpr ⟨x, h2⟩) h1), hq, ?_, f6, rfl⟩
    · rintro st ⟨q, es, z6, hd, -, h2, hq, hl, f6, rfl⟩
      have e0 : es = [] := by simpa using hd.symm
      subst e0
      exact ⟨q, z6, hq, hl, fun e x h => h2 e x (by simp) h, f6, rfl⟩
    · rintro d ds st ⟨q, es, z6, hd, h1, h2, hq, hl, f6, rfl⟩
      cases es with
      | nil => cases hd
      | cons a es =>
        rw [List.map_cons] at hd
        obtain ⟨rfl, rfl⟩ := List.cons.inj hd
        obtain ⟨x, hx⟩ := keys_mem.mp (h1 a List.mem_cons_self)
        have hl' : q.length + ((es.map cD).length + 1) ≤ 27 := hl
        have hm := get_mem hx
        refine ⟨_, e_gnT f6, ?_⟩
        have lt : (tD q).length < 100000 := by rw [len_tD]; omega
        simp_all only [hx, lt, put_c]
        have lp := len_put q a x
        refine ⟨putT q a x, es, _, rfl, fun e he => h1 e (List.mem_cons_of_mem _ he), fun e y he hy => ?_, hq.put (ht.v _ hm) (ht.k _ hm), by omega, rfl, rfl⟩
        rw [get_put]
        by_cases z : a = e
        · subst z
          rw [if_pos rfl, ← hx, hy]
        · rw [if_neg z]
          exact h2 e y (fun w => (List.mem_cons.mp w).elim (fun w => z w.symm) he) hy
    · rw [List.length_map]
      unfold keysT
      rw [List.length_map]
      omega
  rintro st ⟨q, z6, hq, ql, hqt, f6, rfl⟩
  refine Oo.cut (fun st => st = [some (.br (.lst (bagD g))), some (.fz (.dt (tD t))), some (.fz (cD c)), some (.fz (.lst (cs.map .str))), some (.ow (.dt false (tD q))), z5, z6, some (.ow (.dt false (tD [])))]) ?_ ?_
  · simp_all only [true_and]
    rfl
  rintro st rfl
  obtain ⟨W, hW⟩ : ∃ W : Str, W = "white" := ⟨_, rfl⟩
  rw [← hW]
  refine Oo.cut (fun st => ∃ (p : Tl) (z4 z6 : Option SV), Page cs c t p ∧ st = [some (.br (.lst (bagD g))), some (.fz (.dt (tD t))), some (.fz (cD c)), some (.fz (.lst (cs.map .str))), z4, z5, z6, some (.ow (.dt false (tD p)))]) ?_ ?_
  · simp_all only [keys_tD]
    refine Oo.loop (fun ds st => ∃ (p : Tl) (es : List Cell) (z6 : Option SV), ds = es.map cD ∧ (∀ e ∈ es, e ∈ keysT q) ∧ (∀ e x, getT p e = some x → getT q e = some x ∧ x ≠ W) ∧ (∀ e x, e ∉ es → getT q e = some x → x ≠ W → getT p e = some x) ∧ (keysT p).Nodup ∧ (∀ q ∈ p, q.2 ∈ cs ∧ q.2 ≠ W) ∧ (∀ q ∈ p, Near c q.1) ∧ p.length + ds.length ≤ 60 ∧ feS (some z6) = true ∧
      st = [some (.br (.lst (bagD g))), some (.fz (.dt (tD t))), some (.fz (cD c)), some (.fz (.lst (cs.map .str))), some (.fz (.dt (tD q))), z5, z6, some (.ow (.dt false (tD p)))]) ?_ ?_ _ _ ⟨[], keysT q, z6, rfl, fun e h => h, (fun e x h => by cases h), (fun e x h1 h2 => absurd (keys_mem.mpr ⟨x, h2⟩) h1), List.nodup_nil, (fun p hp => by cases hp), (fun p hp => by cases hp), ?_, f6, rfl⟩
    · rintro st ⟨p, es, z6, hd, -, h1, h2, hn, hv, hk, hl, f6, rfl⟩
      have e0 : es = [] := by simpa using hd.symm
      subst e0
      refine ⟨p, _, z6, ⟨hn, fun r hr => ?_, hk, hl, fun e x he => ?_⟩, rfl⟩
      · rw [← hW]
        exact hv r hr
      · have hqe := hqt e x he
        unfold pg
        rw [← hW]
        by_cases w : x = W
        · cases hp : getT p e with
          | none => exact w.symm
          | some y =>
            have z := h1 e y hp
            rw [hqe] at z
            exact absurd ((Option.some.inj z.1).symm.trans w) z.2
        · rw [h2 e x (by simp) hqe w]
          rfl
    · rintro d ds st ⟨p, es, z6, hd, h0, h1, h2, hn, hv, hk, hl, f6, rfl⟩
      cases es with
      | nil => cases hd
      | cons a es =>
        rw [List.map_cons] at hd
        obtain ⟨rfl, rfl⟩ := List.cons.inj hd
        obtain ⟨x, hx⟩ := keys_mem.mp (h0 a List.mem_cons_self)
        have hl' : p.length + ((es.map cD).length + 1) ≤ 60 := hl
        have hm := get_mem hx
        have h0' : ∀ e ∈ es, e ∈ keysT q := fun e he => h0 e (List.mem_cons_of_mem _ he)
        refine ⟨_, e_gnT f6, ?_⟩
        have lt : (tD p).length < 100000 := by rw [len_tD]; omega
        by_cases w : x = W
        · simp_all only [hx, w]
          refine ⟨p, es, _, rfl, h0', h1, fun e y he hy hyw => ?_, hn, hv, hk, by omega, rfl, rfl⟩
          by_cases z : a = e
          · subst z
            rw [hx] at hy
            exact absurd (((Option.some.inj hy).symm.trans w)) hyw
          · exact h2 e y (fun u => (List.mem_cons.mp u).elim (fun u => z u.symm) he) hy hyw
        · simp_all only [hx, w, lt, put_c]
          have lp := len_put p a x
          refine ⟨putT p a x, es, _, rfl, h0', fun e y hy => ?_, fun e y he hy hyw => ?_, nodup_put hn, vals_put (P := fun x => x ∈ cs ∧ x ≠ W) hv ⟨hq.v _ hm, w⟩, near_put hk (hq.k _ hm), by omega, rfl, rfl⟩
          · rw [get_put] at hy
            by_cases z : a = e
            · subst z
              rw [if_pos rfl] at hy
              have ey : x = y := Option.some.inj hy
              subst ey
              exact ⟨hx, w⟩
            · rw [if_neg z] at hy
              exact h1 e y hy
          · rw [get_put]
            by_cases z : a = e
            · subst z
              rw [if_pos rfl, ← hx, hy]
            · rw [if_neg z]
              exact h2 e y (fun u => (List.mem_cons.mp u).elim (fun u => z u.symm) he) hy hyw
    · rw [List.length_map]
      unfold keysT
      rw [List.length_map]
      simp
      omega
  rintro st ⟨p, z4, z6, hp, rfl⟩
  simp_all only [true_and]
  exact ⟨p, g, rfl, rfl, hp⟩
end Cz

/-! # KT -/
namespace Cz
open L2 PyProof.Rows PySem.Spec PySem
theorem deqs_strs : ∀ xs ys : List Str, deqs (xs.map .str) (ys.map .str) = decide (xs = ys)
  | [], [] => rfl
  | [], y :: ys => rfl
  | x :: xs, [] => rfl
  | x :: xs, y :: ys => by
    show ((x == y) && deqs (xs.map .str) (ys.map .str)) = _
    rw [deqs_strs xs ys, str_beq]
    by_cases h : x = y
    · by_cases g : xs = ys
      · simp [h, g]
      · simp [h, g]
    · simp [h]
theorem eq_lst {xs ys : List Str} (hx : okWs xs) (hy : okWs ys) : eqD (.lst (xs.map .str)) (.lst (ys.map .str)) = some (.d (.bl (decide (xs = ys)))) := by
  unfold eqD eqB
  show (if cmpb (.lst (xs.map .str)) && cmpb (.lst (ys.map .str)) then some (deqs (xs.map .str) (ys.map .str)) else none).map _ = _
  rw [cmpb_strs hx, cmpb_strs hy, deqs_strs]
  rfl
theorem ne_tupS {xs : List Str} (hx : okWs xs) : neD (.tup (xs.map .str)) (.tup (xs.map .str)) = some (.d (.bl false)) := ne_tup (cmpb_tups hx) (by rw [deqs_strs, decide_eq_true rfl])
theorem eq_four {vs : List Str} {b : Str} (hv : okWs vs) (hb : okW b) : eqD (.lst (vs.map .str)) (.lst [.str b, .str b, .str b, .str b]) = some (.d (.bl (decide (vs = [b, b, b, b])))) := eq_lst (ys := [b, b, b, b]) hv (fun t ht => by
  simp only [List.mem_cons, List.not_mem_nil, or_false, or_self] at ht
  rw [ht]
  exact hb)
theorem hem_ne : ¬ ("hemmed" : Str) = "near" := by decide +kernel
local macro_rules
  | `(tactic| simp_all only [$xs,*]) => `(tactic| simp (config := {decide := true}) only [mIfS, mRet, mAsg, mSetL, mNext, mDrop, mRetN, Oo.seq, Oo.out, Oo.ite, Oo.opt, Oo.nx, Oo.rt, Oo.bk, Oo.ct, Oo.no, Ok1.bind, Ok1.ok, Ok1.ite, Ok1.opt, e_var, e_rd1, e_rd2, e_rd3, e_c, e_pk1, e_pk2, e_pk3, e_pk4, e_pk5, e_pk6, e_nr1, e_nr2, e_nr3, e_fr1, e_fr2, e_fr3, e_fr4, e_fr5, e_fz1, e_fz2, e_fz3, e_fz4, e_ow, e_ow1, e_ow2, e_ls, e_ls1, e_ls2, e_pt1, e_pt2, e_fe, e_fe1, e_fe2, e_fe3,
    k_op, k_un, k_cb1, k_o1, k_o2, k_tr, k_and, k_or, k_not, k_andV, k_orV, k_notV, k_if, k_nil, k_cons, k_ref, k_tup, k_lst, e_al1, e_al2, e_mp, e_bd, k_cb, k_call, k_lm, k_yes, k_np, k_pt, k_sl, e_io, e_add1, e_add2, e_add3, e_sub, e_mul, mulOk_r, mulOk_l, e_fdiv, e_mod, e_pow, e_neg, e_lt, e_le, e_gt, e_ge, e_ltS, e_ix1, e_ix2, e_ix3, e_ix4, e_ix5, e_len1, e_len2, e_len3, e_len4, e_len5, e_bl, e_int1, e_abs, e_lst1, e_lst2, e_lst3, e_lst4, e_tup1, e_tup2, e_tup3, e_app, e_ext, e_at0, e_at1, e_at2, e_at3, e_in0, e_in1, e_in2, ex_some, k_items, k_rng1, k_rngE, e_i1, e_inr, e_ea1, e_ea2, e_ea3, e_ea4, Int.toNat_natCast, e_it1, e_it2, e_it3, e_it4, e_en1, e_en2, k_for, e_es1, e_es2, e_es3, e_nb1, e_nb2, e_rdd,
    k_callS, e_nq1, e_nq2, e_sv1, e_sv2, e_rf1, e_rf2, e_rf3, g_as1, g_as2, g_as3, g_as4, g_as5, g_as6, g_b1, g_b2, g_b3, g_b4, g_b5, g_b6, k_make, k_fld, e_fld, k_setA, e_ob1, e_pa1, e_pa2, k_asgG, e_gn, e_gnil, e_gcons, e_gtup, e_gtuk, e_gany1, e_gany2, e_gany3, k_dput, e_opk, e_opt, e_kt, e_kk1, e_kk2, e_ks1, e_ks2, e_dg1, e_dg2, e_ixk, e_din, e_dno, k_dnT, k_dnK, k_get2, e_dd1, e_dd2, e_pm1, e_pm2, k_disp, k_og, e_iob, k_oi, k_index, k_isi, k_chain, k_keys, e_fzs, k_forD, e_lo1, e_lo2, e_lb1, e_lb2, e_wi1, e_wi2, e_re1, e_re2, e_gd,
    decide_eq_true_eq, true_and, and_true, List.getElem?_cons_zero, List.getElem?_cons_succ, List.set_cons_zero, List.set_cons_succ, List.map_cons, List.map_nil, List.length_cons, List.length_nil, List.replicate_succ, List.replicate_zero, List.cons_append, List.nil_append, List.append_nil, if_true, if_false, e_mem1, e_eqI, e_neI, e_eqS, e_neS, e_ntd, y_lt1, y_lt2, y_lt3, y_lt4, y_lt5, y_tu1, y_tu2, y_tu3, y_tu4, y_tu5, y_st1, y_st2, y_in1, y_bo1, ex_bl, key_c, val_c, Option.map_none, e_is1, e_is2, e_isn1, e_isn2, Option.isSome_some, Option.isSome_none, Bool.not_true, Bool.not_false, Bool.false_eq_true, Bool.true_eq_false, Bool.not_eq_true', decide_eq_false_iff_not, e_is5, e_is6, e_is7, e_is8, $xs,*])
variable {A : Ad}
theorem Rl.Ok.hue {u : Rl} (h : u.Ok) : okW u.c := by
  cases u with
  | pl c ks => exact h.1.ok
  | sd c s b ks => exact HueW.ok h.1
theorem fitsof_ok {u : Rl} {x : Str} {vs : List Str} (hu : u.Ok) (hv : okWs vs) (h4 : vs.length = 4) : OkF (f_l_fits_of A) [.fz u.d, .fz (.str x), .fz (.lst (vs.map .str))] fun r as' => r = .d (.bl (fitP u x vs)) ∧ as' = [.fz u.d, .fz (.str x), .fz (.lst (vs.map .str))] := by
  refine OkF.run rfl ?_
  unfold m_l_fits_of fitP
  obtain ⟨NE, hNE⟩ : ∃ W : Str, W = "near" := ⟨_, rfl⟩
  obtain ⟨HE, hHE⟩ : ∃ W : Str, W = "hemmed" := ⟨_, rfl⟩
  rw [← hNE, ← hHE]
  have hd0 := rl_0 u
  have hln := rl_len u
  by_cases q : u.c = x
  · rw [decide_eq_true q, Bool.true_and]
    cases u with
    | pl c ks => simp_all only [hd0, hln, q]
    | sd c s b ks =>
      have hs := hu.2.1
      have hb := HueW.ok hu.2.2.1
      have e5 : (D.lst [.str "up", .str "left", .str "right", .str "down"]) = .lst (four.map .str) := rfl
      have i1 : ixD (Rl.sd c s b ks).d (.int 1) = some (.d (.str s)) := rfl
      have i2 : ixD (Rl.sd c s b ks).d (.int 2) = some (.d (.str b)) := rfl
      have z := six_cases s hs
      rw [← hNE, ← hHE] at z
      have ne : ¬ HE = NE := by
        rw [hNE, hHE]
        exact hem_ne
      rcases z with z | ⟨z1, z2, z3⟩ | ⟨z1, z2, z3⟩
      · subst z
        simp_all only [hd0, hln, q, i1, i2, e_inS hb hv]
      · subst z2
        simp_all only [hd0, hln, q, i1, i2, ne, eq_four hv hb]
      · have hi := sI_lt s
        have hj : sI s < vs.length := by omega
        have ed : decide (vs[sI s]? = some b) = decide (vs[sI s]'hj = b) := by
          rw [List.getElem?_eq_getElem hj]
          simp
        simp_all only [hd0, hln, q, i1, i2, z1, z2, e5, lst_d, index_four z3, ix_str hj, ed]
  · rw [decide_eq_false q, Bool.false_and]
    simp_all only [hd0, q]

/-- the number of the first rule that fits -/
def IdxOk (us : List Rl) (x : Str) (vs : List Str) (e : D) : Prop := (∃ (k : Nat) (h : k < us.length), e = .int (k : Nat) ∧ goP x vs us = us[k].ks) ∨ (e = .non ∧ goP x vs us = [])
theorem okW_white : okW "white" := by decide +kernel
theorem reads_ok {us : List Rl} {p : Tl} {c : Cell} (h : Rules us) (hv : ∀ q ∈ p, okW q.2) : OkF (f_l_reads A) [.fz (.lst (us.map Rl.d)), .fz (.dt (tD p)), .fz (cD c)] fun r as' => ∃ e, r = .d e ∧ IdxOk us (pg p c) ((ar c).map (pg p)) e ∧ as' = [.fz (.lst (us.map Rl.d)), .fz (.dt (tD p)), .fz (cD c)] := by
  have okp : ∀ e, okW (pg p e) := fun e => by
    unfold pg
    cases hg : getT p e with
    | none => exact okW_white
    | some x => exact hv _ (get_mem hg)
  obtain ⟨W, hW⟩ : ∃ W : Str, W = "white" := ⟨_, rfl⟩
  have gd : ∀ e : Cell, ((getT p e).map D.str).getD (.str W) = .str (pg p e) := fun e => by
    unfold pg
    rw [hW]
    cases getT p e <;> rfl
  refine OkF.run rfl ?_
  unfold m_l_reads
  rw [← hW]
  refine Oo.cut (fun st => st = [some (.fz (.lst (us.map Rl.d))), some (.fz (.dt (tD p))), some (.fz (cD c)), some (.ow (.lst (((ar c).map (pg p)).map .str))), none, none, none]) ?_ ?_
  · simp_all only [true_and]
    refine Ok1.lcM (fun d => match d with
      | .tup [.int a, .int b] => .str (pg p (a, b))
      | d => d) ?_
    simp_all only [true_and]
    refine OkF.use around_ok ?_
    rintro r as' - ⟨rfl, rfl⟩
    simp_all only [true_and]
    refine ⟨by simp [ar], fun d hd => ?_, ?_⟩
    · obtain ⟨e, _, rfl⟩ := List.mem_map.mp hd
      simp_all only [gd]
      rfl
    · rfl
  rintro st rfl
  have okv : okWs ((ar c).map (pg p)) := fun t ht => by
    obtain ⟨e, _, rfl⟩ := List.mem_map.mp ht
    exact okp e
  have hlm : (us.map Rl.d).length = us.length := List.length_map _
  refine Oo.cut (fun st => ∃ z3 z5 z6 : Option SV, goP (pg p c) ((ar c).map (pg p)) us = [] ∧ st = [some (.fz (.lst (us.map Rl.d))), some (.fz (.dt (tD p))), some (.fz (cD c)), z3, none, z5, z6]) ?_ ?_
  · simp_all only [true_and]
    refine Oo.loop (fun ds st => ∃ (j : Nat) (z3 : SV) (z5 z6 : Option SV), ds = (pairsD (nums (us.map Rl.d).length) (us.map Rl.d)).drop j ∧ goP (pg p c) ((ar c).map (pg p)) (us.drop j) = goP (pg p c) ((ar c).map (pg p)) us ∧ Fzs z3 (.lst (((ar c).map (pg p)).map .str)) ∧ feS (some z5) = true ∧ feS (some z6) = true ∧ st = [some (.fz (.lst (us.map Rl.d))), some (.fz (.dt (tD p))), some (.fz (cD c)), some z3, none, z5, z6]) ?_ ?_ _ _ ⟨0, _, none, none, rfl, rfl, .inr ⟨_, rfl, rfl⟩, rfl, rfl, rfl⟩
    · rintro st ⟨j, z3, z5, z6, hd, hr, -, -, -, rfl⟩
      have e0 := enum_nil hd
      rw [List.drop_eq_nil_of_le (by omega)] at hr
      exact ⟨z3, z5, z6, hr.symm, rfl⟩
    · rintro d ds st ⟨j, z3, z5, z6, hd, hr, h3, f5, f6, rfl⟩
      obtain ⟨hj, rfl, rfl⟩ := enum_cons hd
      have hj2 : j < us.length := by omega
      rw [List.getElem_map]
      rw [List.drop_eq_getElem_cons hj2] at hr
      have hu := h.o us[j] (List.getElem_mem hj2)
      have hr' : (if fitP us[j] (pg p c) ((ar c).map (pg p)) = true then us[j].ks else goP (pg p c) ((ar c).map (pg p)) (us.drop (j + 1))) = goP (pg p c) ((ar c).map (pg p)) us := hr
      refine ⟨_, e_g2 f5 (by simpa using f6), ?_⟩
      have h4 : ((ar c).map (pg p)).length = 4 := rfl
      rcases h3 with rfl | ⟨l3, rfl, e3⟩
      all_goals
        first
        | cases e3
        | skip
        simp_all only [gd]
        refine OkF.use (fitsof_ok hu okv h4) ?_
        rintro r as' - ⟨rfl, rfl⟩
        simp_all only [true_and]
        by_cases q : fitP us[j] (pg p c) ((ar c).map (pg p)) = true
        · rw [if_pos q] at hr'
          simp_all only [q]
          exact ⟨_, rfl, .inl ⟨j, hj2, rfl, hr'.symm⟩⟩
        · rw [if_neg q] at hr'
          simp_all only [q]
          exact ⟨j + 1, _, _, _, rfl, hr', .inl rfl, rfl, rfl, rfl⟩
  rintro st ⟨z3, z5, z6, hr, rfl⟩
  simp_all only [true_and]
  exact ⟨_, rfl, .inr ⟨rfl, hr⟩⟩
theorem prints_ok {us : List Rl} {p : Tl} {c : Cell} (h : Rules us) (hv : ∀ q ∈ p, okW q.2) : OkF (f_l_prints A) [.fz (.lst (us.map Rl.d)), .fz (.dt (tD p)), .fz (cD c)] fun r as' => r = .d (.tup ((printP us p c).map .str)) ∧ as' = [.fz (.lst (us.map Rl.d)), .fz (.dt (tD p)), .fz (cD c)] := by
  refine OkF.run rfl ?_
  unfold m_l_prints
  refine Oo.cut (fun st => ∃ e, IdxOk us (pg p c) ((ar c).map (pg p)) e ∧ st = [some (.fz (.lst (us.map Rl.d))), some (.fz (.dt (tD p))), some (.fz (cD c)), some (.fz e)]) ?_ ?_
  · simp_all only [true_and]
    refine OkF.use (reads_ok h hv) ?_
    rintro r as' - ⟨e, rfl, he, rfl⟩
    simp_all only [true_and]
    exact ⟨e, he, rfl⟩
  rintro st ⟨e, he, rfl⟩
  unfold printP
  rcases he with ⟨k, hk, rfl, hw⟩ | ⟨rfl, hw⟩
  · have e1 : atI (us.map Rl.d) (k : Int) = some us[k].d := atI_nat (by rw [List.getElem?_map, List.getElem?_eq_getElem hk]; rfl)
    rw [hw]
    simp_all only [e_isn4, e1, rl_last]
  · rw [hw]
    have e1 := e_isn3 (d := .non)
    simp_all only [e1]
end Cz

/-! # KU -/
namespace Cz
open L2 PyProof.Rows PySem.Spec PySem
open PySem.W (dataLt alike)
theorem sl_tri (p : Cell × Str) : slD (tri p) none (some 2) = some (.d (.tup [.int p.1.1, .int p.1.2])) := by
  show some (Rv.d (.tup (cutL [.int p.1.1, .int p.1.2, .str p.2] none (some 2)))) = _
  rw [cut_to (by decide)]
  rfl
theorem ge_cells {a b : Cell} (h : ltC a b) : ordB oGe (.tup [.int a.1, .int a.2]) (.tup [.int b.1, .int b.2]) = some (.d (.bl false)) := by
  have e1 : toPy (.tup [.int a.1, .int a.2]) = some (.tuple [.int a.1, .int a.2]) := by
    simp only [toPy, toPys]
    rfl
  have e2 : toPy (.tup [.int b.1, .int b.2]) = some (.tuple [.int b.1, .int b.2]) := by
    simp only [toPy, toPys]
    rfl
  unfold ordB
  rw [e1, e2, Option.bind_some, Option.bind_some, if_pos]
  · show some (Rv.d (.bl (!dataLt _ _))) = _
    rw [PySem.W.dataLt_ii, decide_eq_true (show a.1 < b.1 ∨ a.1 = b.1 ∧ a.2 < b.2 from h)]
    rfl
  · simp [isTup1, PySem.W.alike, PySem.W.alikeAll, PyData.depth, PyData.depthAll]
theorem val_c2 (t : Tl) (c : Cell) : valD (tD t) [.inl c.1, .inl c.2] = (getT t c).map D.str := val_c t c
def picD (A : Ad) (s : Tl) : D := .obj A.Picture [("cells", .tup (s.map tri)), ("_colours", .dt (tD s))]
structure Pic (s : Tl) : Prop where
  n : (keysT s).Nodup
  o : s.Pairwise fun p q => ltC p.1 q.1
  v : ∀ p ∈ s, GoodW p.2
  k : ∀ p ∈ s, -50 ≤ p.1.1 ∧ p.1.1 ≤ 50 ∧ -50 ≤ p.1.2 ∧ p.1.2 ≤ 50
  l : s.length ≤ 200
local macro_rules
  | `(tactic| simp_all only [$xs,*]) => `(tactic| simp (config := {decide := true}) only [mIfS, mRet, mAsg, mSetL, mNext, mDrop, mRetN, Oo.seq, Oo.out, Oo.ite, Oo.opt, Oo.nx, Oo.rt, Oo.bk, Oo.ct, Oo.no, Ok1.bind, Ok1.ok, Ok1.ite, Ok1.opt, e_var, e_rd1, e_rd2, e_rd3, e_c, e_pk1, e_pk2, e_pk3, e_pk4, e_pk5, e_pk6, e_nr1, e_nr2, e_nr3, e_fr1, e_fr2, e_fr3, e_fr4, e_fr5, e_fz1, e_fz2, e_fz3, e_fz4, e_ow, e_ow1, e_ow2, e_ls, e_ls1, e_ls2, e_pt1, e_pt2, e_fe, e_fe1, e_fe2, e_fe3,
    k_op, k_un, k_cb1, k_o1, k_o2, k_tr, k_and, k_or, k_not, k_andV, k_orV, k_notV, k_if, k_nil, k_cons, k_ref, k_tup, k_lst, e_al1, e_al2, e_mp, e_bd, k_cb, k_call, k_lm, k_yes, k_np, k_pt, k_sl, e_io, e_add1, e_add2, e_add3, e_sub, e_mul, mulOk_r, mulOk_l, e_fdiv, e_mod, e_pow, e_neg, e_lt, e_le, e_gt, e_ge, e_ltS, e_ix1, e_ix2, e_ix3, e_ix4, e_ix5, e_len1, e_len2, e_len3, e_len4, e_len5, e_bl, e_int1, e_abs, e_lst1, e_lst2, e_lst3, e_lst4, e_tup1, e_tup2, e_tup3, e_app, e_ext, e_at0, e_at1, e_at2, e_at3, e_in0, e_in1, e_in2, ex_some, k_items, k_rng1, k_rngE, e_i1, e_inr, e_ea1, e_ea2, e_ea3, e_ea4, Int.toNat_natCast, e_it1, e_it2, e_it3, e_it4, e_en1, e_en2, k_for, e_es1, e_es2, e_es3, e_nb1, e_nb2, e_rdd,
    k_callS, e_nq1, e_nq2, e_sv1, e_sv2, e_rf1, e_rf2, e_rf3, g_as1, g_as2, g_as3, g_as4, g_as5, g_as6, g_b1, g_b2, g_b3, g_b4, g_b5, g_b6, k_make, k_fld, e_fld, k_setA, e_ob1, e_pa1, e_pa2, k_asgG, e_gn, e_gnil, e_gcons, e_gtup, e_gtuk, e_gany1, e_gany2, e_gany3, k_dput, e_opk, e_opt, e_kt, e_kk1, e_kk2, e_ks1, e_ks2, e_dg1, e_dg2, e_ixk, e_din, e_dno, k_dnT, k_dnK, k_get2, e_dd1, e_dd2, e_pm1, e_pm2, k_disp, k_og, e_iob, k_oi, k_index, k_isi, k_chain, k_keys, e_fzs, k_forD, e_lo1, e_lo2, e_lb1, e_lb2, e_wi1, e_wi2, e_re1, e_re2, e_gd,
    decide_eq_true_eq, true_and, and_true, List.getElem?_cons_zero, List.getElem?_cons_succ, List.set_cons_zero, List.set_cons_succ, List.map_cons, List.map_nil, List.length_cons, List.length_nil, List.replicate_succ, List.replicate_zero, List.cons_append, List.nil_append, List.append_nil, if_true, if_false, e_mem1, e_eqI, e_neI, e_eqS, e_neS, e_ntd, y_lt1, y_lt2, y_lt3, y_lt4, y_lt5, y_tu1, y_tu2, y_tu3, y_tu4, y_tu5, y_st1, y_st2, y_in1, y_bo1, ex_bl, key_c, val_c, Option.map_none, e_is1, e_is2, e_isn1, e_isn2, Option.isSome_some, Option.isSome_none, Bool.not_true, Bool.not_false, Bool.false_eq_true, Bool.true_eq_false, Bool.not_eq_true', decide_eq_false_iff_not, e_is5, e_is6, e_is7, e_is8, $xs,*])
variable {A : Ad}
theorem isinteger_ok {i : Int} : OkF (f_is_integer_g A) [.fz (.int i)] fun r as' => r = .d (.bl true) ∧ as' = [.fz (.int i)] := by
  refine OkF.run rfl ?_
  unfold m_is_integer_g
  simp_all only [true_and]
theorem iswithin_ok {i a b : Int} (h1 : a ≤ i) (h2 : i ≤ b) : OkF (f_is_within_g A) [.fz (.int i), .fz (.int a), .fz (.int b)] fun r as' => r = .d (.bl true) ∧ as' = [.fz (.int i), .fz (.int a), .fz (.int b)] := by
  refine OkF.run rfl ?_
  unfold m_is_within_g
  simp_all only [true_and]
  refine OkF.use isinteger_ok ?_
  rintro r as' - ⟨rfl, rfl⟩
  simp_all only [h1, h2]
  rfl
theorem isinked_ok {q : Cell × Str} (h1 : -50 ≤ q.1.1 ∧ q.1.1 ≤ 50 ∧ -50 ≤ q.1.2 ∧ q.1.2 ≤ 50) (h2 : GoodW q.2) : OkF (f_is_inked_f A) [.fz (tri q)] fun r as' => r = .d (.bl true) ∧ as' = [.fz (tri q)] := by
  refine OkF.run rfl ?_
  unfold m_is_inked_f tri
  simp_all only [true_and]
  refine OkF.use (is_tuple_ok (by simp)) ?_
  rintro r as' - ⟨rfl, rfl⟩
  simp_all only [true_and]
  refine OkF.use (iswithin_ok h1.1 h1.2.1) ?_
  rintro r as' - ⟨rfl, rfl⟩
  simp_all only [true_and]
  refine OkF.use (iswithin_ok h1.2.2.1 h1.2.2.2) ?_
  rintro r as' - ⟨rfl, rfl⟩
  simp_all only [true_and]
  refine OkF.use (is_hue_ok h2) ?_
  rintro r as' - ⟨rfl, rfl⟩
  simp_all only [true_and]
theorem plain_tri {t : Tl} (hl : t.length ≤ 1000) : OkF (f_plain_g A) [.fz (.tup (t.map tri))] fun r as' => r = .d (.tup (t.map tri)) ∧ as' = [.fz (.tup (t.map tri))] :=
  (plain_ok 6 _ (.tup (by rw [List.length_map]; exact hl) po_tri)).mono fun r as' q => ⟨q.1.trans (congrArg (fun z => Rv.d (.tup z)) plT_tri), q.2⟩
theorem picinit_ok {s : Tl} (h : Pic s) : OkF (f_Picture_init A) [.br (.obj A.Picture []), .fz (.tup (s.map tri))] fun r as' => r = .d .non ∧ as' = [.br (.obj A.Picture [("cells", .tup (s.map tri)), ("_colours", .dt (tD s))]), .fz (.tup (s.map tri))] := by
  have hl := h.l
  refine OkF.run rfl ?_
  unfold m_Picture_init
  refine Oo.cut (fun st => st = [some (.br (.obj A.Picture [])), some (.fz (.tup (s.map tri))), some (.fz (.tup (s.map tri))), none, none, none, none, none]) ?_ ?_
  · simp_all only [true_and]
    refine OkF.use (plain_tri (by omega)) ?_
    rintro r as' - ⟨rfl, rfl⟩
    simp_all only [true_and]
  rintro st rfl
  refine Oo.cut (fun st => st = [some (.br (.obj A.Picture [])), some (.fz (.tup (s.map tri))), some (.fz (.tup (s.map tri))), none, none, none, none, none]) ?_ ?_
  · simp_all only [true_and]
    refine OkF.use (is_tuple_ok (by rw [List.length_map]; omega)) ?_
    rintro r as' - ⟨rfl, rfl⟩
    have e0 : ((0 : Int) ≤ (((s.map tri).length : Nat) : Int) ∧ (((s.map tri).length : Nat) : Int) ≤ 200) := by
      rw [List.length_map]
      omega
    simp_all only [decide_eq_true e0]
  rintro st rfl
  refine Oo.cut (fun st => ∃ z3 z4 : Option SV, st = [some (.br (.obj A.Picture [])), some (.fz (.tup (s.map tri))), some (.fz (.tup (s.map tri))), z3, z4, none, none, none]) ?_ ?_
  · simp_all only [true_and]
    refine Oo.loop (fun ds st => ∃ (j : Nat) (z3 z4 : Option SV), ds = (pairsD (nums (s.map tri).length) (s.map tri)).drop j ∧ feS (some z3) = true ∧ feS (some z4) = true ∧ st = [some (.br (.obj A.Picture [])), some (.fz (.tup (s.map tri))), some (.fz (.tup (s.map tri))), z3, z4, none, none, none]) ?_ ?_ _ _ ⟨0, none, none, rfl, rfl, rfl, rfl⟩
    · rintro st ⟨j, z3, z4, -, -, -, rfl⟩
      exact ⟨z3, z4, rfl⟩
    · rintro d ds st ⟨j, z3, z4, hd, f3, f4, rfl⟩
      obtain ⟨hj, rfl, rfl⟩ := enum_cons hd
      have hj2 : j < s.length := by
        rw [List.length_map] at hj
        exact hj
      rw [List.getElem_map]
      have hm := List.getElem_mem hj2
      refine ⟨_, e_g2 f3 (by simpa using f4), ?_⟩
      simp_all only [true_and]
      refine OkF.use (isinked_ok (h.k _ hm) (h.v _ hm)) ?_
      rintro r as' - ⟨rfl, rfl⟩
      by_cases q : (0 : Int) < (j : Int)
      · obtain ⟨i, rfl⟩ : ∃ i : Nat, j = i + 1 := ⟨j - 1, by omega⟩
        have ei : (((i + 1 : Nat) : Int) - 1) = (i : Int) := by omega
        have e1 : atI (s.map tri) (i : Int) = some (tri s[i]) := atI_nat (by rw [List.getElem?_map, List.getElem?_eq_getElem (show i < s.length by omega)]; rfl)
        have hlt := List.pairwise_iff_getElem.mp h.o i (i + 1) (by omega) hj2 (by omega)
        simp_all only [q, ei, e1, sl_tri, ge_cells hlt]
        exact ⟨i + 1 + 1, _, _, rfl, rfl, rfl, rfl⟩
      · simp_all only [q]
        exact ⟨j + 1, _, _, rfl, rfl, rfl, rfl⟩
  rintro st ⟨z3, z4, rfl⟩
  refine Oo.cut (fun st => st = [some (.br (.obj A.Picture [("cells", .tup (s.map tri))])), some (.fz (.tup (s.map tri))), some (.fz (.tup (s.map tri))), z3, z4, none, none, none]) ?_ ?_
  · simp_all only [true_and]
  rintro st rfl
  simp_all only [true_and]
  refine Ok1.dcM (fun d => cK (cellOf d)) (fun d => cD (cellOf d)) (fun d => .str (colOf d)) ?_
  simp_all only [true_and]
  refine ⟨by rw [List.length_map]; omega, fun e he => trivial, fun e he => ?_, ?_⟩
  · obtain ⟨q, _, rfl⟩ := List.mem_map.mp he
    simp_all only [tri_cell, tri_col, tri]
    exact ⟨rfl, rfl⟩
  · have e := fold_tD tri_cell tri_col (t := s) (acc := [])
    rw [fold_put (acc := []) (by simpa using h.n), List.nil_append] at e
    have e' : (s.map tri).foldl (fun m d => putD m (cK (cellOf d)) (.str (colOf d))) [] = tD s := e
    simp_all only [e']
end Cz

/-! # KV -/
namespace Cz
open L2 PyProof.Rows PySem.Spec PySem
def eqTo (b : Str) : D → D
  | .str y => .bl (decide (y = b))
  | d => d
def mthS (C : Addr) (m : Str) : D → Prop
  | .obj C' fs => C' = C ∧ fs.lookup m = none
  | _ => False
theorem k_meth {C : Addr} {m : Str} {f : MF} {ds : List D} {mo : M Rv} {ma : M (List Rv)} {s : SS} {Q : Rv → SS → Prop} : Ok1 (mMeth C m f ds mo ma s) Q ↔ Ok1 (mo s) fun r s1 => ∃ x, pk (nrm r) s1 = some x ∧ mthS C m x ∧ Ok1 (ma s1) fun rs s2 => Ok1 (noEx (callS f (nrm r :: (rs ++ ds.map .d)) s2)) Q := by
  unfold mMeth
  rw [Ok1.bind]
  have key : ∀ r s1, Ok1 (opt (pk (nrm r) s1) fun x => match x with
    | .obj C' fs => if C' = C ∧ fs.lookup m = none then (ma s1).bind fun rs s2 => noEx (callS f (nrm r :: (rs ++ ds.map .d)) s2) else .no
    | _ => .no) Q ↔ ∃ x, pk (nrm r) s1 = some x ∧ mthS C m x ∧ Ok1 (ma s1) fun rs s2 => Ok1 (noEx (callS f (nrm r :: (rs ++ ds.map .d)) s2)) Q := by
    intro r s1
    rw [Ok1.opt]
    refine exists_congr fun z => and_congr_right fun _ => ?_
    cases z with
    | obj C' l =>
      dsimp only [mthS]
      split
      · rename_i c
        rw [Ok1.bind]
        exact ⟨fun w => ⟨c, w⟩, fun w => w.2⟩
      · rename_i c
        exact ⟨fun w => w.elim, fun w => (c w.1).elim⟩
    | _ => exact ⟨fun w => w.elim, fun w => w.1.elim⟩
  exact Ok1.congr fun r s1 => key r s1
theorem e_mth {C C' : Addr} {m : Str} {fs : List (Str × D)} : mthS C m (.obj C' fs) ↔ C' = C ∧ fs.lookup m = none := Iff.rfl
theorem e_iobP {C C' : Addr} {fs : List (Str × D)} : isOb C (.obj C' fs) ↔ C' = C := Iff.rfl
theorem eqS_sw {x y : Str} : decide (x = y) = decide (y = x) := by
  by_cases h : x = y
  · subst h
    rfl
  · rw [decide_eq_false h, decide_eq_false fun z => h z.symm]
theorem blsD_map {α : Type} (f : α → Bool) : ∀ l : List α, blsD (l.map fun a => .bl (f a)) = some (l.map f)
  | [] => rfl
  | a :: l => by
    show (blsD (l.map fun a => .bl (f a))).map _ = _
    rw [blsD_map f l]
    rfl
theorem all_bls {α : Type} (f : α → Bool) (l : List α) : allB (.lst (l.map fun a => .bl (f a))) = some (.d (.bl (l.all f))) := by
  show (blsD _).map _ = _
  rw [blsD_map]
  show some (Rv.d (.bl ((l.map f).all id))) = _
  rw [List.all_map]
  rfl
theorem all_four {vs : List Str} {b : Str} (h : vs.length = 4) : (vs.all fun x => decide (x = b)) = decide (vs = [b, b, b, b]) := by
  match vs, h with
  | [x, y, z, w], _ =>
    by_cases h1 : x = b <;> by_cases h2 : y = b <;> by_cases h3 : z = b <;> by_cases h4 : w = b <;> simp [h1, h2, h3, h4]
local macro_rules
  | `(tactic| simp_all only [$xs,*]) => `(tactic| simp (config := {decide := true}) only [mIfS, mRet, mAsg, mSetL, mNext, mDrop, mRetN, Oo.seq, Oo.out, Oo.ite, Oo.opt, Oo.nx, Oo.rt, Oo.bk, Oo.ct, Oo.no, Ok1.bind, Ok1.ok, Ok1.ite, Ok1.opt, e_var, e_rd1, e_rd2, e_rd3, e_c, e_pk1, e_pk2, e_pk3, e_pk4, e_pk5, e_pk6, e_nr1, e_nr2, e_nr3, e_fr1, e_fr2, e_fr3, e_fr4, e_fr5, e_fz1, e_fz2, e_fz3, e_fz4, e_ow, e_ow1, e_ow2, e_ls, e_ls1, e_ls2, e_pt1, e_pt2, e_fe, e_fe1, e_fe2, e_fe3,
    k_op, k_un, k_cb1, k_o1, k_o2, k_tr, k_and, k_or, k_not, k_andV, k_orV, k_notV, k_if, k_nil, k_cons, k_ref, k_tup, k_lst, e_al1, e_al2, e_mp, e_bd, k_cb, k_call, k_lm, k_yes, k_np, k_pt, k_sl, e_io, e_add1, e_add2, e_add3, e_sub, e_mul, mulOk_r, mulOk_l, e_fdiv, e_mod, e_pow, e_neg, e_lt, e_le, e_gt, e_ge, e_ltS, e_ix1, e_ix2, e_ix3, e_ix4, e_ix5, e_len1, e_len2, e_len3, e_len4, e_len5, e_bl, e_int1, e_abs, e_lst1, e_lst2, e_lst3, e_lst4, e_tup1, e_tup2, e_tup3, e_app, e_ext, e_at0, e_at1, e_at2, e_at3, e_in0, e_in1, e_in2, ex_some, k_items, k_rng1, k_rngE, e_i1, e_inr, e_ea1, e_ea2, e_ea3, e_ea4, Int.toNat_natCast, e_it1, e_it2, e_it3, e_it4, e_en1, e_en2, k_for, e_es1, e_es2, e_es3, e_nb1, e_nb2, e_rdd,
    k_callS, e_nq1, e_nq2, e_sv1, e_sv2, e_rf1, e_rf2, e_rf3, g_as1, g_as2, g_as3, g_as4, g_as5, g_as6, g_b1, g_b2, g_b3, g_b4, g_b5, g_b6, k_make, k_fld, e_fld, k_setA, e_ob1, e_pa1, e_pa2, k_asgG, e_gn, e_gnil, e_gcons, e_gtup, e_gtuk, e_gany1, e_gany2, e_gany3, k_dput, e_opk, e_opt, e_kt, e_kk1, e_kk2, e_ks1, e_ks2, e_dg1, e_dg2, e_ixk, e_din, e_dno, k_dnT, k_dnK, k_get2, e_dd1, e_dd2, e_pm1, e_pm2, k_disp, k_og, e_iob, k_oi, k_index, k_isi, k_chain, k_keys, e_fzs, k_forD, e_lo1, e_lo2, e_lb1, e_lb2, e_wi1, e_wi2, e_re1, e_re2, e_gd,
    decide_eq_true_eq, true_and, and_true, List.getElem?_cons_zero, List.getElem?_cons_succ, List.set_cons_zero, List.set_cons_succ, List.map_cons, List.map_nil, List.length_cons, List.length_nil, List.replicate_succ, List.replicate_zero, List.cons_append, List.nil_append, List.append_nil, if_true, if_false, e_mem1, e_eqI, e_neI, e_eqS, e_neS, e_ntd, y_lt1, y_lt2, y_lt3, y_lt4, y_lt5, y_tu1, y_tu2, y_tu3, y_tu4, y_tu5, y_st1, y_st2, y_in1, y_bo1, ex_bl, key_c, val_c, Option.map_none, e_is1, e_is2, e_isn1, e_isn2, Option.isSome_some, Option.isSome_none, Bool.not_true, Bool.not_false, Bool.false_eq_true, Bool.true_eq_false, Bool.not_eq_true', decide_eq_false_iff_not, e_is5, e_is6, e_is7, e_is8, k_meth, e_mth, $xs,*])
variable {A : Ad}
theorem iscell_ok {c : Cell} : OkF (f_is_cell_g A) [.fz (cD c)] fun r as' => r = .d (.bl true) ∧ as' = [.fz (cD c)] := by
  refine OkF.run rfl ?_
  unfold m_is_cell_g cD
  simp_all only [true_and]
  refine OkF.use isinteger_ok ?_
  rintro r as' - ⟨rfl, rfl⟩
  simp_all only [true_and]
  refine OkF.use isinteger_ok ?_
  rintro r as' - ⟨rfl, rfl⟩
  simp_all only [true_and]
theorem contains_ok {s : Tl} {c : Cell} : OkF (f_Picture_contains A) [.fz (picD A s), .fz (cD c)] fun r as' => r = .d (.bl (getT s c).isSome) ∧ as' = [.fz (picD A s), .fz (cD c)] := by
  refine OkF.run rfl ?_
  unfold m_Picture_contains
  have e0 : ixD (cD c) (.int 0) = some (.d (.int c.1)) := rfl
  have e1 : ixD (cD c) (.int 1) = some (.d (.int c.2)) := rfl
  have e2 : fldD [A.Picture] "_colours" (picD A s) = some (.dt (tD s)) := by
    unfold picD
    rw [e_fld, if_pos (by simp)]
    rfl
  simp_all only [true_and]
  refine OkF.use iscell_ok ?_
  rintro r as' - ⟨rfl, rfl⟩
  simp_all only [e0, e1, e2, val_c2, Option.isSome_map]
theorem getitem_ok {s : Tl} {c : Cell} : OkF (f_Picture_getitem A) [.fz (picD A s), .fz (cD c)] fun r as' => r = .d (.str (pg s c)) ∧ as' = [.fz (picD A s), .fz (cD c)] := by
  refine OkF.run rfl ?_
  unfold m_Picture_getitem
  have e0 : ixD (cD c) (.int 0) = some (.d (.int c.1)) := rfl
  have e1 : ixD (cD c) (.int 1) = some (.d (.int c.2)) := rfl
  have e2 : fldD [A.Picture] "_colours" (picD A s) = some (.dt (tD s)) := by
    unfold picD
    rw [e_fld, if_pos (by simp)]
    rfl
  have e3 : isOb A.Picture (picD A s) := rfl
  simp_all only [e3]
  refine OkF.use contains_ok ?_
  rintro r as' - ⟨rfl, rfl⟩
  unfold pg
  cases hg : getT s c with
  | none =>
    simp_all only [hg]
    all_goals rfl
  | some x =>
    simp_all only [e0, e1, e2, val_c2, hg]
    all_goals rfl
theorem fits_ok {u : Rl} {x : Str} {vs : List Str} (hu : u.Ok) (hv : okWs vs) (h4 : vs.length = 4) : OkF (f_fits_g A) [.fz u.d, .fz (.str x), .fz (.lst (vs.map .str))] fun r as' => r = .d (.bl (fitP u x vs)) ∧ as' = [.fz u.d, .fz (.str x), .fz (.lst (vs.map .str))] := by
  refine OkF.run rfl ?_
  unfold m_fits_g fitP
  have e6 : (["up", "left", "right", "down", "near", "hemmed"] : List Str) = sixS := rfl
  rw [e6]
  obtain ⟨NE, hNE⟩ : ∃ W : Str, W = "near" := ⟨_, rfl⟩
  obtain ⟨HE, hHE⟩ : ∃ W : Str, W = "hemmed" := ⟨_, rfl⟩
  rw [← hNE, ← hHE]
  have hd0 := rl_0 u
  have hln := rl_len u
  by_cases q : u.c = x
  · rw [decide_eq_true q, Bool.true_and]
    cases u with
    | pl c ks => simp_all only [hd0, hln, q]
    | sd c s b ks =>
      have hs := hu.2.1
      have hb := HueW.ok hu.2.2.1
      have z := six_cases s hs
      rw [← hNE, ← hHE] at z
      have ne : ¬ HE = NE := by
        rw [hNE, hHE]
        exact hem_ne
      have q' : c = x := q
      rcases z with z | ⟨z1, z2, z3⟩ | ⟨z1, z2, z3⟩
      · subst z
        simp_all only [Rl.d, q', e_inS hb hv]
      · subst z2
        simp_all only [Rl.d, q', ne]
        refine Ok1.lcM (eqTo b) ?_
        simp_all only [true_and]
        refine ⟨by rw [List.length_map]; omega, fun d hd => ?_, ?_⟩
        · obtain ⟨y, _, rfl⟩ := List.mem_map.mp hd
          simp_all only [eqTo]
        · have em : (vs.map D.str).map (eqTo b) = vs.map fun y => D.bl (decide (y = b)) := by
            rw [List.map_map]
            rfl
          simp_all only [em, all_bls, all_four h4]
      · have hi := sI_lt s
        have hj : sI s < vs.length := by omega
        have ed : decide (vs[sI s]? = some b) = decide (vs[sI s]'hj = b) := by
          rw [List.getElem?_eq_getElem hj]
          simp
        simp_all only [Rl.d, q', z1, z2, index_six z3, ix_str hj, ed]
  · rw [decide_eq_false q, Bool.false_and]
    simp_all only [hd0, q]
end Cz

/-! # KW -/
namespace Cz
open L2 PyProof.Rows PySem.Spec PySem
def strAt (s : Tl) : D → D
  | .tup [.int a, .int b] => .str (pg s (a, b))
  | d => d
local macro_rules
  | `(tactic| simp_all only [$xs,*]) => `(tactic| simp (config := {decide := true}) only [mIfS, mRet, mAsg, mSetL, mNext, mDrop, mRetN, Oo.seq, Oo.out, Oo.ite, Oo.opt, Oo.nx, Oo.rt, Oo.bk, Oo.ct, Oo.no, Ok1.bind, Ok1.ok, Ok1.ite, Ok1.opt, e_var, e_rd1, e_rd2, e_rd3, e_c, e_pk1, e_pk2, e_pk3, e_pk4, e_pk5, e_pk6, e_nr1, e_nr2, e_nr3, e_fr1, e_fr2, e_fr3, e_fr4, e_fr5, e_fz1, e_fz2, e_fz3, e_fz4, e_ow, e_ow1, e_ow2, e_ls, e_ls1, e_ls2, e_pt1, e_pt2, e_fe, e_fe1, e_fe2, e_fe3,
    k_op, k_un, k_cb1, k_o1, k_o2, k_tr, k_and, k_or, k_not, k_andV, k_orV, k_notV, k_if, k_nil, k_cons, k_ref, k_tup, k_lst, e_al1, e_al2, e_mp, e_bd, k_cb, k_call, k_lm, k_yes, k_np, k_pt, k_sl, e_io, e_add1, e_add2, e_add3, e_sub, e_mul, mulOk_r, mulOk_l, e_fdiv, e_mod, e_pow, e_neg, e_lt, e_le, e_gt, e_ge, e_ltS, e_ix1, e_ix2, e_ix3, e_ix4, e_ix5, e_len1, e_len2, e_len3, e_len4, e_len5, e_bl, e_int1, e_abs, e_lst1, e_lst2, e_lst3, e_lst4, e_tup1, e_tup2, e_tup3, e_app, e_ext, e_at0, e_at1, e_at2, e_at3, e_in0, e_in1, e_in2, ex_some, k_items, k_rng1, k_rngE, e_i1, e_inr, e_ea1, e_ea2, e_ea3, e_ea4, Int.toNat_natCast, e_it1, e_it2, e_it3, e_it4, e_en1, e_en2, k_for, e_es1, e_es2, e_es3, e_nb1, e_nb2, e_rdd,
    k_callS, e_nq1, e_nq2, e_sv1, e_sv2, e_rf1, e_rf2, e_rf3, g_as1, g_as2, g_as3, g_as4, g_as5, g_as6, g_b1, g_b2, g_b3, g_b4, g_b5, g_b6, k_make, k_fld, e_fld, k_setA, e_ob1, e_pa1, e_pa2, k_asgG, e_gn, e_gnil, e_gcons, e_gtup, e_gtuk, e_gany1, e_gany2, e_gany3, k_dput, e_opk, e_opt, e_kt, e_kk1, e_kk2, e_ks1, e_ks2, e_dg1, e_dg2, e_ixk, e_din, e_dno, k_dnT, k_dnK, k_get2, e_dd1, e_dd2, e_pm1, e_pm2, k_disp, k_og, e_iob, k_oi, k_index, k_isi, k_chain, k_keys, e_fzs, k_forD, e_lo1, e_lo2, e_lb1, e_lb2, e_wi1, e_wi2, e_re1, e_re2, e_gd,
    decide_eq_true_eq, true_and, and_true, List.getElem?_cons_zero, List.getElem?_cons_succ, List.set_cons_zero, List.set_cons_succ, List.map_cons, List.map_nil, List.length_cons, List.length_nil, List.replicate_succ, List.replicate_zero, List.cons_append, List.nil_append, List.append_nil, if_true, if_false, e_mem1, e_eqI, e_neI, e_eqS, e_neS, e_ntd, y_lt1, y_lt2, y_lt3, y_lt4, y_lt5, y_tu1, y_tu2, y_tu3, y_tu4, y_tu5, y_st1, y_st2, y_in1, y_bo1, ex_bl, key_c, val_c, Option.map_none, e_is1, e_is2, e_isn1, e_isn2, Option.isSome_some, Option.isSome_none, Bool.not_true, Bool.not_false, Bool.false_eq_true, Bool.true_eq_false, Bool.not_eq_true', decide_eq_false_iff_not, e_is5, e_is6, e_is7, e_is8, k_meth, e_mth, $xs,*])
variable {A : Ad}
theorem crule_ok {us : List Rl} {x : Str} {vs : List Str} (h : Rules us) (hv : okWs vs) (h4 : vs.length = 4) : OkF (f_counting_rule_g A) [.fz (.tup (us.map Rl.d)), .fz (.str x), .fz (.lst (vs.map .str))] fun r as' => ∃ e, r = .d e ∧ IdxOk us x vs e ∧ as' = [.fz (.tup (us.map Rl.d)), .fz (.str x), .fz (.lst (vs.map .str))] := by
  refine OkF.run rfl ?_
  unfold m_counting_rule_g
  have hlm : (us.map Rl.d).length = us.length := List.length_map _
  refine Oo.cut (fun st => ∃ z3 z4 : Option SV, goP x vs us = [] ∧ st = [some (.fz (.tup (us.map Rl.d))), some (.fz (.str x)), some (.fz (.lst (vs.map .str))), z3, z4]) ?_ ?_
  · simp_all only [true_and]
    refine Oo.loop (fun ds st => ∃ (j : Nat) (z3 z4 : Option SV), ds = (pairsD (nums (us.map Rl.d).length) (us.map Rl.d)).drop j ∧ goP x vs (us.drop j) = goP x vs us ∧ feS (some z3) = true ∧ feS (some z4) = true ∧ st = [some (.fz (.tup (us.map Rl.d))), some (.fz (.str x)), some (.fz (.lst (vs.map .str))), z3, z4]) ?_ ?_ _ _ ⟨0, none, none, rfl, rfl, rfl, rfl, rfl⟩
    · rintro st ⟨j, z3, z4, hd, hr, -, -, rfl⟩
      have e0 := enum_nil hd
      rw [List.drop_eq_nil_of_le (by omega)] at hr
      exact ⟨z3, z4, hr.symm, rfl⟩
    · rintro d ds st ⟨j, z3, z4, hd, hr, f3, f4, rfl⟩
      obtain ⟨hj, rfl, rfl⟩ := enum_cons hd
      have hj2 : j < us.length := by omega
      rw [List.getElem_map]
      rw [List.drop_eq_getElem_cons hj2] at hr
      have hu := h.o us[j] (List.getElem_mem hj2)
      have hr' : (if fitP us[j] x vs = true then us[j].ks else goP x vs (us.drop (j + 1))) = goP x vs us := hr
      refine ⟨_, e_g2 f3 (by simpa using f4), ?_⟩
      simp_all only [true_and]
      refine OkF.use (fits_ok hu hv h4) ?_
      rintro r as' - ⟨rfl, rfl⟩
      simp_all only [true_and]
      by_cases q : fitP us[j] x vs = true
      · rw [if_pos q] at hr'
        simp_all only [q]
        exact ⟨_, rfl, .inl ⟨j, hj2, rfl, hr'.symm⟩⟩
      · rw [if_neg q] at hr'
        simp_all only [q]
        exact ⟨j + 1, _, _, rfl, hr', rfl, rfl, rfl⟩
  rintro st ⟨z3, z4, hr, rfl⟩
  simp_all only [true_and]
  exact ⟨_, rfl, .inr ⟨rfl, hr⟩⟩
theorem bcount_ok {us : List Rl} {s : Tl} {c : Cell} (h : Rules us) (hv : ∀ q ∈ s, okW q.2) : OkF (f_Book_counting A) [.fz (bookD A us), .fz (picD A s), .fz (cD c)] fun r as' => ∃ e, r = .d e ∧ IdxOk us (pg s c) ((ar c).map (pg s)) e ∧ as' = [.fz (bookD A us), .fz (picD A s), .fz (cD c)] := by
  have okp : ∀ e, okW (pg s e) := fun e => by
    unfold pg
    cases hg : getT s e with
    | none => exact okW_white
    | some x => exact hv _ (get_mem hg)
  have okv : okWs ((ar c).map (pg s)) := fun t ht => by
    obtain ⟨e, _, rfl⟩ := List.mem_map.mp ht
    exact okp e
  have e1 : fldD [A.Book] "rules" (bookD A us) = some (.tup (us.map Rl.d)) := by
    unfold bookD
    rw [e_fld, if_pos (by simp)]
    rfl
  have e3 : isOb A.Picture (picD A s) := rfl
  refine OkF.run rfl ?_
  unfold m_Book_counting
  simp_all only [e1, e3]
  refine OkF.use getitem_ok ?_
  rintro r as' - ⟨rfl, rfl⟩
  simp_all only [true_and]
  refine Ok1.lcM (strAt s) ?_
  simp_all only [true_and]
  refine OkF.use neigh_ok ?_
  rintro r as' - ⟨rfl, rfl⟩
  simp_all only [true_and]
  refine ⟨by simp [ar], fun d hd => ?_, ?_⟩
  · obtain ⟨e, _, rfl⟩ := List.mem_map.mp hd
    simp_all only [e3]
    refine OkF.use getitem_ok ?_
    rintro r as' - ⟨rfl, rfl⟩
    simp_all only [true_and]
    rfl
  · have em : ((ar c).map cD).map (strAt s) = ((ar c).map (pg s)).map D.str := rfl
    rw [em]
    refine OkF.use (crule_ok h okv rfl) ?_
    rintro r as' - ⟨e, rfl, he, rfl⟩
    simp_all only [true_and]
    exact ⟨e, rfl, he⟩
theorem inksat_ok {us : List Rl} {s : Tl} {c : Cell} (h : Rules us) (hv : ∀ q ∈ s, okW q.2) : OkF (f_Book_inks_at A) [.fz (bookD A us), .fz (picD A s), .fz (cD c)] fun r as' => r = .d (.tup ((printP us s c).map .str)) ∧ as' = [.fz (bookD A us), .fz (picD A s), .fz (cD c)] := by
  have e1 : fldD [A.Book] "rules" (bookD A us) = some (.tup (us.map Rl.d)) := by
    unfold bookD
    rw [e_fld, if_pos (by simp)]
    rfl
  have e3 : mthS A.Book "counting" (bookD A us) := ⟨rfl, rfl⟩
  refine OkF.run rfl ?_
  unfold m_Book_inks_at
  simp_all only [e1, e3]
  refine OkF.use (bcount_ok h hv) ?_
  rintro r as' - ⟨e, rfl, he, rfl⟩
  unfold printP
  rcases he with ⟨k, hk, rfl, hw⟩ | ⟨rfl, hw⟩
  · rw [hw]
    simp_all only [true_and]
    refine OkF.use (inksof_k hk) ?_
    rintro r as' - ⟨rfl, rfl⟩
    simp_all only [true_and]
  · rw [hw]
    simp_all only [true_and]
    refine OkF.use inksof_n ?_
    rintro r as' - ⟨rfl, rfl⟩
    simp_all only [true_and]
    all_goals rfl
end Cz

/-! # KX -/
namespace Cz
open L2 PyProof.Rows PySem.Spec PySem
theorem e_trB {b : Bool} : trD (.bl b) = some b := rfl
theorem far1 (i : Int) : ∃ j : Int, (mulD (.int i) (.int 1000000000000)) = some (.d (.int j)) := ⟨_, e_mul (mulOk_r (by decide))⟩
theorem pow12 : powD (.int 10) (.int 12) = some (.d (.int 1000000000000)) := (e_pow (by decide)).trans rfl
theorem pow30 : powD (.int 10) (.int 30) = some (.d (.int 1000000000000000000000000000000)) := (e_pow (by decide)).trans rfl
theorem rules_nil : Rules [] := ⟨by decide, fun u hu => by cases hu⟩
local macro_rules
  | `(tactic| simp_all only [$xs,*]) => `(tactic| simp (config := {decide := true}) only [mIfS, mRet, mAsg, mSetL, mNext, mDrop, mRetN, Oo.seq, Oo.out, Oo.ite, Oo.opt, Oo.nx, Oo.rt, Oo.bk, Oo.ct, Oo.no, Ok1.bind, Ok1.ok, Ok1.ite, Ok1.opt, e_var, e_rd1, e_rd2, e_rd3, e_c, e_pk1, e_pk2, e_pk3, e_pk4, e_pk5, e_pk6, e_nr1, e_nr2, e_nr3, e_fr1, e_fr2, e_fr3, e_fr4, e_fr5, e_fz1, e_fz2, e_fz3, e_fz4, e_ow, e_ow1, e_ow2, e_ls, e_ls1, e_ls2, e_pt1, e_pt2, e_fe, e_fe1, e_fe2, e_fe3,
    k_op, k_un, k_cb1, k_o1, k_o2, k_tr, k_and, k_or, k_not, k_andV, k_orV, k_notV, k_if, k_nil, k_cons, k_ref, k_tup, k_lst, e_al1, e_al2, e_mp, e_bd, k_cb, k_call, k_lm, k_yes, k_np, k_pt, k_sl, e_io, e_add1, e_add2, e_add3, e_sub, e_mul, mulOk_r, mulOk_l, e_fdiv, e_mod, e_pow, e_neg, e_lt, e_le, e_gt, e_ge, e_ltS, e_ix1, e_ix2, e_ix3, e_ix4, e_ix5, e_len1, e_len2, e_len3, e_len4, e_len5, e_bl, e_int1, e_abs, e_lst1, e_lst2, e_lst3, e_lst4, e_tup1, e_tup2, e_tup3, e_app, e_ext, e_at0, e_at1, e_at2, e_at3, e_in0, e_in1, e_in2, ex_some, k_items, k_rng1, k_rngE, e_i1, e_inr, e_ea1, e_ea2, e_ea3, e_ea4, Int.toNat_natCast, e_it1, e_it2, e_it3, e_it4, e_en1, e_en2, k_for, e_es1, e_es2, e_es3, e_nb1, e_nb2, e_rdd,
    k_callS, e_nq1, e_nq2, e_sv1, e_sv2, e_rf1, e_rf2, e_rf3, g_as1, g_as2, g_as3, g_as4, g_as5, g_as6, g_b1, g_b2, g_b3, g_b4, g_b5, g_b6, k_make, k_fld, e_fld, k_setA, e_ob1, e_pa1, e_pa2, k_asgG, e_gn, e_gnil, e_gcons, e_gtup, e_gtuk, e_gany1, e_gany2, e_gany3, k_dput, e_opk, e_opt, e_kt, e_kk1, e_kk2, e_ks1, e_ks2, e_dg1, e_dg2, e_ixk, e_din, e_dno, k_dnT, k_dnK, k_get2, e_dd1, e_dd2, e_pm1, e_pm2, k_disp, k_og, e_iob, k_oi, k_index, k_isi, k_chain, k_keys, e_fzs, k_forD, e_lo1, e_lo2, e_lb1, e_lb2, e_wi1, e_wi2, e_re1, e_re2, e_gd,
    decide_eq_true_eq, true_and, and_true, List.getElem?_cons_zero, List.getElem?_cons_succ, List.set_cons_zero, List.set_cons_succ, List.map_cons, List.map_nil, List.length_cons, List.length_nil, List.replicate_succ, List.replicate_zero, List.cons_append, List.nil_append, List.append_nil, if_true, if_false, e_mem1, e_eqI, e_neI, e_eqS, e_neS, e_ntd, y_lt1, y_lt2, y_lt3, y_lt4, y_lt5, y_tu1, y_tu2, y_tu3, y_tu4, y_tu5, y_st1, y_st2, y_in1, y_bo1, ex_bl, key_c, val_c, Option.map_none, e_is1, e_is2, e_isn1, e_isn2, Option.isSome_some, Option.isSome_none, Bool.not_true, Bool.not_false, Bool.false_eq_true, Bool.true_eq_false, Bool.not_eq_true', decide_eq_false_iff_not, e_is5, e_is6, e_is7, e_is8, k_meth, e_mth, e_trB, pow12, pow30, $xs,*])
variable {A : Ad}
theorem bagI {ns : List Int} {j : Int} (h : 0 ≤ j) : OkF (f_l_bag_of A) [.fz (.rol (ns.map .int)), .fz (.int j)] fun r as' => ∃ g : Int × Int × Int, r = .o (.lst (bagD g)) ∧ as' = [.fz (.rol (ns.map .int)), .fz (.int j)] := by
  obtain ⟨n, rfl⟩ := Int.eq_ofNat_of_zero_le h
  exact bag_of_ok
theorem plain_tuk0 : OkF (f_plain_g A) [.fz (.tuk [])] fun r as' => r = .d (.tup (([] : List Rl).map Rl.d)) ∧ as' = [.fz (.tuk [])] :=
  plain_ok 6 _ (.tuk (by decide) fun d hd => by cases hd)
theorem law_ok {ns : List Int} : OkF (f_law_g A) [.fz (.rol (ns.map .int))] fun r as' => r = .d (.bl true) := by
  obtain ⟨N, hN⟩ : ∃ N : SV, N = .fz (.rol (ns.map .int)) := ⟨_, rfl⟩
  refine OkF.run rfl ?_
  unfold m_law_g
  refine Oo.cut (fun st => ∃ g : Int × Int × Int, st = [some (.fz (.rol (ns.map .int))), some (.ow (.lst (bagD g))), none, none, none, none, none, none, none, none, none, none]) ?_ ?_
  · simp_all only [true_and]
    refine OkF.use (bagI (by decide)) ?_
    rintro r as' - ⟨g, rfl, rfl⟩
    simp_all only [true_and]
    exact ⟨g, rfl⟩
  rintro st ⟨g, rfl⟩
  refine Oo.cut (fun st => ∃ (w : Wld) (g : Int × Int × Int), w.Ok ∧ st = [some (.fz (.rol (ns.map .int))), some (.ow (.lst (bagD g))), some (.ow (.dk false w.r)), none, none, none, none, none, none, none, none, none]) ?_ ?_
  · simp_all only [true_and]
    refine OkF.use world_ok ?_
    rintro r as' - ⟨w, g, rfl, rfl, hw⟩
    simp_all only [true_and]
    exact ⟨w, g, hw, rfl⟩
  rintro st ⟨w, g, hw, rfl⟩
  refine Oo.cut (fun st => ∃ g : Int × Int × Int, st = [some (.fz (.rol (ns.map .int))), some (.ow (.lst (bagD g))), some (.ow (.dk false w.r)), none, none, none, none, none, none, none, none, none]) ?_ ?_
  · simp_all only [true_and]
    refine OkF.use (bagI (by decide)) ?_
    rintro r as' - ⟨g, rfl, rfl⟩
    simp_all only [true_and]
    exact ⟨g, rfl⟩
  rintro st ⟨g, rfl⟩
  refine Oo.cut (fun st => ∃ (us : List Rl) (g : Int × Int × Int), Rules us ∧ st = [some (.fz (.rol (ns.map .int))), some (.ow (.lst (bagD g))), some (.fz (.dk w.r)), some (.ow (.lst (us.map Rl.d))), none, none, none, none, none, none, none, none]) ?_ ?_
  · simp_all only [true_and]
    refine OkF.use (longrules_ok hw) ?_
    rintro r as' - ⟨us, g, rfl, rfl, ul, uo⟩
    simp_all only [true_and]
    exact ⟨us, g, ⟨ul, uo⟩, rfl⟩
  rintro st ⟨us, g, hu, rfl⟩
  refine Oo.cut (fun st => ∃ g : Int × Int × Int, st = [some (.fz (.rol (ns.map .int))), some (.ow (.lst (bagD g))), some (.fz (.dk w.r)), some (.ow (.lst (us.map Rl.d))), none, none, none, none, none, none, none, none]) ?_ ?_
  · simp_all only [true_and]
    refine OkF.use (bagI (by decide)) ?_
    rintro r as' - ⟨g, rfl, rfl⟩
    simp_all only [true_and]
    exact ⟨g, rfl⟩
  rintro st ⟨g, rfl⟩
  refine Oo.cut (fun st => ∃ (c : Cell) (g : Int × Int × Int), (-40 ≤ c.1 ∧ c.1 ≤ 40 ∧ -40 ≤ c.2 ∧ c.2 ≤ 40) ∧ st = [some (.fz (.rol (ns.map .int))), some (.ow (.lst (bagD g))), some (.fz (.dk w.r)), some (.ow (.lst (us.map Rl.d))), some (.fz (cD c)), none, none, none, none, none, none, none]) ?_ ?_
  · simp_all only [true_and]
    refine OkF.use (pick_ok (n := 81) (by decide) (by decide)) ?_
    rintro r as' - ⟨k1, g', rfl, rfl, k10, k11⟩
    simp_all only [true_and]
    refine OkF.use (pick_ok (n := 81) (by decide) (by decide)) ?_
    rintro r as' - ⟨k2, g', rfl, rfl, k20, k21⟩
    simp_all only [true_and]
    exact ⟨(k1 - 40, k2 - 40), g', by simp only []; omega, rfl⟩
  rintro st ⟨c, g, hc, rfl⟩
  refine Oo.cut (fun st => ∃ (b : Bool) (g : Int × Int × Int), st = [some (.fz (.rol (ns.map .int))), some (.ow (.lst (bagD g))), some (.fz (.dk w.r)), some (.ow (.lst (us.map Rl.d))), some (.fz (cD c)), some (.fz (.bl b)), none, none, none, none, none, none]) ?_ ?_
  · simp_all only [true_and]
    refine OkF.use (pick_ok (n := 8) (by decide) (by decide)) ?_
    rintro r as' - ⟨k1, g', rfl, rfl, k10, k11⟩
    simp_all only [true_and]
    exact ⟨_, g', rfl⟩
  rintro st ⟨b, g, rfl⟩
  refine Oo.cut (fun st => ∃ (c : Cell), (b = false → -40 ≤ c.1 ∧ c.1 ≤ 40 ∧ -40 ≤ c.2 ∧ c.2 ≤ 40) ∧ st = [some (.fz (.rol (ns.map .int))), some (.ow (.lst (bagD g))), some (.fz (.dk w.r)), some (.ow (.lst (us.map Rl.d))), some (.fz (cD c)), some (.fz (.bl b)), none, none, none, none, none, none]) ?_ ?_
  · have e0 : ixD (cD c) (.int 0) = some (.d (.int c.1)) := rfl
    have e1 : ixD (cD c) (.int 1) = some (.d (.int c.2)) := rfl
    obtain ⟨j, ej⟩ := far1 c.1
    cases b with
    | true =>
      simp_all only [e0, e1, ej]
      exact ⟨(_, _), (fun h => h.elim), rfl⟩
    | false =>
      simp_all only [true_and]
      exact ⟨c, fun _ => hc, rfl⟩
  clear hc c
  rintro st ⟨c, hb, rfl⟩
  have pl := hw.pl
  have tl := hw.tl
  refine Oo.cut (fun st => st = [some (.fz (.rol (ns.map .int))), some (.ow (.lst (bagD g))), some (.fz (.dk w.r)), some (.ow (.lst (us.map Rl.d))), some (.fz (cD c)), some (.fz (.bl b)), some (.ow (.lst ((w.pal ++ [("white" : Str)]).map .str))), none, none, none, none, none]) ?_ ?_
  · have sm : small ((w.pal.map D.str).length + (0 + 1)) = true := decide_eq_true (by rw [List.length_map]; omega)
    simp_all only [get_pal, sm]
    rw [List.map_append]
    rfl
  rintro st rfl
  refine Oo.cut (fun st => ∃ (CS : List Str) (g : Int × Int × Int), (∀ y ∈ CS, HueW y) ∧ 1 ≤ CS.length ∧ CS.length ≤ 20 ∧ st = [some (.fz (.rol (ns.map .int))), some (.ow (.lst (bagD g))), some (.fz (.dk w.r)), some (.ow (.lst (us.map Rl.d))), some (.fz (cD c)), some (.fz (.bl b)), some (.ow (.lst (CS.map .str))), none, none, none, none, none]) ?_ ?_
  · have hp : ∀ y ∈ w.pal ++ [("white" : Str)], HueW y := fun y hy => by
      rcases List.mem_append.mp hy with h | h
      · exact .inl (hw.pg y h)
      · (exact .inr (List.mem_singleton.mp h))
    simp_all only [true_and]
    refine OkF.use (pick_ok (n := 4) (by decide) (by decide)) ?_
    rintro r as' - ⟨k1, g', rfl, rfl, k10, k11⟩
    simp_all only [true_and]
    split
    · have sm : small (((w.pal ++ [("white" : Str)]).map D.str).length + (0 + 1)) = true := decide_eq_true (by rw [List.length_map, List.length_append, List.length_singleton]; omega)
      simp_all only [get_third]
      refine OkF.use (one_of_ok (l := w.third.map .str) rfl (by rw [List.length_map]; omega) (by rw [List.length_map]; omega)) ?_
      rintro r as' - ⟨e, g', rfl, rfl, he⟩
      obtain ⟨y, hy, rfl⟩ := List.mem_map.mp he
      simp_all only [sm]
      refine ⟨(w.pal ++ [("white" : Str)]) ++ [y], g', fun z hz => ?_, by simp, by simp; omega, ?_⟩
      · rcases List.mem_append.mp hz with h | h
        · exact hp z h
        · rw [List.mem_singleton.mp h]
          exact .inl (hw.tg y hy)
      · rw [List.map_append (l₂ := [y])]
        rfl
    · exact ⟨w.pal ++ [("white" : Str)], g', hp, by simp, by simp; omega, rfl⟩
  clear g
  rintro st ⟨CS, g, hall, l1, l2, rfl⟩
  obtain ⟨x, cs, hCS⟩ : ∃ x cs, CS = x :: cs := by
    cases CS with
    | nil => cases l1
    | cons x cs => exact ⟨x, cs, rfl⟩
  refine Oo.cut (fun st => ∃ (t : Tl) (g : Int × Int × Int), Told CS c t ∧ t.length ≤ 9 ∧ st = [some (.fz (.rol (ns.map .int))), some (.ow (.lst (bagD g))), some (.fz (.dk w.r)), some (.ow (.lst (us.map Rl.d))), some (.fz (cD c)), some (.fz (.bl b)), some (.fz (.lst (CS.map .str))), some (.ow (.dt false (tD t))), none, none, none, none]) ?_ ?_
  · simp_all only [true_and]
    refine OkF.use (toldof_ok (cs := CS) (by omega) (by omega)) ?_
    rintro r as' - ⟨t, g', rfl, rfl, ht, htl⟩
    simp_all only [true_and]
    exact ⟨t, g', ht, htl, rfl⟩
  clear g
  rintro st ⟨t, g, ht, htl, rfl⟩
  refine Oo.cut (fun st => ∃ g : Int × Int × Int, st = [some (.fz (.rol (ns.map .int))), some (.ow (.lst (bagD g))), some (.fz (.dk w.r)), some (.ow (.lst (us.map Rl.d))), some (.fz (cD c)), some (.fz (.bl b)), some (.fz (.lst (CS.map .str))), some (.ow (.dt false (tD t))), none, none, none, none]) ?_ ?_
  · simp_all only [true_and]
    refine OkF.use (bagI (by decide)) ?_
    rintro r as' - ⟨g, rfl, rfl⟩
    simp_all only [true_and]
    exact ⟨g, rfl⟩
  clear g
  rintro st ⟨g, rfl⟩
  refine Oo.cut (fun st => ∃ (ks : List Str) (t : Tl) (g : Int × Int × Int), readR us t c = .prints ks ∧ Told CS c t ∧ t.length ≤ 15 ∧ st = [some (.fz (.rol (ns.map .int))), some (.ow (.lst (bagD g))), some (.fz (.dk w.r)), some (.fz (.lst (us.map Rl.d))), some (.fz (cD c)), some (.fz (.bl b)), some (.fz (.lst (CS.map .str))), some (.ow (.dt false (tD t))), some (.fz (.tup (ks.map .str))), none, none, none]) ?_ ?_
  · simp_all only [true_and]
    refine OkF.use (led_ok hu (cs := CS) (by omega) (by omega) hall ht htl) ?_
    rintro r as' - ⟨ks, t', g', rfl, rfl, h1, h2, h3⟩
    simp_all only [true_and]
    exact ⟨ks, t', g', h1, h2, h3, rfl⟩
  clear g ht htl t
  rintro st ⟨ks, t, g, hr, ht, tl15, rfl⟩
  refine Oo.cut (fun st => st = [some (.fz (.rol (ns.map .int))), some (.ow (.lst (bagD g))), some (.fz (.dk w.r)), some (.fz (.lst (us.map Rl.d))), some (.fz (cD c)), some (.fz (.bl b)), some (.fz (.lst (CS.map .str))), some (.ow (.dt false (tD t))), some (.fz (.tup (ks.map .str))), none, none, none]) ?_ ?_
  · have e0 : isD (.tup (ks.map .str)) .non = some (.d (.bl false)) := rfl
    simp_all only [e0]
  rintro st rfl
  refine Oo.cut (fun st => st = [some (.fz (.rol (ns.map .int))), some (.ow (.lst (bagD g))), some (.fz (.dk w.r)), some (.fz (.lst (us.map Rl.d))), some (.fz (cD c)), some (.fz (.bl b)), some (.fz (.lst (CS.map .str))), some (.ow (.dt false (tD t))), some (.fz (.tup (ks.map .str))), some (.ow (.obj A.Book [("rules", .tup (us.map Rl.d))])), none, none]) ?_ ?_
  · simp_all only [true_and]
    refine OkF.use (book_init_ok hu (plain_rules hu)) ?_
    rintro r as' - ⟨rfl, rfl⟩
    simp_all only [true_and]
    refine ⟨_, _, rfl, _, rfl, ?_⟩
    simp_all only [true_and]
  rintro st rfl
  have sn : (keysT (sortT t)).Nodup := ((sortT_perm t).map (fun p : Cell × Str => p.1)).nodup_iff.mpr ht.n
  have sl : (sortT t).length ≤ 1000 := by rw [(sortT_perm t).length_eq]; omega
  have gs : ∀ a, getT (sortT t) a = getT t a := get_perm ht.n (sortT_perm t)
  have hrd : readR us (sortT t) c = .prints ks := (readR_same gs).trans hr
  have kin : Inks ks := readR_len hu hr
  have kl : ks.length ≤ 1000 := Nat.le_trans kin.l (by decide)
  have kok : okWs ks := fun y hy => (kin.g y hy).ok
  obtain ⟨NE, hNE⟩ : ∃ W : Str, W = "prints" := ⟨_, rfl⟩
  rw [← hNE]
  have ed : (Due.prints ks).d = .tup [.str NE, .tup (ks.map .str)] := by
    rw [hNE]
    rfl
  have ed0 : (Due.prints []).d = .tup [.str NE, .tup []] := by
    rw [hNE]
    rfl
  refine Oo.cut (fun st => st = [some (.fz (.rol (ns.map .int))), some (.ow (.lst (bagD g))), some (.fz (.dk w.r)), some (.fz (.lst (us.map Rl.d))), some (.fz (cD c)), some (.fz (.bl b)), some (.fz (.lst (CS.map .str))), some (.fz (.dt (tD t))), some (.fz (.tup (ks.map .str))), some (.fz (bookD A us)), none, none]) ?_ ?_
  · simp_all only [true_and]
    refine OkF.use (triples_ok ht.n (by omega)) ?_
    rintro r as' - ⟨rfl, rfl⟩
    simp_all only [true_and]
    refine OkF.use (readtold_ok hu (bycells_T sn sl) plain_cell) ?_
    rintro r as' - ⟨rfl, rfl⟩
    have sd := same_due (A := A) (t := sortT t) (c := c) hu
    rw [hrd, ed] at sd
    rw [hrd, ed]
    simp_all only [true_and]
    refine OkF.use sd ?_
    rintro r as' - ⟨rfl, rfl⟩
    simp_all only [true_and]
    all_goals rfl
  rintro st rfl
  refine Oo.cut (fun st => b = false ∧ st = [some (.fz (.rol (ns.map .int))), some (.ow (.lst (bagD g))), some (.fz (.dk w.r)), some (.fz (.lst (us.map Rl.d))), some (.fz (cD c)), some (.fz (.bl b)), some (.fz (.lst (CS.map .str))), some (.fz (.dt (tD t))), some (.fz (.tup (ks.map .str))), some (.fz (bookD A us)), none, none]) ?_ ?_
  · cases b with
    | true =>
      simp_all only [true_and]
      exact ⟨_, rfl⟩
    | false => simp_all only [true_and]
  rintro st ⟨eb, rfl⟩
  obtain ⟨c1, c2, c3, c4⟩ := hb eb
  refine Oo.cut (fun st => ∃ g : Int × Int × Int, st = [some (.fz (.rol (ns.map .int))), some (.ow (.lst (bagD g))), some (.fz (.dk w.r)), some (.fz (.lst (us.map Rl.d))), some (.fz (cD c)), some (.fz (.bl b)), some (.fz (.lst (CS.map .str))), some (.fz (.dt (tD t))), some (.fz (.tup (ks.map .str))), some (.fz (bookD A us)), none, none]) ?_ ?_
  · simp_all only [true_and]
    refine OkF.use (bagI (by decide)) ?_
    rintro r as' - ⟨g, rfl, rfl⟩
    simp_all only [true_and]
    exact ⟨g, rfl⟩
  clear g
  rintro st ⟨g, rfl⟩
  refine Oo.cut (fun st => ∃ (g : Int × Int × Int) (z10 z11 : Option SV), st = [some (.fz (.rol (ns.map .int))), some (.ow (.lst (bagD g))), some (.fz (.dk w.r)), some (.fz (.lst (us.map Rl.d))), some (.fz (cD c)), some (.fz (.bl b)), some (.fz (.lst (CS.map .str))), some (.fz (.dt (tD t))), some (.fz (.tup (ks.map .str))), some (.fz (bookD A us)), z10, z11]) ?_ ?_
  · simp_all only [e_inrN (n := 2) (by decide)]
    refine Oo.loop (fun ds st => ∃ (g : Int × Int × Int) (z10 z11 : Option SV), feS (some z10) = true ∧ feS (some z11) = true ∧ st = [some (.fz (.rol (ns.map .int))), some (.ow (.lst (bagD g))), some (.fz (.dk w.r)), some (.fz (.lst (us.map Rl.d))), some (.fz (cD c)), some (.fz (.bl b)), some (.fz (.lst (CS.map .str))), some (.fz (.dt (tD t))), some (.fz (.tup (ks.map .str))), some (.fz (bookD A us)), z10, z11]) ?_ ?_ _ _ ⟨g, none, none, rfl, rfl, rfl⟩
    · rintro st ⟨g, z10, z11, -, -, rfl⟩
      exact ⟨g, z10, z11, rfl⟩
    · rintro d ds st ⟨g, z10, z11, f10, f11, rfl⟩
      refine ⟨_, e_gnT f10, ?_⟩
      simp_all only [f11]
      refine OkF.use (otherpage_ok (by omega) (by omega) ht (by omega)) ?_
      rintro r as' - ⟨p, g', rfl, rfl, hp⟩
      have pn : (keysT (sortT p)).Nodup := ((sortT_perm p).map (fun p : Cell × Str => p.1)).nodup_iff.mpr hp.n
      have ps := hp.l
      have gp : ∀ a, getT (sortT p) a = getT p a := get_perm hp.n (sortT_perm p)
      have hpg : pg (sortT p) = pg p := funext fun e => by
        unfold pg
        rw [gp]
      have gw : ∀ q ∈ p, GoodW q.2 := fun q hq => by
        obtain ⟨h1, h2⟩ := hp.v q hq
        rcases hall _ h1 with h | h
        · exact h
        · exact absurd h h2
      have gk : ∀ q ∈ p, -50 ≤ q.1.1 ∧ q.1.1 ≤ 50 ∧ -50 ≤ q.1.2 ∧ q.1.2 ≤ 50 := fun q hq => by
        obtain ⟨h1, h2, h3, h4⟩ := hp.k q hq
        omega
      have pm : ∀ q, q ∈ sortT p → q ∈ p := fun q hq => (sortT_perm p).mem_iff.mp hq
      have hpic : Pic (sortT p) := ⟨pn, sortT_lt hp.n, fun q hq => gw q (pm q hq), fun q hq => gk q (pm q hq), by rw [(sortT_perm p).length_eq]; omega⟩
      have hv : ∀ q ∈ p, okW q.2 := fun q hq => (gw q hq).ok
      have hpr : printP us p c = ks := read_page hu hp.t hr
      have hpr2 : printP us (sortT p) c = ks := by
        rw [← hpr]
        unfold printP
        rw [hpg]
      have e3 : mthS A.Book "inks_at" (bookD A us) := ⟨rfl, rfl⟩
      simp_all only [f11, e3]
      refine OkF.use (triples_ok hp.n (by omega)) ?_
      rintro r as' - ⟨rfl, rfl⟩
      simp_all only [true_and]
      refine OkF.use (picinit_ok hpic) ?_
      rintro r as' - ⟨rfl, rfl⟩
      simp_all only [true_and]
      refine ⟨_, _, rfl, _, rfl, ?_⟩
      simp_all only [e3]
      refine OkF.use (inksat_ok hu fun q hq => hv q (pm q hq)) ?_
      rintro r as' - ⟨rfl, rfl⟩
      rw [hpr2]
      simp_all only [true_and]
      refine OkF.use (same_ok 6 (.tup (ks.map .str)) (sm_strs kl)) ?_
      rintro r as' - ⟨rfl, rfl⟩
      simp_all only [true_and]
      refine OkF.use (prints_ok hu hv) ?_
      rintro r as' - ⟨rfl, rfl⟩
      rw [hpr]
      simp_all only [ne_tupS kok]
      exact ⟨g', _, _, rfl, rfl, rfl⟩
  rintro st ⟨g, z10, z11, rfl⟩
  have e0 : ixD (cD c) (.int 0) = some (.d (.int c.1)) := rfl
  have e1 : ixD (cD c) (.int 1) = some (.d (.int c.2)) := rfl
  have ec : ixD (.lst (CS.map D.str)) (.int 0) = some (.d (.str x)) := by
    rw [hCS, List.map_cons, e_ix1, e_at0]
    rfl
  have hB : OkF (f_by_cells_f A) [.fz (.lst [.lst [.int c.1, .int c.2, .str x]])] fun r as' => r = .o (.dt false (tD [(c, x)])) ∧ as' = [.fz (.lst [.lst [.int c.1, .int c.2, .str x]])] := bycells_L (t := [(c, x)]) (by simp [keysT]) (by simp)
  have hr0 : readR [] [(c, x)] c = .prints [] := by
    unfold readR getT
    simp [goR]
  simp_all only [true_and]
  refine OkF.use (book_init_ok rules_nil plain_tuk0) ?_
  rintro r as' - ⟨rfl, rfl⟩
  simp_all only [true_and]
  refine ⟨_, _, rfl, _, rfl, ?_⟩
  simp_all only [e0, e1, ec]
  refine OkF.use (readtold_ok (us := []) rules_nil hB plain_cell) ?_
  rintro r as' - ⟨rfl, rfl⟩
  have sd := same_due (A := A) (t := [(c, x)]) (c := c) rules_nil
  rw [hr0, ed0] at sd
  rw [hr0, ed0]
  simp_all only [true_and]
  refine OkF.use sd ?_
  rintro r as' - ⟨rfl, rfl⟩
  simp_all only [true_and]
  exact ⟨_, rfl⟩
end Cz

/-! # Hd -/
namespace Cz
open L2 PyProof.Rows PySem.Spec PySem
/-! ## what the top has written, read off by a Hook with one more Bool -/
/-- the object at a is a tuple of these -/
def tupA (K : PySem.W.Frag) (a : Addr) (vs : List He.Dv) : Bool := match K.lookup a with
  | some ⟨.type c, none, .seq its _, _⟩ => decide (c = "tuple") && (decide (its.size ≤ sizeLine) && He.relAll (vs.map (He.Dv.v K)) its.toList)
  | _ => false
theorem tupA_ok {K : PySem.W.Frag} {a : Addr} {vs : List He.Dv} (h : tupA K a vs = true) : (∃ o, K.lookup a = some o ∧ o.cls = .type "tuple" ∧ o.dict = none) ∧ ∀ H : Hp, SqT K H a (vs.map (He.Dv.v K)) := by
  unfold tupA at h
  cases q : K.lookup a with
  | none =>
    rw [q] at h
    cases h
  | some o =>
    obtain ⟨oc, od, dt, osl⟩ := o
    rw [q] at h
    cases oc with
    | type c =>
      cases od with
      | none =>
        cases dt with
        | seq its n =>
          obtain ⟨h1, h2⟩ := He.ba h
          obtain ⟨h3, h4⟩ := He.ba h2
          have e : c = "tuple" := of_decide_eq_true h1
          subst e
          exact ⟨⟨_, rfl, rfl, rfl⟩, fun H => .inr ⟨_, its, n, q, rfl, rfl, of_decide_eq_true h3, He.relAll_ok h4⟩⟩
        | _ => cases h
      | some d => (cases dt <;> cases h)
    | _ => (cases od <;> cases dt <;> cases h)
theorem rp_tupA {K : PySem.W.Frag} {a : Addr} {vs : List He.Dv} (h : tupA K a vs = true) {F : Hp} {ds : List D} (e : RpL K F ds (vs.map (He.Dv.v K))) : Rp K F (.tuk ds) (.ref a) := .tuk ((tupA_ok h).2 F) e
/-- what an object leads to: a def to its code and defaults, a class to its names, a dict or row to what is in it; a code object to nothing -/
def nextY (g : Addr → Option Obj) (a : Addr) : List Addr := match g a with
  | some ob => (match ob.data with
    | .func fd => He.refV fd.code ++ (He.refV fd.defaults ++ He.refV fd.kwdefaults)
    | .cls cd => [cd.ns]
    | .dict es _ => es.toList.flatMap fun e => He.refV e.val
    | .seq its _ => its.toList.flatMap He.refV
    | _ => [])
  | none => []
def stepsY (g : Addr → Option Obj) : Nat → List Addr → List Addr
  | 0, l => l
  | n + 1, l => l ++ stepsY g n (l.flatMap (nextY g))
def asY (g : Addr → Option Obj) (n : Nat) : List Addr := stepsY g n [mainGlobals]
abbrev AlY : Type := He.AlD × Bool
def obsY (n : Nat) (fa : List He.Fa) (fn : List He.DefD) (ex : PySem.W.Frag → Bool) (g : Addr → Option Obj) : AlY := (He.obsD fa fn (He.frG g (asY g n)), ex (He.frG g (asY g n)))
structure SaysY (fa : List He.Fa) (fn : List He.DefD) (ex : PySem.W.Frag → Bool) (K : PySem.W.Frag) : Prop where
  d : He.SaysD fa fn K
  x : ex K = true
def hookY (n : Nat) (fa : List He.Fa) (fn : List He.DefD) (ex : PySem.W.Frag → Bool) : PySem.W.Hook where
  α := AlY
  obs := fun s => obsY n fa fn ex s.heap.get?
  val := fun _ => (He.valD fn, true)
  says := fun _ h => ∃ K : PySem.W.Frag, K.In h ∧ SaysY fa fn ex K
  of := fun _ _ e => ⟨_, He.frG_in, congrArg (fun z : AlY => z.1) e, congrArg (fun z : AlY => z.2) e⟩
  keeps := fun _ _ _ ⟨K, kin, c⟩ k => ⟨K, PySem.W.Frag.In.keeps kin k, c⟩
theorem obsY_eq {n : Nat} {fa : List He.Fa} {fn : List He.DefD} {ex : PySem.W.Frag → Bool} {g : Addr → Option Obj} {s : Shared} (h : ∀ a, g a = s.heap.get? a) : obsY n fa fn ex g = (hookY n fa fn ex).obs s := by
  (have e : g = s.heap.get? := funext h)
  rw [e] <;> rfl
theorem bs {a b : Bool} (h : (a && b) = true) : a = true ∧ b = true := Bool.and_eq_true_iff.mp h
theorem funD_fun {K : PySem.W.Frag} {x qual : Str} {st : Stmt} {f : Addr} {fd : FuncData} (F : FunD K x qual (defArgs st) (defBody st) (defScope st) [] [] f fd) : Fun K x qual st f fd := by
  (obtain ⟨oc, od, dV, kV, doc, pm, an, cdv, ct, osl, rfl, lk, hcd, hD, hK⟩ := F.ex)
  (rcases hD with ⟨_, rfl⟩ | ⟨e, _⟩)
  · exact ⟨⟨oc, od, kV, doc, pm, an, cdv, ct, osl, rfl, lk, hcd⟩, F.kp⟩
  · exact absurd rfl e
/-- a def with defaults, all of whose parameters are written -/
theorem funD_all {K : PySem.W.Frag} {x qual : Str} {params : Arguments} {body : List Stmt} {scope : Scope} {dvs : List V} {kws : List (Str × V)} {f : Addr} {fd : FuncData} {ps : List Str} (F : FunD K x qual params body scope dvs kws f fd)
    (h : ∀ (dV kV doc pm : Value) (an : Option Addr) (cdv ct : Value) (us : List Value), us.length = ps.length → bindArgs (PySem.W.fnOf x qual params body scope dV kV doc pm an cdv ct) ⟨us, []⟩ = pure (ps.zip us)) : Binds K fd ps [] := by
  (obtain ⟨oc, od, dV, kV, doc, pm, an, cdv, ct, osl, rfl, lk, hcd, hD, hK⟩ := F.ex)
  exact .all (h dV kV doc pm an cdv ct)
/-- .. of whose defaults the last ones, all objects, fill up -/
theorem funD_dfl {K : PySem.W.Frag} {x qual : Str} {params : Arguments} {body : List Stmt} {scope : Scope} {as : List Addr} {f : Addr} {fd : FuncData} {ps : List Str} (F : FunD K x qual params body scope (as.map .ref) [] f fd) (n j : Nat) (hd : as ≠ []) (hn : n + (as.length - j) = ps.length)
    (h : ∀ (T : Addr) (kV doc pm : Value) (an : Option Addr) (cdv ct : Value) (us its : List Value), us.length = n → its.length = as.length →
      ∃ k, bindArgs (PySem.W.fnOf x qual params body scope (.ref T) kV doc pm an cdv ct) ⟨us, []⟩ = seqItems? (.ref T) >>= k ∧ k (some its.toArray) = pure (ps.zip (us ++ its.drop j))) : Binds K fd ps ((as.drop j).map .ref) := by
  obtain ⟨ds, r, b⟩ := F.binds1 (ps := ps) n j (fun e => hd (List.map_eq_nil_iff.mp e)) (by rw [List.length_map]; exact hn) (fun T kV doc pm an cdv ct us its h1 h2 => h T kV doc pm an cdv ct us its h1 (by rw [h2, List.length_map]))
  have e : ds = (as.drop j).map .ref := by
    rw [← List.map_drop] at r
    exact go r
  rw [← e]
  exact b
where
  go : ∀ {l : List Addr} {ds : List Value}, Vals (l.map V.ref) ds → ds = l.map Value.ref
    | [], [], _ => rfl
    | a :: l, d :: ds, .cons h r => by rw [List.map_cons, go r, show d = Value.ref a from h]
/-- from a mirror's end to the promise of the law -/
theorem spM_law {K : PySem.W.Frag} {f : MF} {H : Hp} {a : Addr} {ns : List Int} {E : XK} (h : OkF f [.fz (.rol (ns.map .int))] fun r _ => r = .d (.bl true)) (hS : SqL K H a (ns.map V.int)) : spM K f [.ref a] H (fun v _ => v = .bl true) E := by
  refine ⟨H, [.fz (.rol (ns.map .int))], ⟨Sub.refl, rfl, fun i d e => ?_, fun i sv o e e2 => ?_, fun i j si sj oi oj p e e2 => ?_⟩, ?_⟩
  · match i with
    | 0 =>
      have e3 : (SV.fz (.rol (ns.map D.int))) = SV.fz d := Option.some.inj (Option.some.inj e)
      cases e3
      exact ⟨.ref a, rfl, .rol hS (rpI ns)⟩
    | i + 1 => cases e
  · match i with
    | 0 =>
      have e3 : (SV.fz (.rol (ns.map D.int))) = sv := Option.some.inj (Option.some.inj e)
      subst e3
      cases e2
    | i + 1 => cases e
  · match i with
    | 0 =>
      have e3 : (SV.fz (.rol (ns.map D.int))) = si := Option.some.inj (Option.some.inj e)
      subst e3
      cases e2
    | i + 1 => cases e
  · unfold OkF Ok1 at h
    cases e : f [.fz (.rol (ns.map .int))] with
    | ok r s =>
      rw [e] at h
      obtain ⟨as', h1, h2, rfl⟩ := h
      refine ⟨as', svs_eq h1, fun v F' H' g rr _ => ?_⟩
      have rr2 : Rp K F' (.bl true) v := rr
      cases rr2
      rfl
    | ex c l s => rw [e] at h; exact h.elim
    | no => rw [e] at h; exact h.elim
end Cz

/-! # Hk27 -/
namespace Cz
open L2 PyProof.Rows PySem.Spec PySem
/-! ## the head of k27: facts, the run -/
def dd0 : He.DefD := ⟨("_law_bag_of", none), "_law_bag_of", "_law_bag_of", defArgs s_l_bag_of, defBody s_l_bag_of, defScope s_l_bag_of, [], []⟩
def dd1 : He.DefD := ⟨("_law_pick", none), "_law_pick", "_law_pick", defArgs s_l_pick, defBody s_l_pick, defScope s_l_pick, [], []⟩
def dd2 : He.DefD := ⟨("_law_one_of", none), "_law_one_of", "_law_one_of", defArgs s_l_one_of, defBody s_l_one_of, defScope s_l_one_of, [], []⟩
def dd3 : He.DefD := ⟨("_law_word_of", none), "_law_word_of", "_law_word_of", defArgs s_l_word_of, defBody s_l_word_of, defScope s_l_word_of, [], []⟩
def dd4 : He.DefD := ⟨("_law_words", none), "_law_words", "_law_words", defArgs s_l_words, defBody s_l_words, defScope s_l_words, [], []⟩
def dd5 : He.DefD := ⟨("_law_ink", none), "_law_ink", "_law_ink", defArgs s_l_ink, defBody s_l_ink, defScope s_l_ink, [], []⟩
def dd6 : He.DefD := ⟨("_law_world_of", none), "_law_world_of", "_law_world_of", defArgs s_l_world_of, defBody s_l_world_of, defScope s_l_world_of, [], []⟩
def dd7 : He.DefD := ⟨("_law_mixed_of", none), "_law_mixed_of", "_law_mixed_of", defArgs s_l_mixed_of, defBody s_l_mixed_of, defScope s_l_mixed_of, [], []⟩
def dd8 : He.DefD := ⟨("_law_some", none), "_law_some", "_law_some", defArgs s_l_some, defBody s_l_some, defScope s_l_some, [], []⟩
def dd9 : He.DefD := ⟨("_law_side_rule", none), "_law_side_rule", "_law_side_rule", defArgs s_l_side_rule, defBody s_l_side_rule, defScope s_l_side_rule, [], []⟩
def dd10 : He.DefD := ⟨("_law_inks_for", none), "_law_inks_for", "_law_inks_for", defArgs s_l_inks_for, defBody s_l_inks_for, defScope s_l_inks_for, [], []⟩
def dd11 : He.DefD := ⟨("_law_rules_of", none), "_law_rules_of", "_law_rules_of", defArgs s_l_rules_of, defBody s_l_rules_of, defScope s_l_rules_of, [], []⟩
def dd12 : He.DefD := ⟨("_law_long_rules", none), "_law_long_rules", "_law_long_rules", defArgs s_l_long_rules, defBody s_l_long_rules, defScope s_l_long_rules, [], []⟩
def dd13 : He.DefD := ⟨("_law_around_of", none), "_law_around_of", "_law_around_of", defArgs s_l_around_of, defBody s_l_around_of, defScope s_l_around_of, [], []⟩
def dd14 : He.DefD := ⟨("_law_told_of", none), "_law_told_of", "_law_told_of", defArgs s_l_told_of, defBody s_l_told_of, defScope s_l_told_of, [], []⟩
def dd15 : He.DefD := ⟨("plain", none), "plain", "plain", defArgs s_plain_g, defBody s_plain_g, defScope s_plain_g, [], []⟩
def dd16 : He.DefD := ⟨("is_tuple", none), "is_tuple", "is_tuple", defArgs s_is_tuple_g, defBody s_is_tuple_g, defScope s_is_tuple_g, [], []⟩
def dd17 : He.DefD := ⟨("is_word", none), "is_word", "is_word", defArgs s_is_word_g, defBody s_is_word_g, defScope s_is_word_g, [], []⟩
def dd18 : He.DefD := ⟨("is_hue", none), "is_hue", "is_hue", defArgs s_is_hue_g, defBody s_is_hue_g, defScope s_is_hue_g, [], []⟩
def dd19 : He.DefD := ⟨("is_ascending", none), "is_ascending", "is_ascending", defArgs s_is_ascending_g, defBody s_is_ascending_g, defScope s_is_ascending_g, [], []⟩
def dd20 : He.DefD := ⟨("_are_inks", none), "_are_inks", "_are_inks", defArgs s_are_inks_f, defBody s_are_inks_f, defScope s_are_inks_f, [], []⟩
def dd21 : He.DefD := ⟨("is_rule", none), "is_rule", "is_rule", defArgs s_is_rule_g, defBody s_is_rule_g, defScope s_is_rule_g, [], []⟩
def dd22 : He.DefD := ⟨("Book", some "__init__"), "__init__", "Book.__init__", defArgs s_Book_init, defBody s_Book_init, defScope s_Book_init, [.adr (He.dflAt ("Book", some "__init__") 0)], []⟩
def dd23 : He.DefD := ⟨("_law_listed", none), "_law_listed", "_law_listed", defArgs s_l_listed, defBody s_l_listed, defScope s_l_listed, [], []⟩
def dd24 : He.DefD := ⟨("_law_side_of", none), "_law_side_of", "_law_side_of", defArgs s_l_side_of, defBody s_l_side_of, defScope s_l_side_of, [], []⟩
def dd25 : He.DefD := ⟨("_law_read", none), "_law_read", "_law_read", defArgs s_l_read, defBody s_l_read, defScope s_l_read, [], []⟩
def dd26 : He.DefD := ⟨("_law_triples", none), "_law_triples", "_law_triples", defArgs s_l_triples, defBody s_l_triples, defScope s_l_triples, [], []⟩
def dd27 : He.DefD := ⟨("_by_cells", none), "_by_cells", "_by_cells", defArgs s_by_cells_f, defBody s_by_cells_f, defScope s_by_cells_f, [], []⟩
def dd28 : He.DefD := ⟨("neighbours", none), "neighbours", "neighbours", defArgs s_neighbours_g, defBody s_neighbours_g, defScope s_neighbours_g, [], []⟩
def dd29 : He.DefD := ⟨("_fit", none), "_fit", "_fit", defArgs s_fit_f, defBody s_fit_f, defScope s_fit_f, [], []⟩
def dd30 : He.DefD := ⟨("counting_told", none), "counting_told", "counting_told", defArgs s_counting_told_g, defBody s_counting_told_g, defScope s_counting_told_g, [], []⟩
def dd31 : He.DefD := ⟨("inks_of", none), "inks_of", "inks_of", defArgs s_inks_of_g, defBody s_inks_of_g, defScope s_inks_of_g, [], []⟩
def dd32 : He.DefD := ⟨("reading", none), "reading", "reading", defArgs s_reading_g, defBody s_reading_g, defScope s_reading_g, [], []⟩
def dd33 : He.DefD := ⟨("read_told", none), "read_told", "read_told", defArgs s_read_told_g, defBody s_read_told_g, defScope s_read_told_g, [], []⟩
def dd34 : He.DefD := ⟨("_law_is_int", none), "_law_is_int", "_law_is_int", defArgs s_l_is_int, defBody s_l_is_int, defScope s_l_is_int, [], []⟩
def dd35 : He.DefD := ⟨("_law_same", none), "_law_same", "_law_same", defArgs s_l_same, defBody s_l_same, defScope s_l_same, [], []⟩
def dd36 : He.DefD := ⟨("_law_tupled", none), "_law_tupled", "_law_tupled", defArgs s_l_tupled, defBody s_l_tupled, defScope s_l_tupled, [], []⟩
def dd37 : He.DefD := ⟨("_law_led", none), "_law_led", "_law_led", defArgs s_l_led, defBody s_l_led, defScope s_l_led, [], []⟩
def dd38 : He.DefD := ⟨("_law_other_page", none), "_law_other_page", "_law_other_page", defArgs s_l_other_page, defBody s_l_other_page, defScope s_l_other_page, [], []⟩
def dd39 : He.DefD := ⟨("is_integer", none), "is_integer", "is_integer", defArgs s_is_integer_g, defBody s_is_integer_g, defScope s_is_integer_g, [], []⟩
def dd40 : He.DefD := ⟨("is_cell", none), "is_cell", "is_cell", defArgs s_is_cell_g, defBody s_is_cell_g, defScope s_is_cell_g, [], []⟩
def dd41 : He.DefD := ⟨("Picture", some "__contains__"), "__contains__", "Picture.__contains__", defArgs s_Picture_contains, defBody s_Picture_contains, defScope s_Picture_contains, [], []⟩
def dd42 : He.DefD := ⟨("Picture", some "__getitem__"), "__getitem__", "Picture.__getitem__", defArgs s_Picture_getitem, defBody s_Picture_getitem, defScope s_Picture_getitem, [], []⟩
def dd43 : He.DefD := ⟨("fits", none), "fits", "fits", defArgs s_fits_g, defBody s_fits_g, defScope s_fits_g, [], []⟩
def dd44 : He.DefD := ⟨("counting_rule", none), "counting_rule", "counting_rule", defArgs s_counting_rule_g, defBody s_counting_rule_g, defScope s_counting_rule_g, [], []⟩
def dd45 : He.DefD := ⟨("Book", some "counting"), "counting", "Book.counting", defArgs s_Book_counting, defBody s_Book_counting, defScope s_Book_counting, [], []⟩
def dd46 : He.DefD := ⟨("Book", some "inks_at"), "inks_at", "Book.inks_at", defArgs s_Book_inks_at, defBody s_Book_inks_at, defScope s_Book_inks_at, [], []⟩
def dd47 : He.DefD := ⟨("is_within", none), "is_within", "is_within", defArgs s_is_within_g, defBody s_is_within_g, defScope s_is_within_g, [], []⟩
def dd48 : He.DefD := ⟨("_is_inked", none), "_is_inked", "_is_inked", defArgs s_is_inked_f, defBody s_is_inked_f, defScope s_is_inked_f, [], []⟩
def dd49 : He.DefD := ⟨("Picture", some "__init__"), "__init__", "Picture.__init__", defArgs s_Picture_init, defBody s_Picture_init, defScope s_Picture_init, [.adr (He.dflAt ("Picture", some "__init__") 0)], []⟩
def dd50 : He.DefD := ⟨("_law_fits_of", none), "_law_fits_of", "_law_fits_of", defArgs s_l_fits_of, defBody s_l_fits_of, defScope s_l_fits_of, [], []⟩
def dd51 : He.DefD := ⟨("_law_reads", none), "_law_reads", "_law_reads", defArgs s_l_reads, defBody s_l_reads, defScope s_l_reads, [], []⟩
def dd52 : He.DefD := ⟨("_law_prints", none), "_law_prints", "_law_prints", defArgs s_l_prints, defBody s_l_prints, defScope s_l_prints, [], []⟩
def dd53 : He.DefD := ⟨("law", none), "law", "law", defArgs s_law_g, defBody s_law_g, defScope s_law_g, [], []⟩
abbrev hFn : List He.DefD := [dd0, dd1, dd2, dd3, dd4, dd5, dd6, dd7, dd8, dd9, dd10, dd11, dd12, dd13, dd14, dd15, dd16, dd17, dd18, dd19, dd20, dd21, dd22, dd23, dd24, dd25, dd26, dd27, dd28, dd29, dd30, dd31, dd32, dd33, dd34, dd35, dd36, dd37, dd38, dd39, dd40, dd41, dd42, dd43, dd44, dd45, dd46, dd47, dd48, dd49, dd50, dd51, dd52, dd53]
abbrev hFa : List He.Fa := [.glo "_law_bag_of",
  .glo "_law_pick",
  .glo "_law_one_of",
  .glo "_law_word_of",
  .glo "_law_words",
  .glo "_law_ink",
  .glo "_law_world_of",
  .glo "_law_mixed_of",
  .glo "_law_some",
  .glo "_law_side_rule",
  .glo "_law_inks_for",
  .glo "_law_rules_of",
  .glo "_law_long_rules",
  .glo "_law_around_of",
  .glo "_law_told_of",
  .glo "plain",
  .glo "is_tuple",
  .glo "is_word",
  .glo "is_hue",
  .glo "is_ascending",
  .glo "_are_inks",
  .glo "is_rule",
  .mkr "Book",
  .glo "_law_listed",
  .glo "_law_side_of",
  .glo "_law_read",
  .glo "_law_triples",
  .glo "_by_cells",
  .glo "neighbours",
  .glo "_fit",
  .glo "counting_told",
  .glo "inks_of",
  .glo "reading",
  .glo "read_told",
  .glo "_law_is_int",
  .glo "_law_same",
  .glo "_law_tupled",
  .glo "_law_led",
  .glo "_law_other_page",
  .glo "is_integer",
  .glo "is_cell",
  .meth "Picture" "__contains__",
  .meth "Picture" "__getitem__",
  .glo "fits",
  .glo "counting_rule",
  .meth "Book" "counting",
  .meth "Book" "inks_at",
  .glo "is_within",
  .glo "_is_inked",
  .mkr "Picture",
  .glo "_law_fits_of",
  .glo "_law_reads",
  .glo "_law_prints",
  .glo "law",
  .cls "Book",
  .glo "Book",
  .cls "Picture",
  .glo "Picture",
  .noat "Book" "rules",
  .noat "Picture" "_colours",
  .noat "Picture" "cells",
  .free "abs",
  .free "all",
  .free "bool",
  .free "enumerate",
  .free "int",
  .free "isinstance",
  .free "len",
  .free "list",
  .free "min",
  .free "range",
  .free "sorted",
  .free "str",
  .free "tuple",
  .str "LETTERS" "abcdefghijklmnopqrstuvwxyz",
  .glo "MET",
  .glo "SIDES",
  .glo "UNMET",
  .str "WHITE" "white"]
def hEx (K : PySem.W.Frag) : Bool := tupA K (He.dflAt ("Book", some "__init__") 0 K) [] && (PySem.W.fnIn K (He.ma K (He.ga K "Picture") "__getitem__") && (tupA K (He.ga K "MET") [.str "met"] && (tupA K (He.ga K "SIDES") [.str "up", .str "left", .str "right", .str "down", .str "near", .str "hemmed"] && (tupA K (He.ga K "UNMET") [.str "unmet"]))))
abbrev hNames : List Str := (["_wall", "PlateError", "BadPicture", "BadPlate", "BadJob", "BadRule", "NoRule", "plain", "is_integer", "is_within", "is_number_of", "is_tuple"] : List Str) ++ (["is_ascending", "WHITE", "SIDES", "LETTERS", "is_word", "is_hue", "is_cell", "neighbours", "_is_inked", "Picture", "picture_of", "_is_plate_cell"] : List Str) ++ (["Plate", "plate_of", "shift_in", "Job", "_are_inks", "is_rule", "fits", "counting_rule", "inks_of", "Book", "MET", "UNMET"] : List Str) ++ (["_fit", "counting_told", "reading", "_by_cells", "read_told", "_law_bag_of", "_law_pick", "_law_one_of", "_law_mixed_of", "_law_word_of", "_law_words", "_law_some"] : List Str) ++ (["_law_ink", "_law_world_of", "_law_inks_for", "_law_side_rule", "_law_rules_of", "_law_triples", "_law_around_of", "_law_fits_of", "_law_reads", "_law_prints", "_law_listed", "_law_tupled"] : List Str) ++ (["_law_is_int", "_law_same", "_law_side_of", "_law_read", "_law_long_rules", "_law_told_of", "_law_led", "_law_other_page"] : List Str)
abbrev hR : PySem.W.OpenRow := PySem.W.OpenLaw.row PySem.Challenge.rw_strayplates_k27_read_told
abbrev hK : PySem.W.Hook := hookY 5 hFa hFn hEx
def hOb (s : PySem.W.SharedT) : AlY := obsY 5 hFa hFn hEx (HandSHeadRun.getT s)
theorem hOb_eq (s : PySem.W.SharedT) : hOb s = hK.obs s.abs := obsY_eq (HandSHeadRun.getT_eq s)
theorem hRun (w : World) : HandSHeadRun.RunEq hR (PySem.W.view hR.prog [78]) hK hOb 6000 hNames w := by
  intro os
  kernel_rfl
def hA (K : PySem.W.Frag) : Ad := ⟨(He.ga K "Book"), (He.ga K "Picture")⟩
def hF (K : PySem.W.Frag) : Fa := ⟨(He.ga K "_law_bag_of"), (He.ga K "_law_pick"), (He.ga K "_law_one_of"), (He.ga K "_law_word_of"), (He.ga K "_law_words"), (He.ga K "_law_ink"), (He.ga K "_law_world_of"), (He.ga K "_law_mixed_of"), (He.ga K "_law_some"), (He.ga K "_law_side_rule"), (He.ga K "_law_inks_for"), (He.ga K "_law_rules_of"), (He.ga K "_law_long_rules"), (He.ga K "_law_around_of"), (He.ga K "_law_told_of"), (He.ga K "plain"), (He.ga K "is_tuple"), (He.ga K "is_word"), (He.ga K "is_hue"), (He.ga K "is_ascending"), (He.ga K "_are_inks"), (He.ga K "is_rule"), (He.ma K (He.ga K "Book") "__init__"), (He.ga K "_law_listed"), (He.ga K "_law_side_of"), (He.ga K "_law_read"), (He.ga K "_law_triples"), (He.ga K "_by_cells"), (He.ga K "neighbours"), (He.ga K "_fit"), (He.ga K "counting_told"), (He.ga K "inks_of"), (He.ga K "reading"), (He.ga K "read_told"), (He.ga K "_law_is_int"), (He.ga K "_law_same"), (He.ga K "_law_tupled"), (He.ga K "_law_led"), (He.ga K "_law_other_page"), (He.ga K "is_integer"), (He.ga K "is_cell"), (He.ma K (He.ga K "Picture") "__contains__"), (He.ma K (He.ga K "Picture") "__getitem__"), (He.ga K "fits"), (He.ga K "counting_rule"), (He.ma K (He.ga K "Book") "counting"), (He.ma K (He.ga K "Book") "inks_at"), (He.ga K "is_within"), (He.ga K "_is_inked"), (He.ma K (He.ga K "Picture") "__init__"), (He.ga K "_law_fits_of"), (He.ga K "_law_reads"), (He.ga K "_law_prints"), (He.ga K "law"), (He.ga K "MET"), (He.ga K "SIDES"), (He.ga K "UNMET"), (He.dflAt ("Book", some "__init__") 0 K), (He.dflAt ("Picture", some "__init__") 0 K)⟩
theorem hTx {K : PySem.W.Frag} {h : Heap} {mg : Str → Option Value} (X : K.In h) (G : h.Ns mainGlobals mg) (c : SaysY hFa hFn hEx K) : ∃ fd : Fd, Tx K mg (hA K) (hF K) fd ∧ ∀ (s : Shared) (v : Value), BindsTo s fd.law_g ⟨[v], []⟩ [("_law_script", v)] := by
  obtain ⟨fd0, F0⟩ := c.d.def_ 0 (d := dd0) rfl
  obtain ⟨fd1, F1⟩ := c.d.def_ 1 (d := dd1) rfl
  obtain ⟨fd2, F2⟩ := c.d.def_ 2 (d := dd2) rfl
  obtain ⟨fd3, F3⟩ := c.d.def_ 3 (d := dd3) rfl
  obtain ⟨fd4, F4⟩ := c.d.def_ 4 (d := dd4) rfl
  obtain ⟨fd5, F5⟩ := c.d.def_ 5 (d := dd5) rfl
  obtain ⟨fd6, F6⟩ := c.d.def_ 6 (d := dd6) rfl
  obtain ⟨fd7, F7⟩ := c.d.def_ 7 (d := dd7) rfl
  obtain ⟨fd8, F8⟩ := c.d.def_ 8 (d := dd8) rfl
  obtain ⟨fd9, F9⟩ := c.d.def_ 9 (d := dd9) rfl
  obtain ⟨fd10, F10⟩ := c.d.def_ 10 (d := dd10) rfl
  obtain ⟨fd11, F11⟩ := c.d.def_ 11 (d := dd11) rfl
  obtain ⟨fd12, F12⟩ := c.d.def_ 12 (d := dd12) rfl
  obtain ⟨fd13, F13⟩ := c.d.def_ 13 (d := dd13) rfl
  obtain ⟨fd14, F14⟩ := c.d.def_ 14 (d := dd14) rfl
  obtain ⟨fd15, F15⟩ := c.d.def_ 15 (d := dd15) rfl
  obtain ⟨fd16, F16⟩ := c.d.def_ 16 (d := dd16) rfl
  obtain ⟨fd17, F17⟩ := c.d.def_ 17 (d := dd17) rfl
  obtain ⟨fd18, F18⟩ := c.d.def_ 18 (d := dd18) rfl
  obtain ⟨fd19, F19⟩ := c.d.def_ 19 (d := dd19) rfl
  obtain ⟨fd20, F20⟩ := c.d.def_ 20 (d := dd20) rfl
  obtain ⟨fd21, F21⟩ := c.d.def_ 21 (d := dd21) rfl
  obtain ⟨fd22, F22⟩ := c.d.def_ 22 (d := dd22) rfl
  obtain ⟨fd23, F23⟩ := c.d.def_ 23 (d := dd23) rfl
  obtain ⟨fd24, F24⟩ := c.d.def_ 24 (d := dd24) rfl
  obtain ⟨fd25, F25⟩ := c.d.def_ 25 (d := dd25) rfl
  obtain ⟨fd26, F26⟩ := c.d.def_ 26 (d := dd26) rfl
  obtain ⟨fd27, F27⟩ := c.d.def_ 27 (d := dd27) rfl
  obtain ⟨fd28, F28⟩ := c.d.def_ 28 (d := dd28) rfl
  obtain ⟨fd29, F29⟩ := c.d.def_ 29 (d := dd29) rfl
  obtain ⟨fd30, F30⟩ := c.d.def_ 30 (d := dd30) rfl
  obtain ⟨fd31, F31⟩ := c.d.def_ 31 (d := dd31) rfl
  obtain ⟨fd32, F32⟩ := c.d.def_ 32 (d := dd32) rfl
  obtain ⟨fd33, F33⟩ := c.d.def_ 33 (d := dd33) rfl
  obtain ⟨fd34, F34⟩ := c.d.def_ 34 (d := dd34) rfl
  obtain ⟨fd35, F35⟩ := c.d.def_ 35 (d := dd35) rfl
  obtain ⟨fd36, F36⟩ := c.d.def_ 36 (d := dd36) rfl
  obtain ⟨fd37, F37⟩ := c.d.def_ 37 (d := dd37) rfl
  obtain ⟨fd38, F38⟩ := c.d.def_ 38 (d := dd38) rfl
  obtain ⟨fd39, F39⟩ := c.d.def_ 39 (d := dd39) rfl
  obtain ⟨fd40, F40⟩ := c.d.def_ 40 (d := dd40) rfl
  obtain ⟨fd41, F41⟩ := c.d.def_ 41 (d := dd41) rfl
  obtain ⟨fd42, F42⟩ := c.d.def_ 42 (d := dd42) rfl
  obtain ⟨fd43, F43⟩ := c.d.def_ 43 (d := dd43) rfl
  obtain ⟨fd44, F44⟩ := c.d.def_ 44 (d := dd44) rfl
  obtain ⟨fd45, F45⟩ := c.d.def_ 45 (d := dd45) rfl
  obtain ⟨fd46, F46⟩ := c.d.def_ 46 (d := dd46) rfl
  obtain ⟨fd47, F47⟩ := c.d.def_ 47 (d := dd47) rfl
  obtain ⟨fd48, F48⟩ := c.d.def_ 48 (d := dd48) rfl
  obtain ⟨fd49, F49⟩ := c.d.def_ 49 (d := dd49) rfl
  obtain ⟨fd50, F50⟩ := c.d.def_ 50 (d := dd50) rfl
  obtain ⟨fd51, F51⟩ := c.d.def_ 51 (d := dd51) rfl
  obtain ⟨fd52, F52⟩ := c.d.def_ 52 (d := dd52) rfl
  obtain ⟨fd53, F53⟩ := c.d.def_ 53 (d := dd53) rfl
  have e := c.x
  unfold hEx at e
  obtain ⟨e0, e⟩ := bs e
  obtain ⟨e1, e⟩ := bs e
  obtain ⟨e2, e⟩ := bs e
  obtain ⟨e3, e⟩ := bs e
  have e4 := e
  refine ⟨⟨fd0, fd1, fd2, fd3, fd4, fd5, fd6, fd7, fd8, fd9, fd10, fd11, fd12, fd13, fd14, fd15, fd16, fd17, fd18, fd19, fd20, fd21, fd22, fd23, fd24, fd25, fd26, fd27, fd28, fd29, fd30, fd31, fd32, fd33, fd34, fd35, fd36, fd37, fd38, fd39, fd40, fd41, fd42, fd43, fd44, fd45, fd46, fd47, fd48, fd49, fd50, fd51, fd52, fd53⟩, ?_, fun s v => FunD.bindsA (ps := ["_law_script"]) F53 (fun _ _ _ _ _ _ us hl => match us, hl with | [_], _ => rfl) s [v] rfl⟩
  exact {
    F_l_bag_of := funD_fun F0
    B_l_bag_of := FunD.bindsN F0 fun _ _ _ _ _ _ us hl => match us, hl with | [_, _], _ => rfl
    g_l_bag_of := He.glo_ok X G (c.d.fact 0 (f := .glo "_law_bag_of") rfl)
    F_l_pick := funD_fun F1
    B_l_pick := FunD.bindsN F1 fun _ _ _ _ _ _ us hl => match us, hl with | [_, _], _ => rfl
    g_l_pick := He.glo_ok X G (c.d.fact 1 (f := .glo "_law_pick") rfl)
    F_l_one_of := funD_fun F2
    B_l_one_of := FunD.bindsN F2 fun _ _ _ _ _ _ us hl => match us, hl with | [_, _], _ => rfl
    g_l_one_of := He.glo_ok X G (c.d.fact 2 (f := .glo "_law_one_of") rfl)
    F_l_word_of := funD_fun F3
    B_l_word_of := FunD.bindsN F3 fun _ _ _ _ _ _ us hl => match us, hl with | [_, _], _ => rfl
    g_l_word_of := He.glo_ok X G (c.d.fact 3 (f := .glo "_law_word_of") rfl)
    F_l_words := funD_fun F4
    B_l_words := FunD.bindsN F4 fun _ _ _ _ _ _ us hl => match us, hl with | [_, _, _], _ => rfl
    g_l_words := He.glo_ok X G (c.d.fact 4 (f := .glo "_law_words") rfl)
    F_l_ink := funD_fun F5
    B_l_ink := FunD.bindsN F5 fun _ _ _ _ _ _ us hl => match us, hl with | [_, _, _, _], _ => rfl
    g_l_ink := He.glo_ok X G (c.d.fact 5 (f := .glo "_law_ink") rfl)
    F_l_world_of := funD_fun F6
    B_l_world_of := FunD.bindsN F6 fun _ _ _ _ _ _ us hl => match us, hl with | [_], _ => rfl
    g_l_world_of := He.glo_ok X G (c.d.fact 6 (f := .glo "_law_world_of") rfl)
    F_l_mixed_of := funD_fun F7
    B_l_mixed_of := FunD.bindsN F7 fun _ _ _ _ _ _ us hl => match us, hl with | [_, _], _ => rfl
    g_l_mixed_of := He.glo_ok X G (c.d.fact 7 (f := .glo "_law_mixed_of") rfl)
    F_l_some := funD_fun F8
    B_l_some := FunD.bindsN F8 fun _ _ _ _ _ _ us hl => match us, hl with | [_, _, _], _ => rfl
    g_l_some := He.glo_ok X G (c.d.fact 8 (f := .glo "_law_some") rfl)
    F_l_side_rule := funD_fun F9
    B_l_side_rule := FunD.bindsN F9 fun _ _ _ _ _ _ us hl => match us, hl with | [_, _], _ => rfl
    g_l_side_rule := He.glo_ok X G (c.d.fact 9 (f := .glo "_law_side_rule") rfl)
    F_l_inks_for := funD_fun F10
    B_l_inks_for := FunD.bindsN F10 fun _ _ _ _ _ _ us hl => match us, hl with | [_, _, _], _ => rfl
    g_l_inks_for := He.glo_ok X G (c.d.fact 10 (f := .glo "_law_inks_for") rfl)
    F_l_rules_of := funD_fun F11
    B_l_rules_of := FunD.bindsN F11 fun _ _ _ _ _ _ us hl => match us, hl with | [_, _, _], _ => rfl
    g_l_rules_of := He.glo_ok X G (c.d.fact 11 (f := .glo "_law_rules_of") rfl)
    F_l_long_rules := funD_fun F12
    B_l_long_rules := FunD.bindsN F12 fun _ _ _ _ _ _ us hl => match us, hl with | [_, _], _ => rfl
    g_l_long_rules := He.glo_ok X G (c.d.fact 12 (f := .glo "_law_long_rules") rfl)
    F_l_around_of := funD_fun F13
    B_l_around_of := FunD.bindsN F13 fun _ _ _ _ _ _ us hl => match us, hl with | [_], _ => rfl
    g_l_around_of := He.glo_ok X G (c.d.fact 13 (f := .glo "_law_around_of") rfl)
    F_l_told_of := funD_fun F14
    B_l_told_of := FunD.bindsN F14 fun _ _ _ _ _ _ us hl => match us, hl with | [_, _, _], _ => rfl
    g_l_told_of := He.glo_ok X G (c.d.fact 14 (f := .glo "_law_told_of") rfl)
    F_plain_g := funD_fun F15
    B_plain_g := FunD.bindsN F15 fun _ _ _ _ _ _ us hl => match us, hl with | [_], _ => rfl
    g_plain_g := He.glo_ok X G (c.d.fact 15 (f := .glo "plain") rfl)
    F_is_tuple_g := funD_fun F16
    B_is_tuple_g := FunD.bindsN F16 fun _ _ _ _ _ _ us hl => match us, hl with | [_, _, _], _ => rfl
    g_is_tuple_g := He.glo_ok X G (c.d.fact 16 (f := .glo "is_tuple") rfl)
    F_is_word_g := funD_fun F17
    B_is_word_g := FunD.bindsN F17 fun _ _ _ _ _ _ us hl => match us, hl with | [_], _ => rfl
    g_is_word_g := He.glo_ok X G (c.d.fact 17 (f := .glo "is_word") rfl)
    F_is_hue_g := funD_fun F18
    B_is_hue_g := FunD.bindsN F18 fun _ _ _ _ _ _ us hl => match us, hl with | [_], _ => rfl
    g_is_hue_g := He.glo_ok X G (c.d.fact 18 (f := .glo "is_hue") rfl)
    F_is_ascending_g := funD_fun F19
    B_is_ascending_g := FunD.bindsN F19 fun _ _ _ _ _ _ us hl => match us, hl with | [_], _ => rfl
    g_is_ascending_g := He.glo_ok X G (c.d.fact 19 (f := .glo "is_ascending") rfl)
    F_are_inks_f := funD_fun F20
    B_are_inks_f := FunD.bindsN F20 fun _ _ _ _ _ _ us hl => match us, hl with | [_], _ => rfl
    g_are_inks_f := He.glo_ok X G (c.d.fact 20 (f := .glo "_are_inks") rfl)
    F_is_rule_g := funD_fun F21
    B_is_rule_g := FunD.bindsN F21 fun _ _ _ _ _ _ us hl => match us, hl with | [_], _ => rfl
    g_is_rule_g := He.glo_ok X G (c.d.fact 21 (f := .glo "is_rule") rfl)
    F_Book_init := F22
    B_Book_init := funD_dfl (as := [(He.dflAt ("Book", some "__init__") 0 K)]) F22 2 1 (by simp) (by rfl) fun _ _ _ _ _ _ _ us its hl hi => match us, hl, its, hi with | [_, _], _, [_], _ => ⟨_, rfl, rfl⟩
    mk_Book := He.mkr_ok (c.d.fact 22 (f := .mkr "Book") rfl)
    F_l_listed := funD_fun F23
    B_l_listed := FunD.bindsN F23 fun _ _ _ _ _ _ us hl => match us, hl with | [_], _ => rfl
    g_l_listed := He.glo_ok X G (c.d.fact 23 (f := .glo "_law_listed") rfl)
    F_l_side_of := funD_fun F24
    B_l_side_of := FunD.bindsN F24 fun _ _ _ _ _ _ us hl => match us, hl with | [_, _, _], _ => rfl
    g_l_side_of := He.glo_ok X G (c.d.fact 24 (f := .glo "_law_side_of") rfl)
    F_l_read := funD_fun F25
    B_l_read := FunD.bindsN F25 fun _ _ _ _ _ _ us hl => match us, hl with | [_, _, _], _ => rfl
    g_l_read := He.glo_ok X G (c.d.fact 25 (f := .glo "_law_read") rfl)
    F_l_triples := funD_fun F26
    B_l_triples := FunD.bindsN F26 fun _ _ _ _ _ _ us hl => match us, hl with | [_], _ => rfl
    g_l_triples := He.glo_ok X G (c.d.fact 26 (f := .glo "_law_triples") rfl)
    F_by_cells_f := funD_fun F27
    B_by_cells_f := FunD.bindsN F27 fun _ _ _ _ _ _ us hl => match us, hl with | [_], _ => rfl
    g_by_cells_f := He.glo_ok X G (c.d.fact 27 (f := .glo "_by_cells") rfl)
    F_neighbours_g := funD_fun F28
    B_neighbours_g := FunD.bindsN F28 fun _ _ _ _ _ _ us hl => match us, hl with | [_], _ => rfl
    g_neighbours_g := He.glo_ok X G (c.d.fact 28 (f := .glo "neighbours") rfl)
    F_fit_f := funD_fun F29
    B_fit_f := FunD.bindsN F29 fun _ _ _ _ _ _ us hl => match us, hl with | [_, _, _], _ => rfl
    g_fit_f := He.glo_ok X G (c.d.fact 29 (f := .glo "_fit") rfl)
    F_counting_told_g := funD_fun F30
    B_counting_told_g := FunD.bindsN F30 fun _ _ _ _ _ _ us hl => match us, hl with | [_, _, _], _ => rfl
    g_counting_told_g := He.glo_ok X G (c.d.fact 30 (f := .glo "counting_told") rfl)
    F_inks_of_g := funD_fun F31
    B_inks_of_g := FunD.bindsN F31 fun _ _ _ _ _ _ us hl => match us, hl with | [_, _], _ => rfl
    g_inks_of_g := He.glo_ok X G (c.d.fact 31 (f := .glo "inks_of") rfl)
    F_reading_g := funD_fun F32
    B_reading_g := FunD.bindsN F32 fun _ _ _ _ _ _ us hl => match us, hl with | [_, _, _], _ => rfl
    g_reading_g := He.glo_ok X G (c.d.fact 32 (f := .glo "reading") rfl)
    F_read_told_g := funD_fun F33
    B_read_told_g := FunD.bindsN F33 fun _ _ _ _ _ _ us hl => match us, hl with | [_, _, _], _ => rfl
    g_read_told_g := He.glo_ok X G (c.d.fact 33 (f := .glo "read_told") rfl)
    F_l_is_int := funD_fun F34
    B_l_is_int := FunD.bindsN F34 fun _ _ _ _ _ _ us hl => match us, hl with | [_], _ => rfl
    g_l_is_int := He.glo_ok X G (c.d.fact 34 (f := .glo "_law_is_int") rfl)
    F_l_same := funD_fun F35
    B_l_same := FunD.bindsN F35 fun _ _ _ _ _ _ us hl => match us, hl with | [_, _], _ => rfl
    g_l_same := He.glo_ok X G (c.d.fact 35 (f := .glo "_law_same") rfl)
    F_l_tupled := funD_fun F36
    B_l_tupled := FunD.bindsN F36 fun _ _ _ _ _ _ us hl => match us, hl with | [_], _ => rfl
    g_l_tupled := He.glo_ok X G (c.d.fact 36 (f := .glo "_law_tupled") rfl)
    F_l_led := funD_fun F37
    B_l_led := FunD.bindsN F37 fun _ _ _ _ _ _ us hl => match us, hl with | [_, _, _, _, _], _ => rfl
    g_l_led := He.glo_ok X G (c.d.fact 37 (f := .glo "_law_led") rfl)
    F_l_other_page := funD_fun F38
    B_l_other_page := FunD.bindsN F38 fun _ _ _ _ _ _ us hl => match us, hl with | [_, _, _, _], _ => rfl
    g_l_other_page := He.glo_ok X G (c.d.fact 38 (f := .glo "_law_other_page") rfl)
    F_is_integer_g := funD_fun F39
    B_is_integer_g := FunD.bindsN F39 fun _ _ _ _ _ _ us hl => match us, hl with | [_], _ => rfl
    g_is_integer_g := He.glo_ok X G (c.d.fact 39 (f := .glo "is_integer") rfl)
    F_is_cell_g := funD_fun F40
    B_is_cell_g := FunD.bindsN F40 fun _ _ _ _ _ _ us hl => match us, hl with | [_], _ => rfl
    g_is_cell_g := He.glo_ok X G (c.d.fact 40 (f := .glo "is_cell") rfl)
    F_Picture_contains := funD_fun F41
    B_Picture_contains := FunD.bindsN F41 fun _ _ _ _ _ _ us hl => match us, hl with | [_, _], _ => rfl
    M_Picture_contains := He.meth_ok (c.d.fact 41 (f := .meth "Picture" "__contains__") rfl)
    F_Picture_getitem := funD_fun F42
    B_Picture_getitem := FunD.bindsN F42 fun _ _ _ _ _ _ us hl => match us, hl with | [_, _], _ => rfl
    M_Picture_getitem := He.meth_ok (c.d.fact 42 (f := .meth "Picture" "__getitem__") rfl)
    F_fits_g := funD_fun F43
    B_fits_g := FunD.bindsN F43 fun _ _ _ _ _ _ us hl => match us, hl with | [_, _, _], _ => rfl
    g_fits_g := He.glo_ok X G (c.d.fact 43 (f := .glo "fits") rfl)
    F_counting_rule_g := funD_fun F44
    B_counting_rule_g := FunD.bindsN F44 fun _ _ _ _ _ _ us hl => match us, hl with | [_, _, _], _ => rfl
    g_counting_rule_g := He.glo_ok X G (c.d.fact 44 (f := .glo "counting_rule") rfl)
    F_Book_counting := funD_fun F45
    B_Book_counting := FunD.bindsN F45 fun _ _ _ _ _ _ us hl => match us, hl with | [_, _, _], _ => rfl
    M_Book_counting := He.meth_ok (c.d.fact 45 (f := .meth "Book" "counting") rfl)
    F_Book_inks_at := funD_fun F46
    B_Book_inks_at := FunD.bindsN F46 fun _ _ _ _ _ _ us hl => match us, hl with | [_, _, _], _ => rfl
    M_Book_inks_at := He.meth_ok (c.d.fact 46 (f := .meth "Book" "inks_at") rfl)
    F_is_within_g := funD_fun F47
    B_is_within_g := FunD.bindsN F47 fun _ _ _ _ _ _ us hl => match us, hl with | [_, _, _], _ => rfl
    g_is_within_g := He.glo_ok X G (c.d.fact 47 (f := .glo "is_within") rfl)
    F_is_inked_f := funD_fun F48
    B_is_inked_f := FunD.bindsN F48 fun _ _ _ _ _ _ us hl => match us, hl with | [_], _ => rfl
    g_is_inked_f := He.glo_ok X G (c.d.fact 48 (f := .glo "_is_inked") rfl)
    F_Picture_init := F49
    B_Picture_init := funD_dfl (as := [(He.dflAt ("Picture", some "__init__") 0 K)]) F49 2 1 (by simp) (by rfl) fun _ _ _ _ _ _ _ us its hl hi => match us, hl, its, hi with | [_, _], _, [_], _ => ⟨_, rfl, rfl⟩
    mk_Picture := He.mkr_ok (c.d.fact 49 (f := .mkr "Picture") rfl)
    F_l_fits_of := funD_fun F50
    B_l_fits_of := FunD.bindsN F50 fun _ _ _ _ _ _ us hl => match us, hl with | [_, _, _], _ => rfl
    g_l_fits_of := He.glo_ok X G (c.d.fact 50 (f := .glo "_law_fits_of") rfl)
    F_l_reads := funD_fun F51
    B_l_reads := FunD.bindsN F51 fun _ _ _ _ _ _ us hl => match us, hl with | [_, _, _], _ => rfl
    g_l_reads := He.glo_ok X G (c.d.fact 51 (f := .glo "_law_reads") rfl)
    F_l_prints := funD_fun F52
    B_l_prints := FunD.bindsN F52 fun _ _ _ _ _ _ us hl => match us, hl with | [_, _, _], _ => rfl
    g_l_prints := He.glo_ok X G (c.d.fact 52 (f := .glo "_law_prints") rfl)
    F_law_g := funD_fun F53
    B_law_g := FunD.bindsN F53 fun _ _ _ _ _ _ us hl => match us, hl with | [_], _ => rfl
    g_law_g := He.glo_ok X G (c.d.fact 53 (f := .glo "law") rfl)
    B1_Book_init := funD_dfl (as := [(He.dflAt ("Book", some "__init__") 0 K)]) F22 1 0 (by simp) (by rfl) fun _ _ _ _ _ _ _ us its hl hi => match us, hl, its, hi with | [_], _, [_], _ => ⟨_, rfl, rfl⟩
    d_Book_init_0 := fun F => rp_tupA e0 (show RpL K F _ [] from .nil)
    fn_Picture_getitem := e1
    L_Book := He.cls_ok (c.d.fact 54 (f := .cls "Book") rfl)
    c_Book := He.glo_ok X G (c.d.fact 55 (f := .glo "Book") rfl)
    L_Picture := He.cls_ok (c.d.fact 56 (f := .cls "Picture") rfl)
    c_Picture := He.glo_ok X G (c.d.fact 57 (f := .glo "Picture") rfl)
    n_Book_rules := fun C hC => by
      obtain rfl := List.mem_singleton.mp hC
      exact ⟨He.cls_ok (c.d.fact 54 (f := .cls "Book") rfl), He.noat_ok (c.d.fact 58 (f := .noat "Book" "rules") rfl)⟩
    n_Picture_colours := fun C hC => by
      obtain rfl := List.mem_singleton.mp hC
      exact ⟨He.cls_ok (c.d.fact 56 (f := .cls "Picture") rfl), He.noat_ok (c.d.fact 59 (f := .noat "Picture" "_colours") rfl)⟩
    n_Picture_cells := fun C hC => by
      obtain rfl := List.mem_singleton.mp hC
      exact ⟨He.cls_ok (c.d.fact 56 (f := .cls "Picture") rfl), He.noat_ok (c.d.fact 60 (f := .noat "Picture" "cells") rfl)⟩
    b_abs := He.free_ok X G (c.d.fact 61 (f := .free "abs") rfl)
    b_all := He.free_ok X G (c.d.fact 62 (f := .free "all") rfl)
    b_bool := He.free_ok X G (c.d.fact 63 (f := .free "bool") rfl)
    b_enumerate := He.free_ok X G (c.d.fact 64 (f := .free "enumerate") rfl)
    b_int := He.free_ok X G (c.d.fact 65 (f := .free "int") rfl)
    b_isinstance := He.free_ok X G (c.d.fact 66 (f := .free "isinstance") rfl)
    b_len := He.free_ok X G (c.d.fact 67 (f := .free "len") rfl)
    b_list := He.free_ok X G (c.d.fact 68 (f := .free "list") rfl)
    b_min := He.free_ok X G (c.d.fact 69 (f := .free "min") rfl)
    b_range := He.free_ok X G (c.d.fact 70 (f := .free "range") rfl)
    b_sorted := He.free_ok X G (c.d.fact 71 (f := .free "sorted") rfl)
    b_str := He.free_ok X G (c.d.fact 72 (f := .free "str") rfl)
    b_tuple := He.free_ok X G (c.d.fact 73 (f := .free "tuple") rfl)
    k_LETTERS := He.str_ok X G (c.d.fact 74 (f := .str "LETTERS" "abcdefghijklmnopqrstuvwxyz") rfl)
    k_MET := He.glo_ok X G (c.d.fact 75 (f := .glo "MET") rfl)
    v_MET := fun F => rp_tupA e2 (show RpL K F _ [V.str "met"] from .cons (.str "met") .nil)
    k_SIDES := He.glo_ok X G (c.d.fact 76 (f := .glo "SIDES") rfl)
    v_SIDES := fun F => rp_tupA e3 (show RpL K F _ [V.str "up", V.str "left", V.str "right", V.str "down", V.str "near", V.str "hemmed"] from .cons (.str "up") (.cons (.str "left") (.cons (.str "right") (.cons (.str "down") (.cons (.str "near") (.cons (.str "hemmed") .nil))))))
    k_UNMET := He.glo_ok X G (c.d.fact 77 (f := .glo "UNMET") rfl)
    v_UNMET := fun F => rp_tupA e4 (show RpL K F _ [V.str "unmet"] from .cons (.str "unmet") .nil)
    k_WHITE := He.str_ok X G (c.d.fact 78 (f := .str "WHITE" "white") rfl)
    l_SIDES := (tupA_ok e3).1 }
end Cz
open PySem PySem.W PySem.Calls PyProof.Rows
theorem Cz.hSaid : (OpenLaw.row PySem.Challenge.rw_strayplates_k27_read_told).wellSaid = true := by decide +kernel
theorem Cz.hBare : (OpenLaw.row PySem.Challenge.rw_strayplates_k27_read_told).prog.bare := ⟨rfl, rfl, rfl, rfl, rfl, by decide +kernel⟩
theorem Cz.hWell : (chainsOk (view (OpenLaw.row PySem.Challenge.rw_strayplates_k27_read_told).prog [78]) && opensWell (OpenLaw.row PySem.Challenge.rw_strayplates_k27_read_told).prog && (frees (OpenLaw.row PySem.Challenge.rw_strayplates_k27_read_told).toRowW && (OpenLaw.row PySem.Challenge.rw_strayplates_k27_read_told).within.isEmpty)) = true := by decide +kernel
set_option maxHeartbeats 0 in
theorem PySem.Challenge.cw_strayplates_k27_read_told_holds : PySem.Challenge.rw_strayplates_k27_read_told.Holds := by
  w_on; o_law
  refine HandSHeadRun.head_any (r := OpenLaw.row PySem.Challenge.rw_strayplates_k27_read_told) (q := view (OpenLaw.row PySem.Challenge.rw_strayplates_k27_read_told).prog [78]) (H := Cz.hK) (ob := Cz.hOb) (M := 6000) (loose := Cz.hNames) (d := HandSHeadRun.topDef (OpenLaw.row PySem.Challenge.rw_strayplates_k27_read_told).prog 78) (kwd := []) Cz.hOb_eq
    (by kernel_rfl) (fun s => by kernel_rfl) Cz.hRun (by kernel_rfl) (by kernel_rfl) (by kernel_rfl) (by rfl) Cz.hSaid Cz.hWell Cz.hBare ?hw ?hc
  case hw => w_witness2
  case hc =>
    refine L2.walk_ofE (l := PySem.Challenge.rw_strayplates_k27_read_told) (n := 63) (k := 11) (x := "_law_script") (CX := L2.CX0) rfl (by decide) (by kernel_rfl) ⟨rfl, by decide, by decide⟩ ?F (fun _ _ _ _ z => z)
    intro w mg fa h Y G hmg0
    obtain ⟨K, KX, c⟩ := Y
    have atLaw : mg ("law" : PySem.Str) = some (.ref fa) := by
      have e : (HandSHeadRun.topDef (OpenLaw.row PySem.Challenge.rw_strayplates_k27_read_told).prog 78).name = ("law" : PySem.Str) := by kernel_rfl
      rw [← e]
      exact hmg0
    obtain ⟨fd, T, hb⟩ := Cz.hTx KX G c
    have e : fa = (Cz.hF K).law_g := by
      exact Value.ref.inj (Option.some.inj (atLaw.symm.trans T.g_law_g))
    subst e
    exact ⟨K, fd.law_g, Cz.spM K (Cz.f_law_g (Cz.hA K)), KX, hb, fun H a ns hl _ hS => Cz.spM_law Cz.law_ok hS, fun base _ Gb => by
      obtain ⟨fd2, T2, _⟩ := Cz.hTx KX G c
      exact Cz.ok_law_g T⟩

