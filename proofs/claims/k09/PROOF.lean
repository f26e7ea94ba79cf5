import PyProof.Rows.All
import Wide.All
import OpenK.AllK
import Wide.FinOn
import HandS.ForMost
import HandS.ForExc
import HandS.Wide
import HandS.IsInst
import HandS.TupAny
import HandS.Gcd
import HandS.Flow
import HandS.Conv
import HandS.Sort
import PyProof.ListRange
import KE.GoesEnum
import HandS.Iter
import HandS.Zip
import HandS.Defaults
import HandS.ExcOwn
import KE.KMathG
import PyProof.TupleOfSeq
import HandS.Ends
import HandS.HeadEnd
import HandS.Words
import HandS.WordsExc
import HandS.Head0
import HandS.Head1
import HandS.Head2
import HandS.HeadHook1
import HandS.HeadHook2
import PySem.Challenge.RW_eventcore_k09_whole_scales
set_option Elab.async false
set_option linter.all false
set_option maxRecDepth 100000
namespace Fv
open PySem L2

/-! pure data, and how a value of the machine stands for it -/
inductive D where
  | non | bl (b : Bool) | int (i : Int) | str (x : Str) | lst (l : List D) | tup (l : List D)

/-- a configuration: the lists that may still be written, the tracked heap -/
structure Cf where
  M : Addr → Prop
  H : Hp

def LstAt (K : PySem.W.Frag) (c : Cf) (a : Addr) (xs : List V) : Prop := (Rd c.H a (.lst xs) ∧ ¬ c.M a) ∨ SqL K (fun _ => none) a xs
mutual
def Den (K : PySem.W.Frag) (c : Cf) : D → V → Prop
  | .non, v => v = .non
  | .bl b, v => v = .bl b
  | .int i, v => v = .int i
  | .str x, v => v = .str x
  | .lst l, v => ∃ a xs, v = .ref a ∧ LstAt K c a xs ∧ Dens K c l xs
  | .tup l, v => ∃ a xs, v = .ref a ∧ SqT K c.H a xs ∧ Dens K c l xs
def Dens (K : PySem.W.Frag) (c : Cf) : List D → List V → Prop
  | [], vs => vs = []
  | d :: l, vs => ∃ x r, vs = x :: r ∧ Den K c d x ∧ Dens K c l r
end
def WF (c : Cf) : Prop := ∀ a, c.M a → ∃ xs, c.H a = some (.lst xs)
structure Ext (S : Addr → Prop) (c c' : Cf) : Prop where
  m1 : ∀ a, c.M a → c'.M a
  m2 : ∀ a, c'.M a → c.M a ∨ c.H a = none
  h : ∀ a o, c.H a = some o → ¬ (c.M a ∧ S a) → c'.H a = some o
abbrev Nop : Addr → Prop := fun _ => False

theorem Ext.refl {S : Addr → Prop} {c : Cf} : Ext S c c := ⟨fun _ z => z, fun _ z => .inl z, fun _ _ z _ => z⟩
theorem Ext.hasS {S : Addr → Prop} {c c' : Cf} (w' : WF c') (x : Ext S c c') {a : Addr} {o : HO} (e : c.H a = some o) : ∃ o', c'.H a = .some o' := by
  by_cases m : c.M a
  · obtain ⟨xs, q⟩ := w' a (x.m1 a m)
    exact ⟨_, q⟩
  · exact ⟨o, x.h a o e fun z => m z.1⟩
theorem Ext.noneS {S : Addr → Prop} {c c' : Cf} (w' : WF c') (x : Ext S c c') {a : Addr} (e : c'.H a = none) : c.H a = none := by
  cases q : c.H a with
  | none => rfl
  | some o =>
    obtain ⟨o', z⟩ := x.hasS w' q
    rw [e] at z
    cases z
theorem Ext.trans {S : Addr → Prop} {c c1 c2 : Cf} (w1 : WF c1) (x : Ext S c c1) (y : Ext S c1 c2) : Ext S c c2 := by
  refine ⟨fun a z => y.m1 a (x.m1 a z), fun a z => ?_, fun a o e n => ?_⟩
  · rcases y.m2 a z with q | q
    · exact x.m2 a q
    · exact .inr (x.noneS w1 q)
  · refine y.h a o (x.h a o e n) fun z => n ⟨?_, z.2⟩
    rcases x.m2 a z.1 with q | q
    · exact q
    · rw [e] at q; cases q
theorem Ext.mono {S T : Addr → Prop} {c c' : Cf} (x : Ext S c c') (h : ∀ a, c.M a → S a → T a) : Ext T c c' :=
  ⟨x.m1, x.m2, fun a o e n => x.h a o e fun z => n ⟨z.1, h a z.1 z.2⟩⟩
theorem Ext.nop {S : Addr → Prop} {c c' : Cf} (x : Ext Nop c c') : Ext S c c' := x.mono fun _ _ z => z.elim

theorem rd_of {c : Cf} {a : Addr} {u : HO} (r : Rd c.H a u) : ∃ o, c.H a = some o := by
  rcases r with r | ⟨o, r⟩
  · exact ⟨_, r⟩
  · exact ⟨_, r⟩
theorem rd_keep {c c' : Cf} {a : Addr} {u : HO} (r : Rd c.H a u) (h : ∀ o, c.H a = some o → c'.H a = some o) : Rd c'.H a u := by
  rcases r with r | ⟨o, r⟩
  · exact .inl (h _ r)
  · exact .inr ⟨o, h _ r⟩
theorem LstAt.sq {K : PySem.W.Frag} {c : Cf} {a : Addr} {xs : List V} (h : LstAt K c a xs) : SqL K c.H a xs := by
  rcases h with ⟨h, _⟩ | (h | ⟨o, h⟩) | h
  · exact .inl h
  · exact nomatch (show (Option.none : Option HO) = _ from h)
  · exact nomatch (show (Option.none : Option HO) = _ from h)
  · exact .inr h
theorem LstAt.ext {K : PySem.W.Frag} {S : Addr → Prop} {c c' : Cf} (w : WF c) (x : Ext S c c') {a : Addr} {xs : List V} (h : LstAt K c a xs) : LstAt K c' a xs := by
  rcases h with ⟨h, n⟩ | h
  · refine .inl ⟨rd_keep h fun o e => x.h a o e fun z => n z.1, fun z => ?_⟩
    rcases x.m2 a z with q | q
    · exact n q
    · obtain ⟨o, e⟩ := rd_of h
      rw [e] at q; cases q
  · exact .inr h
theorem SqT_ext {K : PySem.W.Frag} {S : Addr → Prop} {c c' : Cf} (w : WF c) (x : Ext S c c') {a : Addr} {xs : List V} (h : SqT K c.H a xs) : SqT K c'.H a xs := by
  rcases h with h | h
  · refine .inl (rd_keep h fun o e => x.h a o e fun z => ?_)
    obtain ⟨ys, q⟩ := w a z.1
    rcases h with h | ⟨ob, h⟩
    · rw [q] at h; cases h
    · rw [q] at h; cases h
  · exact .inr h
mutual
theorem Den.mapD {K : PySem.W.Frag} {c c' : Cf} (hl : ∀ a xs, LstAt K c a xs → LstAt K c' a xs) (ht : ∀ a xs, SqT K c.H a xs → SqT K c'.H a xs) : ∀ (d : D) (v : V), Den K c d v → Den K c' d v
  | .non, _, h => h
  | .bl _, _, h => h
  | .int _, _, h => h
  | .str _, _, h => h
  | .lst l, v, h => by
    obtain ⟨a, xs, e, q, r⟩ := h
    exact ⟨a, xs, e, hl a xs q, Dens.mapD hl ht l xs r⟩
  | .tup l, v, h => by
    obtain ⟨a, xs, e, q, r⟩ := h
    exact ⟨a, xs, e, ht a xs q, Dens.mapD hl ht l xs r⟩
theorem Dens.mapD {K : PySem.W.Frag} {c c' : Cf} (hl : ∀ a xs, LstAt K c a xs → LstAt K c' a xs) (ht : ∀ a xs, SqT K c.H a xs → SqT K c'.H a xs) : ∀ (l : List D) (vs : List V), Dens K c l vs → Dens K c' l vs
  | [], _, h => h
  | d :: l, vs, h => by
    obtain ⟨x, r, e, p, q⟩ := h
    exact ⟨x, r, e, Den.mapD hl ht d x p, Dens.mapD hl ht l r q⟩
end
theorem Den.ext {K : PySem.W.Frag} {S : Addr → Prop} {c c' : Cf} (w : WF c) (x : Ext S c c') {d : D} {v : V} (h : Den K c d v) : Den K c' d v :=
  Den.mapD (fun _ _ z => z.ext w x) (fun _ _ z => SqT_ext w x z) d v h
theorem Dens.ext {K : PySem.W.Frag} {S : Addr → Prop} {c c' : Cf} (w : WF c) (x : Ext S c c') {d : List D} {v : List V} (h : Dens K c d v) : Dens K c' d v :=
  Dens.mapD (fun _ _ z => z.ext w x) (fun _ _ z => SqT_ext w x z) d v h
/-- fewer writable lists -/
theorem LstAt.less {K : PySem.W.Frag} {c : Cf} {M : Addr → Prop} (m : ∀ a, M a → c.M a) {a : Addr} {xs : List V} (h : LstAt K c a xs) : LstAt K ⟨M, c.H⟩ a xs := by
  rcases h with ⟨h, n⟩ | h
  · exact .inl ⟨h, fun z => n (m a z)⟩
  · exact .inr h
theorem Den.less {K : PySem.W.Frag} {c : Cf} {M : Addr → Prop} (m : ∀ a, M a → c.M a) {d : D} {v : V} (h : Den K c d v) : Den K ⟨M, c.H⟩ d v :=
  Den.mapD (fun _ _ z => z.less m) (fun _ _ z => z) d v h
theorem Dens.less {K : PySem.W.Frag} {c : Cf} {M : Addr → Prop} (m : ∀ a, M a → c.M a) {d : List D} {v : List V} (h : Dens K c d v) : Dens K ⟨M, c.H⟩ d v :=
  Dens.mapD (fun _ _ z => z.less m) (fun _ _ z => z) d v h
theorem Dens.length {K : PySem.W.Frag} {c : Cf} : ∀ {l : List D} {vs : List V}, Dens K c l vs → vs.length = l.length
  | [], _, h => by
    have e : _ = [] := h
    rw [e]; rfl
  | d :: l, vs, h => by
    obtain ⟨x, r, e, _, q⟩ := h
    rw [e, List.length_cons, List.length_cons, Dens.length q]
theorem Dens.nil {K : PySem.W.Frag} {c : Cf} : Dens K c [] [] := rfl
theorem Dens.cons {K : PySem.W.Frag} {c : Cf} {d : D} {l : List D} {v : V} {vs : List V} (h : Den K c d v) (q : Dens K c l vs) : Dens K c (d :: l) (v :: vs) := ⟨v, vs, rfl, h, q⟩
theorem Dens.app {K : PySem.W.Frag} {c : Cf} : ∀ {l m : List D} {vs ws : List V}, Dens K c l vs → Dens K c m ws → Dens K c (l ++ m) (vs ++ ws)
  | [], _, _, _, h, q => by
    have e : _ = [] := h
    subst e; exact q
  | d :: l, _, _, _, h, q => by
    obtain ⟨x, r, e, p, z⟩ := h
    subst e
    exact ⟨x, _, rfl, p, Dens.app z q⟩
theorem Dens.get {K : PySem.W.Frag} {c : Cf} : ∀ {l : List D} {vs : List V} {i : Nat} {d : D}, Dens K c l vs → l[i]? = some d → ∃ v, vs[i]? = some v ∧ Den K c d v
  | [], _, _, _, _, e => by simp at e
  | d :: l, vs, 0, d', h, e => by
    obtain ⟨x, r, e1, p, _⟩ := h
    subst e1
    have e2 : d = d' := by simpa using e
    subst e2
    exact ⟨x, rfl, p⟩
  | d :: l, vs, i + 1, d', h, e => by
    obtain ⟨x, r, e1, _, q⟩ := h
    subst e1
    obtain ⟨v, e2, p⟩ := Dens.get (i := i) q (by simpa using e)
    exact ⟨v, by simpa using e2, p⟩
theorem Dens.getv {K : PySem.W.Frag} {c : Cf} : ∀ {l : List D} {vs : List V} {i : Nat} {v : V}, Dens K c l vs → vs[i]? = some v → ∃ d, l[i]? = some d ∧ Den K c d v
  | [], _, _, _, h, e => by
    have e1 : _ = [] := h
    subst e1; simp at e
  | d :: l, vs, 0, v, h, e => by
    obtain ⟨x, r, e1, p, _⟩ := h
    subst e1
    have e2 : x = v := by simpa using e
    subst e2
    exact ⟨d, rfl, p⟩
  | d :: l, vs, i + 1, v, h, e => by
    obtain ⟨x, r, e1, _, q⟩ := h
    subst e1
    obtain ⟨d', e2, p⟩ := Dens.getv (i := i) q (by simpa using e)
    exact ⟨d', by simpa using e2, p⟩
theorem Dens.set {K : PySem.W.Frag} {c : Cf} {d : D} {v : V} (h : Den K c d v) : ∀ {l : List D} {vs : List V} (i : Nat), Dens K c l vs → Dens K c (l.set i d) (vs.set i v)
  | [], _, _, q => by
    have e1 : _ = [] := q
    subst e1; exact rfl
  | x :: l, vs, 0, q => by
    obtain ⟨y, r, e1, _, z⟩ := q
    subst e1
    exact ⟨v, r, rfl, h, z⟩
  | x :: l, vs, i + 1, q => by
    obtain ⟨y, r, e1, p, z⟩ := q
    subst e1
    exact ⟨y, _, rfl, p, Dens.set h i z⟩
theorem Dens.take {K : PySem.W.Frag} {c : Cf} : ∀ {l : List D} {vs : List V} (n : Nat), Dens K c l vs → Dens K c (l.take n) (vs.take n)
  | [], _, n, q => by
    have e1 : _ = [] := q
    subst e1
    rw [List.take_nil, List.take_nil]; exact rfl
  | x :: l, vs, 0, q => rfl
  | x :: l, vs, n + 1, q => by
    obtain ⟨y, r, e1, p, z⟩ := q
    subst e1
    exact ⟨y, _, rfl, p, Dens.take n z⟩
theorem Dens.drop {K : PySem.W.Frag} {c : Cf} : ∀ {l : List D} {vs : List V} (n : Nat), Dens K c l vs → Dens K c (l.drop n) (vs.drop n)
  | [], _, n, q => by
    have e1 : _ = [] := q
    subst e1
    rw [List.drop_nil, List.drop_nil]; exact rfl
  | x :: l, vs, 0, q => q
  | x :: l, vs, n + 1, q => by
    obtain ⟨y, r, e1, p, z⟩ := q
    subst e1
    exact Dens.drop n z

/-! the slots of a frame -/
inductive SV where
  | un | pu (d : D) | ow (l : List D) | bo (l : List D)
abbrev Gm := List SV
def SV.own : SV → Bool
  | .ow _ => true
  | .bo _ => true
  | _ => false
structure Fx where
  c0 : Cf
  rho : Nat → Addr
  B : Addr → Prop
abbrev Fx.S (f : Fx) : Addr → Prop := fun a => f.c0.H a = none ∨ f.B a
def Own (K : PySem.W.Frag) (c : Cf) (a : Addr) (l : List D) : Prop := c.M a ∧ ∃ vs, c.H a = some (.lst vs) ∧ Dens K c l vs
structure Rel (K : PySem.W.Frag) (f : Fx) (S : Addr → Prop) (c : Cf) (σ : St) (γ : Gm) : Prop where
  wf0 : WF f.c0
  wf : WF c
  ext : Ext f.B f.c0 c
  len : σ.length = γ.length
  pu : ∀ (i : Nat) (d : D), γ[i]? = some (SV.pu d) → ∃ v, σ[i]? = some (some v) ∧ Den K c d v
  ow : ∀ (i : Nat) (l : List D), γ[i]? = some (SV.ow l) → ∃ a, σ[i]? = some (some (V.ref a)) ∧ f.c0.H a = none ∧ S a ∧ Own K c a l
  bo : ∀ (i : Nat) (l : List D), γ[i]? = some (SV.bo l) → σ[i]? = some (some (.ref (f.rho i))) ∧ f.c0.M (f.rho i) ∧ f.B (f.rho i) ∧ S (f.rho i) ∧ Own K c (f.rho i) l
  ne : ∀ (i j : Nat) (s t : SV) (a : Addr), i ≠ j → γ[i]? = some s → γ[j]? = some t → s.own = true → t.own = true → σ[i]? = some (some (V.ref a)) → σ[j]? ≠ some (some (V.ref a))
theorem Own.step {K : PySem.W.Frag} {S : Addr → Prop} {c c' : Cf} (w : WF c) (x : Ext S c c') {a : Addr} {l : List D} (n : ¬ S a) (h : Own K c a l) : Own K c' a l := by
  obtain ⟨m, vs, e, q⟩ := h
  exact ⟨x.m1 a m, vs, x.h a _ e fun z => n z.2, q.ext w x⟩
/-- nothing that the frame may write has changed -/
theorem Rel.step {K : PySem.W.Frag} {f : Fx} {S : Addr → Prop} {c c' : Cf} {σ : St} {γ : Gm} (R : Rel K f S c σ γ) (x : Ext Nop c c') (w' : WF c') : Rel K f S c' σ γ where
  wf0 := R.wf0
  wf := w'
  ext := R.ext.trans R.wf x.nop
  len := R.len
  pu := fun i d e => by
    obtain ⟨v, h1, h2⟩ := R.pu i d e
    exact ⟨v, h1, h2.ext R.wf x⟩
  ow := fun i l e => by
    obtain ⟨a, h1, h2, h3, h4⟩ := R.ow i l e
    exact ⟨a, h1, h2, h3, h4.step R.wf x id⟩
  bo := fun i l e => by
    obtain ⟨h1, h2, h3, h4, h5⟩ := R.bo i l e
    exact ⟨h1, h2, h3, h4, h5.step R.wf x id⟩
  ne := R.ne
end Fv

set_option maxRecDepth 100000
namespace Fv
open PySem L2

inductive Rs (α : Type) where
  | ok (a : α) (g : Gm) | ex (n : Str) (fs : List (Str × D)) (g : Gm) | no
def Rs.bind {α β : Type} (r : Rs α) (k : α → Gm → Rs β) : Rs β := match r with
  | .ok a g => k a g
  | .ex n fs g => .ex n fs g
  | .no => .no
def Rs.map {α β : Type} (h : α → β) (r : Rs α) : Rs β := r.bind fun a g => .ok (h a) g
def ofO {α : Type} (o : Option α) (g : Gm) : Rs α := match o with
  | some a => .ok a g
  | none => .no
@[simp] theorem Rs.bind_ok {α β : Type} (a : α) (g : Gm) (k : α → Gm → Rs β) : (Rs.ok a g).bind k = k a g := rfl
@[simp] theorem Rs.bind_no {α β : Type} (k : α → Gm → Rs β) : (Rs.no : Rs α).bind k = .no := rfl
@[simp] theorem Rs.bind_ex {α β : Type} (n : Str) (fs : List (Str × D)) (g : Gm) (k : α → Gm → Rs β) : (Rs.ex n fs g : Rs α).bind k = .ex n fs g := rfl
@[simp] theorem ofO_some {α : Type} (a : α) (g : Gm) : ofO (some a) g = .ok a g := rfl

def ownAt (γ : Gm) (i : Nat) : Bool := match γ[i]? with
  | some s => s.own
  | none => false
def Kd (γ g : Gm) : Prop := ∀ i, ownAt g i = true → ownAt γ i = true
theorem Kd.refl {γ : Gm} : Kd γ γ := fun _ z => z
theorem Kd.trans {a b c : Gm} (x : Kd a b) (y : Kd b c) : Kd a c := fun i z => x i (y i z)
/-- an expression leaves the slots' kinds and data -/
structure Kx (γ g : Gm) : Prop where
  own : Kd γ g
  pu : ∀ (i : Nat) (d : D), g[i]? = some (SV.pu d) → γ[i]? = some (SV.pu d)
theorem Kx.refl {γ : Gm} : Kx γ γ := ⟨.refl, fun _ _ z => z⟩
theorem Kx.trans {a b c : Gm} (x : Kx a b) (y : Kx b c) : Kx a c := ⟨x.own.trans y.own, fun i d z => x.pu i d (y.pu i d z)⟩
def ExF (K : PySem.W.Frag) (c : Cf) (d : Option Addr) (fs : List (Str × D)) : Prop :=
  fs = [] ∨ ∃ a ys, d = some a ∧ c.H a = some (.xd ys) ∧ ys.map (·.1) = fs.map (·.1) ∧ Dens K c (fs.map (·.2)) (ys.map (·.2))
/-- what is known of a result -/
abbrev VR (α β : Type) := St → Cf → Cf → α → β → Prop
def Post {α β : Type} (K : PySem.W.Frag) (mg : Str → Option Value) (vok : VR α β) (W : WX) (f : Fx) (S : Addr → Prop) (c : Cf) (σ : St) (γ : Gm) (Q : β → Hp → Prop) : Rs α → Prop
  | .ok r g => ∀ v c', Ext S c c' → Rel K f S c' σ g → Kx γ g → vok σ c c' r v → Q v c'.H
  | .ex n fs g => ∀ C d c', mg n = some (.ref C) → Ext S c c' → Rel K f S c' σ g → Kx γ g → ExF K c' d fs → W (.ref C) d σ c'.H
  | .no => False
def Sim {α β : Type} (X : Cx) (W : WX) (vok : VR α β) (t : St → Hp → (β → Hp → Prop) → Prop) (g : Gm → Rs α) : Prop :=
  ∀ f S c σ γ Q, Rel X.K f S c σ γ → Post X.K X.mg vok W f S c σ γ Q (g γ) → t σ c.H Q
def Stab {α β : Type} (vok : VR α β) : Prop := ∀ S σ c c1 c' r v, WF c1 → Ext S c c1 → vok σ c1 c' r v → vok σ c c' r v
def vP (K : PySem.W.Frag) : VR D V := fun _ _ c' d v => Den K c' d v
def vF (K : PySem.W.Frag) : VR (List D) V := fun _ c c' l v => ∃ p, v = .ref p ∧ c.H p = none ∧ Own K c' p l
def vT : VR Bool Bool := fun _ _ _ a b => a = b
theorem stab_vP {K : PySem.W.Frag} : Stab (vP K) := fun _ _ _ _ _ _ _ _ _ h => h
theorem stab_vT : Stab vT := fun _ _ _ _ _ _ _ _ _ h => h
theorem stab_vF {K : PySem.W.Frag} : Stab (vF K) := fun _ _ _ _ _ _ _ w x ⟨p, e, n, o⟩ => ⟨p, e, x.noneS w n, o⟩

/-- a result is handed on -/
theorem Sim.bind {α β α' β' : Type} {X : Cx} {W : WX} {v1 : VR α β} {v2 : VR α' β'} {t : St → Hp → (β → Hp → Prop) → Prop} {g : Gm → Rs α} (s : Sim X W v1 t g) (st : Stab v2)
    {f : Fx} {S : Addr → Prop} {c : Cf} {σ : St} {γ : Gm} {k : α → Gm → Rs α'} {Q2 : β' → Hp → Prop} {Q1 : β → Hp → Prop} (R : Rel X.K f S c σ γ) (h : Post X.K X.mg v2 W f S c σ γ Q2 ((g γ).bind k))
    (step : ∀ a γ1 v c1, g γ = .ok a γ1 → Ext S c c1 → Rel X.K f S c1 σ γ1 → Kx γ γ1 → v1 σ c c1 a v → Post X.K X.mg v2 W f S c1 σ γ1 Q2 (k a γ1) → Q1 v c1.H) : t σ c.H Q1 := by
  refine s f S c σ γ Q1 R ?_
  cases e : g γ with
  | no => rw [e] at h; exact h
  | ex n fs g1 => rw [e] at h; exact h
  | ok a g1 =>
    rw [e] at h
    intro v c1 x1 R1 k1 h1
    refine step a g1 v c1 e x1 R1 k1 h1 ?_
    have h' : Post X.K X.mg v2 W f S c σ γ Q2 (k a g1) := h
    cases e2 : k a g1 with
    | no => rw [e2] at h'; exact h'
    | ok r g2 =>
      rw [e2] at h'
      exact fun v2' c2 x2 R2 k2 q => h' v2' c2 (x1.trans R1.wf x2) R2 (k1.trans k2) (st _ _ _ _ _ _ _ R1.wf x1 q)
    | ex n fs g2 =>
      rw [e2] at h'
      exact fun C d c2 hm x2 R2 k2 q => h' C d c2 hm (x1.trans R1.wf x2) R2 (k1.trans k2) q
/-- the last step, over the heap as it is or with something new -/
theorem Post.fin {α β : Type} {K : PySem.W.Frag} {mg : Str → Option Value} {vok : VR α β} {W : WX} {f : Fx} {S : Addr → Prop} {c : Cf} {σ : St} {γ : Gm} {Q : β → Hp → Prop} {o : Option α} (R : Rel K f S c σ γ) (h : Post K mg vok W f S c σ γ Q (ofO o γ)) :
    ∃ a, o = some a ∧ ∀ v c', Ext Nop c c' → WF c' → vok σ c c' a v → Q v c'.H := by
  cases o with
  | none => exact h.elim
  | some a => exact ⟨a, rfl, fun v c' x w q => h v c' x.nop (R.step x w) Kx.refl q⟩

def MP (X : Cx) (W : WX) (e : Expr) (g : Gm → Rs D) : Prop := ∃ t, PE X e t ∧ Sim X W (vP X.K) t g
def MF (X : Cx) (W : WX) (e : Expr) (g : Gm → Rs (List D)) : Prop := ∃ t, PE X e t ∧ Sim X W (vF X.K) t g
def MT (X : Cx) (W : WX) (e : Expr) (g : Gm → Rs Bool) : Prop := ∃ t, PT X e t ∧ Sim X W vT t g
def MW (X : Cx) (W : WX) (e : Expr) (g : Gm → Rs Bool) : Prop := ∃ t, PW X e t ∧ Sim X W vT t g

/-! something new on the heap -/
theorem Ext.new {c : Cf} {p : Addr} {o : HO} (n : c.H p = none) : Ext Nop c ⟨c.M, upd c.H p o⟩ :=
  ⟨fun _ z => z, fun _ z => .inl z, fun a u e _ => by
    show upd c.H p o a = some u
    rw [upd_ne (ne_of_none e n)]; exact e⟩
theorem WF.new {c : Cf} {p : Addr} {o : HO} (w : WF c) (n : c.H p = none) : WF ⟨c.M, upd c.H p o⟩ := fun a m => by
  obtain ⟨xs, e⟩ := w a m
  exact ⟨xs, by
    show upd c.H p o a = _
    rw [upd_ne (ne_of_none e n)]; exact e⟩
def Cf.add (c : Cf) (p : Addr) (vs : List V) : Cf := ⟨fun a => c.M a ∨ a = p, upd c.H p (.lst vs)⟩
theorem Ext.add {c : Cf} {p : Addr} {vs : List V} (n : c.H p = none) : Ext Nop c (c.add p vs) :=
  ⟨fun _ z => .inl z, fun a z => z.elim .inl fun e => .inr (e ▸ n), fun a u e _ => by
    show upd c.H p _ a = some u
    rw [upd_ne (ne_of_none e n)]; exact e⟩
theorem WF.add {c : Cf} {p : Addr} {vs : List V} (w : WF c) (n : c.H p = none) : WF (c.add p vs) := fun a m => by
  rcases m with m | rfl
  · obtain ⟨xs, e⟩ := w a m
    exact ⟨xs, by
      show upd c.H p _ a = _
      rw [upd_ne (ne_of_none e n)]; exact e⟩
  · exact ⟨vs, upd_same⟩
theorem Own.add {K : PySem.W.Frag} {c : Cf} {p : Addr} {vs : List V} {l : List D} (w : WF c) (n : c.H p = none) (h : Dens K c l vs) : Own K (c.add p vs) p l :=
  ⟨.inr rfl, vs, upd_same, h.ext w (Ext.add (vs := vs) n)⟩
theorem Den.tup {K : PySem.W.Frag} {c : Cf} {p : Addr} {vs : List V} {l : List D} (w : WF c) (n : c.H p = none) (h : Dens K c l vs) : Den K ⟨c.M, upd c.H p (.tup vs)⟩ (.tup l) (.ref p) :=
  ⟨p, vs, rfl, .inl (.inl upd_same), h.ext w (Ext.new n)⟩
theorem Den.lst {K : PySem.W.Frag} {c : Cf} {p : Addr} {vs : List V} {l : List D} (w : WF c) (n : c.H p = none) (h : Dens K c l vs) : Den K ⟨c.M, upd c.H p (.lst vs)⟩ (.lst l) (.ref p) :=
  ⟨p, vs, rfl, .inl ⟨.inl upd_same, fun m => by
    obtain ⟨xs, e⟩ := w p m
    rw [n] at e; cases e⟩, h.ext w (Ext.new n)⟩
/-- a fresh list is never written again -/
def Cf.del (c : Cf) (p : Addr) : Cf := ⟨fun a => c.M a ∧ a ≠ p, c.H⟩
theorem WF.del {c : Cf} {p : Addr} (w : WF c) : WF (c.del p) := fun a m => w a m.1
theorem Own.den {K : PySem.W.Frag} {c : Cf} {p : Addr} {l : List D} (h : Own K c p l) : Den K (c.del p) (.lst l) (.ref p) := by
  obtain ⟨m, vs, e, q⟩ := h
  exact ⟨p, vs, rfl, .inl ⟨.inl e, fun z => z.2 rfl⟩, q.less fun _ z => z.1⟩
theorem Rel.ownA {K : PySem.W.Frag} {f : Fx} {S : Addr → Prop} {c : Cf} {σ : St} {γ : Gm} (R : Rel K f S c σ γ) {i : Nat} {s : SV} (e : γ[i]? = some s) (o : s.own = true) :
    ∃ a l, σ[i]? = some (some (.ref a)) ∧ S a ∧ Own K c a l ∧ (s = .ow l ∧ f.c0.H a = none ∨ s = .bo l ∧ a = f.rho i ∧ f.c0.M a ∧ f.B a) := by
  cases s with
  | un => cases o
  | pu d => cases o
  | ow l =>
    obtain ⟨a, h1, h2, h3, h4⟩ := R.ow i l e
    exact ⟨a, l, h1, h3, h4, .inl ⟨rfl, h2⟩⟩
  | bo l =>
    obtain ⟨h1, h2, h3, h4, h5⟩ := R.bo i l e
    exact ⟨_, l, h1, h4, h5, .inr ⟨rfl, rfl, h2, h3⟩⟩
theorem Own.del {K : PySem.W.Frag} {c : Cf} {p a : Addr} {l : List D} (h : Own K c a l) (n : a ≠ p) : Own K (c.del p) a l := by
  obtain ⟨m, vs, e, q⟩ := h
  exact ⟨⟨m, n⟩, vs, e, q.less fun _ z => z.1⟩
/-- p, which no slot holds for writing, is written no more -/
theorem Rel.del {K : PySem.W.Frag} {f : Fx} {S : Addr → Prop} {c : Cf} {σ : St} {γ : Gm} {p : Addr} (R : Rel K f S c σ γ) (h0 : f.c0.H p = none) (hn : ∀ i, ownAt γ i = true → σ[i]? ≠ some (some (.ref p))) : Rel K f S (c.del p) σ γ where
  wf0 := R.wf0
  wf := R.wf.del
  ext := ⟨fun a z => ⟨R.ext.m1 a z, fun e => by
      obtain ⟨xs, q⟩ := R.wf0 a z
      rw [e, h0] at q; cases q⟩, fun a z => R.ext.m2 a z.1, R.ext.h⟩
  len := R.len
  pu := fun i d e => by
    obtain ⟨v, h1, h2⟩ := R.pu i d e
    exact ⟨v, h1, h2.less fun _ z => z.1⟩
  ow := fun i l e => by
    obtain ⟨a, h1, h2, h3, h4⟩ := R.ow i l e
    exact ⟨a, h1, h2, h3, h4.del fun z => hn i (by unfold ownAt; rw [e]; rfl) (z ▸ h1)⟩
  bo := fun i l e => by
    obtain ⟨h1, h2, h3, h4, h5⟩ := R.bo i l e
    exact ⟨h1, h2, h3, h4, h5.del fun z => hn i (by unfold ownAt; rw [e]; rfl) (z ▸ h1)⟩
  ne := R.ne
theorem ownAt_some {γ : Gm} {i : Nat} (h : ownAt γ i = true) : ∃ s, γ[i]? = some s ∧ s.own = true := by
  unfold ownAt at h
  cases e : γ[i]? with
  | none => rw [e] at h; cases h
  | some s => rw [e] at h; exact ⟨s, rfl, h⟩
def gPu (g : Gm → Rs (List D)) : Gm → Rs D := fun γ => (g γ).map .lst
theorem mp_of_f {X : Cx} {W : WX} {e : Expr} {g : Gm → Rs (List D)} (h : MF X W e g) : MP X W e (gPu g) := by
  obtain ⟨t, ht, hs⟩ := h
  refine ⟨t, ht, fun f S c σ γ Q R hp => hs f S c σ γ Q R ?_⟩
  replace hp : Post X.K X.mg (vP X.K) W f S c σ γ Q ((g γ).map .lst) := hp
  cases e0 : g γ with
  | no => rw [e0] at hp; exact hp
  | ex n fs g1 => rw [e0] at hp; exact hp
  | ok l g1 =>
    rw [e0] at hp
    intro v c1 x1 R1 k1 q1
    obtain ⟨p, e2, n, o⟩ := q1
    subst e2
    have hn : ∀ i, ownAt g1 i = true → σ[i]? ≠ some (some (.ref p)) := fun i z e3 => by
      obtain ⟨s, e4, e5⟩ := ownAt_some (k1.own i z)
      obtain ⟨a, l', h1, h2, ⟨_, vs, h3, _⟩, _⟩ := R.ownA e4 e5
      rw [e3] at h1
      cases h1
      rw [n] at h3; cases h3
    refine hp (.ref p) (c1.del p) ⟨fun a z => ⟨x1.m1 a z, fun e3 => ?_⟩, fun a z => x1.m2 a z.1, x1.h⟩ (R1.del (R.ext.noneS R.wf n) hn) k1 o.den
    obtain ⟨xs, q⟩ := R.wf a z
    rw [e3, n] at q; cases q
end Fv

set_option maxRecDepth 100000
namespace Fv
open PySem L2

section
variable {X : Cx} {W : WX} {pos : Pos} {a b e : Expr} {ga gb : Gm → Rs D}
/-! names, constants -/
def gVar (i : Nat) : Gm → Rs D := fun γ => match γ[i]? with
  | some (.pu d) => .ok d γ
  | _ => .no
def gC (d : D) : Gm → Rs D := fun γ => .ok d γ
theorem mp_tvar {e : Expr} {i : Nat} (h : PE X e (tVar i)) : MP X W e (gVar i) := by
  refine ⟨_, h, fun f S c σ γ Q R hp => ?_⟩
  unfold gVar at hp
  cases q : γ[i]? with
  | none => rw [q] at hp; exact hp.elim
  | some s =>
    rw [q] at hp
    cases s with
    | pu d =>
      obtain ⟨v, h1, h2⟩ := R.pu i d q
      exact ⟨v, h1, hp v c .refl R .refl h2⟩
    | _ => exact hp.elim
theorem mp_const {d : D} {v : V} (h : PE X e (tC v)) (hd : ∀ c, Den X.K c d v) : MP X W e (gC d) :=
  ⟨_, h, fun f S c σ γ Q R hp => hp v c .refl R .refl (hd c)⟩
theorem mp_int {i : Int} {j} : MP X W (.Constant (.int i) j pos) (gC (.int i)) := mp_const pe_int fun _ => rfl
theorem mp_bl {i : Bool} {j} : MP X W (.Constant (.bool i) j pos) (gC (.bl i)) := mp_const pe_bl fun _ => rfl
theorem mp_non {j} : MP X W (.Constant .none j pos) (gC .non) := mp_const pe_non fun _ => rfl
theorem mp_str {i : Str} {j} : MP X W (.Constant (.str i) j pos) (gC (.str i)) := mp_const pe_str fun _ => rfl
theorem mp_glob {x : Str} {d : D} {v : V} {u : Value} (hg : Gl X x) (hm : X.mg x = some u) (r : RelV v u) (hd : ∀ c, Den X.K c d v) (h2 : (x == ("__debug__" : Str)) = false := by decide) : MP X W (.Name x pos) (gC d) :=
  mp_const (pe_glob hg hm r h2) hd

/-! one, two arguments -/
def g1 (p : D → Option D) (ga : Gm → Rs D) : Gm → Rs D := fun γ => (ga γ).bind fun d γ1 => ofO (p d) γ1
def g2 (p : D → D → Option D) (ga gb : Gm → Rs D) : Gm → Rs D := fun γ => (ga γ).bind fun d γ1 => (gb γ1).bind fun e γ2 => ofO (p d e) γ2
/-- a rule by values meets a function of data -/
def Meet1 (K : PySem.W.Frag) (r : V → Hp → VK → Prop) (p : D → Option D) : Prop :=
  ∀ (c : Cf) (d z : D) (v : V) (Q : VK), WF c → p d = some z → Den K c d v → (∀ u c', Ext Nop c c' → WF c' → Den K c' z u → Q u c'.H) → r v c.H Q
def Meet2 (K : PySem.W.Frag) (r : R2) (p : D → D → Option D) : Prop :=
  ∀ (c : Cf) (d e z : D) (v w : V) (Q : VK), WF c → p d e = some z → Den K c d v → Den K c e w → (∀ u c', Ext Nop c c' → WF c' → Den K c' z u → Q u c'.H) → r v w c.H Q
theorem sim1 {ta : TE} {r : V → Hp → VK → Prop} {p : D → Option D} (m : Meet1 X.K r p) (ha : Sim X W (vP X.K) ta ga) : Sim X W (vP X.K) (fun σ H Q => ta σ H fun x H1 => r x H1 Q) (g1 p ga) := by
  intro f S c σ γ Q R hp
  refine ha.bind stab_vP R hp fun d γ1 v c1 _ x1 R1 k1 q1 h1 => ?_
  obtain ⟨z, e1, h2⟩ := h1.fin R1
  exact m c1 d z v Q R1.wf e1 q1 fun u c' x w q => h2 u c' x w q
theorem sim2 {ta tb : TE} {r : R2} {p : D → D → Option D} (m : Meet2 X.K r p) (ha : Sim X W (vP X.K) ta ga) (hb : Sim X W (vP X.K) tb gb) : Sim X W (vP X.K) (tOp r ta tb) (g2 p ga gb) := by
  intro f S c σ γ Q R hp
  refine ha.bind stab_vP R hp fun d γ1 v c1 _ x1 R1 k1 q1 h1 => ?_
  refine hb.bind stab_vP R1 h1 fun e γ2 w c2 _ x2 R2 k2 q2 h2 => ?_
  obtain ⟨z, e1, h3⟩ := h2.fin R2
  exact m c2 d e z v w Q R2.wf e1 (q1.ext R1.wf x2) q2 fun u c' x w q => h3 u c' x w q
theorem mp_op {op : Operator} {r : R2} {p : D → D → Option D} (ho : OpR X (binaryOp op) r) (m : Meet2 X.K r p) (ha : MP X W a ga) (hb : MP X W b gb) : MP X W (.BinOp a op b pos) (g2 p ga gb) := by
  obtain ⟨ta, h1, s1⟩ := ha
  obtain ⟨tb, h2, s2⟩ := hb
  exact ⟨_, pe_op ho h1 h2, sim2 m s1 s2⟩
/-- a comparison: as a value, and as a test -/
def MB (X : Cx) (W : WX) (e : Expr) (g : Gm → Rs D) : Prop := ∃ t, PE X e t ∧ PT X e (tTest t) ∧ Sim X W (vP X.K) t g
theorem mp_b (h : MB X W e ga) : MP X W e ga := let ⟨_, h1, _, h2⟩ := h; ⟨_, h1, h2⟩
theorem mp_cmp {op : CmpOp} {r : R2} {p : D → D → Option D} (ho : OpR X (compareOp op) r) (m : Meet2 X.K r p) (ha : MP X W a ga) (hb : MP X W b gb) (hn : behindInMarks op b = false) : MB X W (.Compare a [op] [b] pos) (g2 p ga gb) := by
  obtain ⟨ta, h1, s1⟩ := ha
  obtain ⟨tb, h2, s2⟩ := hb
  exact ⟨_, pe_cmpR ho h1 h2 hn, pt_cmpR ho h1 h2 hn, sim2 m s1 s2⟩

/-! ints -/
def D.onI (h : Int → Int → Option D) : D → D → Option D
  | .int i, .int j => h i j
  | _, _ => none
theorem onI_some {h : Int → Int → Option D} {d e z : D} (q : D.onI h d e = some z) : ∃ i j, d = .int i ∧ e = .int j ∧ h i j = some z := by
  cases d <;> cases e <;> first
    | exact ⟨_, _, rfl, rfl, q⟩
    | cases q
theorem meetI {K : PySem.W.Frag} {C : Int → Int → Prop} {k : Int → Int → V} {h : Int → Int → Option D} (hh : ∀ i j z, h i j = some z → C i j ∧ ∀ c, Den K c z (k i j)) : Meet2 K (rI C k) (D.onI h) := by
  intro c d e z v w Q wf q1 q2 q3 q4
  obtain ⟨i, j, rfl, rfl, q⟩ := onI_some q1
  have e1 : v = .int i := q2
  have e2 : w = .int j := q3
  obtain ⟨h1, h2⟩ := hh i j z q
  exact ⟨i, j, e1, e2, h1, q4 _ c .refl wf (h2 c)⟩
theorem meetI0 {K : PySem.W.Frag} {k : Int → Int → V} {h : Int → Int → Option D} (hh : ∀ i j z, h i j = some z → ∀ c, Den K c z (k i j)) : Meet2 K (rI0 k) (D.onI h) := by
  intro c d e z v w Q wf q1 q2 q3 q4
  obtain ⟨i, j, rfl, rfl, q⟩ := onI_some q1
  have e1 : v = .int i := q2
  have e2 : w = .int j := q3
  exact ⟨i, j, e1, e2, q4 _ c .refl wf (hh i j z q c)⟩
def dSub : D → D → Option D := D.onI fun i j => some (.int (i - j))
def dMul : D → D → Option D := D.onI fun i j => if Nat.log2 i.natAbs + Nat.log2 j.natAbs < 1000000 then some (.int (i * j)) else none
/-- any divisor that is small, or positive and below nine thousand bits -/
def CDivA : Int → Int → Prop := fun i j => CDivN i j ∨ CDivW i j
theorem op_fdivA : OpR X (binaryOp .FloorDiv) (rI CDivA fun i j => .int (i.fdiv j)) := by
  intro pn s st hp x y v u Q inv rx ry hw
  obtain ⟨i, j, e1, e2, hc, q⟩ := hw
  rcases hc with hc | hc
  · exact op_fdivN pn s st hp x y v u Q inv rx ry ⟨i, j, e1, e2, hc, q⟩
  · refine op_fdivW pn s st hp x y v u Q inv rx ry ⟨i, j, e1, e2, hc, ?_⟩
    have e := Int.fdiv_eq_ediv_of_nonneg i (Int.le_of_lt hc.1)
    show Q (V.int (i / j)) hp
    rw [← e]
    exact q
def dFdiv : D → D → Option D := D.onI fun i j => if (j ≠ 0 ∧ j.natAbs < 1073741824) ∨ (0 < j ∧ j.natAbs.log2 < 9000) then some (.int (i.fdiv j)) else none
def dMod : D → D → Option D := D.onI fun i j => if j ≠ 0 then some (.int (i.fmod j)) else none
def dPow : D → D → Option D := D.onI fun i j => if 0 ≤ j ∧ j ≤ 1000000 ∧ i.natAbs < 2 ^ 64 then some (.int (i ^ j.toNat)) else none
def dLt : D → D → Option D := D.onI fun i j => some (.bl (decide (i < j)))
def dLe : D → D → Option D := D.onI fun i j => some (.bl (decide (i ≤ j)))
def dGt : D → D → Option D := D.onI fun i j => some (.bl (decide (j < i)))
def dGe : D → D → Option D := D.onI fun i j => some (.bl (decide (j ≤ i)))
theorem ite_of {p : Prop} [Decidable p] {α : Type} {x z : α} (h : (if p then some x else none) = some z) : p ∧ x = z := by
  by_cases q : p
  · rw [if_pos q] at h; exact ⟨q, Option.some.inj h⟩
  · rw [if_neg q] at h; cases h

def dI : D → Option Int
  | .int i => some i
  | _ => none
theorem meetU {K : PySem.W.Frag} {k : Int → V} {h : Int → D} (hh : ∀ i c, Den K c (h i) (k i)) : Meet1 K (rU k) (fun d => (dI d).map h) := by
  intro c d z v Q wf q1 q2 q4
  cases d <;> first
    | (have e1 : some (h _) = some z := q1
       cases e1
       exact ⟨_, q2, q4 _ c .refl wf (hh _ c)⟩)
    | cases q1
def dNeg : D → Option D := fun d => (dI d).map fun i => .int (-i)
theorem mp_neg (ha : MP X W a ga) : MP X W (.UnaryOp .USub a pos) (g1 dNeg ga) := by
  obtain ⟨ta, h1, s1⟩ := ha
  refine ⟨_, pe_un un_neg h1, ?_⟩
  exact sim1 (r := rU fun i => V.int (-i)) (p := dNeg) (meetU (h := fun i => .int (-i)) fun _ _ => rfl) s1
theorem mp_sub (ha : MP X W a ga) (hb : MP X W b gb) : MP X W (.BinOp a .Sub b pos) (g2 dSub ga gb) :=
  mp_op op_sub (meetI0 fun i j z e c => by cases e; rfl) ha hb
theorem mp_mulI (ha : MP X W a ga) (hb : MP X W b gb) : MP X W (.BinOp a .Mult b pos) (g2 dMul ga gb) :=
  mp_op op_mulW (meetI fun i j z e => ⟨(ite_of e).1, fun c => by obtain ⟨_, q⟩ := ite_of e; cases q; rfl⟩) ha hb
theorem mp_fdiv (ha : MP X W a ga) (hb : MP X W b gb) : MP X W (.BinOp a .FloorDiv b pos) (g2 dFdiv ga gb) :=
  mp_op op_fdivA (meetI fun i j z e => ⟨(ite_of e).1, fun c => by obtain ⟨_, q⟩ := ite_of e; cases q; rfl⟩) ha hb
theorem mp_mod (ha : MP X W a ga) (hb : MP X W b gb) : MP X W (.BinOp a .Mod b pos) (g2 dMod ga gb) :=
  mp_op op_modN (meetI fun i j z e => ⟨(ite_of e).1, fun c => by obtain ⟨_, q⟩ := ite_of e; cases q; rfl⟩) ha hb
theorem mp_pow (ha : MP X W a ga) (hb : MP X W b gb) : MP X W (.BinOp a .Pow b pos) (g2 dPow ga gb) :=
  mp_op op_pow (meetI fun i j z e => ⟨(ite_of e).1, fun c => by obtain ⟨_, q⟩ := ite_of e; cases q; rfl⟩) ha hb
theorem mp_lt (ha : MP X W a ga) (hb : MP X W b gb) : MB X W (.Compare a [.Lt] [b] pos) (g2 dLt ga gb) :=
  mp_cmp op_lt (meetI0 fun i j z e c => by cases e; rfl) ha hb (nomark _)
theorem mp_le (ha : MP X W a ga) (hb : MP X W b gb) : MB X W (.Compare a [.LtE] [b] pos) (g2 dLe ga gb) :=
  mp_cmp op_le (meetI0 fun i j z e c => by cases e; rfl) ha hb (nomark _)
theorem mp_gt (ha : MP X W a ga) (hb : MP X W b gb) : MB X W (.Compare a [.Gt] [b] pos) (g2 dGt ga gb) :=
  mp_cmp op_gt (meetI0 fun i j z e c => by cases e; rfl) ha hb (nomark _)
theorem mp_ge (ha : MP X W a ga) (hb : MP X W b gb) : MB X W (.Compare a [.GtE] [b] pos) (g2 dGe ga gb) :=
  mp_cmp op_ge (meetI0 fun i j z e c => by cases e; rfl) ha hb (nomark _)
def dIsN : D → Option D
  | .non => some (.bl true)
  | _ => some (.bl false)
def dNotN : D → Option D
  | .non => some (.bl false)
  | _ => some (.bl true)
theorem den_non {K : PySem.W.Frag} {c : Cf} {d : D} {v : V} (h : Den K c d v) : decide (v = V.non) = (match d with | .non => true | _ => false) := by
  cases d with
  | non => cases (show v = .non from h); rfl
  | bl _ => cases (show v = .bl _ from h); rfl
  | int _ => cases (show v = .int _ from h); rfl
  | str _ => cases (show v = .str _ from h); rfl
  | lst _ => obtain ⟨p, _, e, _⟩ := h; cases e; rfl
  | tup _ => obtain ⟨p, _, e, _⟩ := h; cases e; rfl
theorem mp_isN {j p2} (ha : MP X W a ga) : MB X W (.Compare a [.Is] [.Constant .none j p2] pos) (g1 dIsN ga) := by
  obtain ⟨ta, h1, s1⟩ := ha
  refine ⟨_, pe_cmp (pc_isN h1) rfl, pt_cmp (pc_isN h1) rfl, sim1 (r := fun x H Q => Q (.bl (decide (x = .non))) H) (fun c d z v Q wf q1 q2 q4 => ?_) s1⟩
  show Q (V.bl (decide (v = V.non))) c.H
  rw [den_non q2]
  refine q4 _ c .refl wf ?_
  cases d <;> (cases q1; rfl)
theorem mp_notN {j p2} (ha : MP X W a ga) : MB X W (.Compare a [.IsNot] [.Constant .none j p2] pos) (g1 dNotN ga) := by
  obtain ⟨ta, h1, s1⟩ := ha
  refine ⟨_, pe_cmp (pc_notN h1) rfl, pt_cmp (pc_notN h1) rfl, sim1 (r := fun x H Q => Q (.bl (!decide (x = .non))) H) (fun c d z v Q wf q1 q2 q4 => ?_) s1⟩
  show Q (V.bl (!decide (v = V.non))) c.H
  rw [den_non q2]
  refine q4 _ c .refl wf ?_
  cases d <;> (cases q1; rfl)

/-! tests -/
def gTst (ga : Gm → Rs D) : Gm → Rs Bool := fun γ => (ga γ).bind fun d γ1 => match d with
  | .bl k => .ok k γ1
  | _ => .no
theorem mt_b (ha : MB X W e ga) : MT X W e (gTst ga) := by
  obtain ⟨ta, _, h1, s1⟩ := ha
  refine ⟨_, h1, fun f S c σ γ Q R hp => s1.bind stab_vT R hp fun d γ1 v c1 _ x1 R1 k1 q1 h2 => ?_⟩
  cases d with
  | bl k =>
    cases (show v = .bl k from q1)
    exact ⟨k, rfl, h2 k c1 .refl R1 .refl rfl⟩
  | _ => exact h2.elim
theorem mt_val (ha : MP X W e ga) (he : ∀ whole, isTrue e X.env whole = (do let v ← whole; standAt e.pos; holding [v] (truthy v)) := by intro _; rfl) : MT X W e (gTst ga) := by
  obtain ⟨ta, h1, s1⟩ := ha
  refine ⟨_, pt_val h1 he, fun f S c σ γ Q R hp => s1.bind stab_vT R hp fun d γ1 v c1 _ x1 R1 k1 q1 h2 => ?_⟩
  cases d with
  | bl k =>
    cases (show v = .bl k from q1)
    exact ⟨k, rfl, h2 k c1 .refl R1 .refl rfl⟩
  | _ => exact h2.elim
variable {ta tb : Gm → Rs Bool} {rest : List Expr}
def tgAnd (ta tb : Gm → Rs Bool) : Gm → Rs Bool := fun γ => (ta γ).bind fun k γ1 => if k then tb γ1 else .ok false γ1
def tgOr (ta tb : Gm → Rs Bool) : Gm → Rs Bool := fun γ => (ta γ).bind fun k γ1 => if k then .ok true γ1 else tb γ1
def tgNot (ta : Gm → Rs Bool) : Gm → Rs Bool := fun γ => (ta γ).bind fun k γ1 => .ok (!k) γ1
theorem mt_of_w (h : MW X W e ta) : MT X W e ta := let ⟨_, h1, s1⟩ := h; ⟨_, h1.pt, s1⟩
theorem mw_and1 (h : MT X W a ta) : MW X W (.BoolOp .And [a] pos) ta := let ⟨_, h1, s1⟩ := h; ⟨_, pw_and1 h1, s1⟩
theorem mw_or1 (h : MT X W a ta) : MW X W (.BoolOp .Or [a] pos) ta := let ⟨_, h1, s1⟩ := h; ⟨_, pw_or1 h1, s1⟩
theorem mw_and (ha : MT X W a ta) (hb : MW X W (.BoolOp .And (b :: rest) pos) tb) : MW X W (.BoolOp .And (a :: b :: rest) pos) (tgAnd ta tb) := by
  obtain ⟨_, h1, s1⟩ := ha
  obtain ⟨_, h2, s2⟩ := hb
  refine ⟨_, pw_and h1 h2, fun f S c σ γ Q R hp => s1.bind stab_vT R hp fun k γ1 v c1 _ x1 R1 k1 q1 h3 => ?_⟩
  cases (show k = v from q1)
  cases k with
  | true => rw [if_pos rfl]; exact s2 _ _ _ _ _ _ R1 h3
  | false => rw [if_neg Bool.false_ne_true]; exact h3 false c1 .refl R1 .refl rfl
theorem mw_or (ha : MT X W a ta) (hb : MW X W (.BoolOp .Or (b :: rest) pos) tb) : MW X W (.BoolOp .Or (a :: b :: rest) pos) (tgOr ta tb) := by
  obtain ⟨_, h1, s1⟩ := ha
  obtain ⟨_, h2, s2⟩ := hb
  refine ⟨_, pw_or h1 h2, fun f S c σ γ Q R hp => s1.bind stab_vT R hp fun k γ1 v c1 _ x1 R1 k1 q1 h3 => ?_⟩
  cases (show k = v from q1)
  cases k with
  | false => rw [if_neg Bool.false_ne_true]; exact s2 _ _ _ _ _ _ R1 h3
  | true => rw [if_pos rfl]; exact h3 true c1 .refl R1 .refl rfl
theorem mt_not (ha : MT X W a ta) : MT X W (.UnaryOp .Not a pos) (tgNot ta) := by
  obtain ⟨_, h1, s1⟩ := ha
  refine ⟨_, pt_not h1, fun f S c σ γ Q R hp => s1.bind stab_vT R hp fun k γ1 v c1 _ x1 R1 k1 q1 h3 => ?_⟩
  cases (show k = v from q1)
  exact h3 (!k) c1 .refl R1 .refl rfl
/-! .. as values -/
def gAnd (ga gb : Gm → Rs D) : Gm → Rs D := fun γ => (ga γ).bind fun d γ1 => match d with
  | .bl true => gb γ1
  | .bl false => .ok (.bl false) γ1
  | _ => .no
def gOr (ga gb : Gm → Rs D) : Gm → Rs D := fun γ => (ga γ).bind fun d γ1 => match d with
  | .bl true => .ok (.bl true) γ1
  | .bl false => gb γ1
  | _ => .no
def gNot (ga : Gm → Rs D) : Gm → Rs D := fun γ => (ga γ).bind fun d γ1 => match d with
  | .bl k => .ok (.bl (!k)) γ1
  | _ => .no
def gIf (ta : Gm → Rs Bool) (ga gb : Gm → Rs D) : Gm → Rs D := fun γ => (ta γ).bind fun k γ1 => if k then ga γ1 else gb γ1
theorem mp_one {op} (h : MP X W a ga) : MP X W (.BoolOp op [a] pos) ga := let ⟨_, h1, s1⟩ := h; ⟨_, pe_one h1, s1⟩
theorem mp_and (ha : MP X W a ga) (hb : MP X W (.BoolOp .And (b :: rest) pos) gb) : MP X W (.BoolOp .And (a :: b :: rest) pos) (gAnd ga gb) := by
  obtain ⟨_, h1, s1⟩ := ha
  obtain ⟨_, h2, s2⟩ := hb
  refine ⟨_, pe_and h1 h2, fun f S c σ γ Q R hp => s1.bind stab_vP R hp fun d γ1 v c1 _ x1 R1 k1 q1 h3 => ?_⟩
  cases d with
  | bl k =>
    cases (show v = .bl k from q1)
    refine ⟨k, rfl, ?_⟩
    cases k with
    | true => rw [if_pos rfl]; exact s2 _ _ _ _ _ _ R1 h3
    | false => rw [if_neg Bool.false_ne_true]; exact h3 _ c1 .refl R1 .refl rfl
  | _ => exact h3.elim
theorem mp_or (ha : MP X W a ga) (hb : MP X W (.BoolOp .Or (b :: rest) pos) gb) : MP X W (.BoolOp .Or (a :: b :: rest) pos) (gOr ga gb) := by
  obtain ⟨_, h1, s1⟩ := ha
  obtain ⟨_, h2, s2⟩ := hb
  refine ⟨_, pe_or h1 h2, fun f S c σ γ Q R hp => s1.bind stab_vP R hp fun d γ1 v c1 _ x1 R1 k1 q1 h3 => ?_⟩
  cases d with
  | bl k =>
    cases (show v = .bl k from q1)
    refine ⟨k, rfl, ?_⟩
    cases k with
    | false => rw [if_neg Bool.false_ne_true]; exact s2 _ _ _ _ _ _ R1 h3
    | true => rw [if_pos rfl]; exact h3 _ c1 .refl R1 .refl rfl
  | _ => exact h3.elim
theorem mp_not (ha : MP X W a ga) : MP X W (.UnaryOp .Not a pos) (gNot ga) := by
  obtain ⟨_, h1, s1⟩ := ha
  refine ⟨_, pe_not h1, fun f S c σ γ Q R hp => s1.bind stab_vP R hp fun d γ1 v c1 _ x1 R1 k1 q1 h3 => ?_⟩
  cases d with
  | bl k =>
    cases (show v = .bl k from q1)
    exact ⟨k, rfl, h3 _ c1 .refl R1 .refl rfl⟩
  | _ => exact h3.elim
theorem mp_if {t : Expr} (ht : MT X W t ta) (ha : MP X W a ga) (hb : MP X W b gb) : MP X W (.IfExp t a b pos) (gIf ta ga gb) := by
  obtain ⟨_, h0, s0⟩ := ht
  obtain ⟨_, h1, s1⟩ := ha
  obtain ⟨_, h2, s2⟩ := hb
  refine ⟨_, pe_ifExp h0 h1 h2, fun f S c σ γ Q R hp => s0.bind stab_vP R hp fun k γ1 v c1 _ x1 R1 k1 q1 h3 => ?_⟩
  cases (show k = v from q1)
  cases k with
  | true => rw [if_pos rfl]; exact s1 _ _ _ _ _ _ R1 h3
  | false => rw [if_neg Bool.false_ne_true]; exact s2 _ _ _ _ _ _ R1 h3
/-- a < b < c -/
def gChain (p p' : D → D → Option D) (ga gb gc : Gm → Rs D) : Gm → Rs D := fun γ => (ga γ).bind fun d γ1 => (gb γ1).bind fun e γ2 => (ofO (p d e) γ2).bind fun z γ3 => match z with
  | .bl true => (gc γ3).bind fun h γ4 => ofO (p' e h) γ4
  | .bl false => .ok (.bl false) γ3
  | _ => .no
theorem mp_chain {c : Expr} {gc : Gm → Rs D} {op op' : CmpOp} {r r' : R2} {p p' : D → D → Option D} (ho : OpR X (compareOp op) r) (ho' : OpR X (compareOp op') r') (m : Meet2 X.K r p) (m' : Meet2 X.K r' p')
    (ha : MP X W a ga) (hb : MP X W b gb) (hc : MP X W c gc) (hm : lastMarks [op, op'] [b, c] = false := by rfl) : MB X W (.Compare a [op, op'] [b, c] pos) (gChain p p' ga gb gc) := by
  obtain ⟨_, h0, s0⟩ := ha
  obtain ⟨_, h1, s1⟩ := hb
  obtain ⟨_, h2, s2⟩ := hc
  refine ⟨_, pe_chain ho ho' h0 h1 h2 hm, pt_chain ho ho' h0 h1 h2 hm, fun f S cf σ γ Q R hp => s0.bind stab_vP R hp fun d γ1 v c1 _ x1 R1 k1 q1 h3 => s1.bind stab_vP R1 h3 fun e γ2 w c2 _ x2 R2 k2 q2 h4 => ?_⟩
  have q1' := q1.ext R1.wf x2
  cases e1 : p d e with
  | none => rw [e1] at h4; exact h4.elim
  | some z =>
    rw [e1] at h4
    refine m c2 d e z v w _ R2.wf e1 q1' q2 fun u c3 x3 w3 q3 => ?_
    have R3 := R2.step x3 w3
    cases z with
    | bl k =>
      cases (show u = .bl k from q3)
      refine ⟨k, rfl, ?_⟩
      cases k with
      | true =>
        rw [if_pos rfl]
        have h4' : Post X.K X.mg (vP X.K) W f S c2 σ γ2 Q ((gc γ2).bind fun h γ4 => ofO (p' e h) γ4) := h4
        have h5 : Post X.K X.mg (vP X.K) W f S c3 σ γ2 Q ((gc γ2).bind fun h γ4 => ofO (p' e h) γ4) := by
          cases e5 : (gc γ2).bind fun h γ4 => ofO (p' e h) γ4 with
          | no => rw [e5] at h4'; exact h4'
          | ok r g => rw [e5] at h4'; exact fun v' c' xx RR kk qq => h4' v' c' (x3.nop.trans w3 xx) RR kk qq
          | ex n fs g => rw [e5] at h4'; exact fun C d c' hm xx RR kk qq => h4' C d c' hm (x3.nop.trans w3 xx) RR kk qq
        refine s2.bind stab_vP R3 h5 fun h γ4 y c4 _ x4 R4 k4 q4 h6 => ?_
        obtain ⟨z2, e6, h7⟩ := h6.fin R4
        exact m' c4 e h z2 w y Q R4.wf e6 ((q2.ext R2.wf x3).ext w3 x4) q4 fun u' c' xx ww qq => h7 u' c' xx ww qq
      | false => rw [if_neg Bool.false_ne_true]; exact h4 _ c3 x3.nop R3 .refl rfl
    | _ => exact h4.elim
theorem mp_le_le {c : Expr} {gc : Gm → Rs D} (ha : MP X W a ga) (hb : MP X W b gb) (hc : MP X W c gc) (hm : lastMarks [.LtE, .LtE] [b, c] = false := by rfl) : MB X W (.Compare a [.LtE, .LtE] [b, c] pos) (gChain dLe dLe ga gb gc) :=
  mp_chain op_le op_le (meetI0 fun i j z e c => by cases e; rfl) (meetI0 fun i j z e c => by cases e; rfl) ha hb hc hm
theorem mp_lt_lt {c : Expr} {gc : Gm → Rs D} (ha : MP X W a ga) (hb : MP X W b gb) (hc : MP X W c gc) (hm : lastMarks [.Lt, .Lt] [b, c] = false := by rfl) : MB X W (.Compare a [.Lt, .Lt] [b, c] pos) (gChain dLt dLt ga gb gc) :=
  mp_chain op_lt op_lt (meetI0 fun i j z e c => by cases e; rfl) (meetI0 fun i j z e c => by cases e; rfl) ha hb hc hm
theorem mp_le_lt {c : Expr} {gc : Gm → Rs D} (ha : MP X W a ga) (hb : MP X W b gb) (hc : MP X W c gc) (hm : lastMarks [.LtE, .Lt] [b, c] = false := by rfl) : MB X W (.Compare a [.LtE, .Lt] [b, c] pos) (gChain dLe dLt ga gb gc) :=
  mp_chain op_le op_lt (meetI0 fun i j z e c => by cases e; rfl) (meetI0 fun i j z e c => by cases e; rfl) ha hb hc hm
theorem mp_lt_le {c : Expr} {gc : Gm → Rs D} (ha : MP X W a ga) (hb : MP X W b gb) (hc : MP X W c gc) (hm : lastMarks [.Lt, .LtE] [b, c] = false := by rfl) : MB X W (.Compare a [.Lt, .LtE] [b, c] pos) (gChain dLt dLe ga gb gc) :=
  mp_chain op_lt op_le (meetI0 fun i j z e c => by cases e; rfl) (meetI0 fun i j z e c => by cases e; rfl) ha hb hc hm
end
end Fv

set_option maxRecDepth 100000
namespace Fv
open PySem L2

section
variable {X : Cx} {W : WX} {pos : Pos} {a b e : Expr} {es : List Expr} {ga gb : Gm → Rs D} {gs : Gm → Rs (List D)}
/-! written items, arguments -/
def vD (K : PySem.W.Frag) : VR (List D) (List V) := fun _ _ c' l vs => Dens K c' l vs
theorem stab_vD {K : PySem.W.Frag} : Stab (vD K) := fun _ _ _ _ _ _ _ _ _ h => h
structure MD (X : Cx) (W : WX) (es : List Expr) (g : Gm → Rs (List D)) : Prop where
  ex : ∃ t, PA X es t ∧ Sim X W (vD X.K) t g
  len : ∀ γ l γ1, g γ = .ok l γ1 → l.length = es.length
def gNil : Gm → Rs (List D) := fun γ => .ok [] γ
def gCons (ga : Gm → Rs D) (gs : Gm → Rs (List D)) : Gm → Rs (List D) := fun γ => (ga γ).bind fun d γ1 => (gs γ1).bind fun l γ2 => .ok (d :: l) γ2
theorem bind_ok {α β : Type} {r : Rs α} {k : α → Gm → Rs β} {b : β} {g : Gm} (h : r.bind k = .ok b g) : ∃ x g1, r = .ok x g1 ∧ k x g1 = .ok b g := by
  cases r with
  | ok x g1 => exact ⟨x, g1, rfl, h⟩
  | no => cases h
  | ex n fs g1 => cases h
theorem md_nil : MD X W [] gNil := ⟨⟨_, pa_nil, fun f S c σ γ Q R hp => hp [] c .refl R .refl rfl⟩, fun γ l γ1 e => by cases e; rfl⟩
theorem md_cons (ha : MP X W e ga) (hr : MD X W es gs) (hs : starEach (e :: es) X.env = (false, eval e X.env) :: starEach es X.env := by rfl) : MD X W (e :: es) (gCons ga gs) := by
  obtain ⟨ta, h1, s1⟩ := ha
  obtain ⟨⟨ts, h2, s2⟩, hl⟩ := hr
  refine ⟨⟨_, pa_cons h1 h2 hs, fun f S c σ γ Q R hp => s1.bind stab_vD R hp fun d γ1 v c1 _ x1 R1 k1 q1 h3 => s2.bind stab_vD R1 h3 fun l γ2 vs c2 _ x2 R2 k2 q2 h4 => ?_⟩, fun γ l γ1 e => ?_⟩
  · exact h4 (v :: vs) c2 .refl R2 .refl ⟨v, vs, rfl, q1.ext R1.wf x2, q2⟩
  · obtain ⟨d, g1, _, e2⟩ := bind_ok e
    obtain ⟨l', g2, e3, e4⟩ := bind_ok e2
    cases e4
    rw [List.length_cons, List.length_cons, hl _ _ _ e3]
def gTup (gs : Gm → Rs (List D)) : Gm → Rs D := fun γ => (gs γ).bind fun l γ1 => .ok (.tup l) γ1
theorem mp_tup {k} (h : MD X W es gs) (hz : es.length ≤ sizeLine := by decide) : MP X W (.Tuple es k pos) (gTup gs) := by
  obtain ⟨⟨ts, h2, s2⟩, hl⟩ := h
  refine ⟨_, pe_tup h2, fun f S c σ γ Q R hp => s2.bind stab_vP R hp fun l γ1 vs c1 e0 x1 R1 k1 q1 h3 => ⟨?_, fun p n => ?_⟩⟩
  · rw [q1.length, hl _ _ _ e0]; exact hz
  · exact h3 (.ref p) ⟨c1.M, upd c1.H p (.tup vs)⟩ (Ext.new n).nop (R1.step (Ext.new n) (R1.wf.new n)) .refl (Den.tup R1.wf n q1)
theorem mf_lst (h : MD X W es gs) (hz : es.length ≤ sizeLine := by decide) : MF X W (.List es pos) gs := by
  obtain ⟨⟨ts, h2, s2⟩, hl⟩ := h
  refine ⟨_, pe_lst h2, fun f S c σ γ Q R hp => ?_⟩
  have hp' : Post X.K X.mg (vF X.K) W f S c σ γ Q ((gs γ).bind fun l γ1 => .ok l γ1) := by
    cases e0 : gs γ with
    | no => rw [e0] at hp; exact hp
    | ok l g => rw [e0] at hp; exact hp
    | ex n fs g => rw [e0] at hp; exact hp
  refine s2.bind stab_vF R hp' fun l γ1 vs c1 e0 x1 R1 k1 q1 h3 => ⟨?_, fun p n => ?_⟩
  · rw [q1.length, hl _ _ _ e0]; exact hz
  · exact h3 (.ref p) (c1.add p vs) (Ext.add n).nop (R1.step (Ext.add n) (R1.wf.add n)) .refl ⟨p, rfl, n, Own.add R1.wf n q1⟩

/-! built-ins by values -/
def gB (p : List D → Option D) (gs : Gm → Rs (List D)) : Gm → Rs D := fun γ => (gs γ).bind fun l γ1 => ofO (p l) γ1
def gBF (p : List D → Option (List D)) (gs : Gm → Rs (List D)) : Gm → Rs (List D) := fun γ => (gs γ).bind fun l γ1 => ofO (p l) γ1
def MeetC (K : PySem.W.Frag) (r : List V → Hp → VK → Prop) (p : List D → Option D) : Prop :=
  ∀ (c : Cf) (l : List D) (z : D) (vs : List V) (Q : VK), WF c → p l = some z → Dens K c l vs → (∀ u c', Ext Nop c c' → WF c' → Den K c' z u → Q u c'.H) → r vs c.H Q
def MeetF (K : PySem.W.Frag) (r : List V → Hp → VK → Prop) (p : List D → Option (List D)) : Prop :=
  ∀ (c : Cf) (l z : List D) (vs : List V) (Q : VK), WF c → p l = some z → Dens K c l vs → (∀ q zs, c.H q = none → Dens K c z zs → Q (.ref q) (upd c.H q (.lst zs))) → r vs c.H Q
theorem simB {t : TA} {r : List V → Hp → VK → Prop} {p : List D → Option D} (m : MeetC X.K r p) (s : Sim X W (vD X.K) t gs) : Sim X W (vP X.K) (tCB r t) (gB p gs) := by
  intro f S c σ γ Q R hp
  refine s.bind stab_vP R hp fun l γ1 vs c1 _ x1 R1 k1 q1 h1 => ?_
  obtain ⟨z, e1, h2⟩ := h1.fin R1
  exact m c1 l z vs Q R1.wf e1 q1 fun u c' x w q => h2 u c' x w q
theorem simBF {t : TA} {r : List V → Hp → VK → Prop} {p : List D → Option (List D)} (m : MeetF X.K r p) (s : Sim X W (vD X.K) t gs) : Sim X W (vF X.K) (tCB r t) (gBF p gs) := by
  intro f S c σ γ Q R hp
  refine s.bind stab_vF R hp fun l γ1 vs c1 _ x1 R1 k1 q1 h1 => ?_
  obtain ⟨z, e1, h2⟩ := h1.fin R1
  refine m c1 l z vs Q R1.wf e1 q1 fun q zs n hz => ?_
  exact h2 (.ref q) (c1.add q zs) (Ext.add n) (R1.wf.add n) ⟨q, rfl, n, Own.add R1.wf n hz⟩
theorem mp_callB {x : Str} {p : Pos} {id : String} {r : List V → Hp → VK → Prop} {h : List D → Option D} (hc : CallR X (.builtin id) r) (m : MeetC X.K r h) (hg : Gl X x) (hm : X.mg x = none) (hv : bootBuiltins x = some (.builtin id)) (ha : MD X W (e :: es) gs)
    (h1 : x ≠ "__name__" := by decide) (h2 : (x == ("__debug__" : Str)) = false := by decide) (h3 : starEach (e :: es) X.env = (false, eval e X.env) :: starEach es X.env := by rfl) (h4 : (backTo pos (starEach es X.env)).any (·.1) = false := by rfl) :
    MP X W (.Call (.Name x p) (e :: es) [] pos) (gB h gs) := by
  obtain ⟨⟨t, ht, s⟩, _⟩ := ha
  exact ⟨_, pe_callB hc hg hm hv ht h1 h2 h3 h4, simB m s⟩
theorem mp_callTy {x : Str} {p : Pos} {T : String} {r : List V → Hp → VK → Prop} {h : List D → Option D} (hc : CallR X (.type T) r) (m : MeetC X.K r h) (hg : Gl X x) (hm : X.mg x = none) (hv : bootBuiltins x = some (.type T)) (ha : MD X W (e :: es) gs)
    (h1 : x ≠ "__name__" := by decide) (h2 : (x == ("__debug__" : Str)) = false := by decide) (h3 : starEach (e :: es) X.env = (false, eval e X.env) :: starEach es X.env := by rfl) (h4 : (backTo pos (starEach es X.env)).any (·.1) = false := by rfl) :
    MP X W (.Call (.Name x p) (e :: es) [] pos) (gB h gs) := by
  obtain ⟨⟨t, ht, s⟩, _⟩ := ha
  exact ⟨_, pe_callTy hc hg hm hv ht h1 h2 h3 h4, simB m s⟩
theorem mf_callTy {x : Str} {p : Pos} {T : String} {r : List V → Hp → VK → Prop} {h : List D → Option (List D)} (hc : CallR X (.type T) r) (m : MeetF X.K r h) (hg : Gl X x) (hm : X.mg x = none) (hv : bootBuiltins x = some (.type T)) (ha : MD X W (e :: es) gs)
    (h1 : x ≠ "__name__" := by decide) (h2 : (x == ("__debug__" : Str)) = false := by decide) (h3 : starEach (e :: es) X.env = (false, eval e X.env) :: starEach es X.env := by rfl) (h4 : (backTo pos (starEach es X.env)).any (·.1) = false := by rfl) :
    MF X W (.Call (.Name x p) (e :: es) [] pos) (gBF h gs) := by
  obtain ⟨⟨t, ht, s⟩, _⟩ := ha
  exact ⟨_, pe_callTy hc hg hm hv ht h1 h2 h3 h4, simBF m s⟩

theorem dens1 {K : PySem.W.Frag} {c : Cf} {d : D} {vs : List V} (h : Dens K c [d] vs) : ∃ v, vs = [v] ∧ Den K c d v := by
  obtain ⟨x, r, e, q, z⟩ := h
  have z' : r = [] := z
  subst z'; exact ⟨x, e, q⟩
theorem dens2 {K : PySem.W.Frag} {c : Cf} {d d' : D} {vs : List V} (h : Dens K c [d, d'] vs) : ∃ v v', vs = [v, v'] ∧ Den K c d v ∧ Den K c d' v' := by
  obtain ⟨x, r, e, q, z⟩ := h
  obtain ⟨v', e', q'⟩ := dens1 z
  subst e'; exact ⟨x, v', e, q, q'⟩
/-! len -/
def dLen : List D → Option D
  | [.lst l] => some (.int l.length)
  | [.tup l] => some (.int l.length)
  | [.str z] => if z.length ≤ sizeLine then some (.int z.length) else none
  | _ => none
theorem len_meets {K : PySem.W.Frag} : MeetC K (fun xs H Q => ∃ x n, xs = [x] ∧ LenV K x H n ∧ Q (.int n) H) dLen := by
  intro c l z vs Q wf h q k
  unfold dLen at h
  split at h
  · obtain ⟨v, rfl, p, xs, rfl, p1, p2⟩ := dens1 q
    cases h
    exact ⟨_, xs.length, rfl, .inl ⟨xs, p1.sq, rfl⟩, k _ c .refl wf (by rw [p2.length]; rfl)⟩
  · obtain ⟨v, rfl, p, xs, rfl, p1, p2⟩ := dens1 q
    cases h
    exact ⟨_, xs.length, rfl, .inr ⟨xs, p1, rfl⟩, k _ c .refl wf (by rw [p2.length]; rfl)⟩
  · obtain ⟨v, rfl, p⟩ := dens1 q
    obtain ⟨hz, e1⟩ := ite_of h
    cases e1
    exact ⟨_, _, rfl, (show v = .str _ from p) ▸ ⟨hz, rfl⟩, k _ c .refl wf rfl⟩
  · cases h
theorem mp_len {p : Pos} (hg : Gl X "len") (hm : X.mg "len" = none) (ha : MP X W a ga) (h3 : starEach [a] X.env = (false, eval a X.env) :: starEach [] X.env := by rfl) : MP X W (.Call (.Name "len" p) [a] [] pos) (gB dLen (gCons ga gNil)) :=
  mp_callB call_len len_meets hg hm PySem.boot_len (md_cons ha md_nil h3) (h3 := h3)
/-! isinstance -/
def dTy : D → String
  | .non => "NoneType"
  | .bl _ => "bool"
  | .int _ => "int"
  | .str _ => "str"
  | .lst _ => "list"
  | .tup _ => "tuple"
theorem den_ty {K : PySem.W.Frag} {c : Cf} {d : D} {v : V} (h : Den K c d v) : TyX K c.H v (.type (dTy d)) := by
  cases d with
  | non => cases (show v = .non from h); exact .base .non
  | bl k => cases (show v = .bl _ from h); exact .base (.bl _)
  | int k => cases (show v = .int _ from h); exact .base (.int _)
  | str k => cases (show v = .str _ from h); exact .base (.str _)
  | lst l =>
    obtain ⟨p, xs, rfl, q, _⟩ := h
    rcases q.sq with (q | ⟨o, q⟩) | ⟨o, its, n, e1, e2, _⟩
    · exact .base (.lst q)
    · exact .base (.frz q)
    · exact .kList e1 e2
  | tup l =>
    obtain ⟨p, xs, rfl, q, _⟩ := h
    rcases q with (q | ⟨o, q⟩) | ⟨o, its, n, e1, e2, _⟩
    · exact .base (.tup q)
    · exact .fTuple q
    · exact .kTuple e1 e2
def dIsi (T : String) : D → Option D := fun d => (kitB (dTy d) T).map .bl
theorem mp_isi {p p2 : Pos} {T : Str} {Ts : String} (hg : Gl X "isinstance") (hm : X.mg "isinstance" = none) (hg2 : Gl X T) (hm2 : X.mg T = none) (hv2 : bootBuiltins T = some (.type Ts)) (ha : MP X W a ga)
    (h1 : T ≠ "__name__" := by decide) (h2 : (T == ("__debug__" : Str)) = false := by decide)
    (h3 : starEach [a, .Name T p2] X.env = (false, eval a X.env) :: starEach [.Name T p2] X.env := by rfl) (h4 : (backTo pos (starEach [.Name T p2] X.env)).any (·.1) = false := by rfl)
    (h5 : starEach [.Name T p2] X.env = (false, eval (.Name T p2) X.env) :: starEach [] X.env := by rfl) : MP X W (.Call (.Name "isinstance" p) [a, .Name T p2] [] pos) (g1 (dIsi Ts) ga) := by
  obtain ⟨ta, t1, s1⟩ := ha
  refine ⟨_, pe_callB call_isi hg hm (by decide +kernel) (pa_cons t1 (pa_cons (pe_bltn (v := .ty Ts) hg2 hm2 hv2 rfl h1 h2) pa_nil h5) h3) (he := h3) (hpl := h4), ?_⟩
  refine sim1 (r := fun x H Q => rIsi X.K [x, .ty Ts] H Q) (fun c d z v Q wf q1 q2 q4 => ?_) s1
  unfold dIsi at q1
  cases e1 : kitB (dTy d) Ts with
  | none => rw [e1] at q1; cases q1
  | some k =>
    rw [e1] at q1
    cases q1
    exact ⟨v, _, _, _, k, rfl, .ty _, den_ty q2, kit_ty e1, q4 _ c .refl wf rfl⟩

/-! places -/
theorem atI_den {K : PySem.W.Frag} {c : Cf} {l : List D} {xs : List V} (q : Dens K c l xs) {i : Int} {d : D} (h : atI l i = some d) : ∃ v, atI xs i = some v ∧ Den K c d v := by
  unfold atI at h ⊢
  rw [q.length]
  cases e : ixN l.length i with
  | none => rw [e] at h; cases h
  | some j =>
    rw [e] at h
    exact q.get (i := j) h
def dIx : D → D → Option D
  | .lst l, .int i => atI l i
  | .tup l, .int i => atI l i
  | _, _ => none
theorem ix_meets {K : PySem.W.Frag} : Meet2 K (rIx K) dIx := by
  intro c d e z v w Q wf q1 q2 q3 q4
  unfold dIx at q1
  split at q1
  · obtain ⟨p, xs, rfl, r1, r2⟩ := q2
    cases (show w = .int _ from q3)
    obtain ⟨u, e2, h2⟩ := atI_den r2 q1
    exact .inl ⟨p, xs, _, u, rfl, rfl, r1.sq, e2, q4 u c .refl wf h2⟩
  · obtain ⟨p, xs, rfl, r1, r2⟩ := q2
    cases (show w = .int _ from q3)
    obtain ⟨u, e2, h2⟩ := atI_den r2 q1
    exact .inr (.inl ⟨p, xs, _, u, rfl, rfl, r1, e2, q4 u c .refl wf h2⟩)
  · cases q1
theorem mp_ix (ha : MP X W a ga) (hb : MP X W b gb) (hp : PlainIx b := by exact fun _ _ => rfl) : MP X W (.Subscript a b pos) (g2 dIx ga gb) := by
  obtain ⟨ta, h1, s1⟩ := ha
  obtain ⟨tb, h2, s2⟩ := hb
  exact ⟨_, pe_ix ix_seq h1 h2 hp, sim2 ix_meets s1 s2⟩
/-- own[i] -/
def gOwn (i : Nat) : Gm → Rs D := fun γ => match γ[i]? with
  | some (.ow l) => .ok (.lst l) γ
  | some (.bo l) => .ok (.lst l) γ
  | _ => .no
def gIxO (i : Nat) (gb : Gm → Rs D) : Gm → Rs D := fun γ => (gOwn i γ).bind fun _ γ0 => (gb γ0).bind fun d γ1 => (gOwn i γ1).bind fun o γ2 => ofO (dIx o d) γ2
theorem gOwn_ok {i : Nat} {γ γ1 : Gm} {d : D} (h : gOwn i γ = .ok d γ1) : ∃ s l, γ[i]? = some s ∧ s.own = true ∧ d = .lst l ∧ γ1 = γ ∧ (s = .ow l ∨ s = .bo l) := by
  unfold gOwn at h
  split at h
  · rename_i l e; cases h; exact ⟨_, l, e, rfl, rfl, rfl, .inl rfl⟩
  · rename_i l e; cases h; exact ⟨_, l, e, rfl, rfl, rfl, .inr rfl⟩
  · cases h
theorem Rel.ownL {K : PySem.W.Frag} {f : Fx} {S : Addr → Prop} {c : Cf} {σ : St} {γ : Gm} (R : Rel K f S c σ γ) {i : Nat} {s : SV} {l : List D} (e : γ[i]? = some s) (h : s = .ow l ∨ s = .bo l) : ∃ p, σ[i]? = some (some (.ref p)) ∧ Own K c p l := by
  rcases h with rfl | rfl
  · obtain ⟨p, h1, _, _, h2⟩ := R.ow i l e
    exact ⟨p, h1, h2⟩
  · obtain ⟨h1, _, _, _, h2⟩ := R.bo i l e
    exact ⟨_, h1, h2⟩
theorem gOwn_no {i : Nat} {γ : Gm} (h : ∀ d g, gOwn i γ ≠ .ok d g) : gOwn i γ = .no := by
  unfold gOwn at h ⊢
  split at h
  · exact (h _ _ rfl).elim
  · exact (h _ _ rfl).elim
  · rfl
theorem gOwn_cases (i : Nat) (γ : Gm) : gOwn i γ = .no ∨ ∃ l, gOwn i γ = .ok (.lst l) γ := by
  unfold gOwn
  split
  · exact .inr ⟨_, rfl⟩
  · exact .inr ⟨_, rfl⟩
  · exact .inl rfl
theorem mp_ixO {x : Str} {p : Pos} {i : Nat} (ho : PE X (.Name x p) (tVar i)) (hb : MP X W b gb) (hp : PlainIx b := by exact fun _ _ => rfl) : MP X W (.Subscript (.Name x p) b pos) (gIxO i gb) := by
  obtain ⟨tb, h2, s2⟩ := hb
  refine ⟨_, pe_ix ix_list ho h2 hp, fun f S c σ γ Q R hp => ?_⟩
  replace hp : Post X.K X.mg (vP X.K) W f S c σ γ Q (gIxO i gb γ) := hp
  unfold gIxO at hp
  rcases gOwn_cases i γ with e0 | ⟨l0, e0⟩
  · rw [e0] at hp; exact hp.elim
  · rw [e0] at hp
    obtain ⟨s, l, e1, _, _, _, e2⟩ := gOwn_ok e0
    obtain ⟨q, f1, _⟩ := R.ownL e1 e2
    refine ⟨.ref q, f1, s2.bind stab_vP R hp fun d γ1 v c1 _ x1 R1 k1 q1 h3 => ?_⟩
    rcases gOwn_cases i γ1 with e3 | ⟨l1, e3⟩
    · rw [e3] at h3; exact h3.elim
    · rw [e3] at h3
      obtain ⟨s', l', e4, _, e5, _, e6⟩ := gOwn_ok e3
      obtain ⟨q', f2, ⟨_, vs, f3, f4⟩⟩ := R1.ownL e4 e6
      rw [f1] at f2
      cases f2
      cases e5
      obtain ⟨z, e7, h4⟩ := h3.fin R1
      cases d with
      | int k =>
        cases (show v = .int _ from q1)
        obtain ⟨u, e8, h5⟩ := atI_den f4 e7
        exact ⟨q, vs, _, u, rfl, rfl, SqL.of f3, e8, h4 u c1 .refl R1.wf h5⟩
      | _ => cases e7
end
end Fv

set_option maxRecDepth 100000
namespace Fv
open PySem L2

/-! == of data -/
mutual
def toP : D → PyData
  | .non => .none
  | .bl b => .bool b
  | .int i => .int i
  | .str x => .str x
  | .lst l => .list (toPs l)
  | .tup l => .tuple (toPs l)
def toPs : List D → List PyData
  | [] => []
  | d :: l => toP d :: toPs l
end
mutual
theorem den_dp {K : PySem.W.Frag} {c : Cf} : ∀ (d : D) (v : V), Den K c d v → Dp K c.H v (toP d)
  | .non, v, h => by cases (show v = .non from h); exact .non
  | .bl b, v, h => by cases (show v = .bl b from h); exact .bl b
  | .int i, v, h => by cases (show v = .int i from h); exact .int i
  | .str x, v, h => by cases (show v = .str x from h); exact .str x
  | .lst l, v, h => by
    obtain ⟨p, xs, rfl, q, r⟩ := h
    exact .lst q.sq (dens_dp l xs r)
  | .tup l, v, h => by
    obtain ⟨p, xs, rfl, q, r⟩ := h
    exact .tup q (dens_dp l xs r)
theorem dens_dp {K : PySem.W.Frag} {c : Cf} : ∀ (l : List D) (vs : List V), Dens K c l vs → DpAll K c.H vs (toPs l)
  | [], vs, h => by
    have e : vs = [] := h
    subst e; exact .nil
  | d :: l, vs, h => by
    obtain ⟨x, r, rfl, p, q⟩ := h
    exact .cons (den_dp d x p) (dens_dp l r q)
end
mutual
def eqD : D → D → Bool
  | .non, .non => true
  | .bl a, .bl b => a == b
  | .bl a, .int j => (if a then 1 else 0) == j
  | .int i, .bl b => i == (if b then 1 else 0)
  | .int i, .int j => i == j
  | .str x, .str y => x == y
  | .lst l, .lst m => eqDs l m
  | .tup l, .tup m => eqDs l m
  | _, _ => false
def eqDs : List D → List D → Bool
  | [], [] => true
  | x :: l, y :: m => eqD x y && eqDs l m
  | _, _ => false
end
mutual
theorem eqD_toP : ∀ d e : D, PyData.eqv (toP d) (toP e) = eqD d e
  | .lst l, .lst m => by unfold toP eqD PyData.eqv; exact eqDs_toP l m
  | .tup l, .tup m => by unfold toP eqD PyData.eqv; exact eqDs_toP l m
  | .non, e => by cases e <;> rfl
  | .bl b, e => by cases e <;> rfl
  | .int b, e => by cases e <;> rfl
  | .str b, e => by cases e <;> rfl
  | .lst l, .non => rfl
  | .lst l, .bl _ => rfl
  | .lst l, .int _ => rfl
  | .lst l, .str _ => rfl
  | .lst l, .tup _ => rfl
  | .tup l, .non => rfl
  | .tup l, .bl _ => rfl
  | .tup l, .int _ => rfl
  | .tup l, .str _ => rfl
  | .tup l, .lst _ => rfl
theorem eqDs_toP : ∀ l m : List D, PyData.eqvAll (toPs l) (toPs m) = eqDs l m
  | [], [] => rfl
  | [], _ :: _ => rfl
  | _ :: _, [] => rfl
  | x :: l, y :: m => by
    unfold toPs eqDs PyData.eqvAll
    rw [eqD_toP x y, eqDs_toP l m]
end
mutual
def dep : D → Nat
  | .lst l => deps l + 1
  | .tup l => deps l + 1
  | _ => 0
def deps : List D → Nat
  | [] => 0
  | d :: l => max (dep d) (deps l)
end
mutual
def gds : D → Bool
  | .str x => PyData.strOk x
  | .lst l => gdss l
  | .tup l => gdss l
  | _ => true
def gdss : List D → Bool
  | [] => true
  | d :: l => gds d && gdss l
end
mutual
theorem dep_toP : ∀ d : D, PyData.depth (toP d) = dep d
  | .lst l => by unfold toP dep PyData.depth; rw [deps_toP l]
  | .tup l => by unfold toP dep PyData.depth; rw [deps_toP l]
  | .non => rfl
  | .bl _ => rfl
  | .int _ => rfl
  | .str _ => rfl
theorem deps_toP : ∀ l : List D, PyData.depthAll (toPs l) = deps l
  | [] => rfl
  | d :: l => by unfold toPs deps PyData.depthAll; rw [dep_toP d, deps_toP l]
end
mutual
theorem gds_toP : ∀ d : D, PyData.canLay0 (toP d) = gds d
  | .lst l => by unfold toP gds PyData.canLay0; exact gdss_toP l
  | .tup l => by unfold toP gds PyData.canLay0; exact gdss_toP l
  | .non => rfl
  | .bl _ => rfl
  | .int _ => rfl
  | .str _ => rfl
theorem gdss_toP : ∀ l : List D, PyData.canLayAll0 (toPs l) = gdss l
  | [] => rfl
  | d :: l => by unfold toPs gdss PyData.canLayAll0; rw [gds_toP d, gdss_toP l]
end
def eqOk (d : D) : Bool := gds d && decide (dep d ≤ 64)
def dEq : D → D → Option D := fun d e => if eqOk d && eqOk e then some (.bl (eqD d e)) else none
def dNe : D → D → Option D := fun d e => if eqOk d && eqOk e then some (.bl (!eqD d e)) else none
theorem shaped_of {d : D} (h : eqOk d = true) : SeqAt.shaped (toP d) = true := by
  unfold SeqAt.shaped
  rw [gds_toP, dep_toP]
  exact h
theorem eq_meets {K : PySem.W.Frag} : Meet2 K (rEqD K) dEq := by
  intro c d e z v w Q wf q1 q2 q3 q4
  obtain ⟨h1, h2⟩ := ite_of q1
  obtain ⟨h3, h4⟩ := Bool.and_eq_true_iff.mp h1
  cases h2
  refine ⟨toP d, toP e, den_dp d v q2, den_dp e w q3, shaped_of h3, shaped_of h4, ?_⟩
  rw [eqD_toP]
  exact q4 _ c .refl wf rfl
theorem ne_meets {K : PySem.W.Frag} : Meet2 K (rNeD K) dNe := by
  intro c d e z v w Q wf q1 q2 q3 q4
  obtain ⟨h1, h2⟩ := ite_of q1
  obtain ⟨h3, h4⟩ := Bool.and_eq_true_iff.mp h1
  cases h2
  refine ⟨toP d, toP e, den_dp d v q2, den_dp e w q3, shaped_of h3, shaped_of h4, ?_⟩
  rw [eqD_toP]
  exact q4 _ c .refl wf rfl
section
variable {X : Cx} {W : WX} {pos : Pos} {a b e : Expr} {es : List Expr} {ga gb : Gm → Rs D} {gs : Gm → Rs (List D)}
theorem mp_eq (hu : X.A.units + 64 < cLine) (ha : MP X W a ga) (hb : MP X W b gb) : MB X W (.Compare a [.Eq] [b] pos) (g2 dEq ga gb) := mp_cmp (op_eqD hu) eq_meets ha hb (nomark _)
theorem mp_ne (hu : X.A.units + 64 < cLine) (ha : MP X W a ga) (hb : MP X W b gb) : MB X W (.Compare a [.NotEq] [b] pos) (g2 dNe ga gb) := mp_cmp (op_neD hu) ne_meets ha hb (nomark _)

/-! x in xs, of scalars -/
def flatD : D → Bool
  | .lst _ => false
  | .tup _ => false
  | _ => true
def itemsD : D → Option (List D)
  | .lst l => some l
  | .tup l => some l
  | _ => none
def dInB (d e : D) : Option Bool := match itemsD e with
  | some l => if flatD d && l.all flatD then some (l.any fun y => eqD y d) else none
  | none => none
def dIn : D → D → Option D := fun d e => (dInB d e).map .bl
def dNotIn : D → D → Option D := fun d e => (dInB d e).map fun k => .bl (!k)
theorem flat_den {K : PySem.W.Frag} {c : Cf} {d : D} {v : V} (h : Den K c d v) (f : flatD d = true) : flatV v = true := by
  cases d with
  | non => cases (show v = .non from h); rfl
  | bl _ => cases (show v = .bl _ from h); rfl
  | int _ => cases (show v = .int _ from h); rfl
  | str _ => cases (show v = .str _ from h); rfl
  | lst _ => cases f
  | tup _ => cases f
theorem flats_den {K : PySem.W.Frag} {c : Cf} : ∀ {l : List D} {vs : List V}, Dens K c l vs → l.all flatD = true → vs.all flatV = true
  | [], vs, h, _ => by
    have e : vs = [] := h
    subst e; rfl
  | d :: l, vs, h, f => by
    obtain ⟨x, r, rfl, p, q⟩ := h
    obtain ⟨f1, f2⟩ := Bool.and_eq_true_iff.mp (show (flatD d && l.all flatD) = true from f)
    show (flatV x && r.all flatV) = true
    rw [flat_den p f1, flats_den q f2]; rfl
theorem eqV_den {K : PySem.W.Frag} {c : Cf} {d e : D} {v w : V} (h : Den K c d v) (h' : Den K c e w) (f : flatD d = true) (f' : flatD e = true) : eqV v w = eqD d e := by
  cases d <;> cases e <;> first
    | (cases f; done)
    | (cases f'; done)
    | (have e1 := (show v = _ from h); have e2 := (show w = _ from h'); subst e1; subst e2; rfl)
theorem any_den {K : PySem.W.Frag} {c : Cf} {d : D} {v : V} (h : Den K c d v) (f : flatD d = true) : ∀ {l : List D} {vs : List V}, Dens K c l vs → l.all flatD = true → (vs.any fun y => eqV y v) = (l.any fun y => eqD y d)
  | [], vs, q, _ => by
    have e : vs = [] := q
    subst e; rfl
  | y :: l, vs, q, fl => by
    obtain ⟨x, r, rfl, p, q⟩ := q
    obtain ⟨f1, f2⟩ := Bool.and_eq_true_iff.mp (show (flatD y && l.all flatD) = true from fl)
    show (eqV x v || r.any fun y => eqV y v) = (eqD y d || l.any fun y => eqD y d)
    rw [eqV_den p h f1 f, any_den h f q f2]
theorem inB_meets {K : PySem.W.Frag} {c : Cf} {d e : D} {k : Bool} {v w : V} (h : dInB d e = some k) (q2 : Den K c d v) (q3 : Den K c e w) :
    ∃ p xs, w = .ref p ∧ (SqL K c.H p xs ∨ SqT K c.H p xs) ∧ flatV v = true ∧ xs.all flatV = true ∧ inV v xs = k := by
  unfold dInB at h
  cases e with
  | lst l =>
    obtain ⟨h1, h2⟩ := ite_of h
    obtain ⟨f1, f2⟩ := Bool.and_eq_true_iff.mp h1
    obtain ⟨p, xs, rfl, r1, r2⟩ := q3
    exact ⟨p, xs, rfl, .inl r1.sq, flat_den q2 f1, flats_den r2 f2, (any_den q2 f1 r2 f2).trans h2⟩
  | tup l =>
    obtain ⟨h1, h2⟩ := ite_of h
    obtain ⟨f1, f2⟩ := Bool.and_eq_true_iff.mp h1
    obtain ⟨p, xs, rfl, r1, r2⟩ := q3
    exact ⟨p, xs, rfl, .inr r1, flat_den q2 f1, flats_den r2 f2, (any_den q2 f1 r2 f2).trans h2⟩
  | _ => cases h
theorem map_some {α β : Type} {o : Option α} {h : α → β} {z : β} (e : o.map h = some z) : ∃ k, o = some k ∧ h k = z := by
  cases o with
  | none => cases e
  | some k => exact ⟨k, rfl, Option.some.inj e⟩
theorem mp_in (ha : MP X W a ga) (hb : MP X W b gb) (hn : behindInMarks .In b = false := by rfl) : MB X W (.Compare a [.In] [b] pos) (g2 dIn ga gb) := mp_cmp op_in_seq (fun c d e z v w Q wf q1 q2 q3 q4 => by
  obtain ⟨k, e1, e2⟩ := map_some q1
  obtain ⟨p, xs, e3, h1, h2, h3, h4⟩ := inB_meets e1 q2 q3
  refine ⟨p, xs, e3, h1, h2, h3, ?_⟩
  rw [h4]
  show Q (V.bl k) c.H
  exact q4 (.bl k) c .refl wf (by rw [← e2]; rfl)) ha hb hn
theorem mp_notIn (ha : MP X W a ga) (hb : MP X W b gb) (hn : behindInMarks .NotIn b = false := by rfl) : MB X W (.Compare a [.NotIn] [b] pos) (g2 dNotIn ga gb) := mp_cmp op_notIn_seq (fun c d e z v w Q wf q1 q2 q3 q4 => by
  obtain ⟨k, e1, e2⟩ := map_some q1
  obtain ⟨p, xs, e3, h1, h2, h3, h4⟩ := inB_meets e1 q2 q3
  refine ⟨p, xs, e3, h1, h2, h3, ?_⟩
  rw [h4]
  show Q (V.bl (!k)) c.H
  exact q4 (.bl (!k)) c .refl wf (by rw [← e2]; rfl)) ha hb hn
end
end Fv

set_option maxRecDepth 100000
namespace Fv
open PySem L2

section
variable {X : Cx} {W : WX} {pos : Pos} {a b e : Expr} {es : List Expr} {ga gb : Gm → Rs D} {gs : Gm → Rs (List D)}
/-! + of intL, texts, lists, tuples -/
def rCatLs (K : PySem.W.Frag) : R2 := fun x y H Q => ∃ l m xs ys, x = .ref l ∧ y = .ref m ∧ SqL K H l xs ∧ SqL K H m ys ∧ xs.length + ys.length ≤ sizeLine ∧ ∀ p, H p = none → Q (.ref p) (upd H p (.lst (xs ++ ys)))
theorem op_catLs : OpR X (binaryOp .Add) (rCatLs X.K) := by
  intro pn s st hp x y v u Q inv rx ry hw
  obtain ⟨l, m, xs, ys, rfl, rfl, h1, h2, hz, q⟩ := hw
  cases rx
  cases ry
  obtain ⟨its, r1, ⟨⟨c1, d1, dt1, sl1⟩, n1, o1, p1, p2, p3⟩, _⟩ := inv.list h1
  obtain ⟨its2, r2, ⟨⟨c2, d2, dt2, sl2⟩, n2, o2, p4, p5, p6⟩, _⟩ := inv.list h2
  simp only at p1 p2 p3 p4 p5 p6
  subst p1 p3 p4 p6
  refine concat_meets ⟨_, o1, rfl⟩ ⟨_, o2, rfl⟩ noFill_list_add seq_list_add PySem.F.slot_list_add PySem.F.entry_list_add (PySem.F.args_list_add_2 _ _)
    (PyProof.Rows.list_addW l m its.toArray its2.toArray n1 n2 d1 d2 sl1 sl2 (by have := r1.length; have := r2.length; rw [List.size_toArray, List.size_toArray]; omega)) ⟨o1, o2, ?_⟩
  have ea : its.toArray ++ its2.toArray = (its ++ its2).toArray := by simp
  rw [ea]
  exact ⟨.ref _, _, inv.lnew (t' := s.toks) (r1.append r2) (by rw [List.length_append]; omega), rfl, q _ inv.fresh⟩
def rAddStr : R2 := fun x y H Q => ∃ i j, x = V.str i ∧ y = V.str j ∧ i.length + j.length ≤ sizeLine ∧ Q (V.str (i ++ j)) H
def rAdd (K : PySem.W.Frag) : R2 := fun x y H Q => rI0 (fun i j => V.int (i + j)) x y H Q ∨ rAddStr x y H Q ∨ rCatLs K x y H Q ∨ rCatA K x y H Q
theorem op_addAll : OpR X (binaryOp .Add) (rAdd X.K) := by
  intro pn s st hp x y v u Q inv rx ry hw
  rcases hw with hw | hw | hw | hw
  · exact op_add pn s st hp x y v u Q inv rx ry hw
  · exact op_add_str pn s st hp x y v u Q inv rx ry hw
  · exact op_catLs pn s st hp x y v u Q inv rx ry hw
  · exact op_catA pn s st hp x y v u Q inv rx ry hw
def dAdd : D → D → Option D
  | .int i, .int j => some (.int (i + j))
  | .str x, .str y => if x.length + y.length ≤ sizeLine then some (.str (x ++ y)) else none
  | .lst l, .lst m => if l.length + m.length ≤ sizeLine then some (.lst (l ++ m)) else none
  | .tup l, .tup m => if l.length + m.length ≤ sizeLine then some (.tup (l ++ m)) else none
  | _, _ => none
theorem add_meets {K : PySem.W.Frag} : Meet2 K (rAdd K) dAdd := by
  intro c d e z v w Q wf q1 q2 q3 q4
  unfold dAdd at q1
  split at q1
  · cases q1
    exact .inl ⟨_, _, q2, q3, q4 _ c .refl wf rfl⟩
  · obtain ⟨h1, h2⟩ := ite_of q1
    cases h2
    exact .inr (.inl ⟨_, _, q2, q3, h1, q4 _ c .refl wf rfl⟩)
  · obtain ⟨h1, h2⟩ := ite_of q1
    cases h2
    obtain ⟨p, xs, rfl, r1, r2⟩ := q2
    obtain ⟨q, ys, rfl, r3, r4⟩ := q3
    refine .inr (.inr (.inl ⟨p, q, xs, ys, rfl, rfl, r1.sq, r3.sq, by rw [r2.length, r4.length]; exact h1, fun k n => ?_⟩))
    exact q4 (.ref k) ⟨c.M, upd c.H k (.lst (xs ++ ys))⟩ (Ext.new n) (wf.new n) (Den.lst wf n (r2.app r4))
  · obtain ⟨h1, h2⟩ := ite_of q1
    cases h2
    obtain ⟨p, xs, rfl, r1, r2⟩ := q2
    obtain ⟨q, ys, rfl, r3, r4⟩ := q3
    refine .inr (.inr (.inr ⟨p, q, xs, ys, rfl, rfl, r1, r3, by rw [r2.length, r4.length]; exact h1, fun h => ?_, fun h h' => ?_, fun h h' k n => ?_⟩))
    · have e2 := r2.app r4
      rw [h] at e2
      exact q4 (.ref q) c .refl wf ⟨q, ys, rfl, r3, e2⟩
    · have e2 := r2.app r4
      rw [h', List.append_nil] at e2
      exact q4 (.ref p) c .refl wf ⟨p, xs, rfl, r1, e2⟩
    · exact q4 (.ref k) ⟨c.M, upd c.H k (.tup (xs ++ ys))⟩ (Ext.new n) (wf.new n) (Den.tup wf n (r2.app r4))
  · cases q1
theorem mp_add (ha : MP X W a ga) (hb : MP X W b gb) : MP X W (.BinOp a .Add b pos) (g2 dAdd ga gb) := mp_op op_addAll add_meets ha hb

/-! lists and tuples by their class -/
def dTupOf : List D → Option D
  | [.lst l] => some (.tup l)
  | [.tup l] => some (.tup l)
  | _ => none
theorem mp_tupleOf {p : Pos} (hg : Gl X "tuple") (hm : X.mg "tuple" = none) (ha : MP X W a ga) (h3 : starEach [a] X.env = (false, eval a X.env) :: starEach [] X.env := by rfl) : MP X W (.Call (.Name "tuple" p) [a] [] pos) (gB dTupOf (gCons ga gNil)) := by
  refine mp_callTy call_tuple_of (fun c l z vs Q wf h q k => ?_) hg hm (by decide +kernel) (md_cons ha md_nil h3) (h3 := h3)
  unfold dTupOf at h
  split at h
  · obtain ⟨v, rfl, p, xs, rfl, p1, p2⟩ := dens1 q
    cases h
    exact ⟨p, xs, rfl, .inl ⟨p1.sq, fun q n => k (.ref q) ⟨c.M, upd c.H q (.tup xs)⟩ (Ext.new n) (wf.new n) (Den.tup wf n p2)⟩⟩
  · obtain ⟨v, rfl, p, xs, rfl, p1, p2⟩ := dens1 q
    cases h
    exact ⟨p, xs, rfl, .inr ⟨p1, k (.ref p) c .refl wf ⟨p, xs, rfl, p1, p2⟩⟩⟩
  · cases h
def dLstOf : List D → Option (List D)
  | [.lst l] => some l
  | [.tup l] => some l
  | _ => none
theorem mf_listOf {p : Pos} (hg : Gl X "list") (hm : X.mg "list" = none) (ha : MP X W a ga) (h3 : starEach [a] X.env = (false, eval a X.env) :: starEach [] X.env := by rfl) : MF X W (.Call (.Name "list" p) [a] [] pos) (gBF dLstOf (gCons ga gNil)) := by
  refine mf_callTy call_list_of (fun c l z vs Q wf h q k => ?_) hg hm (by decide +kernel) (md_cons ha md_nil h3) (h3 := h3)
  unfold dLstOf at h
  split at h
  · obtain ⟨v, rfl, p, xs, rfl, p1, p2⟩ := dens1 q
    cases h
    exact ⟨p, xs, rfl, .inl p1.sq, fun q n => k q xs n p2⟩
  · obtain ⟨v, rfl, p, xs, rfl, p1, p2⟩ := dens1 q
    cases h
    exact ⟨p, xs, rfl, .inr p1, fun q n => k q xs n p2⟩
  · cases h

/-! numbers -/
def intL : List D → Option (List Int)
  | [] => some []
  | .int i :: l => (intL l).map (i :: ·)
  | _ :: _ => none
theorem intL_den {K : PySem.W.Frag} {c : Cf} : ∀ {l : List D} {ns : List Int} {vs : List V}, intL l = some ns → Dens K c l vs → vs = ns.map V.int
  | [], ns, vs, e, h => by
    cases e
    exact h
  | d :: l, ns, vs, e, h => by
    obtain ⟨x, r, rfl, p, q⟩ := h
    cases d with
    | int i =>
      obtain ⟨m, e1, e2⟩ := map_some (show (intL l).map (i :: ·) = some ns from e)
      subst e2
      cases (show x = .int i from p)
      rw [intL_den e1 q]; rfl
    | _ => cases e
def dSum : List D → Option D
  | [.lst l] => (intL l).map fun ns => .int ns.sum
  | _ => none
theorem mp_sum (hc : X.calm = true) {p : Pos} (hg : Gl X "sum") (hm : X.mg "sum" = none) (ha : MP X W a ga) (h3 : starEach [a] X.env = (false, eval a X.env) :: starEach [] X.env := by rfl) : MP X W (.Call (.Name "sum" p) [a] [] pos) (gB dSum (gCons ga gNil)) := by
  refine mp_callB (cr_sum hc) (fun c l z vs Q wf h q k => ?_) hg hm (by decide +kernel) (md_cons ha md_nil h3) (h3 := h3)
  unfold dSum at h
  split at h
  · obtain ⟨v, rfl, p, xs, rfl, p1, p2⟩ := dens1 q
    obtain ⟨ns, e1, e2⟩ := map_some h
    cases e2
    have e3 := intL_den e1 p2
    subst e3
    exact ⟨p, ns, rfl, p1.sq, k _ c .refl wf rfl⟩
  · cases h
def minI : Int → List Int → Int
  | m, [] => m
  | m, i :: l => minI (if i < m then i else m) l
def maxI : Int → List Int → Int
  | m, [] => m
  | m, i :: l => maxI (if m < i then i else m) l
theorem maxI_spec : ∀ (l : List Int) (m : Int), (maxI m l = m ∨ maxI m l ∈ l) ∧ m ≤ maxI m l ∧ ∀ y ∈ l, y ≤ maxI m l
  | [], m => ⟨.inl rfl, Int.le_refl _, fun y h => nomatch h⟩
  | i :: l, m => by
    obtain ⟨h1, h2, h3⟩ := maxI_spec l (if m < i then i else m)
    have e : maxI m (i :: l) = maxI (if m < i then i else m) l := rfl
    rw [e]
    refine ⟨?_, ?_, fun y hy => ?_⟩
    · rcases h1 with h1 | h1
      · rw [h1]
        split
        · exact .inr (List.mem_cons_self ..)
        · exact .inl rfl
      · exact .inr (List.mem_cons_of_mem _ h1)
    · exact Int.le_trans (by split <;> omega) h2
    · rcases List.mem_cons.mp hy with rfl | hy
      · exact Int.le_trans (by split <;> omega) h2
      · exact h3 y hy
theorem minI_spec : ∀ (l : List Int) (m : Int), (minI m l = m ∨ minI m l ∈ l) ∧ minI m l ≤ m ∧ ∀ y ∈ l, minI m l ≤ y
  | [], m => ⟨.inl rfl, Int.le_refl _, fun y h => nomatch h⟩
  | i :: l, m => by
    obtain ⟨h1, h2, h3⟩ := minI_spec l (if i < m then i else m)
    have e : minI m (i :: l) = minI (if i < m then i else m) l := rfl
    rw [e]
    refine ⟨?_, ?_, fun y hy => ?_⟩
    · rcases h1 with h1 | h1
      · rw [h1]
        split
        · exact .inr (List.mem_cons_self ..)
        · exact .inl rfl
      · exact .inr (List.mem_cons_of_mem _ h1)
    · exact Int.le_trans h2 (by split <;> omega)
    · rcases List.mem_cons.mp hy with rfl | hy
      · exact Int.le_trans h2 (by split <;> omega)
      · exact h3 y hy
def topI (h : Int → List Int → Int) : List D → Option D
  | [.lst (d :: l)] => match d, intL l with
    | .int i, some ns => some (.int (h i ns))
    | _, _ => none
  | _ => none
theorem topI_some {h : Int → List Int → Int} {l : List D} {z : D} (e : topI h l = some z) : ∃ i l' ns, l = [.lst (.int i :: l')] ∧ intL l' = some ns ∧ z = .int (h i ns) := by
  unfold topI at e
  split at e
  · split at e
    · rename_i i ns e1
      cases e
      exact ⟨i, _, ns, rfl, e1, rfl⟩
    · cases e
  · cases e
def dMax : List D → Option D := topI maxI
def dMin : List D → Option D := topI minI
theorem intL_cons {i : Int} {l : List D} {ns : List Int} (e : intL l = some ns) : intL (.int i :: l) = some (i :: ns) := by
  show (intL l).map (i :: ·) = _
  rw [e]; rfl
theorem mp_maxL (hc : X.calm = true) {p : Pos} (hg : Gl X "max") (hm : X.mg "max" = none) (ha : MP X W a ga) (h3 : starEach [a] X.env = (false, eval a X.env) :: starEach [] X.env := by rfl) : MP X W (.Call (.Name "max" p) [a] [] pos) (gB dMax (gCons ga gNil)) := by
  refine mp_callB (cr_max hc) (fun c l z vs Q wf h q k => ?_) hg hm (by decide +kernel) (md_cons ha md_nil h3) (h3 := h3)
  obtain ⟨i, l', ns, rfl, e1, rfl⟩ := topI_some h
  obtain ⟨v, rfl, p, xs, rfl, p1, p2⟩ := dens1 q
  have e3 := intL_den (intL_cons e1) p2
  subst e3
  refine ⟨p, i :: ns, rfl, p1.sq, Nat.succ_pos _, fun m hm hle => ?_⟩
  obtain ⟨h1, h2, h3⟩ := maxI_spec ns i
  have e4 : m = maxI i ns := by
    have a1 : maxI i ns ≤ m := hle _ (h1.elim (fun e => by rw [e]; exact List.mem_cons_self ..) (List.mem_cons_of_mem _))
    have a2 : m ≤ maxI i ns := (List.mem_cons.mp hm).elim (fun e => by rw [e]; exact h2) (h3 m)
    omega
  rw [e4]
  exact k _ c .refl wf rfl
theorem mp_minL (hc : X.calm = true) {p : Pos} (hg : Gl X "min") (hm : X.mg "min" = none) (ha : MP X W a ga) (h3 : starEach [a] X.env = (false, eval a X.env) :: starEach [] X.env := by rfl) : MP X W (.Call (.Name "min" p) [a] [] pos) (gB dMin (gCons ga gNil)) := by
  refine mp_callB (cr_min hc) (fun c l z vs Q wf h q k => ?_) hg hm (by decide +kernel) (md_cons ha md_nil h3) (h3 := h3)
  obtain ⟨i, l', ns, rfl, e1, rfl⟩ := topI_some h
  obtain ⟨v, rfl, p, xs, rfl, p1, p2⟩ := dens1 q
  have e3 := intL_den (intL_cons e1) p2
  subst e3
  refine ⟨p, i :: ns, rfl, p1.sq, Nat.succ_pos _, fun m hm hle => ?_⟩
  obtain ⟨h1, h2, h3⟩ := minI_spec ns i
  have e4 : m = minI i ns := by
    have a1 : m ≤ minI i ns := hle _ (h1.elim (fun e => by rw [e]; exact List.mem_cons_self ..) (List.mem_cons_of_mem _))
    have a2 : minI i ns ≤ m := (List.mem_cons.mp hm).elim (fun e => by rw [e]; exact h2) (h3 m)
    omega
  rw [e4]
  exact k _ c .refl wf rfl
def dMin2 : List D → Option D
  | [.int i, .int j] => some (.int (if j < i then j else i))
  | _ => none
def dMax2 : List D → Option D
  | [.int i, .int j] => some (.int (if j > i then j else i))
  | _ => none
theorem mp_min2 (hc : X.calm = true) {p : Pos} (hg : Gl X "min") (hm : X.mg "min" = none) (ha : MP X W a ga) (hb : MP X W b gb) (h3 : starEach [a, b] X.env = (false, eval a X.env) :: starEach [b] X.env := by rfl) (h5 : starEach [b] X.env = (false, eval b X.env) :: starEach [] X.env := by rfl) (h4 : (backTo pos (starEach [b] X.env)).any (·.1) = false := by rfl) :
    MP X W (.Call (.Name "min" p) [a, b] [] pos) (gB dMin2 (gCons ga (gCons gb gNil))) := by
  refine mp_callB (call_min2 hc) (fun c l z vs Q wf h q k => ?_) hg hm (by decide +kernel) (md_cons ha (md_cons hb md_nil h5) h3) (h3 := h3) (h4 := h4)
  unfold dMin2 at h
  split at h
  · obtain ⟨v, w, rfl, p1, p2⟩ := dens2 q
    cases h
    cases (show v = .int _ from p1)
    cases (show w = .int _ from p2)
    exact ⟨_, _, rfl, k _ c .refl wf rfl⟩
  · cases h
theorem mp_max2 (hc : X.calm = true) {p : Pos} (hg : Gl X "max") (hm : X.mg "max" = none) (ha : MP X W a ga) (hb : MP X W b gb) (h3 : starEach [a, b] X.env = (false, eval a X.env) :: starEach [b] X.env := by rfl) (h5 : starEach [b] X.env = (false, eval b X.env) :: starEach [] X.env := by rfl) (h4 : (backTo pos (starEach [b] X.env)).any (·.1) = false := by rfl) :
    MP X W (.Call (.Name "max" p) [a, b] [] pos) (gB dMax2 (gCons ga (gCons gb gNil))) := by
  refine mp_callB (call_max2 hc) (fun c l z vs Q wf h q k => ?_) hg hm (by decide +kernel) (md_cons ha (md_cons hb md_nil h5) h3) (h3 := h3) (h4 := h4)
  unfold dMax2 at h
  split at h
  · obtain ⟨v, w, rfl, p1, p2⟩ := dens2 q
    cases h
    cases (show v = .int _ from p1)
    cases (show w = .int _ from p2)
    exact ⟨_, _, rfl, k _ c .refl wf rfl⟩
  · cases h
def dInt1 : List D → Option D
  | [.int i] => some (.int i)
  | [.bl k] => some (.int (if k then 1 else 0))
  | _ => none
theorem mp_int1 {p : Pos} (hg : Gl X "int") (hm : X.mg "int" = none) (ha : MP X W a ga) (h3 : starEach [a] X.env = (false, eval a X.env) :: starEach [] X.env := by rfl) : MP X W (.Call (.Name "int" p) [a] [] pos) (gB dInt1 (gCons ga gNil)) := by
  refine mp_callTy call_int1 (fun c l z vs Q wf h q k => ?_) hg hm (by decide +kernel) (md_cons ha md_nil h3) (h3 := h3)
  unfold dInt1 at h
  split at h
  · obtain ⟨v, rfl, p1⟩ := dens1 q
    cases h
    cases (show v = .int _ from p1)
    exact .inl ⟨_, rfl, k _ c .refl wf rfl⟩
  · obtain ⟨v, rfl, p1⟩ := dens1 q
    cases h
    cases (show v = .bl _ from p1)
    exact .inr ⟨_, rfl, k _ c .refl wf rfl⟩
  · cases h

/-! slices of lists and tuples -/
def cutD (l : List D) (lo hi : Option Int) : List D := (l.drop (HT.sIx l.length 0 lo)).take (HT.sIx l.length l.length hi - HT.sIx l.length 0 lo)
def gPart : Option (Gm → Rs D) → Gm → Rs (Option Int)
  | none, γ => .ok none γ
  | some g, γ => (g γ).bind fun d γ1 => match d with
    | .int i => .ok (some i) γ1
    | _ => .no
def dCut : D → Option Int → Option Int → Option D
  | .lst l, lo, hi => some (.lst (cutD l lo hi))
  | .tup l, lo, hi => some (.tup (cutD l lo hi))
  | _, _, _ => none
def gCut (ga : Gm → Rs D) (gl gh : Option (Gm → Rs D)) : Gm → Rs D := fun γ => (ga γ).bind fun d γ1 => (gPart gl γ1).bind fun lo γ2 => (gPart gh γ2).bind fun hi γ3 => ofO (dCut d lo hi) γ3
def MO (X : Cx) (W : WX) (e : Option Expr) (g : Option (Gm → Rs D)) : Prop := ∃ t, PO X e t ∧ Sim X W (fun _ _ _ (a : Option Int) b => a = b) t (gPart g)
theorem mo_none : MO X W none none := ⟨_, po_none, fun f S c σ γ Q R hp => hp none c .refl R .refl rfl⟩
theorem mo_some (ha : MP X W a ga) : MO X W (some a) (some ga) := by
  obtain ⟨ta, h1, s1⟩ := ha
  refine ⟨_, po_some h1, fun f S c σ γ Q R hp => s1.bind (fun _ _ _ _ _ _ _ _ _ h => h) R hp fun d γ1 v c1 _ x1 R1 k1 q1 h3 => ?_⟩
  cases d with
  | int i =>
    cases (show v = .int i from q1)
    exact ⟨i, rfl, h3 (some i) c1 .refl R1 .refl rfl⟩
  | _ => exact h3.elim
def rCut (K : PySem.W.Frag) : V → Option Int → Option Int → Hp → VK → Prop := fun x lo hi H Q => rSlL K x lo hi H Q ∨ rSlA K x lo hi H Q
theorem cut_den {K : PySem.W.Frag} {c : Cf} {l : List D} {xs : List V} (q : Dens K c l xs) (lo hi : Option Int) : Dens K c (cutD l lo hi) (cutV xs lo hi) := by
  unfold cutD cutV
  rw [q.length]
  exact (q.drop _).take _
theorem mp_cut {lo hi : Option Expr} {gl gh : Option (Gm → Rs D)} {p2 : Pos} (ha : MP X W a ga) (hl : MO X W lo gl) (hh : MO X W hi gh) : MP X W (.Subscript a (.Slice lo hi none p2) pos) (gCut ga gl gh) := by
  obtain ⟨ta, h1, s1⟩ := ha
  obtain ⟨tl, h2, s2⟩ := hl
  obtain ⟨th, h3, s3⟩ := hh
  refine ⟨_, pe_slice (SlR.or sl_list sl_tupA) h1 h2 h3, fun f S c σ γ Q R hp => s1.bind stab_vP R hp fun d γ1 v c1 _ x1 R1 k1 q1 h4 => s2.bind stab_vP R1 h4 fun o γ2 o' c2 _ x2 R2 k2 q2 h5 => s3.bind stab_vP R2 h5 fun u γ3 u' c3 _ x3 R3 k3 q3 h6 => ?_⟩
  cases (show o = o' from q2)
  cases (show u = u' from q3)
  have q1' := (q1.ext R1.wf x2).ext R2.wf x3
  obtain ⟨z, e1, h7⟩ := h6.fin R3
  cases d with
  | lst l =>
    cases e1
    obtain ⟨p, xs, rfl, p1, p2⟩ := q1'
    exact .inl ⟨p, xs, rfl, p1.sq, fun k n => h7 (.ref k) ⟨c3.M, upd c3.H k (.lst (cutV xs o u))⟩ (Ext.new n) (R3.wf.new n) (Den.lst R3.wf n (cut_den p2 o u))⟩
  | tup l =>
    cases e1
    obtain ⟨p, xs, rfl, p1, p2⟩ := q1'
    refine .inr ⟨p, xs, rfl, p1, fun h => ?_, fun _ k n => h7 (.ref k) ⟨c3.M, upd c3.H k (.tup (cutV xs o u))⟩ (Ext.new n) (R3.wf.new n) (Den.tup R3.wf n (cut_den p2 o u))⟩
    refine h7 (.ref p) c3 .refl R3.wf ⟨p, xs, rfl, p1, ?_⟩
    have e2 : cutV xs o u = xs := by
      unfold cutV
      rw [h.1, h.2]
      exact List.take_length
    have e3 := cut_den p2 o u
    rw [e2] at e3
    exact e3
  | _ => cases e1
end
end Fv

set_option maxRecDepth 100000
namespace Fv
open PySem L2

/-! arguments of an own def: data, or a list of this frame that the def may write -/
inductive Ar where
  | d (x : D) | s (j : Nat)
def ArOk (K : PySem.W.Frag) (c : Cf) (σ : St) : Ar → V → Prop
  | .d x, v => Den K c x v
  | .s j, v => σ[j]? = some (some v)
def ArsOk (K : PySem.W.Frag) (c : Cf) (σ : St) : List Ar → List V → Prop
  | [], vs => vs = []
  | a :: l, vs => ∃ x r, vs = x :: r ∧ ArOk K c σ a x ∧ ArsOk K c σ l r
def vA (K : PySem.W.Frag) : VR (List Ar) (List V) := fun σ _ c' l vs => ArsOk K c' σ l vs
theorem stab_vA {K : PySem.W.Frag} : Stab (vA K) := fun _ _ _ _ _ _ _ _ _ h => h
theorem ArOk.ext {K : PySem.W.Frag} {S : Addr → Prop} {c c' : Cf} {σ : St} (w : WF c) (x : Ext S c c') {a : Ar} {v : V} (h : ArOk K c σ a v) : ArOk K c' σ a v := by
  cases a with
  | d y => exact Den.ext w x h
  | s j => exact h
theorem ArsOk.at {K : PySem.W.Frag} {c : Cf} {σ : St} : ∀ {l : List Ar} {vs : List V}, ArsOk K c σ l vs → vs.length = l.length ∧ ∀ (i : Nat) (a : Ar), l[i]? = some a → ∃ v, vs[i]? = some v ∧ ArOk K c σ a v
  | [], vs, h => by
    have e : vs = [] := h
    subst e
    exact ⟨rfl, fun i a e => by simp at e⟩
  | a :: l, vs, h => by
    obtain ⟨x, r, rfl, p, q⟩ := h
    obtain ⟨h1, h2⟩ := ArsOk.at q
    refine ⟨by rw [List.length_cons, List.length_cons, h1], fun i a' e => ?_⟩
    cases i with
    | zero =>
      have e' : a = a' := by simpa using e
      subst e'
      exact ⟨x, rfl, p⟩
    | succ i =>
      obtain ⟨v, e1, e2⟩ := h2 i a' (by simpa using e)
      exact ⟨v, by simpa using e1, e2⟩
structure MA (X : Cx) (W : WX) (es : List Expr) (g : Gm → Rs (List Ar)) : Prop where
  ex : ∃ t, PA X es t ∧ Sim X W (vA X.K) t g
  len : ∀ γ l γ1, g γ = .ok l γ1 → l.length = es.length
def aNil : Gm → Rs (List Ar) := fun γ => .ok [] γ
def aCons (ga : Gm → Rs D) (gs : Gm → Rs (List Ar)) : Gm → Rs (List Ar) := fun γ => (ga γ).bind fun d γ1 => (gs γ1).bind fun l γ2 => .ok (.d d :: l) γ2
def aSlot (i : Nat) (gs : Gm → Rs (List Ar)) : Gm → Rs (List Ar) := fun γ => (gOwn i γ).bind fun _ γ1 => (gs γ1).bind fun l γ2 => .ok (.s i :: l) γ2
section
variable {X : Cx} {W : WX} {pos : Pos} {a b e : Expr} {es : List Expr} {ga gb : Gm → Rs D} {gs : Gm → Rs (List Ar)}
theorem ma_nil : MA X W [] aNil := ⟨⟨_, pa_nil, fun f S c σ γ Q R hp => hp [] c .refl R .refl rfl⟩, fun γ l γ1 e => by cases e; rfl⟩
theorem ma_cons (ha : MP X W e ga) (hr : MA X W es gs) (hs : starEach (e :: es) X.env = (false, eval e X.env) :: starEach es X.env := by rfl) : MA X W (e :: es) (aCons ga gs) := by
  obtain ⟨ta, h1, s1⟩ := ha
  obtain ⟨⟨ts, h2, s2⟩, hl⟩ := hr
  refine ⟨⟨_, pa_cons h1 h2 hs, fun f S c σ γ Q R hp => s1.bind stab_vA R hp fun d γ1 v c1 _ x1 R1 k1 q1 h3 => s2.bind stab_vA R1 h3 fun l γ2 vs c2 _ x2 R2 k2 q2 h4 => ?_⟩, fun γ l γ1 e => ?_⟩
  · exact h4 (v :: vs) c2 .refl R2 .refl ⟨v, vs, rfl, Den.ext R1.wf x2 q1, q2⟩
  · obtain ⟨d, g1, _, e2⟩ := bind_ok e
    obtain ⟨l', g2, e3, e4⟩ := bind_ok e2
    cases e4
    rw [List.length_cons, List.length_cons, hl _ _ _ e3]
theorem ma_slot {x : Str} {p : Pos} {i : Nat} (ho : PE X (.Name x p) (tVar i)) (hr : MA X W es gs) (hs : starEach (.Name x p :: es) X.env = (false, eval (.Name x p) X.env) :: starEach es X.env := by rfl) : MA X W (.Name x p :: es) (aSlot i gs) := by
  obtain ⟨⟨ts, h2, s2⟩, hl⟩ := hr
  refine ⟨⟨_, pa_cons ho h2 hs, fun f S c σ γ Q R hp => ?_⟩, fun γ l γ1 e => ?_⟩
  · replace hp : Post X.K X.mg (vA X.K) W f S c σ γ Q (aSlot i gs γ) := hp
    unfold aSlot at hp
    rcases gOwn_cases i γ with e0 | ⟨l0, e0⟩
    · rw [e0] at hp; exact hp.elim
    · rw [e0] at hp
      obtain ⟨s, l, e1, _, _, _, e2⟩ := gOwn_ok e0
      obtain ⟨q, f1, _⟩ := R.ownL e1 e2
      refine ⟨.ref q, f1, s2.bind stab_vA R hp fun l γ2 vs c2 _ x2 R2 k2 q2 h4 => ?_⟩
      exact h4 (.ref q :: vs) c2 .refl R2 .refl ⟨.ref q, vs, rfl, f1, q2⟩
  · obtain ⟨d, g1, _, e2⟩ := bind_ok e
    obtain ⟨l', g2, e3, e4⟩ := bind_ok e2
    cases e4
    rw [List.length_cons, List.length_cons, hl _ _ _ e3]
end

/-! the callee's slots, and what comes back -/
def parG (γ : Gm) : List Ar → Option (List SV)
  | [] => some []
  | .d x :: l => (parG γ l).map (.pu x :: ·)
  | .s j :: l => match γ[j]? with
    | some (.ow m) => (parG γ l).map (.bo m :: ·)
    | some (.bo m) => (parG γ l).map (.bo m :: ·)
    | _ => none
def slotsA : List Ar → List Nat
  | [] => []
  | .d _ :: l => slotsA l
  | .s j :: l => j :: slotsA l
def backG : Gm → List Ar → List SV → Option Gm
  | γ, [], _ => some γ
  | γ, .d _ :: l, _ :: q => backG γ l q
  | γ, .s j :: l, .bo m :: q => match γ[j]? with
    | some (.ow _) => backG (γ.set j (.ow m)) l q
    | some (.bo _) => backG (γ.set j (.bo m)) l q
    | _ => none
  | _, _, _ => none
theorem par_at {γ : Gm} : ∀ {l : List Ar} {ps : List SV}, parG γ l = some ps → ps.length = l.length ∧ (∀ (i : Nat) (x : D), l[i]? = some (.d x) → ps[i]? = some (.pu x)) ∧
    ∀ (i j : Nat), l[i]? = some (.s j) → ∃ m s, ps[i]? = some (.bo m) ∧ γ[j]? = some s ∧ (s = .ow m ∨ s = .bo m)
  | [], ps, h => by
    cases h
    exact ⟨rfl, fun i x e => by simp at e, fun i j e => by simp at e⟩
  | .d x :: l, ps, h => by
    obtain ⟨q, e1, e2⟩ := map_some (show (parG γ l).map (.pu x :: ·) = some ps from h)
    subst e2
    obtain ⟨h1, h2, h3⟩ := par_at e1
    refine ⟨by rw [List.length_cons, List.length_cons, h1], fun i y e => ?_, fun i j e => ?_⟩
    · cases i with
      | zero => have e' : x = y := by simpa using e
                subst e'; rfl
      | succ i => simpa using h2 i y (by simpa using e)
    · cases i with
      | zero => simp at e
      | succ i => simpa using h3 i j (by simpa using e)
  | .s j :: l, ps, h => by
    have key : ∃ m s, γ[j]? = some s ∧ (s = .ow m ∨ s = .bo m) ∧ (parG γ l).map (.bo m :: ·) = some ps := by
      unfold parG at h
      split at h
      · rename_i m e; exact ⟨m, _, e, .inl rfl, h⟩
      · rename_i m e; exact ⟨m, _, e, .inr rfl, h⟩
      · cases h
    obtain ⟨m, s, k1, k2, k3⟩ := key
    obtain ⟨q, e1, e2⟩ := map_some k3
    subst e2
    obtain ⟨h1, h2, h3⟩ := par_at e1
    refine ⟨by rw [List.length_cons, List.length_cons, h1], fun i y e => ?_, fun i j' e => ?_⟩
    · cases i with
      | zero => simp at e
      | succ i => simpa using h2 i y (by simpa using e)
    · cases i with
      | zero => have e' : j = j' := by simpa using e
                subst e'; exact ⟨m, s, rfl, k1, k2⟩
      | succ i => simpa using h3 i j' (by simpa using e)
theorem back_at : ∀ {l : List Ar} {γ γ2 : Gm} {q : List SV}, backG γ l q = some γ2 → γ2.length = γ.length ∧ ∀ (i : Nat) (s : SV), γ2[i]? = some s →
    (∃ (k : Nat) (m : List D), l[k]? = some (Ar.s i) ∧ q[k]? = some (SV.bo m) ∧ ((s = .ow m ∧ ∃ m0, γ[i]? = some (.ow m0)) ∨ (s = .bo m ∧ ∃ m0, γ[i]? = some (.bo m0)))) ∨ (γ[i]? = some s ∧ ∀ k : Nat, l[k]? ≠ some (Ar.s i))
  | [], γ, γ2, q, h => by
    have e : γ = γ2 := by
      unfold backG at h
      exact Option.some.inj h
    subst e
    exact ⟨rfl, fun i s e => .inr ⟨e, fun k z => by simp at z⟩⟩
  | .d x :: l, γ, γ2, [], h => by cases h
  | .d x :: l, γ, γ2, y :: q, h => by
    obtain ⟨h1, h2⟩ := back_at (show backG γ l q = some γ2 from h)
    refine ⟨h1, fun i s e => ?_⟩
    rcases h2 i s e with ⟨k, m, e1, e2, e3⟩ | ⟨e1, e2⟩
    · exact .inl ⟨k + 1, m, by simpa using e1, by simpa using e2, e3⟩
    · refine .inr ⟨e1, fun k z => ?_⟩
      cases k with
      | zero => simp at z
      | succ k => exact e2 k (by simpa using z)
  | .s j :: l, γ, γ2, [], h => by cases h
  | .s j :: l, γ, γ2, .un :: q, h => by cases h
  | .s j :: l, γ, γ2, .pu _ :: q, h => by cases h
  | .s j :: l, γ, γ2, .ow _ :: q, h => by cases h
  | .s j :: l, γ, γ2, .bo m :: q, h => by
    have key : ∃ s0 s1, γ[j]? = some s0 ∧ ((s0 = .ow s1 ∧ backG (γ.set j (.ow m)) l q = some γ2) ∨ (s0 = .bo s1 ∧ backG (γ.set j (.bo m)) l q = some γ2)) := by
      unfold backG at h
      split at h
      · rename_i m0 e; exact ⟨_, m0, e, .inl ⟨rfl, h⟩⟩
      · rename_i m0 e; exact ⟨_, m0, e, .inr ⟨rfl, h⟩⟩
      · cases h
    obtain ⟨s0, s1, k1, k2⟩ := key
    have hj : j < γ.length := (List.getElem?_eq_some_iff.mp k1).1
    rcases k2 with ⟨rfl, k2⟩ | ⟨rfl, k2⟩
    · obtain ⟨h1, h2⟩ := back_at k2
      refine ⟨by rw [h1, List.length_set], fun i s e => ?_⟩
      rcases h2 i s e with ⟨k, m', e1, e2, e3⟩ | ⟨e1, e2⟩
      · refine .inl ⟨k + 1, m', by simpa using e1, by simpa using e2, ?_⟩
        by_cases hi : i = j
        · subst hi
          rw [List.getElem?_set_self hj] at e3
          rcases e3 with ⟨a1, a2, a3⟩ | ⟨a1, a2, a3⟩
          · exact .inl ⟨a1, _, k1⟩
          · cases a3
        · rw [List.getElem?_set_ne (Ne.symm hi)] at e3
          exact e3
      · by_cases hi : i = j
        · subst hi
          rw [List.getElem?_set_self hj] at e1
          cases e1
          exact .inl ⟨0, m, rfl, rfl, .inl ⟨rfl, _, k1⟩⟩
        · rw [List.getElem?_set_ne (Ne.symm hi)] at e1
          refine .inr ⟨e1, fun k z => ?_⟩
          cases k with
          | zero => exact hi (by simpa using z.symm)
          | succ k => exact e2 k (by simpa using z)
    · obtain ⟨h1, h2⟩ := back_at k2
      refine ⟨by rw [h1, List.length_set], fun i s e => ?_⟩
      rcases h2 i s e with ⟨k, m', e1, e2, e3⟩ | ⟨e1, e2⟩
      · refine .inl ⟨k + 1, m', by simpa using e1, by simpa using e2, ?_⟩
        by_cases hi : i = j
        · subst hi
          rw [List.getElem?_set_self hj] at e3
          rcases e3 with ⟨a1, a2, a3⟩ | ⟨a1, a2, a3⟩
          · cases a3
          · exact .inr ⟨a1, _, k1⟩
        · rw [List.getElem?_set_ne (Ne.symm hi)] at e3
          exact e3
      · by_cases hi : i = j
        · subst hi
          rw [List.getElem?_set_self hj] at e1
          cases e1
          exact .inl ⟨0, m, rfl, rfl, .inr ⟨rfl, _, k1⟩⟩
        · rw [List.getElem?_set_ne (Ne.symm hi)] at e1
          refine .inr ⟨e1, fun k z => ?_⟩
          cases k with
          | zero => exact hi (by simpa using z.symm)
          | succ k => exact e2 k (by simpa using z)
theorem slots_ne : ∀ {l : List Ar} {i k j : Nat}, (slotsA l).Nodup → l[i]? = some (.s j) → l[k]? = some (.s j) → i = k
  | [], _, _, _, _, h, _ => by simp at h
  | .d x :: l, 0, _, _, _, h, _ => by simp at h
  | .d x :: l, i + 1, 0, _, _, _, h => by simp at h
  | .d x :: l, i + 1, k + 1, j, n, h, h' => by rw [slots_ne (l := l) (i := i) (k := k) (j := j) n (by simpa using h) (by simpa using h')]
  | .s x :: l, 0, 0, _, _, _, _ => rfl
  | .s x :: l, i + 1, k + 1, j, n, h, h' => by rw [slots_ne (l := l) (i := i) (k := k) (j := j) (List.nodup_cons.mp n).2 (by simpa using h) (by simpa using h')]
  | .s x :: l, 0, k + 1, j, n, h, h' => by
    have e : x = j := by simpa using h
    subst e
    exact ((List.nodup_cons.mp n).1 (mem_slots (by simpa using h'))).elim
  | .s x :: l, i + 1, 0, j, n, h, h' => by
    have e : x = j := by simpa using h'
    subst e
    exact ((List.nodup_cons.mp n).1 (mem_slots (by simpa using h))).elim
where mem_slots : ∀ {l : List Ar} {i j : Nat}, l[i]? = some (.s j) → j ∈ slotsA l
  | [], _, _, h => by simp at h
  | .d x :: l, 0, _, h => by simp at h
  | .d x :: l, i + 1, j, h => mem_slots (l := l) (i := i) (by simpa using h)
  | .s x :: l, 0, j, h => by
    have e : x = j := by simpa using h
    subst e; exact List.mem_cons_self ..
  | .s x :: l, i + 1, j, h => List.mem_cons_of_mem _ (mem_slots (l := l) (i := i) (by simpa using h))

theorem Ext.thru {B B' : Addr → Prop} {c0 c1 c2 : Cf} (w0 : WF c0) (w1 : WF c1) (x : Ext B c0 c1) (y : Ext B' c1 c2) (h : ∀ a, c1.M a → B' a → c0.H a = none ∨ B a) : Ext B c0 c2 := by
  refine ⟨fun a z => y.m1 a (x.m1 a z), fun a z => ?_, fun a o e n => ?_⟩
  · rcases y.m2 a z with q | q
    · exact x.m2 a q
    · exact .inr (x.noneS w1 q)
  · refine y.h a o (x.h a o e n) fun z => n ?_
    rcases h a z.1 z.2 with q | q
    · rw [e] at q; cases q
    · refine ⟨?_, q⟩
      rcases x.m2 a z.1 with q' | q'
      · exact q'
      · rw [e] at q'; cases q'
def atRef (vs : List V) (i : Nat) : Addr := match vs[i]? with
  | some (.ref a) => a
  | _ => (0 : Nat)
theorem call_core {K : PySem.W.Frag} {f : Fx} {S : Addr → Prop} {c : Cf} {σ : St} {γ : Gm} {l : List Ar} {vs : List V} {ps : List SV} (R : Rel K f S c σ γ) (ha : ArsOk K c σ l vs) (nd : (slotsA l).Nodup) (hp : parG γ l = some ps) :
    ∃ g : Fx, g.c0 = c ∧ Rel K g g.S c (vs.map some) ps ∧ ∀ c2 qs γ2, Rel K g g.S c2 (vs.map some) qs → backG γ l qs = some γ2 → Ext S c c2 ∧ Rel K f S c2 σ γ2 ∧ Kx γ γ2 := by
  obtain ⟨hl, hv⟩ := ha.at
  obtain ⟨pl, pd, pslot⟩ := par_at hp
  let B : Addr → Prop := fun a => ∃ (i j : Nat), l[i]? = some (Ar.s j) ∧ vs[i]? = some (V.ref a)
  -- a slot that is handed over
  have own : ∀ (i j : Nat), l[i]? = some (Ar.s j) → ∃ (a : Addr) (s : SV) (m : List D), vs[i]? = some (V.ref a) ∧ σ[j]? = some (some (V.ref a)) ∧ γ[j]? = some s ∧ s.own = true ∧ ps[i]? = some (SV.bo m) ∧ Own K c a m ∧ S a ∧ (f.c0.H a = none ∨ f.B a) := by
    intro i j e
    obtain ⟨m, s, e1, e2, e3⟩ := pslot i j e
    obtain ⟨v, e4, e5⟩ := hv i _ e
    have so : s.own = true := by rcases e3 with rfl | rfl <;> rfl
    obtain ⟨a, m', h1, h2, h3, h4⟩ := R.ownA e2 so
    have e6 : σ[j]? = some (some v) := e5
    rw [h1] at e6
    cases e6
    have em : m' = m := by
      rcases h4 with ⟨z, _⟩ | ⟨z, _⟩
      · rw [z] at e3; rcases e3 with q | q
        · exact SV.ow.inj q
        · cases q
      · rw [z] at e3; rcases e3 with q | q
        · cases q
        · exact SV.bo.inj q
    subst em
    exact ⟨a, s, m', e4, h1, e2, so, e1, h3, h2, h4.elim (fun z => .inl z.2) fun z => .inr z.2.2.2⟩
  have vat : ∀ i : Nat, (vs.map some)[i]? = (vs[i]?).map some := fun i => List.getElem?_map ..
  refine ⟨⟨c, atRef vs, B⟩, rfl, ⟨R.wf, R.wf, .refl, by rw [List.length_map, hl, pl], fun i d e => ?_, fun i m e => ?_, fun i m e => ?_, fun i j s t a hij e1 e2 o1 o2 e3 e4 => ?_⟩, fun c2 qs γ2 R2 hb => ?_⟩
  · -- data
    have hi : i < l.length := by rw [← pl]; exact (List.getElem?_eq_some_iff.mp e).1
    have e1 : l[i]? = some l[i] := List.getElem?_eq_getElem hi
    cases q : l[i] with
    | d x =>
      rw [q] at e1
      have e2 := pd i x e1
      rw [e] at e2
      cases e2
      obtain ⟨v, e3, e4⟩ := hv i _ e1
      exact ⟨v, by rw [vat, e3]; rfl, e4⟩
    | s j =>
      rw [q] at e1
      obtain ⟨m, s, e2, _⟩ := pslot i j e1
      rw [e] at e2; cases e2
  · have hi : i < l.length := by rw [← pl]; exact (List.getElem?_eq_some_iff.mp e).1
    have e1 : l[i]? = some l[i] := List.getElem?_eq_getElem hi
    cases q : l[i] with
    | d x => rw [q] at e1; have e2 := pd i x e1; rw [e] at e2; cases e2
    | s j => rw [q] at e1; obtain ⟨m', s, e2, _⟩ := pslot i j e1; rw [e] at e2; cases e2
  · have hi : i < l.length := by rw [← pl]; exact (List.getElem?_eq_some_iff.mp e).1
    have e1 : l[i]? = some l[i] := List.getElem?_eq_getElem hi
    cases q : l[i] with
    | d x => rw [q] at e1; have e2 := pd i x e1; rw [e] at e2; cases e2
    | s j =>
      rw [q] at e1
      obtain ⟨a, s, m', h1, h2, h3, h4, h5, h6, h7, h8⟩ := own i j e1
      rw [e] at h5
      cases h5
      have ea : atRef vs i = a := by unfold atRef; rw [h1]
      show (vs.map some)[i]? = some (some (.ref (atRef vs i))) ∧ c.M (atRef vs i) ∧ B (atRef vs i) ∧ (c.H (atRef vs i) = none ∨ B (atRef vs i)) ∧ Own K c (atRef vs i) m
      rw [ea]
      exact ⟨by rw [vat, h1]; rfl, h6.1, ⟨i, j, e1, h1⟩, .inr ⟨i, j, e1, h1⟩, h6⟩
  · -- two slots
    have slot : ∀ (i : Nat) (s : SV), ps[i]? = some s → s.own = true → ∃ j : Nat, l[i]? = some (Ar.s j) := fun i s e o => by
      have hi : i < l.length := by rw [← pl]; exact (List.getElem?_eq_some_iff.mp e).1
      have e1 : l[i]? = some l[i] := List.getElem?_eq_getElem hi
      cases q : l[i] with
      | d x => rw [q] at e1; have e2 := pd i x e1; rw [e] at e2; cases e2; cases o
      | s j => rw [q] at e1; exact ⟨j, e1⟩
    obtain ⟨j1, f1⟩ := slot i s e1 o1
    obtain ⟨j2, f2⟩ := slot j t e2 o2
    obtain ⟨a1, s1, m1, h1, h2, h3, h4, _⟩ := own i j1 f1
    obtain ⟨a2, s2, m2, g1, g2, g3, g4, _⟩ := own j j2 f2
    rw [vat, h1] at e3
    rw [vat, g1] at e4
    have ea : a1 = a := by have := Option.some.inj (Option.some.inj e3); cases this; rfl
    have eb : a2 = a := by have := Option.some.inj (Option.some.inj e4); cases this; rfl
    subst ea
    subst eb
    have nj : j1 ≠ j2 := fun z => by
      subst z
      exact hij (slots_ne nd f1 f2)
    exact R.ne j1 j2 s1 s2 _ nj h3 g3 h4 g4 h2 g2
  · -- behind the call
    obtain ⟨bl, bat⟩ := back_at hb
    have x2 : Ext B c c2 := R2.ext
    have xS : Ext S c c2 := x2.mono fun a _ ⟨i, j, e1, e2⟩ => by
      obtain ⟨a', s, m, h1, _, _, _, _, _, h7, _⟩ := own i j e1
      rw [e2] at h1; cases h1; exact h7
    have x0 : Ext f.B f.c0 c2 := R.ext.thru R.wf0 R.wf x2 fun a _ ⟨i, j, e1, e2⟩ => by
      obtain ⟨a', s, m, h1, _, _, _, _, _, _, h8⟩ := own i j e1
      rw [e2] at h1; cases h1; exact h8
    -- a list that came back
    have came : ∀ (k i : Nat) (m : List D) (a : Addr), l[k]? = some (Ar.s i) → qs[k]? = some (SV.bo m) → σ[i]? = some (some (V.ref a)) → Own K c2 a m := fun k i m a e1 e2 e3 => by
      obtain ⟨a', s, m', h1, h2, _⟩ := own k i e1
      rw [e3] at h2
      cases h2
      obtain ⟨_, _, _, _, o⟩ := R2.bo k m e2
      have ea : atRef vs k = a := by unfold atRef; rw [h1]
      rw [← ea]; exact o
    have stays : ∀ (i : Nat) (s : SV) (m : List D) (a : Addr), γ[i]? = some s → s.own = true → σ[i]? = some (some (V.ref a)) → (∀ k : Nat, l[k]? ≠ some (Ar.s i)) → Own K c a m → Own K c2 a m := fun i s m a e1 o e2 n h => by
      refine h.step R.wf x2 fun ⟨k, j, f1, f2⟩ => ?_
      obtain ⟨a', s', m', h1, h2, h3, h4, _⟩ := own k j f1
      rw [f2] at h1
      cases h1
      have nj : i ≠ j := fun z => n k (z ▸ f1)
      exact R.ne i j s s' a nj e1 h3 o h4 e2 h2
    have kd : ∀ (i : Nat) (s : SV), γ2[i]? = some s → s.own = true → ∃ s0, γ[i]? = some s0 ∧ s0.own = true := fun i s e o => by
      rcases bat i s e with ⟨k, m, e1, e2, ⟨_, m0, e3⟩ | ⟨_, m0, e3⟩⟩ | ⟨e1, _⟩
      · exact ⟨_, e3, rfl⟩
      · exact ⟨_, e3, rfl⟩
      · exact ⟨s, e1, o⟩
    refine ⟨xS, ⟨R.wf0, R2.wf, x0, by rw [bl, R.len], fun i d e => ?_, fun i m e => ?_, fun i m e => ?_, fun i j s t a hij e1 e2 o1 o2 e3 => ?_⟩, fun i o => ?_, fun i d e => ?_⟩
    · rcases bat i _ e with ⟨k, m, e1, e2, ⟨z, _⟩ | ⟨z, _⟩⟩ | ⟨e1, _⟩
      · cases z
      · cases z
      · obtain ⟨v, h1, h2⟩ := R.pu i d e1
        exact ⟨v, h1, Den.ext R.wf x2 h2⟩
    · rcases bat i _ e with ⟨k, m', e1, e2, ⟨z, m0, e3⟩ | ⟨z, _⟩⟩ | ⟨e1, n⟩
      · cases z
        obtain ⟨a, h1, h2, h3, h4⟩ := R.ow i m0 e3
        exact ⟨a, h1, h2, h3, came k i m a e1 e2 h1⟩
      · cases z
      · obtain ⟨a, h1, h2, h3, h4⟩ := R.ow i m e1
        exact ⟨a, h1, h2, h3, stays i _ m a e1 rfl h1 n h4⟩
    · rcases bat i _ e with ⟨k, m', e1, e2, ⟨z, _⟩ | ⟨z, m0, e3⟩⟩ | ⟨e1, n⟩
      · cases z
      · cases z
        obtain ⟨h1, h2, h3, h4, h5⟩ := R.bo i m0 e3
        exact ⟨h1, h2, h3, h4, came k i m _ e1 e2 h1⟩
      · obtain ⟨h1, h2, h3, h4, h5⟩ := R.bo i m e1
        exact ⟨h1, h2, h3, h4, stays i _ m _ e1 rfl h1 n h5⟩
    · obtain ⟨s0, f1, f2⟩ := kd i s e1 o1
      obtain ⟨t0, f3, f4⟩ := kd j t e2 o2
      exact R.ne i j s0 t0 a hij f1 f3 f2 f4 e3
    · obtain ⟨s, e, o'⟩ := ownAt_some o
      obtain ⟨s0, e0, o0⟩ := kd i s e o'
      unfold ownAt
      rw [e0]; exact o0
    · rcases bat i _ e with ⟨k, m, e1, e2, ⟨z, _⟩ | ⟨z, _⟩⟩ | ⟨e1, _⟩
      · cases z
      · cases z
      · exact e1
end Fv

set_option maxRecDepth 100000
namespace Fv
open PySem L2

/-! a def's promise, its call -/
def SpPost (K : PySem.W.Frag) (mg : Str → Option Value) (g : Fx) (σ : St) (Q : VK) (E : XK) : Rs D → Prop
  | .ok d γ => ∀ v c', Rel K g g.S c' σ γ → Den K c' d v → Q v c'.H
  | .ex n fs γ => ∀ C d c', mg n = some (.ref C) → Rel K g g.S c' σ γ → ExF K c' d fs → E (.ref C) d c'.H
  | .no => False
def spF (K : PySem.W.Frag) (mg : Str → Option Value) (n : Nat) (F : List SV → Rs D) : Sp := fun vs H Q E =>
  vs.length = n ∧ ∃ (g : Fx) (γ : Gm), g.c0.H = H ∧ Rel K g g.S g.c0 (vs.map some) γ ∧ SpPost K mg g (vs.map some) Q E (F γ)
def gCall (F : List SV → Rs D) (gs : Gm → Rs (List Ar)) : Gm → Rs D := fun γ => (gs γ).bind fun ars γ1 =>
  if (slotsA ars).Nodup then match parG γ1 ars with
    | none => .no
    | some ps => match F ps with
      | .ok d qs => match backG γ1 ars qs with
        | some γ2 => .ok d γ2
        | none => .no
      | .ex n fs qs => match backG γ1 ars qs with
        | some γ2 => .ex n fs γ2
        | none => .no
      | .no => .no
  else .no
section
variable {X : Cx} {W : WX} {pos : Pos} {a b e : Expr} {es : List Expr} {ga gb : Gm → Rs D} {gs : Gm → Rs (List Ar)} {CX : CXT} {k : Nat} {f : Addr} {fd : FuncData} {ps : List Str} {x : Str} {p : Pos}
theorem sim_call {t : TA} {F : List SV → Rs D} {n : Nat} (s : Sim X W (vA X.K) t gs) (hl : ∀ γ l γ1, gs γ = .ok l γ1 → l.length = n) : Sim X W (vP X.K) (tCallS (spF X.K X.mg n F) (WE W) t) (gCall F gs) := by
  intro f S c σ γ Q R hp
  refine s.bind stab_vP R hp fun l γ1 vs c1 e0 x1 R1 k1 q1 h1 => ?_
  by_cases nd : (slotsA l).Nodup
  · rw [if_pos nd] at h1
    cases e1 : parG γ1 l with
    | none => rw [e1] at h1; exact h1.elim
    | some pz =>
      rw [e1] at h1
      simp only at h1
      obtain ⟨g, g0, Rg, back⟩ := call_core R1 q1 nd e1
      refine ⟨by rw [ArsOk.at q1 |>.1, hl _ _ _ e0], g, pz, by rw [g0], by rw [g0]; exact Rg, ?_⟩
      cases e2 : F pz with
      | no => rw [e2] at h1; exact h1.elim
      | ok d qs =>
        rw [e2] at h1
        simp only at h1
        cases e3 : backG γ1 l qs with
        | none => rw [e3] at h1; exact h1.elim
        | some γ2 =>
          rw [e3] at h1
          intro v c2 R2 hd
          obtain ⟨xS, R3, kd⟩ := back c2 qs γ2 R2 e3
          exact h1 v c2 xS R3 kd hd
      | ex n fs qs =>
        rw [e2] at h1
        simp only at h1
        cases e3 : backG γ1 l qs with
        | none => rw [e3] at h1; exact h1.elim
        | some γ2 =>
          rw [e3] at h1
          intro C d c2 hm R2 hx
          obtain ⟨xS, R3, kd⟩ := back c2 qs γ2 R2 e3
          exact h1 C d c2 hm xS R3 kd hx
  · rw [if_neg nd] at h1; exact h1.elim
theorem mp_call {F : List SV → Rs D} (hF : FnOk X.prog X.w X.K X.mg X.base CX k f fd ps (spF X.K X.mg ps.length F)) (hr : Room k X.A) (hg : Gl X x) (hm : X.mg x = some (.ref f)) (hk : PySem.W.keepIn X.K (.ref f) = true) (hb : Binds X.K fd ps []) (hx : ∀ σ, PassesAt CX X σ (WE W σ))
    (ha : MA X W (e :: es) gs) (hl : (e :: es).length = ps.length := by rfl) (h2 : (x == ("__debug__" : Str)) = false := by decide) (h3 : starEach (e :: es) X.env = (false, eval e X.env) :: starEach es X.env := by rfl) (h4 : (backTo pos (starEach es X.env)).any (·.1) = false := by rfl) :
    MP X W (.Call (.Name x p) (e :: es) [] pos) (gCall F gs) := by
  obtain ⟨⟨t, ht, s⟩, hn⟩ := ha
  exact ⟨_, pe_callS hF hr hg hm hk hb hx ht h2 h3 h4, sim_call s fun γ l γ1 e => (hn γ l γ1 e).trans hl⟩
end
theorem at0 {X : Cx} {W : WX} : ∀ σ, PassesAt CX0 X σ (WE W σ) := fun _ _ _ _ _ _ _ h => h.elim

/-! statements -/
inductive Out where
  | nx (g : Gm) | rt (d : D) (g : Gm) | bk (g : Gm) | ct (g : Gm) | ex (n : Str) (fs : List (Str × D)) (g : Gm) | no
def PExt (K : PySem.W.Frag) (c c' : Cf) : Prop := ∀ d v, Den K c d v → Den K c' d v
theorem PExt.refl {K : PySem.W.Frag} {c : Cf} : PExt K c c := fun _ _ h => h
theorem PExt.trans {K : PySem.W.Frag} {c c1 c2 : Cf} (x : PExt K c c1) (y : PExt K c1 c2) : PExt K c c2 := fun d v h => y d v (x d v h)
theorem Ext.p {K : PySem.W.Frag} {S : Addr → Prop} {c c' : Cf} (w : WF c) (x : Ext S c c') : PExt K c c' := fun _ _ h => Den.ext w x h
def SPost (K : PySem.W.Frag) (mg : Str → Option Value) (W : WX) (f : Fx) (c : Cf) (T : Ends) : Out → Prop
  | .nx g => ∀ σ c', PExt K c c' → Rel K f f.S c' σ g → T.nx σ c'.H
  | .rt d g => ∀ v σ c', PExt K c c' → Rel K f f.S c' σ g → Den K c' d v → T.rt v c'.H
  | .bk g => ∀ σ c', PExt K c c' → Rel K f f.S c' σ g → T.bk σ c'.H
  | .ct g => ∀ σ c', PExt K c c' → Rel K f f.S c' σ g → T.ct σ c'.H
  | .ex n fs g => ∀ C d σ c', mg n = some (.ref C) → PExt K c c' → Rel K f f.S c' σ g → ExF K c' d fs → W (.ref C) d σ c'.H
  | .no => False
theorem SPost.pre {K : PySem.W.Frag} {mg : Str → Option Value} {W : WX} {f : Fx} {c c1 : Cf} {T : Ends} {o : Out} (x : PExt K c c1) (h : SPost K mg W f c T o) : SPost K mg W f c1 T o := by
  cases o with
  | nx g => exact fun σ c' y => h σ c' (x.trans y)
  | rt d g => exact fun v σ c' y => h v σ c' (x.trans y)
  | bk g => exact fun σ c' y => h σ c' (x.trans y)
  | ct g => exact fun σ c' y => h σ c' (x.trans y)
  | ex n fs g => exact fun C d σ c' hm y => h C d σ c' hm (x.trans y)
  | no => exact h
def SimS (X : Cx) (W : WX) (t : TS) (h : Gm → Out) : Prop := ∀ f c σ γ T, Rel X.K f f.S c σ γ → SPost X.K X.mg W f c T (h γ) → t T σ c.H
def MS (X : Cx) (W : WX) (st : Stmt) (h : Gm → Out) : Prop := ∃ t, PS X st t ∧ SimS X W t h
def MSs (X : Cx) (W : WX) (st : List Stmt) (h : Gm → Out) : Prop := ∃ t, PSs X st t ∧ SimS X W t h
def Out.bind (o : Out) (k : Gm → Out) : Out := match o with
  | .nx g => k g
  | o => o
def Rs.out {α : Type} (r : Rs α) (k : α → Gm → Out) : Out := match r with
  | .ok a g => k a g
  | .ex n fs g => .ex n fs g
  | .no => .no
@[simp] theorem Out.bind_nx (g : Gm) (k : Gm → Out) : (Out.nx g).bind k = k g := rfl
@[simp] theorem Out.bind_rt (d : D) (g : Gm) (k : Gm → Out) : (Out.rt d g).bind k = .rt d g := rfl
@[simp] theorem Out.bind_bk (g : Gm) (k : Gm → Out) : (Out.bk g).bind k = .bk g := rfl
@[simp] theorem Out.bind_ct (g : Gm) (k : Gm → Out) : (Out.ct g).bind k = .ct g := rfl
@[simp] theorem Out.bind_ex (n : Str) (fs : List (Str × D)) (g : Gm) (k : Gm → Out) : (Out.ex n fs g).bind k = .ex n fs g := rfl
@[simp] theorem Out.bind_no (k : Gm → Out) : Out.no.bind k = .no := rfl
@[simp] theorem Rs.out_ok {α : Type} (a : α) (g : Gm) (k : α → Gm → Out) : (Rs.ok a g).out k = k a g := rfl
@[simp] theorem Rs.out_no {α : Type} (k : α → Gm → Out) : (Rs.no : Rs α).out k = .no := rfl
@[simp] theorem Rs.out_ex {α : Type} (n : Str) (fs : List (Str × D)) (g : Gm) (k : α → Gm → Out) : (Rs.ex n fs g : Rs α).out k = .ex n fs g := rfl

/-- an expression's result goes into a statement -/
theorem Sim.out {α β : Type} {X : Cx} {W : WX} {v1 : VR α β} {t : St → Hp → (β → Hp → Prop) → Prop} {g : Gm → Rs α} (s : Sim X W v1 t g)
    {f : Fx} {c : Cf} {σ : St} {γ : Gm} {k : α → Gm → Out} {T : Ends} {Q1 : β → Hp → Prop} (R : Rel X.K f f.S c σ γ) (h : SPost X.K X.mg W f c T ((g γ).out k))
    (step : ∀ a γ1 v c1, g γ = .ok a γ1 → Ext f.S c c1 → Rel X.K f f.S c1 σ γ1 → Kx γ γ1 → v1 σ c c1 a v → SPost X.K X.mg W f c1 T (k a γ1) → Q1 v c1.H) : t σ c.H Q1 := by
  refine s f f.S c σ γ Q1 R ?_
  cases e : g γ with
  | no => rw [e] at h; exact h
  | ex n fs g1 =>
    rw [e] at h
    exact fun C d c1 hm x1 R1 k1 hx => h C d σ c1 hm (x1.p R.wf) R1 hx
  | ok a g1 =>
    rw [e] at h
    exact fun v c1 x1 R1 k1 h1 => step a g1 v c1 e x1 R1 k1 h1 (SPost.pre (x1.p R.wf) h)

theorem Rel.setP {K : PySem.W.Frag} {f : Fx} {S : Addr → Prop} {c : Cf} {σ : St} {γ : Gm} (R : Rel K f S c σ γ) {d : D} {v : V} (h : Den K c d v) (i : Nat) : Rel K f S c (σ.set i (some v)) (γ.set i (.pu d)) := by
  have at_ne : ∀ {j : Nat}, j ≠ i → (σ.set i (some v))[j]? = σ[j]? ∧ (γ.set i (.pu d))[j]? = γ[j]? := fun hj => ⟨List.getElem?_set_ne (Ne.symm hj), List.getElem?_set_ne (Ne.symm hj)⟩
  have own_ne : ∀ {j : Nat} {s : SV}, (γ.set i (.pu d))[j]? = some s → s.own = true → j ≠ i := fun {j s} e o z => by
    subst z
    have hj : j < γ.length := by
      have := (List.getElem?_eq_some_iff.mp e).1
      rw [List.length_set] at this; exact this
    rw [List.getElem?_set_self hj] at e
    cases e; cases o
  refine ⟨R.wf0, R.wf, R.ext, by rw [List.length_set, List.length_set, R.len], fun j d' e => ?_, fun j l e => ?_, fun j l e => ?_, fun j k s t a hjk e1 e2 o1 o2 e3 => ?_⟩
  · by_cases hj : j = i
    · subst hj
      have hj : j < γ.length := by
        have := (List.getElem?_eq_some_iff.mp e).1
        rw [List.length_set] at this; exact this
      rw [List.getElem?_set_self hj] at e
      cases e
      exact ⟨v, List.getElem?_set_self (by rw [R.len]; exact hj), h⟩
    · rw [(at_ne hj).2] at e
      rw [(at_ne hj).1]
      exact R.pu j d' e
  · have hj := own_ne e rfl
    rw [(at_ne hj).2] at e
    rw [(at_ne hj).1]
    exact R.ow j l e
  · have hj := own_ne e rfl
    rw [(at_ne hj).2] at e
    rw [(at_ne hj).1]
    exact R.bo j l e
  · have hj := own_ne e1 o1
    have hk := own_ne e2 o2
    rw [(at_ne hj).2] at e1
    rw [(at_ne hk).2] at e2
    rw [(at_ne hj).1] at e3
    rw [(at_ne hk).1]
    exact R.ne j k s t a hjk e1 e2 o1 o2 e3
/-- a new list goes into a slot -/
theorem Rel.setO {K : PySem.W.Frag} {f : Fx} {c : Cf} {σ : St} {γ : Gm} (R : Rel K f f.S c σ γ) {p : Addr} {l : List D} (h0 : f.c0.H p = none) (h : Own K c p l) (hn : ∀ j, ownAt γ j = true → σ[j]? ≠ some (some (.ref p))) (i : Nat) : Rel K f f.S c (σ.set i (some (.ref p))) (γ.set i (.ow l)) := by
  have at_ne : ∀ {j : Nat}, j ≠ i → (σ.set i (some (V.ref p)))[j]? = σ[j]? ∧ (γ.set i (.ow l))[j]? = γ[j]? := fun hj => ⟨List.getElem?_set_ne (Ne.symm hj), List.getElem?_set_ne (Ne.symm hj)⟩
  have at_i : ∀ {s : SV}, (γ.set i (.ow l))[i]? = some s → s = .ow l ∧ (σ.set i (some (V.ref p)))[i]? = some (some (.ref p)) := fun {s} e => by
    have hj : i < γ.length := by
      have := (List.getElem?_eq_some_iff.mp e).1
      rw [List.length_set] at this; exact this
    rw [List.getElem?_set_self hj] at e
    exact ⟨(Option.some.inj e).symm, List.getElem?_set_self (by rw [R.len]; exact hj)⟩
  have oa : ∀ {j : Nat} {s : SV}, γ[j]? = some s → s.own = true → ownAt γ j = true := fun e o => by unfold ownAt; rw [e]; exact o
  refine ⟨R.wf0, R.wf, R.ext, by rw [List.length_set, List.length_set, R.len], fun j d' e => ?_, fun j m e => ?_, fun j m e => ?_, fun j k s t a hjk e1 e2 o1 o2 e3 => ?_⟩
  · by_cases hj : j = i
    · subst hj; obtain ⟨z, _⟩ := at_i e; cases z
    · rw [(at_ne hj).2] at e
      rw [(at_ne hj).1]
      exact R.pu j d' e
  · by_cases hj : j = i
    · subst hj
      obtain ⟨z, e2⟩ := at_i e
      cases z
      exact ⟨p, e2, h0, .inl h0, h⟩
    · rw [(at_ne hj).2] at e
      rw [(at_ne hj).1]
      exact R.ow j m e
  · by_cases hj : j = i
    · subst hj; obtain ⟨z, _⟩ := at_i e; cases z
    · rw [(at_ne hj).2] at e
      rw [(at_ne hj).1]
      exact R.bo j m e
  · by_cases hj : j = i
    · subst hj
      obtain ⟨_, e4⟩ := at_i e1
      rw [e4] at e3
      cases e3
      have hk : k ≠ j := Ne.symm hjk
      rw [(at_ne hk).2] at e2
      rw [(at_ne hk).1]
      exact hn k (oa e2 o2)
    · rw [(at_ne hj).2] at e1
      rw [(at_ne hj).1] at e3
      by_cases hk : k = i
      · subst hk
        obtain ⟨_, e4⟩ := at_i e2
        rw [e4]
        intro z
        cases z
        exact hn j (oa e1 o1) e3
      · rw [(at_ne hk).2] at e2
        rw [(at_ne hk).1]
        exact R.ne j k s t a hjk e1 e2 o1 o2 e3
/-- what was not there before lies in no slot that may be written -/
theorem fresh_slot {K : PySem.W.Frag} {f : Fx} {S : Addr → Prop} {c : Cf} {σ : St} {γ g : Gm} (R : Rel K f S c σ γ) (kd : Kd γ g) {p : Addr} (n : c.H p = none) : ∀ j, ownAt g j = true → σ[j]? ≠ some (some (.ref p)) := fun i z e3 => by
  obtain ⟨s, e4, e5⟩ := ownAt_some (kd i z)
  obtain ⟨a, l', h1, h2, ⟨_, vs, h3, _⟩, _⟩ := R.ownA e4 e5
  rw [e3] at h1
  cases h1
  rw [n] at h3; cases h3

section
variable {X : Cx} {W : WX} {pos p2 : Pos} {st : Stmt} {rest : List Stmt} {e : Expr} {ga : Gm → Rs D} {h h' : Gm → Out} {ta : Gm → Rs Bool} {x : Str}
def hNx : Gm → Out := fun γ => .nx γ
def hSeq (h h' : Gm → Out) : Gm → Out := fun γ => (h γ).bind h'
theorem mss_nil : MSs X W [] hNx := ⟨_, pss_nil, fun f c σ γ T R hp => hp σ c .refl R⟩
theorem sim_seq {t t' : TS} (s : SimS X W t h) (s' : SimS X W t' h') : SimS X W (tSeq t t') (hSeq h h') := by
  intro f c σ γ T R hp
  refine s f c σ γ _ R ?_
  replace hp : SPost X.K X.mg W f c T ((h γ).bind h') := hp
  cases e : h γ with
  | nx g =>
    rw [e] at hp
    exact fun σ1 c1 x1 R1 => s' f c1 σ1 g T R1 (SPost.pre x1 hp)
  | rt d g => rw [e] at hp; exact hp
  | bk g => rw [e] at hp; exact hp
  | ct g => rw [e] at hp; exact hp
  | ex n fs g => rw [e] at hp; exact hp
  | no => rw [e] at hp; exact hp
theorem mss_cons (h1 : MS X W st h) (h2 : MSs X W rest h') : MSs X W (st :: rest) (hSeq h h') := by
  obtain ⟨t, p1, s1⟩ := h1
  obtain ⟨t', p2, s2⟩ := h2
  exact ⟨_, pss_cons p1 p2, sim_seq s1 s2⟩
theorem mss_one (h1 : MS X W st h) : MSs X W [st] h := by
  obtain ⟨t, p1, s1⟩ := h1
  exact ⟨_, pss_one p1, s1⟩
theorem ms_pass : MS X W (.Pass pos) hNx := ⟨_, ps_pass, fun f c σ γ T R hp => hp σ c .refl R⟩
theorem ms_break : MS X W (.Break pos) (fun γ => .bk γ) := ⟨_, ps_break, fun f c σ γ T R hp => hp σ c .refl R⟩
theorem ms_continue : MS X W (.Continue pos) (fun γ => .ct γ) := ⟨_, ps_continue, fun f c σ γ T R hp => hp σ c .refl R⟩
def hNever : Gm → Out := fun _ => .no
theorem ms_never : MS X W st hNever := ⟨_, ps_never, fun f c σ γ T R hp => hp.elim⟩
def hRet (ga : Gm → Rs D) : Gm → Out := fun γ => (ga γ).out fun d γ1 => .rt d γ1
theorem ms_ret (ha : MP X W e ga) : MS X W (.Return (some e) pos) (hRet ga) := by
  obtain ⟨t, h1, s1⟩ := ha
  exact ⟨_, ps_ret h1, fun f c σ γ T R hp => s1.out R hp fun d γ1 v c1 _ x1 R1 k1 q1 h2 => h2 v σ c1 .refl R1 q1⟩
def hRetN : Gm → Out := fun γ => .rt .non γ
theorem ms_retN : MS X W (.Return none pos) hRetN := ⟨_, ps_retN, fun f c σ γ T R hp => hp .non σ c .refl R rfl⟩
def hDrop (ga : Gm → Rs D) : Gm → Out := fun γ => (ga γ).out fun _ γ1 => .nx γ1
theorem ms_expr (ha : MP X W e ga) (hs : swapsWith e none pos.line X.env = pure false := by rfl) : MS X W (.Expr e pos) (hDrop ga) := by
  obtain ⟨t, h1, s1⟩ := ha
  exact ⟨_, ps_expr h1 hs, fun f c σ γ T R hp => s1.out R hp fun d γ1 v c1 _ x1 R1 k1 q1 h2 => h2 σ c1 .refl R1⟩
def hIf (ta : Gm → Rs Bool) (h h' : Gm → Out) : Gm → Out := fun γ => (ta γ).out fun k γ1 => if k then h γ1 else h' γ1
theorem ms_if {b b' : List Stmt} (ht : MT X W e ta) (h1 : MSs X W b h) (h2 : MSs X W b' h') : MS X W (.If e b b' pos) (hIf ta h h') := by
  obtain ⟨t0, p0, s0⟩ := ht
  obtain ⟨t1, p1, s1⟩ := h1
  obtain ⟨t2, p2, s2⟩ := h2
  refine ⟨_, ps_if p0 p1 p2, fun f c σ γ T R hp => s0.out R hp fun k γ1 v c1 _ x1 R1 k1 q1 h3 => ?_⟩
  cases (show k = v from q1)
  cases k with
  | true => rw [if_pos rfl]; exact s1 _ _ _ _ _ R1 h3
  | false => rw [if_neg Bool.false_ne_true]; exact s2 _ _ _ _ _ R1 h3
def hSet (i : Nat) (ga : Gm → Rs D) : Gm → Out := fun γ => (ga γ).out fun d γ1 => .nx (γ1.set i (.pu d))
def hSetF (i : Nat) (ga : Gm → Rs (List D)) : Gm → Out := fun γ => (ga γ).out fun l γ1 => .nx (γ1.set i (.ow l))
theorem sim_set {t : TE} (i : Nat) (s1 : Sim X W (vP X.K) t ga) : SimS X W (tAsg t (gName i)) (hSet i ga) := fun f c σ γ T R hp =>
  s1.out R hp fun d γ1 v c1 _ x1 R1 k1 q1 h2 => h2 _ c1 .refl (R1.setP q1 i)
theorem sim_setF {t : TE} (i : Nat) {gl : Gm → Rs (List D)} (s1 : Sim X W (vF X.K) t gl) : SimS X W (tAsg t (gName i)) (hSetF i gl) := fun f c σ γ T R hp =>
  s1.out R hp fun l γ1 v c1 _ x1 R1 k1 q1 h2 => by
    obtain ⟨p, rfl, n, o⟩ := q1
    exact h2 _ c1 .refl (R1.setO (R.ext.noneS R.wf n) o (fresh_slot R k1.own n) i)
theorem ms_set {i : Nat} (hN : X.N.Nodup) (hi : X.N[i]? = some x) (hx : Loc X.env.scope x) (ha : MP X W e ga) (hs : swapsWith e (some (.Name x p2)) pos.line X.env = pure false := by rfl) (hf : X.fn x = true ∨ X.env.scope.names.lookup x = some .local := by first | exact .inl rfl | exact .inr rfl | assumption) :
    MS X W (.Assign [.Name x p2] e pos) (hSet i ga) := by
  obtain ⟨t, h1, s1⟩ := ha
  exact ⟨_, ps_set hN hi hx h1 hs hf, sim_set i s1⟩
theorem ms_setF {i : Nat} {gl : Gm → Rs (List D)} (hN : X.N.Nodup) (hi : X.N[i]? = some x) (hx : Loc X.env.scope x) (ha : MF X W e gl) (hs : swapsWith e (some (.Name x p2)) pos.line X.env = pure false := by rfl) (hf : X.fn x = true ∨ X.env.scope.names.lookup x = some .local := by first | exact .inl rfl | exact .inr rfl | assumption) :
    MS X W (.Assign [.Name x p2] e pos) (hSetF i gl) := by
  obtain ⟨t, h1, s1⟩ := ha
  exact ⟨_, ps_set hN hi hx h1 hs hf, sim_setF i s1⟩
end
end Fv

set_option maxRecDepth 100000
namespace Fv
open PySem L2
open PyProof.Rows (boot_range boot_enumerate Call_)
open AutoSeq1 (wpAny_loadPart')

/-! enumerate of a tuple -/
set_option maxHeartbeats 2000000 in
theorem en_new (l : Addr) (its : Array Value) :
    Meets (Builtin.«enumerate.__new__» ⟨[.type "enumerate", .ref l], []⟩) (fun _ Rz sh => sh.heap.IsTuple l its ∧
      Rz (.ok (.ret (.ref (sh.heap.push { cls := .type "tuple_iterator", data := .fields #[.ref l, .int 0 0] }).objs.size)))
        { sh with heap := (sh.heap.push { cls := .type "tuple_iterator", data := .fields #[.ref l, .int 0 0] }).push { cls := .type "enumerate", data := .fields #[.none, .bool false, .ref sh.heap.objs.size, rawInt 0, .none, .none] } }) :=
  .of_wp fun prog w A Rz sh hz => by
    obtain ⟨hp, gs, dr, tk, os⟩ := sh
    obtain ⟨hl, hz⟩ := hz
    have hsub := sub_enumerate
    have hit : ∀ {A' : Around} {E : Value → Shared → Prop} {Q : Value → Shared → Prop}, Q (.ref hp.objs.size) ⟨hp.push { cls := .type "tuple_iterator", data := .fields #[.ref l, .int 0 0] }, gs, dr, tk, os⟩ → wpAny (model prog w) A' (pyIter (.ref l)) Q E ⟨hp, gs, dr, tk, os⟩ :=
      fun q => wpAny_pyIter_tuple (show Heap.IsTuple (Shared.heap ⟨hp, gs, dr, tk, os⟩) l its from hl) q
    wp_walk using hit
    refine wpAny_stack_any fun stk => wpAny_pure ?_
    split
    · rename_i cz _ _ _ _ _
      cases (cz == Value.type "enumerate")
      · wp_walk using hit
        exact ⟨_, rfl, hz⟩
      · wp_walk using hit
        exact ⟨_, rfl, hz⟩
    · wp_walk using hit
      exact ⟨_, rfl, hz⟩
theorem en_call {prog : Program} {w : World} {A : Around} {E : Value → Shared → Prop} {s : Shared} {l : Addr} {its : Array Value} {Q : Value → Shared → Prop} (hL : s.heap.IsTuple l its)
    (hq : ∀ h', IsEnum h' (s.heap.objs.size + 1) s.heap.objs.size 0 .none → h'.IsTupleIter s.heap.objs.size l 0 → h'.objs.size = s.heap.objs.size + 2 →
      (∀ b ob, s.heap.get? b = some ob → h'.get? b = some ob) → Q (.ref (s.heap.objs.size + 1)) { s with heap := h' }) :
    wpAny (model prog w) A (call (.type "enumerate") [.ref l]) Q E s := by
  refine callType_new F.called_enumerate (by decide) (F.typeCall_enumerate_1 _) (F.newCall_enumerate_1 _) (fun ob => F.args_object_init_2 ob _) F.entry_enumerate_new (en_new l its) ⟨hL, ?_⟩
  have z1 : (s.heap.push { cls := .type "tuple_iterator", data := .fields #[.ref l, .int 0 0] }).objs.size = s.heap.objs.size + 1 := Heap.size_push ..
  have e1 := Heap.get?_push_size (s.heap.push { cls := .type "tuple_iterator", data := .fields #[.ref l, .int 0 0] })
    (o := { cls := .type "enumerate", data := .fields #[.none, .bool false, .ref s.heap.objs.size, rawInt 0, .none, .none] }) rfl
  rw [z1] at e1
  show _ ∧ _
  rw [z1]
  exact ⟨⟨_, e1, rfl⟩, hq _ e1 ⟨_, Heap.get?_push_of_some _ (Heap.get?_push_size _ rfl), rfl, rfl⟩ (by rw [Heap.size_push, z1]) fun b ob q => Heap.get?_push_of_some _ (Heap.get?_push_of_some _ q)⟩
/-- the tuple at a, each item in a new pair -/
def Iet (K : PySem.W.Frag) (a : Addr) : It :=
  ⟨fun i H => ∃ (xs : List V) (x : V), SqT K H a xs ∧ xs[i]? = some x, fun i H v H' => ∃ q x, v = .ref q ∧ H q = none ∧ H' = upd H q (.tup [.int (i : Nat), x]) ∧ ∀ xs, SqT K H a xs → xs[i]? = some x, fun i H => ∃ xs : List V, SqT K H a xs ∧ xs.length = i⟩
theorem turn_et {P : Program} {w : World} {K : PySem.W.Frag} {elts : List Expr} {kk : Nat} {tpos : Pos} (a e it : Addr) :
    Turn P w K (.Tuple elts kk tpos) (Iet K a) [e, it] e (fun i h => (∃ old, IsEnum h e it ((i : Nat) : Int) old) ∧ h.IsTupleIter it a i ∧ e ≠ it) where
  mem := by simp
  obj := fun i h st b hb => by
    obtain ⟨⟨old, he⟩, ⟨o, ho, hc, hd⟩, _⟩ := st
    rcases (show b = e ∨ b = it by simpa using hb) with z | z
    · rw [z]
      exact ⟨_, he, fun v q => nomatch q⟩
    · rw [z]
      exact ⟨o, ho, fun v q => by rw [hd] at q; cases q⟩
  keep := fun i h h' st k => by
    obtain ⟨⟨old, he⟩, hi, hne⟩ := st
    exact ⟨⟨old, k e (by simp) _ he⟩, hi.at fun o q => k it (by simp) o q, hne⟩
  item := by
    intro X hP hw hK hc i pn s st H E inv hf tn hg
    subst hP hw hK
    obtain ⟨⟨old, he⟩, hit, hne⟩ := tn
    obtain ⟨xs, x, hq, hx⟩ := hg
    obtain ⟨its, rv, tp, hz⟩ := inv.tuple hq
    obtain ⟨u, hu, ru⟩ := rv.get hx
    have hel : e < s.heap.objs.size := Heap.lt_size he
    have hil : it < s.heap.objs.size := by obtain ⟨_, q, _⟩ := hit; exact Heap.lt_size q
    have tp' : s.heap.IsTuple a its.toArray := tp
    have ane : a ≠ it := fun z => by
      obtain ⟨o1, h1, c1, _⟩ := tp'
      obtain ⟨o2, h2, c2, _⟩ := hit
      rw [z, h2] at h1
      cases h1
      rw [c2] at c1
      exact absurd c1 (by decide)
    have aes : e ≠ a := fun z => by
      obtain ⟨o1, h1, c1, _⟩ := tp'
      rw [← z, he] at h1
      cases h1
      have c2 : Value.type "enumerate" = Value.type "tuple" := c1
      exact absurd c2 (by decide)
    refine wpAny_pyNext_enum_itemD (Draws.tuple (A := X.A.in1) (by exact inv.ok.hd hc) it a ane its.toArray) he ⟨hit, tp'⟩ (by have := (List.getElem?_eq_some_iff.mp hu).1; simpa using this) hne (fun z => by
      rcases (show e = it ∨ e = a by simpa using z) with q | q
      · exact hne q
      · exact aes q) fun y h' tk hy ho hs' hT hsz hk => ?_
    have ey : y = u := by
      have h1 : its.toArray[i]? = some y := hy
      have h2 : its.toArray[i]? = some u := by simpa using hu
      rw [h1] at h2; exact Option.some.inj h2
    subst ey
    refine ⟨_, rfl, wpAny_letOwnedTupleGo_enum (s := { s with heap := h', toks := tk + 1 }) ho fun h'' he' sb => ?_⟩
    have hT2 := (sb.2 _ (Nat.ne_of_gt hel)).trans hT
    have new : ObjOk X.prog X.w (upd H s.heap.objs.size (.tup [.int (i : Nat), x])) h'' s.heap.objs.size (.tup [.int (i : Nat), x]) :=
      ⟨by show 2 ≤ sizeLine; decide, [.int i tk, y], .cons ⟨_, rfl⟩ (.cons ru .nil), ⟨_, hT2, rfl, _, rfl⟩⟩
    have I1 : Inv X pn st (upd H s.heap.objs.size (.tup [.int (i : Nat), x])) { s with heap := h'', toks := tk + 1 } :=
      inv.turnedNew (ch := [e, it]) (fun b ob hb q => (sb.2 b (fun z => hb (by simp [z]))).trans (hk b ob (fun z => hb (by simp [z])) (fun z => hb (by simp [z])) q)) hf (Nat.le_refl _) new
    refine ⟨.ref s.heap.objs.size, _, I1, rfl, ⟨_, x, rfl, inv.hok.fresh (Nat.le_refl _), rfl, fun ys hy => by rw [inv.tuple_inj hy hq]; exact hx⟩, ⟨⟨y, ?_⟩, hs'.1.at fun o q => (sb.2 it (Ne.symm hne)).trans q, hne⟩, fun b hb => ?_⟩
    · have e1 : ((i + 1 : Nat) : Int) = (i : Int) + 1 := by omega
      rw [e1]; exact he'
    · have hb' : b < s.heap.objs.size := by
        rcases (show b = e ∨ b = it by simpa using hb) with z | z
        · rw [z]; exact hel
        · rw [z]; exact hil
      rw [upd_ne (Nat.ne_of_lt hb')]
      exact (hf b hb).1
  done := by
    intro X hP hw hK hc i pn s st H E inv hf tn hg
    subst hP hw hK
    obtain ⟨⟨old, he⟩, hit, hne⟩ := tn
    obtain ⟨xs, hq, hx⟩ := hg
    obtain ⟨its, rv, tp, hz⟩ := inv.tuple hq
    obtain ⟨f0, f1, f2, f3, f4, f5⟩ := hf it (by simp)
    have tp' : s.heap.IsTuple a its.toArray := tp
    have hl := rv.length
    have ane : a ≠ it := fun z => by
      obtain ⟨o1, h1, c1, _⟩ := tp'
      obtain ⟨o2, h2, c2, _⟩ := hit
      rw [z, h2] at h1
      cases h1
      rw [c2] at c1
      exact absurd c1 (by decide)
    have hsz : its.toArray.size = i := by rw [List.size_toArray, ← hl]; exact hx
    exact wpAny_pyNext_enum_endD (Draws.tuple (A := X.A.in1) (by exact inv.ok.hd hc) it a ane its.toArray) he ⟨by rw [hsz]; exact hit, tp'⟩ fun h' eb => ⟨rfl, inv.turned (t' := s.toks) (fun b o hb q => eb b o hb q) f0 f1 f3 f4 f5⟩
  self := fun A i s Q E tn hq => wpAny_pyIter_enum tn.1.choose_spec hq

/-! what is walked, as data -/
def IterOk (K : PySem.W.Frag) (c0 : Cf) (J : It) (l : List D) : Prop := ∀ c, WF c → PExt K c0 c →
  (∀ i d, l[i]? = some d → J.go i c.H ∧ ∀ x H', J.yld i c.H x H' → ∃ c', c'.H = H' ∧ Ext Nop c c' ∧ WF c' ∧ Den K c' d x) ∧ J.stop l.length c.H
theorem IterOk.list {K : PySem.W.Frag} {c : Cf} {l : List D} {a : Addr} (h : Den K c (.lst l) (.ref a)) : IterOk K c (Itl K a) l := by
  intro c1 wf x
  obtain ⟨p, xs, e, q, r⟩ := x _ _ h
  cases e
  refine ⟨fun i d hi => ?_, ⟨xs, q.sq, by rw [r.length]; exact Nat.le_refl _⟩⟩
  obtain ⟨v, hv, hd⟩ := r.get hi
  refine ⟨⟨xs, v, q.sq, hv⟩, fun y H' hy => ?_⟩
  obtain ⟨rfl, hy⟩ := hy
  have e2 := hy xs q.sq
  rw [hv] at e2
  cases e2
  exact ⟨c1, rfl, .refl, wf, hd⟩
theorem IterOk.tup {K : PySem.W.Frag} {c : Cf} {l : List D} {a : Addr} (h : Den K c (.tup l) (.ref a)) : IterOk K c (Itt K a) l := by
  intro c1 wf x
  obtain ⟨p, xs, e, q, r⟩ := x _ _ h
  cases e
  refine ⟨fun i d hi => ?_, ⟨xs, q, by rw [r.length]; exact Nat.le_refl _⟩⟩
  obtain ⟨v, hv, hd⟩ := r.get hi
  refine ⟨⟨xs, v, q, hv⟩, fun y H' hy => ?_⟩
  obtain ⟨rfl, hy⟩ := hy
  have e2 := hy xs q
  rw [hv] at e2
  cases e2
  exact ⟨c1, rfl, .refl, wf, hd⟩
def rangeD (lo : Int) (n : Nat) : List D := (List.range n).map fun i => .int (lo + (i : Nat))
theorem rangeD_get {lo : Int} {n i : Nat} {d : D} (h : (rangeD lo n)[i]? = some d) : i < n ∧ d = .int (lo + i) := by
  unfold rangeD at h
  rw [List.getElem?_map] at h
  obtain ⟨k, e1, e2⟩ := map_some h
  obtain ⟨h1, h2⟩ := List.getElem?_eq_some_iff.mp e1
  rw [List.length_range] at h1
  rw [List.getElem_range] at h2
  exact ⟨h1, by rw [← e2, h2]⟩
theorem rangeD_len {lo : Int} {n : Nat} : (rangeD lo n).length = n := by unfold rangeD; rw [List.length_map, List.length_range]
theorem IterOk.range {K : PySem.W.Frag} {c : Cf} {lo : Int} {n : Nat} : IterOk K c (Itr lo n) (rangeD lo n) := by
  intro c1 wf x
  refine ⟨fun i d hi => ?_, by rw [rangeD_len]; exact Nat.le_refl _⟩
  obtain ⟨h1, rfl⟩ := rangeD_get hi
  refine ⟨h1, fun y H' hy => ?_⟩
  obtain ⟨rfl, rfl⟩ := hy
  exact ⟨c1, rfl, .refl, wf, rfl⟩
def enumD : Nat → List D → List D
  | _, [] => []
  | i, d :: l => .tup [.int i, d] :: enumD (i + 1) l
theorem enumD_get : ∀ {l : List D} {k i : Nat} {d : D}, (enumD k l)[i]? = some d → ∃ x, l[i]? = some x ∧ d = .tup [.int ((k + i : Nat) : Int), x]
  | [], _, _, _, h => by simp [enumD] at h
  | y :: l, k, 0, d, h => by
    have e : .tup [.int (k : Nat), y] = d := by simpa [enumD] using h
    exact ⟨y, rfl, e.symm⟩
  | y :: l, k, i + 1, d, h => by
    obtain ⟨x, e1, e2⟩ := enumD_get (l := l) (k := k + 1) (i := i) (by simpa [enumD] using h)
    refine ⟨x, by simpa using e1, ?_⟩
    rw [e2]
    have e3 : k + 1 + i = k + (i + 1) := by omega
    rw [e3]
theorem enumD_len : ∀ {l : List D} {k : Nat}, (enumD k l).length = l.length
  | [], _ => rfl
  | y :: l, k => by
    show (enumD (k + 1) l).length + 1 = l.length + 1
    rw [enumD_len]
theorem IterOk.enumT {K : PySem.W.Frag} {c : Cf} {l : List D} {a : Addr} (h : Den K c (.tup l) (.ref a)) : IterOk K c (Iet K a) (enumD 0 l) := by
  intro c1 wf x
  obtain ⟨p, xs, e, q, r⟩ := x _ _ h
  cases e
  refine ⟨fun i d hi => ?_, ⟨xs, q, by rw [r.length, enumD_len]⟩⟩
  obtain ⟨z, h1, rfl⟩ := enumD_get hi
  obtain ⟨v, hv, hd⟩ := r.get h1
  refine ⟨⟨xs, v, q, hv⟩, fun y H' hy => ?_⟩
  obtain ⟨k, u, rfl, n, rfl, hy⟩ := hy
  have e2 := hy xs q
  rw [hv] at e2
  cases e2
  refine ⟨⟨c1.M, upd c1.H k (.tup [.int (i : Nat), v])⟩, rfl, Ext.new n, wf.new n, ?_⟩
  rw [Nat.zero_add]
  exact Den.tup wf n ⟨_, _, rfl, rfl, ⟨_, _, rfl, hd, rfl⟩⟩
theorem IterOk.enumL {K : PySem.W.Frag} {c : Cf} {l : List D} {a : Addr} (h : Den K c (.lst l) (.ref a)) : IterOk K c (Ite K a) (enumD 0 l) := by
  intro c1 wf x
  obtain ⟨p, xs, e, q, r⟩ := x _ _ h
  cases e
  refine ⟨fun i d hi => ?_, ⟨xs, q.sq, by rw [r.length, enumD_len]; exact Nat.le_refl _⟩⟩
  obtain ⟨z, h1, rfl⟩ := enumD_get hi
  obtain ⟨v, hv, hd⟩ := r.get h1
  refine ⟨⟨xs, v, q.sq, hv⟩, fun y H' hy => ?_⟩
  obtain ⟨k, u, rfl, n, rfl, hy⟩ := hy
  have e2 := hy xs q.sq
  rw [hv] at e2
  cases e2
  refine ⟨⟨c1.M, upd c1.H k (.tup [.int (i : Nat), v])⟩, rfl, Ext.new n, wf.new n, ?_⟩
  rw [Nat.zero_add]
  exact Den.tup wf n ⟨_, _, rfl, rfl, ⟨_, _, rfl, hd, rfl⟩⟩
def vI (K : PySem.W.Frag) : VR (List D) It := fun _ _ c' l J => IterOk K c' J l
theorem stab_vI {K : PySem.W.Frag} : Stab (vI K) := fun _ _ _ _ _ _ _ _ _ h => h
def MI (X : Cx) (W : WX) (tg e : Expr) (g : Gm → Rs (List D)) : Prop := ∃ t, PI X tg e t ∧ Sim X W (vI X.K) t g
section
variable {X : Cx} {W : WX} {pos p tpos : Pos} {tg a b : Expr} {ga gb : Gm → Rs D}
/-- a list or a tuple -/
def iSeq (K : PySem.W.Frag) (tl : TE) : TI := fun σ H R => tl σ H fun x H1 => ∃ a, x = .ref a ∧ (((∃ xs, SqL K H1 a xs) ∧ R (Itl K a) H1) ∨ ((∃ xs, SqT K H1 a xs) ∧ R (Itt K a) H1))
theorem pi_seq {tl : TE} (hl : PE X a tl) : PI X tg a (iSeq X.K tl) := by
  refine ⟨fun pn s st H Rz inv hw => ?_⟩
  refine thn (hl.run pn s st H _ inv hw) fun v s1 ⟨x, H1, I1, r1, q1⟩ => ?_
  obtain ⟨k, e, q⟩ := q1
  subst e
  cases r1
  have fo : ∀ b ∈ [s1.heap.objs.size], FpOk X pn H1 b := fun b hb => by
    rw [List.mem_singleton.mp hb]
    exact I1.fpOk (Nat.le_refl _) (I1.hok.fresh (Nat.le_refl _))
  rcases q with ⟨⟨xs, hq⟩, q⟩ | ⟨⟨xs, hq⟩, q⟩
  · obtain ⟨its, rv, pl, hz⟩ := I1.list hq
    exact wpAny_pyIter_list pl.isList ⟨_, _, _, _, H1, rfl, I1.kept (t' := s1.toks) fun b ob z => Heap.get?_push_of_some _ z, turn_list k _, ⟨_, Heap.get?_push_size _ rfl, rfl, rfl⟩, fo, q⟩
  · obtain ⟨its, rv, pl, hz⟩ := I1.tuple hq
    exact wpAny_pyIter_tuple (show s1.heap.IsTuple k its.toArray from pl) ⟨_, _, _, _, H1, rfl, I1.kept (t' := s1.toks) fun b ob z => Heap.get?_push_of_some _ z, turn_tuple k _, ⟨_, Heap.get?_push_size _ rfl, rfl, rfl⟩, fo, q⟩
def gItems (ga : Gm → Rs D) : Gm → Rs (List D) := fun γ => (ga γ).bind fun d γ1 => ofO (itemsD d) γ1
theorem mi_seq (ha : MP X W a ga) : MI X W tg a (gItems ga) := by
  obtain ⟨ta, h1, s1⟩ := ha
  refine ⟨_, pi_seq h1, fun f S c σ γ Q R hp => s1.bind stab_vI R hp fun d γ1 v c1 _ x1 R1 k1 q1 h2 => ?_⟩
  cases d with
  | lst l =>
    have q1' := q1
    obtain ⟨k, xs, rfl, q, r⟩ := q1
    exact ⟨k, rfl, .inl ⟨⟨xs, q.sq⟩, h2 _ c1 .refl R1 .refl (IterOk.list q1')⟩⟩
  | tup l =>
    have q1' := q1
    obtain ⟨k, xs, rfl, q, r⟩ := q1
    exact ⟨k, rfl, .inr ⟨⟨xs, q⟩, h2 _ c1 .refl R1 .refl (IterOk.tup q1')⟩⟩
  | _ => exact h2.elim
def iEn (K : PySem.W.Frag) (ta : TA) : TI := fun σ H R => ta σ H fun vs H1 => ∃ a, vs = [.ref a] ∧ (((∃ xs, SqL K H1 a xs) ∧ R (Ite K a) H1) ∨ ((∃ xs, SqT K H1 a xs) ∧ R (Iet K a) H1))
theorem pi_en {ta : TA} {elts : List Expr} {kk : Nat} (hg : Gl X "enumerate") (hm : X.mg "enumerate" = none) (ha : PA X [a] ta) (hs : starEach [a] X.env = [(false, eval a X.env)] := by rfl) : PI X (.Tuple elts kk tpos) (.Call (.Name "enumerate" p) [a] [] pos) (iEn X.K ta) := by
  refine ⟨fun pn s st H Rz inv hw => ?_⟩
  refine Call_ (ld_blt inv hg hm boot_enumerate (PyProof.Rows.callWith_type1 (thn (ha.run pos pn s st H _ inv hw) fun us s1 ⟨vs, H1, I1, r1, q1⟩ => ?_) hs rfl))
  obtain ⟨k, ex, q⟩ := q1
  subst ex
  cases r1 with
  | cons r rr =>
    cases rr
    cases r
    have fo : ∀ b ∈ [s1.heap.objs.size + 1, s1.heap.objs.size], FpOk X pn H1 b := fun b hb => by
      have hle : s1.heap.objs.size ≤ b := by
        rcases (show b = s1.heap.objs.size + 1 ∨ b = s1.heap.objs.size by simpa using hb) with z | z
        · rw [z]; exact Nat.le_add_right _ _
        · rw [z]; exact Nat.le_refl _
      exact I1.fpOk hle (I1.hok.fresh hle)
    rcases q with ⟨⟨xs, hq⟩, q⟩ | ⟨⟨xs, hq⟩, q⟩
    · obtain ⟨its, rv, pl, hz⟩ := I1.list hq
      exact call_enumerate_list pl.isList fun h' he hit hsz hk => wpAny_pyIter_enum he ⟨_, _, _, _, H1, rfl, I1.kept (t' := s1.toks) hk, turn_enum k _ _, ⟨⟨.none, he⟩, hit, Nat.succ_ne_self _⟩, fo, q⟩
    · obtain ⟨its, rv, pl, hz⟩ := I1.tuple hq
      exact en_call (show s1.heap.IsTuple k its.toArray from pl) fun h' he hit hsz hk => wpAny_pyIter_enum he ⟨_, _, _, _, H1, rfl, I1.kept (t' := s1.toks) hk, turn_et k _ _, ⟨⟨.none, he⟩, hit, Nat.succ_ne_self _⟩, fo, q⟩
def gEnum (ga : Gm → Rs D) : Gm → Rs (List D) := fun γ => (ga γ).bind fun d γ1 => ofO ((itemsD d).map (enumD 0)) γ1
theorem mi_enum {elts : List Expr} {kk : Nat} (hg : Gl X "enumerate") (hm : X.mg "enumerate" = none) (ha : MP X W a ga) (hs : starEach [a] X.env = [(false, eval a X.env)] := by rfl) (hs2 : starEach [a] X.env = (false, eval a X.env) :: starEach [] X.env := by rfl) :
    MI X W (.Tuple elts kk tpos) (.Call (.Name "enumerate" p) [a] [] pos) (gEnum ga) := by
  obtain ⟨ta, h1, s1⟩ := ha
  refine ⟨_, pi_en hg hm (pa_cons h1 pa_nil hs2) hs, fun f S c σ γ Q R hp => s1.bind stab_vI R hp fun d γ1 v c1 _ x1 R1 k1 q1 h2 => ?_⟩
  cases d with
  | lst l =>
    have q1' := q1
    obtain ⟨k, xs, rfl, q, r⟩ := q1
    exact ⟨k, rfl, .inl ⟨⟨xs, q.sq⟩, h2 _ c1 .refl R1 .refl (IterOk.enumL q1')⟩⟩
  | tup l =>
    have q1' := q1
    obtain ⟨k, xs, rfl, q, r⟩ := q1
    exact ⟨k, rfl, .inr ⟨⟨xs, q⟩, h2 _ c1 .refl R1 .refl (IterOk.enumT q1')⟩⟩
  | _ => exact h2.elim
def dRng1 : D → Option (List D)
  | .int j => if -(2 ^ 62) ≤ j ∧ j < 2 ^ 62 then some (rangeD 0 j.toNat) else none
  | _ => none
def dRng2 : D → D → Option (List D)
  | .int i, .int j => if -(2 ^ 62) ≤ i ∧ i < 2 ^ 62 ∧ -(2 ^ 62) ≤ j ∧ j < 2 ^ 62 then some (rangeD i (j - i).toNat) else none
  | _, _ => none
def gRng1 (ga : Gm → Rs D) : Gm → Rs (List D) := fun γ => (ga γ).bind fun d γ1 => ofO (dRng1 d) γ1
def gRng2 (ga gb : Gm → Rs D) : Gm → Rs (List D) := fun γ => (ga γ).bind fun d γ1 => (gb γ1).bind fun e γ2 => ofO (dRng2 d e) γ2
theorem mi_range1 (hg : Gl X "range") (hm : X.mg "range" = none) (ha : MP X W a ga) (hs : starEach [a] X.env = [(false, eval a X.env)] := by rfl) (hs2 : starEach [a] X.env = (false, eval a X.env) :: starEach [] X.env := by rfl) :
    MI X W tg (.Call (.Name "range" p) [a] [] pos) (gRng1 ga) := by
  obtain ⟨ta, h1, s1⟩ := ha
  refine ⟨_, pi_range1 hg hm (pa_cons h1 pa_nil hs2) hs, fun f S c σ γ Q R hp => s1.bind stab_vI R hp fun d γ1 v c1 _ x1 R1 k1 q1 h2 => ?_⟩
  obtain ⟨z, e1, h3⟩ := h2.fin R1
  cases d with
  | int j =>
    cases (show v = .int j from q1)
    obtain ⟨⟨h4, h5⟩, rfl⟩ := ite_of e1
    exact ⟨j, rfl, h4, h5, h3 _ c1 .refl R1.wf IterOk.range⟩
  | _ => cases e1
theorem mi_range2 (hg : Gl X "range") (hm : X.mg "range" = none) (ha : MP X W a ga) (hb : MP X W b gb) (hs : starEach [a, b] X.env = [(false, eval a X.env), (false, eval b X.env)] := by rfl) (hs2 : starEach [b] X.env = [(false, eval b X.env)] := by rfl) (hs3 : starEach [a, b] X.env = (false, eval a X.env) :: starEach [b] X.env := by rfl) (hs4 : starEach [b] X.env = (false, eval b X.env) :: starEach [] X.env := by rfl) :
    MI X W tg (.Call (.Name "range" p) [a, b] [] pos) (gRng2 ga gb) := by
  obtain ⟨ta, h1, s1⟩ := ha
  obtain ⟨tb, h2, s2⟩ := hb
  refine ⟨_, pi_range2 hg hm (pa_cons h1 (pa_cons h2 pa_nil hs4) hs3) hs hs2, fun f S c σ γ Q R hp => s1.bind stab_vI R hp fun d γ1 v c1 _ x1 R1 k1 q1 h3 => s2.bind stab_vI R1 h3 fun e γ2 w c2 _ x2 R2 k2 q2 h4 => ?_⟩
  obtain ⟨z, e1, h5⟩ := h4.fin R2
  cases d with
  | int i =>
    cases e with
    | int j =>
      cases (show v = .int i from q1)
      cases (show w = .int j from q2)
      obtain ⟨h6, rfl⟩ := ite_of e1
      exact ⟨i, j, rfl, h6, h5 _ c2 .refl R2.wf IterOk.range⟩
    | _ => cases e1
  | _ => cases e1
end
end Fv

set_option maxRecDepth 100000
namespace Fv
open PySem L2

/-! targets -/
abbrev Kt := D → Gm → Option Gm
structure TgOk (K : PySem.W.Frag) (ts : List Nat) (g : TG) (k : Kt) : Prop where
  run : ∀ (f : Fx) (S : Addr → Prop) (c : Cf) (σ : St) (γ γ' : Gm) (d : D) (v : V) (Q : St → Hp → Prop), Rel K f S c σ γ → Den K c d v → k d γ = some γ' →
    (∀ σ', Rel K f S c σ' γ' → Kd γ γ' → σ'.length = σ.length → (∀ j : Nat, j ∉ ts → σ'[j]? = σ[j]?) → Q σ' c.H) → g v σ c.H Q
  keep : ∀ (d : D) (γ γ' : Gm), k d γ = some γ' → ∀ j : Nat, j ∉ ts → γ'[j]? = γ[j]?
structure TgsOk (K : PySem.W.Frag) (ts : List Nat) (g : TGs) (k : List D → Gm → Option Gm) : Prop where
  run : ∀ (f : Fx) (S : Addr → Prop) (c : Cf) (σ : St) (γ γ' : Gm) (d : List D) (v : List V) (Q : St → Hp → Prop), Rel K f S c σ γ → Dens K c d v → k d γ = some γ' →
    (∀ σ', Rel K f S c σ' γ' → Kd γ γ' → σ'.length = σ.length → (∀ j : Nat, j ∉ ts → σ'[j]? = σ[j]?) → Q σ' c.H) → g v σ c.H Q
  keep : ∀ (d : List D) (γ γ' : Gm), k d γ = some γ' → ∀ j : Nat, j ∉ ts → γ'[j]? = γ[j]?
def MG (X : Cx) (tg : Expr) (ts : List Nat) (k : Kt) : Prop := ∃ g, PG X tg g ∧ TgOk X.K ts g k
def MGs (X : Cx) (tg : List Expr) (ts : List Nat) (k : List D → Gm → Option Gm) : Prop := ∃ g, PGs X tg g ∧ TgsOk X.K ts g k
def kSet (i : Nat) : Kt := fun d γ => some (γ.set i (.pu d))
def kNil : List D → Gm → Option Gm
  | [], γ => some γ
  | _ :: _, _ => none
def kCons (k : Kt) (ks : List D → Gm → Option Gm) : List D → Gm → Option Gm
  | [], _ => none
  | d :: l, γ => (k d γ).bind fun γ1 => ks l γ1
def kTup (n : Nat) (ks : List D → Gm → Option Gm) : Kt := fun d γ => match d with
  | .tup l => if l.length = n then ks l γ else none
  | _ => none
theorem Kd.set {γ : Gm} {i : Nat} {d : D} : Kd γ (γ.set i (.pu d)) := fun j h => by
  obtain ⟨s, e, o⟩ := ownAt_some h
  by_cases hj : j = i
  · subst hj
    have hl : j < γ.length := by
      have := (List.getElem?_eq_some_iff.mp e).1
      rw [List.length_set] at this; exact this
    rw [List.getElem?_set_self hl] at e
    cases e; cases o
  · rw [List.getElem?_set_ne (Ne.symm hj)] at e
    unfold ownAt; rw [e]; exact o
section
variable {X : Cx} {pos : Pos}
theorem mg_name {x : Str} {i : Nat} (hN : X.N.Nodup) (hi : X.N[i]? = some x) (hx : Loc X.env.scope x) (hf : X.fn x = true ∨ X.env.scope.names.lookup x = some .local := by first | exact .inl rfl | exact .inr rfl | assumption) : MG X (.Name x pos) [i] (kSet i) :=
  ⟨_, pg_name hN hi hx hf, ⟨fun f S c σ γ γ' d v Q R h e q => by
    have e' : γ.set i (.pu d) = γ' := Option.some.inj e
    subst e'
    exact q _ (R.setP h i) .set (List.length_set ..) fun j hj => List.getElem?_set_ne (fun z => hj (by simp [z])), fun d γ γ' e j hj => by
    have e' : γ.set i (.pu d) = γ' := Option.some.inj e
    subst e'
    exact List.getElem?_set_ne (fun z => hj (by simp [z]))⟩⟩
theorem mgs_nil : MGs X [] [] kNil := by
  refine ⟨_, pgs_nil, ⟨fun f S c σ γ γ' d v Q R h e q => ?_, fun d γ γ' e j hj => ?_⟩⟩
  · cases d with
    | nil =>
      have e' : γ = γ' := Option.some.inj e
      subst e'
      have ev : v = [] := h
      exact ⟨ev, q σ R .refl rfl fun _ _ => rfl⟩
    | cons _ _ => cases e
  · cases d with
    | nil =>
      have e' : γ = γ' := Option.some.inj e
      rw [e']
    | cons _ _ => cases e
theorem mgs_cons {e : Expr} {es : List Expr} {t1 t2 : List Nat} {k : Kt} {ks : List D → Gm → Option Gm} (h1 : MG X e t1 k) (h2 : MGs X es t2 ks) (hs : (assignEach (e :: es) X.env).map (·.2) = assign e X.env :: (assignEach es X.env).map (·.2) := by rfl) : MGs X (e :: es) (t1 ++ t2) (kCons k ks) := by
  obtain ⟨g1, p1, s1⟩ := h1
  obtain ⟨g2, p2, s2⟩ := h2
  refine ⟨_, pgs_cons p1 p2 hs, ⟨fun f S c σ γ γ' d v Q R h e q => ?_, fun d γ γ' e j hj => ?_⟩⟩
  rotate_left
  · cases d with
    | nil => cases e
    | cons y l =>
      cases z : k y γ with
      | none =>
        have e' : (k y γ).bind (fun γ1 => ks l γ1) = some γ' := e
        rw [z] at e'; cases e'
      | some γ1 =>
        have e' : (k y γ).bind (fun γ1 => ks l γ1) = some γ' := e
        rw [z] at e'
        exact (s2.keep l γ1 γ' e' j fun z => hj (List.mem_append_right _ z)).trans (s1.keep y γ γ1 z j fun z => hj (List.mem_append_left _ z))
  cases d with
  | nil => cases e
  | cons y l =>
    obtain ⟨γ1, e1, e2⟩ : ∃ γ1, k y γ = some γ1 ∧ ks l γ1 = some γ' := by
      cases z : k y γ with
      | none =>
        have e' : (k y γ).bind (fun γ1 => ks l γ1) = some γ' := e
        rw [z] at e'; cases e'
      | some γ1 =>
        have e' : (k y γ).bind (fun γ1 => ks l γ1) = some γ' := e
        rw [z] at e'; exact ⟨γ1, rfl, e'⟩
    obtain ⟨x, r, rfl, hx, hr⟩ := h
    refine ⟨x, r, rfl, s1.run f S c σ γ γ1 y x _ R hx e1 fun σ1 R1 k1 l1 n1 => ?_⟩
    refine s2.run f S c σ1 γ1 γ' l r _ R1 hr e2 fun σ2 R2 k2 l2 n2 => ?_
    exact q σ2 R2 (k1.trans k2) (l2.trans l1) fun j hj => (n2 j fun z => hj (List.mem_append_right _ z)).trans (n1 j fun z => hj (List.mem_append_left _ z))
theorem mg_tup {es : List Expr} {kk n : Nat} {ts : List Nat} {ks : List D → Gm → Option Gm} (hc : X.calm = true) (h : MGs X es ts ks) (hn : (assignEach es X.env).length = n := by rfl) (hst : (assignEach es X.env).findIdx? (·.1) = none := by rfl) : MG X (.Tuple es kk pos) ts (kTup n ks) := by
  obtain ⟨g, p, s⟩ := h
  refine ⟨_, pg_tup hc p hn hst, ⟨fun f S c σ γ γ' d v Q R h e q => ?_, fun d γ γ' e j hj => ?_⟩⟩
  rotate_left
  · cases d with
    | tup l =>
      have e' : (if l.length = n then ks l γ else none) = some γ' := e
      by_cases hz : l.length = n
      · rw [if_pos hz] at e'
        exact s.keep l γ γ' e' j hj
      · rw [if_neg hz] at e'; cases e'
    | _ => cases e
  cases d with
  | tup l =>
    obtain ⟨k, xs, rfl, h1, h2⟩ := h
    have e' : (if l.length = n then ks l γ else none) = some γ' := e
    by_cases hz : l.length = n
    · rw [if_pos hz] at e'
      exact ⟨k, xs, rfl, h1, by rw [h2.length]; exact hz, s.run f S c σ γ γ' l xs Q R h2 e' q⟩
    · rw [if_neg hz] at e'; cases e'
  | _ => cases e
end

/-! for, while -/
def forL (k : Kt) (h : Gm → Out) : List D → Gm → Out
  | [], γ => .nx γ
  | d :: l, γ => match k d γ with
    | none => .no
    | some γ1 => match h γ1 with
      | .nx γ2 => forL k h l γ2
      | .ct γ2 => forL k h l γ2
      | .bk γ2 => .nx γ2
      | .rt d g => .rt d g
      | .ex n fs g => .ex n fs g
      | .no => .no
def hFor (gs : Gm → Rs (List D)) (k : Kt) (h : Gm → Out) : Gm → Out := fun γ => (gs γ).out fun l γ1 => forL k h l γ1
def whileN (tc : Gm → Rs Bool) (h : Gm → Out) (n : Nat) : Gm → Out := Nat.rec (fun _ => .no) (fun _ again γ => (tc γ).out fun b γ1 => if b then (match h γ1 with
      | .nx γ2 => again γ2
      | .ct γ2 => again γ2
      | .bk γ2 => .nx γ2
      | .rt d g => .rt d g
      | .ex n fs g => .ex n fs g
      | .no => .no) else .nx γ1) n
theorem whileN_succ (tc : Gm → Rs Bool) (h : Gm → Out) (n : Nat) (γ : Gm) : whileN tc h (n + 1) γ = (tc γ).out fun b γ1 => if b then (match h γ1 with
      | .nx γ2 => whileN tc h n γ2
      | .ct γ2 => whileN tc h n γ2
      | .bk γ2 => .nx γ2
      | .rt d g => .rt d g
      | .ex n fs g => .ex n fs g
      | .no => .no) else .nx γ1 := rfl
section
variable {X : Cx} {W : WX} {pos : Pos} {tg e : Expr} {body : List Stmt} {gs : Gm → Rs (List D)} {k : Kt} {h : Gm → Out} {ts : List Nat} {tc : Gm → Rs Bool}
theorem ms_for (hp : PassesOwn (model X.prog X.w) X.A X.env X.xe) (hc : X.calm = true) (hi : MI X W tg e gs) (hg : MG X tg ts k) (hb : MSs X W body h) (hs : ∀ x, foldedSetIterable e X.env x = pure x := by intro _; rfl) : MS X W (.For tg e body [] pos) (hFor gs k h) := by
  obtain ⟨ti, p1, s1⟩ := hi
  obtain ⟨g, p2, s2⟩ := hg
  obtain ⟨tb, p3, s3⟩ := hb
  refine ⟨_, ps_for hp hc p1 p2 p3 hs, fun f c σ γ T R hq => s1.out R hq fun l γ1 J c1 _ x1 R1 k1 q1 hq1 => ?_⟩
  refine ⟨fun i m σ H => ∃ c2 γ2, c2.H = H ∧ m + i = l.length ∧ PExt X.K c1 c2 ∧ Rel X.K f f.S c2 σ γ2 ∧ SPost X.K X.mg W f c2 T (forL k h (l.drop i) γ2), ⟨l.length, c1, γ1, rfl, rfl, .refl, R1, hq1⟩, ?_⟩
  rintro i m σ2 H ⟨c2, γ2, rfl, em, px, R2, hq2⟩
  obtain ⟨it, stop⟩ := q1 c2 R2.wf px
  cases ed : l[i]? with
  | none =>
    have hi : l.length ≤ i := List.getElem?_eq_none_iff.mp ed
    have ei : i = l.length := by omega
    rw [List.drop_eq_nil_of_le hi] at hq2
    rw [ei]
    exact .inl ⟨stop, hq2 σ2 c2 .refl R2⟩
  | some d =>
    obtain ⟨hil, ed'⟩ := List.getElem?_eq_some_iff.mp ed
    have edrop : l.drop i = d :: l.drop (i + 1) := by rw [← ed']; exact List.drop_eq_getElem_cons hil
    rw [edrop] at hq2
    obtain ⟨go, yl⟩ := it i d ed
    refine .inr ⟨go, fun σ' H' => ∃ c3 γ3, c3.H = H' ∧ PExt X.K c1 c3 ∧ Rel X.K f f.S c3 σ' γ3 ∧ SPost X.K X.mg W f c3 T (forL k h (l.drop (i + 1)) γ3), fun σ' H' ⟨c3, γ3, e3, px3, R3, hq3⟩ => ⟨m - 1, by omega, c3, γ3, e3, by omega, px3, R3, hq3⟩, fun x H' hy => ?_⟩
    obtain ⟨c3, rfl, x3, w3, hd⟩ := yl x H' hy
    have R3 := R2.step x3 w3
    have hq3 := SPost.pre (x3.p R2.wf) hq2
    unfold forL at hq3
    cases ek : k d γ2 with
    | none => rw [ek] at hq3; exact hq3.elim
    | some γ3 =>
      rw [ek] at hq3
      refine s2.run f f.S c3 σ2 γ2 γ3 d x _ R3 hd ek fun σ4 R4 _ _ _ => ?_
      refine s3 f c3 σ4 γ3 _ R4 ?_
      simp only at hq3
      cases eh : h γ3 with
      | nx γ4 => rw [eh] at hq3; exact fun σ5 c5 x5 R5 => ⟨c5, γ4, rfl, (px.trans (x3.p R2.wf)).trans x5, R5, SPost.pre x5 hq3⟩
      | ct γ4 => rw [eh] at hq3; exact fun σ5 c5 x5 R5 => ⟨c5, γ4, rfl, (px.trans (x3.p R2.wf)).trans x5, R5, SPost.pre x5 hq3⟩
      | bk γ4 => rw [eh] at hq3; exact hq3
      | rt d g => rw [eh] at hq3; exact hq3
      | ex n fs g => rw [eh] at hq3; exact hq3
      | no => rw [eh] at hq3; exact hq3.elim
theorem ms_while (n : Nat) (hp : PassesOwn (model X.prog X.w) X.A X.env X.xe) (ht : MT X W e tc) (hb : MSs X W body h) : MS X W (.While e body [] pos) (whileN tc h n) := by
  obtain ⟨t0, p1, s1⟩ := ht
  obtain ⟨tb, p3, s3⟩ := hb
  refine ⟨_, ps_while hp p1 p3, fun f c σ γ T R hq => ⟨fun m σ H => ∃ c2 γ2, c2.H = H ∧ Rel X.K f f.S c2 σ γ2 ∧ SPost X.K X.mg W f c2 T (whileN tc h m γ2), ⟨n, c, γ, rfl, R, hq⟩, ?_⟩⟩
  rintro m σ2 H ⟨c2, γ2, rfl, R2, hq2⟩
  cases m with
  | zero => exact hq2.elim
  | succ m =>
    rw [whileN_succ] at hq2
    refine s1.out R2 hq2 fun b γ3 v c3 _ x3 R3 _ q3 hq3 => ?_
    cases (show b = v from q3)
    cases b with
    | false => rw [if_neg Bool.false_ne_true]; exact hq3 σ2 c3 .refl R3
    | true =>
      rw [if_pos rfl]
      refine ⟨fun σ' H' => ∃ c4 γ4, c4.H = H' ∧ Rel X.K f f.S c4 σ' γ4 ∧ SPost X.K X.mg W f c4 T (whileN tc h m γ4), fun σ' H' ⟨c4, γ4, e4, R4, q4⟩ => ⟨m, Nat.lt_succ_self m, c4, γ4, e4, R4, q4⟩, ?_⟩
      refine s3 f c3 σ2 γ3 _ R3 ?_
      rw [if_pos rfl] at hq3
      cases eh : h γ3 with
      | nx γ4 => rw [eh] at hq3; exact fun σ5 c5 x5 R5 => ⟨c5, γ4, rfl, R5, SPost.pre x5 hq3⟩
      | ct γ4 => rw [eh] at hq3; exact fun σ5 c5 x5 R5 => ⟨c5, γ4, rfl, R5, SPost.pre x5 hq3⟩
      | bk γ4 => rw [eh] at hq3; exact hq3
      | rt d g => rw [eh] at hq3; exact hq3
      | ex n fs g => rw [eh] at hq3; exact hq3
      | no => rw [eh] at hq3; exact hq3.elim
end

/-! a list of a slot is written -/
def SV.put : SV → List D → SV
  | .ow _, l => .ow l
  | .bo _, l => .bo l
  | s, _ => s
theorem Rel.updO {K : PySem.W.Frag} {f : Fx} {S : Addr → Prop} {c : Cf} {σ : St} {γ : Gm} (R : Rel K f S c σ γ) {j : Nat} {s : SV} {p : Addr} {l : List D} {vs : List V} (e : γ[j]? = some s) (o : s.own = true) (hp : σ[j]? = some (some (.ref p))) (hd : Dens K c l vs) :
    Ext S c ⟨c.M, upd c.H p (.lst vs)⟩ ∧ Rel K f S ⟨c.M, upd c.H p (.lst vs)⟩ σ (γ.set j (s.put l)) ∧ Kx γ (γ.set j (s.put l)) := by
  obtain ⟨a, l0, h1, hS, ⟨hM, vs0, h2, _⟩, h4⟩ := R.ownA e o
  rw [hp] at h1
  cases h1
  have x1 : Ext (fun a => a = p) c ⟨c.M, upd c.H p (.lst vs)⟩ := ⟨fun _ z => z, fun _ z => .inl z, fun b u q n => by
    show upd c.H p _ b = some u
    rw [upd_ne (fun z => n ⟨by rw [z]; exact hM, z⟩)]; exact q⟩
  have w1 : WF ⟨c.M, upd c.H p (.lst vs)⟩ := fun b m => by
    by_cases hb : b = p
    · exact ⟨vs, by rw [hb]; exact upd_same⟩
    · obtain ⟨xs, q⟩ := R.wf b m
      exact ⟨xs, by
        show upd c.H p _ b = _
        rw [upd_ne hb]; exact q⟩
  have hj : j < γ.length := (List.getElem?_eq_some_iff.mp e).1
  have so : (s.put l).own = true := by cases s <;> first | rfl | cases o
  have ex0 : Ext f.B f.c0 ⟨c.M, upd c.H p (.lst vs)⟩ := R.ext.thru R.wf0 R.wf x1 fun b _ q => by
    have eb : b = p := q
    rw [eb]
    exact h4.elim (fun z => .inl z.2) fun z => .inr z.2.2.2
  have here : Own K ⟨c.M, upd c.H p (.lst vs)⟩ p l := ⟨hM, vs, upd_same, Dens.ext R.wf x1 hd⟩
  have stay : ∀ {i : Nat} {t : SV} {b : Addr} {m : List D}, i ≠ j → γ[i]? = some t → t.own = true → σ[i]? = some (some (.ref b)) → Own K c b m → Own K ⟨c.M, upd c.H p (.lst vs)⟩ b m := fun {i t b m} hi et ot eb h =>
    h.step R.wf x1 fun z => by
      have z' : b = p := z
      rw [z'] at eb
      exact R.ne i j t s p hi et e ot o eb hp
  refine ⟨x1.mono fun b _ q => by rw [show b = p from q]; exact hS, ⟨R.wf0, w1, ex0, by rw [List.length_set]; exact R.len, fun i d q => ?_, fun i m q => ?_, fun i m q => ?_, fun i i' t t' b hii q q' o1 o2 q3 => ?_⟩, fun i q => ?_, fun i d q => ?_⟩
  · by_cases hi : i = j
    · subst hi
      rw [List.getElem?_set_self hj] at q
      rw [Option.some.inj q] at so
      cases so
    · rw [List.getElem?_set_ne (Ne.symm hi)] at q
      obtain ⟨v, h5, h6⟩ := R.pu i d q
      exact ⟨v, h5, Den.ext R.wf x1 h6⟩
  · by_cases hi : i = j
    · subst hi
      rw [List.getElem?_set_self hj] at q
      rcases h4 with ⟨z, z2⟩ | ⟨z, _⟩
      · rw [z] at q
        cases q
        exact ⟨p, hp, z2, hS, here⟩
      · rw [z] at q; cases q
    · rw [List.getElem?_set_ne (Ne.symm hi)] at q
      obtain ⟨b, h5, h6, h7, h8⟩ := R.ow i m q
      exact ⟨b, h5, h6, h7, stay hi q rfl h5 h8⟩
  · by_cases hi : i = j
    · subst hi
      rw [List.getElem?_set_self hj] at q
      rcases h4 with ⟨z, _⟩ | ⟨z, z2, z3, z4⟩
      · rw [z] at q; cases q
      · rw [z] at q
        cases q
        subst z2
        exact ⟨hp, z3, z4, hS, here⟩
    · rw [List.getElem?_set_ne (Ne.symm hi)] at q
      obtain ⟨h5, h6, h7, h8, h9⟩ := R.bo i m q
      exact ⟨h5, h6, h7, h8, stay hi q rfl h5 h9⟩
  · have back : ∀ {i : Nat} {t : SV}, (γ.set j (s.put l))[i]? = some t → t.own = true → ∃ t0, γ[i]? = some t0 ∧ t0.own = true := fun {i t} q ot => by
      by_cases hi : i = j
      · subst hi; exact ⟨s, e, o⟩
      · rw [List.getElem?_set_ne (Ne.symm hi)] at q; exact ⟨t, q, ot⟩
    obtain ⟨t0, f1, f2⟩ := back q o1
    obtain ⟨t1, f3, f4⟩ := back q' o2
    exact R.ne i i' t0 t1 b hii f1 f3 f2 f4 q3
  · by_cases hi : i = j
    · subst hi
      unfold ownAt; rw [e]; exact o
    · obtain ⟨t, f1, f2⟩ := ownAt_some q
      rw [List.getElem?_set_ne (Ne.symm hi)] at f1
      unfold ownAt; rw [f1]; exact f2
  · by_cases hi : i = j
    · subst hi
      rw [List.getElem?_set_self hj] at q
      rw [Option.some.inj q] at so
      cases so
    · rw [List.getElem?_set_ne (Ne.symm hi)] at q
      exact q
def putO (j : Nat) (h : List D → Option (List D)) (γ : Gm) : Option Gm := match γ[j]? with
  | some (.ow l) => (h l).map fun m => γ.set j (.ow m)
  | some (.bo l) => (h l).map fun m => γ.set j (.bo m)
  | _ => none
theorem putO_some {j : Nat} {h : List D → Option (List D)} {γ γ' : Gm} (e : putO j h γ = some γ') : ∃ s l m, γ[j]? = some s ∧ s.own = true ∧ (s = .ow l ∨ s = .bo l) ∧ h l = some m ∧ γ' = γ.set j (s.put m) := by
  unfold putO at e
  split at e
  · rename_i l q
    obtain ⟨m, e1, e2⟩ := map_some e
    exact ⟨_, l, m, q, rfl, .inl rfl, e1, e2.symm⟩
  · rename_i l q
    obtain ⟨m, e1, e2⟩ := map_some e
    exact ⟨_, l, m, q, rfl, .inr rfl, e1, e2.symm⟩
  · cases e
section
variable {X : Cx} {W : WX} {pos p p1 p2 : Pos} {a b e : Expr} {ga gb : Gm → Rs D} {x : Str} {j : Nat}
/-- x.append(e) -/
def gApp (j : Nat) (ga : Gm → Rs D) : Gm → Rs D := fun γ => (gOwn j γ).bind fun _ γ0 => (ga γ0).bind fun d γ1 => match putO j (fun l => if l.length < sizeLine then some (l ++ [d]) else none) γ1 with
  | some γ2 => .ok .non γ2
  | none => .no
theorem own_ty {K : PySem.W.Frag} {H : Hp} {q : Addr} {vs : List V} (h : H q = some (.lst vs)) : tyV K "list" (.ref q) H := .inl ⟨rfl, vs, SqL.of h⟩
theorem mp_app (ho : PE X (.Name x p) (tVar j)) (ha : MP X W e ga) (hbase : attributeBase (.Name x p) "append" X.env (eval (.Name x p) X.env) = eval (.Name x p) X.env := by rfl)
    (hfew : ((backTo p2 (starEach [e] X.env)).all (fun x => !x.1) && (backToKw p2 (keywordEach [] X.env)).all (fun x => x.1.isSome) && decide ([e].length + ([] : List Keyword).length + (if ([] : List Keyword).isEmpty then 0 else 1) < 30)) = true := by rfl)
    (hline : (p1.endLine == p2.line) = true := by rfl) (hs : starEach [e] X.env = (false, eval e X.env) :: starEach [] X.env := by rfl) (hpl : (backTo p2 (starEach [] X.env)).any (·.1) = false := by rfl) :
    MP X W (.Call (.Attribute (.Name x p) "append" p1) [e] [] p2) (gApp j ga) := by
  obtain ⟨ta, h1, s1⟩ := ha
  refine ⟨_, pe_bm PySem.F.plainAttrs_list PySem.F.slot_list_append PySem.F.type_list_append mt_append ho (pa_cons h1 pa_nil hs) hbase hfew hline hs hpl, fun f S c σ γ Q R hp => ?_⟩
  replace hp : Post X.K X.mg (vP X.K) W f S c σ γ Q (gApp j ga γ) := hp
  unfold gApp at hp
  rcases gOwn_cases j γ with e0 | ⟨l0, e0⟩
  · rw [e0] at hp; exact hp.elim
  · rw [e0] at hp
    obtain ⟨s, l, e1, _, _, _, e2⟩ := gOwn_ok e0
    obtain ⟨q, f1, _, vs0, f2, _⟩ := R.ownL e1 e2
    refine ⟨.ref q, f1, own_ty f2, s1.bind stab_vP R hp fun d γ1 v c1 _ x1 R1 k1 q1 h3 => ?_⟩
    cases ep : putO j (fun l => if l.length < sizeLine then some (l ++ [d]) else none) γ1 with
    | none => rw [ep] at h3; exact h3.elim
    | some γ2 =>
      rw [ep] at h3
      obtain ⟨s', l', m, g1, g2, g3, g4, rfl⟩ := putO_some ep
      obtain ⟨q', f3, _, vs, f4, f5⟩ := R1.ownL g1 g3
      rw [f1] at f3
      cases f3
      obtain ⟨hz, rfl⟩ := ite_of g4
      obtain ⟨y1, y2, y3⟩ := R1.updO g1 g2 f1 (Dens.app f5 (Dens.cons q1 Dens.nil))
      exact ⟨q, vs, v, rfl, rfl, f4, by rw [f5.length]; exact hz, h3 .non _ y1 y2 y3 rfl⟩
/-- x[i] = e -/
def hPut (j : Nat) (ga gb : Gm → Rs D) : Gm → Out := fun γ => (ga γ).out fun d γ1 => (gOwn j γ1).out fun _ γ2 => (gb γ2).out fun i γ3 => match i with
  | .int k => match putO j (fun l => (ixN l.length k).map fun n => l.set n d) γ3 with
    | some γ4 => .nx γ4
    | none => .no
  | _ => .no
theorem ms_put (ho : PE X (.Name x p) (tVar j)) (hb : MP X W b gb) (ha : MP X W e ga)
    (hsa : ∀ v, assign (.Subscript (.Name x p) b p1) X.env v = (do
      let ov ← holding [v] (eval (.Name x p) X.env)
      let iv ← holding [v, ov] (eval b X.env)
      standAt p1
      holding [v, ov, iv] (setItem ov iv v)
      release [v, ov, iv] []) := by intro _; rfl)
    (hs : swapsWithSole [.Subscript (.Name x p) b p1] e pos.line X.env = pure false := by rfl) (hw : swappedStores [.Subscript (.Name x p) b p1] e X.env = pure none := by rfl)
    (h1 : (assignEach [.Subscript (.Name x p) b p1] X.env).map (·.2) = [assign (.Subscript (.Name x p) b p1) X.env] := by rfl) : MS X W (.Assign [.Subscript (.Name x p) b p1] e pos) (hPut j ga gb) := by
  obtain ⟨ta, t1, s1⟩ := ha
  obtain ⟨tb, t2, s2⟩ := hb
  refine ⟨_, ps_asg t1 (pg_sub ho t2 set_list hsa) hs hw h1, fun f c σ γ T R hp => s1.out R hp fun d γ1 v c1 _ x1 R1 k1 q1 h3 => ?_⟩
  rcases gOwn_cases j γ1 with e0 | ⟨l0, e0⟩
  · rw [e0] at h3; exact h3.elim
  · rw [e0] at h3
    obtain ⟨s, l, e1, _, _, _, e2⟩ := gOwn_ok e0
    obtain ⟨q, f1, _⟩ := R1.ownL e1 e2
    refine ⟨.ref q, f1, s2.out R1 h3 fun i γ3 w c3 _ x3 R3 k3 q3 h4 => ?_⟩
    cases i with
    | int k =>
      cases (show w = .int k from q3)
      simp only at h4
      cases ep : putO j (fun l => (ixN l.length k).map fun n => l.set n d) γ3 with
      | none => rw [ep] at h4; exact h4.elim
      | some γ4 =>
        rw [ep] at h4
        obtain ⟨s', l', m, g1, g2, g3, g4, rfl⟩ := putO_some ep
        obtain ⟨q', f3, _, vs, f4, f5⟩ := R3.ownL g1 g3
        rw [f1] at f3
        cases f3
        obtain ⟨n, g5, rfl⟩ := map_some g4
        obtain ⟨y1, y2, y3⟩ := R3.updO g1 g2 f1 (Dens.set (Den.ext R1.wf x3 q1) n f5)
        exact ⟨q, vs, k, n, rfl, rfl, f4, by rw [f5.length]; exact g5, h4 σ _ (y1.p R3.wf) y2⟩
    | _ => exact h4.elim
end
end Fv

set_option maxRecDepth 100000
namespace Fv
open PySem L2

/-! list comprehensions -/
def wipeG (γ : Gm) : List Nat → Gm
  | [] => γ
  | v :: vs => (wipeG γ vs).set v .un
def restG (γ1 γ : Gm) : List Nat → Gm
  | [] => γ
  | v :: vs => (restG γ1 γ vs).set v (γ1.getD v .un)
def lcL (k : Kt) (gt : Gm → Rs Bool) (ge : Gm → Rs D) (vs : List Nat) : List D → Gm → Rs (List D)
  | [], γ => .ok [] γ
  | d :: l, γ => match k d γ with
    | none => .no
    | some γ1 => (gt γ1).bind fun b γ2 => if b then (ge γ2).bind fun y γ3 => (lcL k gt ge vs l (wipeG γ3 vs)).bind fun ys γ4 => .ok (y :: ys) γ4 else lcL k gt ge vs l (wipeG γ2 vs)
def gLc (gs : Gm → Rs (List D)) (k : Kt) (gt : Gm → Rs Bool) (ge : Gm → Rs D) (vs : List Nat) : Gm → Rs (List D) := fun γ => (gs γ).bind fun l γ1 =>
  if l.length ≤ sizeLine ∧ vs.all (fun i => !ownAt γ1 i) = true then match lcL k gt ge vs l (wipeG γ1 vs) with
    | .ok ys γ2 => .ok ys (restG γ1 γ2 vs)
    | _ => .no
  else .no
abbrev Wn : WX := fun _ _ _ _ => False
theorem wipeG_len (γ : Gm) : ∀ vs : List Nat, (wipeG γ vs).length = γ.length
  | [] => rfl
  | v :: vs => by unfold wipeG; rw [List.length_set, wipeG_len γ vs]
theorem wipe_ne {σ : St} {j : Nat} : ∀ {vs : List Nat}, j ∉ vs → (wipe σ vs)[j]? = σ[j]?
  | [], _ => rfl
  | v :: vs, h => by
    unfold wipe
    rw [List.getElem?_set_ne (fun z => h (by simp [z]))]
    exact wipe_ne fun z => h (List.mem_cons_of_mem _ z)
theorem wipeG_ne {γ : Gm} {j : Nat} : ∀ {vs : List Nat}, j ∉ vs → (wipeG γ vs)[j]? = γ[j]?
  | [], _ => rfl
  | v :: vs, h => by
    unfold wipeG
    rw [List.getElem?_set_ne (fun z => h (by simp [z]))]
    exact wipeG_ne fun z => h (List.mem_cons_of_mem _ z)
theorem wipe_in {σ : St} {j : Nat} (hj : j < σ.length) : ∀ {vs : List Nat}, j ∈ vs → (wipe σ vs)[j]? = some none
  | v :: vs, h => by
    unfold wipe
    by_cases e : v = j
    · subst e
      rw [List.getElem?_set_self (by rw [wipe_length]; exact hj)]
    · rw [List.getElem?_set_ne e]
      exact wipe_in hj ((List.mem_cons.mp h).elim (fun z => (e z.symm).elim) id)
theorem wipeG_in {γ : Gm} {j : Nat} (hj : j < γ.length) : ∀ {vs : List Nat}, j ∈ vs → (wipeG γ vs)[j]? = some .un
  | v :: vs, h => by
    unfold wipeG
    by_cases e : v = j
    · subst e
      rw [List.getElem?_set_self (by rw [wipeG_len]; exact hj)]
    · rw [List.getElem?_set_ne e]
      exact wipeG_in hj ((List.mem_cons.mp h).elim (fun z => (e z.symm).elim) id)
theorem wipe_same {σ σ' : St} {vs : List Nat} (hl : σ'.length = σ.length) (h : ∀ j : Nat, j ∉ vs → σ'[j]? = σ[j]?) : wipe σ' vs = wipe σ vs := by
  refine List.ext_getElem? fun j => ?_
  by_cases hj : j ∈ vs
  · by_cases hz : j < σ.length
    · rw [wipe_in hz hj, wipe_in (by rw [hl]; exact hz) hj]
    · rw [List.getElem?_eq_none (by rw [wipe_length, hl]; omega), List.getElem?_eq_none (by rw [wipe_length]; omega)]
  · rw [wipe_ne hj, wipe_ne hj]; exact h j hj
theorem wipe_wipe {σ : St} {vs : List Nat} : wipe (wipe σ vs) vs = wipe σ vs := wipe_same (wipe_length _ _) fun j hj => wipe_ne hj
theorem wipeG_slot {γ : Gm} {vs : List Nat} {j : Nat} {s : SV} (e : (wipeG γ vs)[j]? = some s) : s = .un ∨ (j ∉ vs ∧ γ[j]? = some s) := by
  by_cases hj : j ∈ vs
  · have hz : j < γ.length := by
      have := (List.getElem?_eq_some_iff.mp e).1
      rw [wipeG_len] at this; exact this
    rw [wipeG_in hz hj] at e
    exact .inl (Option.some.inj e).symm
  · rw [wipeG_ne hj] at e
    exact .inr ⟨hj, e⟩
theorem Rel.wipe {K : PySem.W.Frag} {f : Fx} {S : Addr → Prop} {c : Cf} {σ : St} {γ : Gm} (R : Rel K f S c σ γ) (vs : List Nat) : Rel K f S c (wipe σ vs) (wipeG γ vs) := by
  refine ⟨R.wf0, R.wf, R.ext, by rw [wipe_length, wipeG_len, R.len], fun i d e => ?_, fun i l e => ?_, fun i l e => ?_, fun i j s t a hij e1 e2 o1 o2 e3 => ?_⟩
  · rcases wipeG_slot e with z | ⟨h, z⟩
    · cases z
    · rw [wipe_ne h]; exact R.pu i d z
  · rcases wipeG_slot e with z | ⟨h, z⟩
    · cases z
    · rw [wipe_ne h]; exact R.ow i l z
  · rcases wipeG_slot e with z | ⟨h, z⟩
    · cases z
    · rw [wipe_ne h]; exact R.bo i l z
  · rcases wipeG_slot e1 with z | ⟨h, z⟩
    · rw [z] at o1; cases o1
    · rcases wipeG_slot e2 with z' | ⟨h', z'⟩
      · rw [z'] at o2; cases o2
      · rw [wipe_ne h] at e3
        rw [wipe_ne h']
        exact R.ne i j s t a hij z z' o1 o2 e3
theorem Kd.wipe {γ : Gm} {vs : List Nat} : Kd γ (wipeG γ vs) := fun i h => by
  obtain ⟨s, e, o⟩ := ownAt_some h
  rcases wipeG_slot e with z | ⟨_, z⟩
  · rw [z] at o; cases o
  · unfold ownAt; rw [z]; exact o
/-- fewer lists may be written -/
theorem Rel.lessS {K : PySem.W.Frag} {f : Fx} {S S' : Addr → Prop} {c : Cf} {σ : St} {γ : Gm} (R : Rel K f S c σ γ) (h : ∀ (i : Nat) (s : SV) (a : Addr), γ[i]? = some s → s.own = true → σ[i]? = some (some (V.ref a)) → S a → S' a) : Rel K f S' c σ γ :=
  ⟨R.wf0, R.wf, R.ext, R.len, R.pu, fun i l e => by
    obtain ⟨a, h1, h2, h3, h4⟩ := R.ow i l e
    exact ⟨a, h1, h2, h i _ a e rfl h1 h3, h4⟩, fun i l e => by
    obtain ⟨h1, h2, h3, h4, h5⟩ := R.bo i l e
    exact ⟨h1, h2, h3, h i _ _ e rfl h1 h4, h5⟩, R.ne⟩
/-- a list that is in no slot is written -/
theorem Rel.touch {K : PySem.W.Frag} {f : Fx} {S : Addr → Prop} {c : Cf} {σ : St} {γ : Gm} {p : Addr} {vs : List V} (R : Rel K f S c σ γ) (hS : ¬ S p) (h0 : f.c0.H p = none) (hM : c.M p) :
    Ext (fun a => a = p) c ⟨c.M, upd c.H p (.lst vs)⟩ ∧ Rel K f S ⟨c.M, upd c.H p (.lst vs)⟩ σ γ := by
  have x1 : Ext (fun a => a = p) c ⟨c.M, upd c.H p (.lst vs)⟩ := ⟨fun _ z => z, fun _ z => .inl z, fun b u q n => by
    show upd c.H p _ b = some u
    rw [upd_ne (fun z => n ⟨by rw [z]; exact hM, z⟩)]; exact q⟩
  have w1 : WF ⟨c.M, upd c.H p (.lst vs)⟩ := fun b m => by
    by_cases hb : b = p
    · exact ⟨vs, by rw [hb]; exact upd_same⟩
    · obtain ⟨xs, q⟩ := R.wf b m
      exact ⟨xs, by
        show upd c.H p _ b = _
        rw [upd_ne hb]; exact q⟩
  refine ⟨x1, R.wf0, w1, R.ext.thru R.wf0 R.wf x1 fun b _ q => ?_, R.len, fun i d e => ?_, fun i l e => ?_, fun i l e => ?_, R.ne⟩
  · rw [show b = p from q]; exact .inl h0
  · obtain ⟨v, h1, h2⟩ := R.pu i d e
    exact ⟨v, h1, Den.ext R.wf x1 h2⟩
  · obtain ⟨a, h1, h2, h3, h4⟩ := R.ow i l e
    exact ⟨a, h1, h2, h3, h4.step R.wf x1 fun z => hS (by rw [← show a = p from z]; exact h3)⟩
  · obtain ⟨h1, h2, h3, h4, h5⟩ := R.bo i l e
    exact ⟨h1, h2, h3, h4, h5.step R.wf x1 fun z => hS (by rw [← show f.rho i = p from z]; exact h4)⟩
theorem restG_ne {γ1 γ : Gm} {j : Nat} : ∀ {vs : List Nat}, j ∉ vs → (restG γ1 γ vs)[j]? = γ[j]?
  | [], _ => rfl
  | v :: vs, h => by
    unfold restG
    rw [List.getElem?_set_ne (fun z => h (by simp [z]))]
    exact restG_ne fun z => h (List.mem_cons_of_mem _ z)
theorem restG_len (γ1 γ : Gm) : ∀ vs : List Nat, (restG γ1 γ vs).length = γ.length
  | [] => rfl
  | v :: vs => by unfold restG; rw [List.length_set, restG_len γ1 γ vs]
theorem restG_in {γ1 γ : Gm} {j : Nat} (hj : j < γ.length) : ∀ {vs : List Nat}, j ∈ vs → (restG γ1 γ vs)[j]? = some (γ1.getD j .un)
  | v :: vs, h => by
    unfold restG
    by_cases e : v = j
    · subst e
      rw [List.getElem?_set_self (by rw [restG_len]; exact hj)]
    · rw [List.getElem?_set_ne e]
      exact restG_in hj ((List.mem_cons.mp h).elim (fun z => (e z.symm).elim) id)
/-- behind the block -/
theorem Rel.rest {K : PySem.W.Frag} {f : Fx} {S S' : Addr → Prop} {c1 c : Cf} {σ : St} {γ1 γ : Gm} {vs : List Nat} (R1 : Rel K f S c1 σ γ1) (no : vs.all (fun i => !ownAt γ1 i) = true) (px : PExt K c1 c) (R : Rel K f S' c (L2.wipe σ vs) γ) (hS : ∀ a, S' a → S a) : Rel K f S c σ (restG γ1 γ vs) := by
  have hl : γ.length = γ1.length := by rw [← R.len, wipe_length, R1.len]
  have slot : ∀ {i : Nat} {s : SV}, (restG γ1 γ vs)[i]? = some s → (i ∉ vs ∧ γ[i]? = some s) ∨ (i ∈ vs ∧ γ1[i]? = some s ∧ s.own = false) := fun {i s} e => by
    by_cases hi : i ∈ vs
    · have hz : i < γ.length := by
        have := (List.getElem?_eq_some_iff.mp e).1
        rw [restG_len] at this; exact this
      rw [restG_in hz hi] at e
      have e1 : γ1[i]? = some s := by
        have h1 : γ1[i]? = some γ1[i] := List.getElem?_eq_getElem (by omega)
        have h2 : γ1.getD i .un = γ1[i] := by rw [List.getD_eq_getElem?_getD, h1]; rfl
        rw [h2] at e
        rw [h1]; exact e
      refine .inr ⟨hi, e1, ?_⟩
      have h3 := List.all_eq_true.mp no i hi
      unfold ownAt at h3
      rw [e1] at h3
      simpa using h3
    · rw [restG_ne hi] at e
      exact .inl ⟨hi, e⟩
  refine ⟨R.wf0, R.wf, R.ext, by rw [restG_len, hl, R1.len], fun i d e => ?_, fun i l e => ?_, fun i l e => ?_, fun i j s t a hij e1 e2 o1 o2 e3 => ?_⟩
  · rcases slot e with ⟨h, z⟩ | ⟨h, z, _⟩
    · have := R.pu i d z
      rw [wipe_ne h] at this; exact this
    · obtain ⟨v, h1, h2⟩ := R1.pu i d z
      exact ⟨v, h1, px _ _ h2⟩
  · rcases slot e with ⟨h, z⟩ | ⟨_, _, z⟩
    · obtain ⟨a, h1, h2, h3, h4⟩ := R.ow i l z
      rw [wipe_ne h] at h1
      exact ⟨a, h1, h2, hS a h3, h4⟩
    · cases z
  · rcases slot e with ⟨h, z⟩ | ⟨_, _, z⟩
    · obtain ⟨h1, h2, h3, h4, h5⟩ := R.bo i l z
      rw [wipe_ne h] at h1
      exact ⟨h1, h2, h3, hS _ h4, h5⟩
    · cases z
  · rcases slot e1 with ⟨h, z⟩ | ⟨_, _, z⟩
    · rcases slot e2 with ⟨h', z'⟩ | ⟨_, _, z'⟩
      · have e4 : (L2.wipe σ vs)[i]? = some (some (.ref a)) := by rw [wipe_ne h]; exact e3
        have := R.ne i j s t a hij z z' o1 o2 e4
        rw [wipe_ne h'] at this; exact this
      · rw [z'] at o2; cases o2
    · rw [z] at o1; cases o1
/-- within a block: the slots outside vs keep their kinds and data -/
structure Kw (vs : List Nat) (γ g : Gm) : Prop where
  own : Kd γ g
  pu : ∀ (i : Nat) (d : D), i ∉ vs → g[i]? = some (SV.pu d) → γ[i]? = some (SV.pu d)
theorem Kw.trans {vs : List Nat} {a b c : Gm} (x : Kw vs a b) (y : Kw vs b c) : Kw vs a c := ⟨x.own.trans y.own, fun i d h z => x.pu i d h (y.pu i d h z)⟩
theorem Kx.w {vs : List Nat} {a b : Gm} (x : Kx a b) : Kw vs a b := ⟨x.own, fun i d _ z => x.pu i d z⟩
theorem Kw.wipe {vs : List Nat} {γ : Gm} : Kw vs γ (wipeG γ vs) := ⟨Kd.wipe, fun i d h z => by rw [wipeG_ne h] at z; exact z⟩
theorem sim_lc {X : Cx} {W : WX} {wi : TI} {g : TG} {tt : TT} {te : TE} {gs : Gm → Rs (List D)} {k : Kt} {gt : Gm → Rs Bool} {ge : Gm → Rs D} {ts vs : List Nat} (si : Sim X W (vI X.K) wi gs) (tg : TgOk X.K ts g k) (hts : ∀ j ∈ ts, j ∈ vs) (st : Sim X Wn vT tt gt) (se : Sim X Wn (vP X.K) te ge) :
    Sim X W (vF X.K) (tLc wi g tt te vs) (gLc gs k gt ge vs) := by
  intro f S c σ γ Q R hp
  refine si.bind stab_vF R hp fun l γ1 J c1 _ x1 R1 k1 q1 h1 => fun p n => ?_
  by_cases hno : l.length ≤ sizeLine ∧ vs.all (fun i => !ownAt γ1 i) = true
  · rw [if_pos hno] at h1
    obtain ⟨hz, hno⟩ := hno
    cases eT : lcL k gt ge vs l (wipeG γ1 vs) with
    | no => rw [eT] at h1; exact h1.elim
    | ex _ _ _ => rw [eT] at h1; exact h1.elim
    | ok yT γE =>
      rw [eT] at h1
      have h0 : f.c0.H p = none := R1.ext.noneS R1.wf n
      have RD : Rel X.K f (fun a => S a ∧ a ≠ p) (c1.add p []) (wipe σ vs) (wipeG γ1 vs) := by
        refine ((R1.wipe vs).step (Ext.add n) (R1.wf.add n)).lessS fun i s a e o ea hs => ⟨hs, fun z => ?_⟩
        obtain ⟨a', l', z1, _, ⟨_, vs', z2, _⟩, _⟩ := (R1.wipe vs).ownA e o
        rw [ea] at z1
        cases z1
        rw [z, n] at z2; cases z2
      have pD : PExt X.K c1 (c1.add p []) := (Ext.add (vs := []) n).p R1.wf
      refine ⟨fun i m H => ∃ c2 γ2 acc ys zs, c2.H = H ∧ m + i = l.length ∧ Ext (fun a => S a ∨ a = p) (c1.add p []) c2 ∧ PExt X.K c1 c2 ∧ Rel X.K f (fun a => S a ∧ a ≠ p) c2 (wipe σ vs) γ2 ∧ Kw vs γ1 γ2 ∧ c2.M p ∧ c2.H p = some (.lst acc) ∧ acc.length ≤ i ∧ Dens X.K c2 ys acc ∧
          lcL k gt ge vs (l.drop i) γ2 = .ok zs γE ∧ ys ++ zs = yT, ⟨l.length, c1.add p [], wipeG γ1 vs, [], [], yT, rfl, rfl, .refl, pD, RD, .wipe, .inr rfl, upd_same, Nat.le_refl _, Dens.nil, eT, rfl⟩, ?_⟩
      rintro i m H ⟨c2, γ2, acc, ys, zs, rfl, em, xD, p2, R2, kd2, hM, hA, hAi, hD, eL, eY⟩
      obtain ⟨it, stop⟩ := q1 c2 R2.wf p2
      cases ed : l[i]? with
      | none =>
        have hi : l.length ≤ i := List.getElem?_eq_none_iff.mp ed
        have ei : i = l.length := by omega
        rw [List.drop_eq_nil_of_le hi] at eL
        cases eL
        rw [List.append_nil] at eY
        subst eY
        rw [ei]
        refine .inl ⟨stop, h1 (.ref p) c2 ?_ (R1.rest hno p2 R2 fun a z => z.1) ⟨fun j hj => ?_, fun j d e => ?_⟩ ⟨p, rfl, n, hM, acc, hA, hD⟩⟩
        · refine ⟨fun a z => xD.m1 a (.inl z), fun a z => ?_, fun a o e ne => ?_⟩
          · rcases xD.m2 a z with (q | q) | q
            · exact .inl q
            · rw [q]; exact .inr n
            · exact .inr ((Ext.add (vs := []) n : Ext Nop c1 _).noneS (R1.wf.add n) q)
          · have ap : a ≠ p := ne_of_none e n
            refine xD.h a o (by show upd c1.H p _ a = some o; rw [upd_ne ap]; exact e) fun z => ?_
            rcases z.2 with z2 | z2
            · rcases z.1 with z1 | z1
              · exact ne ⟨z1, z2⟩
              · exact ap z1
            · exact ap z2
        · obtain ⟨s, e, o⟩ := ownAt_some hj
          by_cases hv : j ∈ vs
          · have hz : j < γE.length := by
              have := (List.getElem?_eq_some_iff.mp e).1
              rw [restG_len] at this; exact this
            rw [restG_in hz hv] at e
            have hl : j < γ1.length := by rw [← R1.len, ← wipe_length σ vs, R2.len]; exact hz
            have h2 : γ1.getD j .un = γ1[j] := by rw [List.getD_eq_getElem?_getD, List.getElem?_eq_getElem hl]; rfl
            rw [h2] at e
            unfold ownAt
            rw [List.getElem?_eq_getElem hl, Option.some.inj e]; exact o
          · rw [restG_ne hv] at e
            exact kd2.own j (by unfold ownAt; rw [e]; exact o)
        · by_cases hv : j ∈ vs
          · have hz : j < γE.length := by
              have := (List.getElem?_eq_some_iff.mp e).1
              rw [restG_len] at this; exact this
            rw [restG_in hz hv] at e
            have hl : j < γ1.length := by rw [← R1.len, ← wipe_length σ vs, R2.len]; exact hz
            have h2 : γ1.getD j .un = γ1[j] := by rw [List.getD_eq_getElem?_getD, List.getElem?_eq_getElem hl]; rfl
            rw [h2] at e
            rw [List.getElem?_eq_getElem hl]; exact e
          · rw [restG_ne hv] at e
            exact kd2.pu j d hv e
      | some d =>
        obtain ⟨hil, ed'⟩ := List.getElem?_eq_some_iff.mp ed
        have edrop : l.drop i = d :: l.drop (i + 1) := by rw [← ed']; exact List.drop_eq_getElem_cons hil
        rw [edrop] at eL
        unfold lcL at eL
        obtain ⟨go, yl⟩ := it i d ed
        refine .inr ⟨go, fun H' => ∃ c2 γ2 acc ys zs, c2.H = H' ∧ Ext (fun a => S a ∨ a = p) (c1.add p []) c2 ∧ PExt X.K c1 c2 ∧ Rel X.K f (fun a => S a ∧ a ≠ p) c2 (wipe σ vs) γ2 ∧ Kw vs γ1 γ2 ∧ c2.M p ∧ c2.H p = some (.lst acc) ∧ acc.length ≤ i + 1 ∧ Dens X.K c2 ys acc ∧
          lcL k gt ge vs (l.drop (i + 1)) γ2 = .ok zs γE ∧ ys ++ zs = yT, fun H' ⟨c2, γ2, acc, ys, zs, a1, a2, a3, a4, a5, a6, a7, a8, a9, b1, b2⟩ => ⟨m - 1, by omega, c2, γ2, acc, ys, zs, a1, by omega, a2, a3, a4, a5, a6, a7, a8, a9, b1, b2⟩, fun x H' hy => ?_⟩
        obtain ⟨c3, rfl, x3, w3, hd⟩ := yl x H' hy
        have R3 := R2.step x3 w3
        cases ek : k d γ2 with
        | none => rw [ek] at eL; cases eL
        | some γ3 =>
          rw [ek] at eL
          simp only at eL
          refine tg.run f _ c3 (wipe σ vs) γ2 γ3 d x _ R3 hd ek fun σ4 R4 k4 l4 n4 => ?_
          have ew : wipe σ4 vs = wipe σ vs := by
            rw [wipe_same (σ := wipe σ vs) l4 fun j hj => n4 j fun z => hj (hts j z), wipe_wipe]
          refine ⟨ew, ?_⟩
          have k4w : Kw vs γ2 γ3 := ⟨k4, fun i d' hi z => by
            rw [tg.keep d γ2 γ3 ek i fun zz => hi (hts i zz)] at z; exact z⟩
          obtain ⟨b, γ5, e5, eL5⟩ := bind_ok eL
          refine st f _ c3 σ4 γ3 _ R4 ?_
          rw [e5]
          intro v c5 x5 R5 k5 (ev : b = v)
          subst ev
          cases b with
          | true =>
            rw [if_pos rfl] at eL5 ⊢
            obtain ⟨y, γ6, e6, eL6⟩ := bind_ok eL5
            refine se f _ c5 σ4 γ5 _ R5 ?_
            rw [e6]
            intro v c6 x6 R6 k6 hv
            have x26 : Ext (fun a => S a ∧ a ≠ p) c2 c6 := ((x3.nop (S := fun a => S a ∧ a ≠ p)).trans w3 x5).trans R5.wf x6
            have hA6 : c6.H p = some (.lst acc) := x26.h p _ hA fun z => z.2.2 rfl
            have hM6 : c6.M p := x26.m1 p hM
            have hv' : Den X.K c6 y v := hv
            obtain ⟨γ7, zs', e7, e8⟩ : ∃ γ7 zs', lcL k gt ge vs (l.drop (i + 1)) (wipeG γ6 vs) = .ok zs' γ7 ∧ Rs.ok (y :: zs') γ7 = .ok zs γE := by
              obtain ⟨zs', γ7, e7, e8⟩ := bind_ok eL6
              exact ⟨γ7, zs', e7, e8⟩
            cases e8
            obtain ⟨x7, R7⟩ := Rel.touch (vs := acc ++ [v]) R6 (fun z => z.2 rfl) h0 hM6
            have hD6 : Dens X.K c6 ys acc := Dens.ext R2.wf x26 hD
            refine ⟨acc, hA6, by omega, ⟨c6.M, upd c6.H p (.lst (acc ++ [v]))⟩, wipeG γ6 vs, acc ++ [v], ys ++ [y], zs', rfl, ?_, (p2.trans (x26.p R2.wf)).trans (x7.p R6.wf), ?_, ((kd2.trans k4w).trans (k5.trans k6).w).trans .wipe, hM6, upd_same, by rw [List.length_append]; exact Nat.succ_le_succ hAi, Dens.app (Dens.ext R6.wf x7 hD6) (Dens.cons (Den.ext R6.wf x7 hv') Dens.nil), e7, by rw [List.append_assoc]; exact eY⟩
            · refine (xD.trans R2.wf (x26.mono fun a _ z => .inl z.1)).trans R6.wf (x7.mono fun a _ z => .inr z)
            · have R8 := R7.wipe vs
              rw [ew] at R8
              exact R8
          | false =>
            rw [if_neg Bool.false_ne_true] at eL5 ⊢
            have x25 : Ext (fun a => S a ∧ a ≠ p) c2 c5 := (x3.nop (S := fun a => S a ∧ a ≠ p)).trans w3 x5
            refine ⟨c5, wipeG γ5 vs, acc, ys, zs, rfl, xD.trans R2.wf (x25.mono fun a _ z => .inl z.1), p2.trans (x25.p R2.wf), ?_, ((kd2.trans k4w).trans k5.w).trans .wipe, x25.m1 p hM, x25.h p _ hA fun z => z.2.2 rfl, Nat.le_succ_of_le hAi, Dens.ext R2.wf x25 hD, eL5, eY⟩
            have R8 := R5.wipe vs
            rw [ew] at R8
            exact R8
  · rw [if_neg hno] at h1; exact h1.elim
/-- the block's parts, in whichever context it starts -/
abbrev Blk (X : Cx) (scope : Scope) (J : Cx → Prop) : Prop := ∀ (s : Shared) (H : Hp) (C : Addr) (cl : List (Str × Addr)) (fp : List Addr), J (X.blk s H scope (compEnvC scope cl C X.env) fp)
def gYes : Gm → Rs Bool := fun γ => .ok true γ
def MTs (X : Cx) (W : WX) (ifs : List Expr) (g : Gm → Rs Bool) : Prop := ∃ t, PTs X ifs t ∧ Sim X W vT t g
theorem mts_nil {X : Cx} {W : WX} : MTs X W [] gYes := ⟨_, pts_nil, fun f S c σ γ Q R hp => hp true c .refl R .refl rfl⟩
theorem mts_one {X : Cx} {W : WX} {e : Expr} {g : Gm → Rs Bool} (h : MT X W e g) : MTs X W [e] g := let ⟨_, h1, s1⟩ := h; ⟨_, pts_one h1, s1⟩
theorem blk_pe {X : Cx} {scope : Scope} {e : Expr} {g : Gm → Rs D} (h : Blk X scope fun Y => MP Y Wn e g) : ∃ t, (Blk X scope fun Y => PE Y e t) ∧ Sim X Wn (vP X.K) t g :=
  ⟨fun σ H Q => ∀ t, (∃ s H C cl fp, PE (X.blk s H scope (compEnvC scope cl C X.env) fp) e t) → Sim X Wn (vP X.K) t g → t σ H Q,
    fun s H C cl fp => let ⟨t, h1, s1⟩ := h s H C cl fp; ⟨fun pn sh σ Hh Q inv hw => h1.run pn sh σ Hh Q inv (hw t ⟨s, H, C, cl, fp, h1⟩ s1)⟩,
    fun f S c σ γ Q R hp t _ s1 => s1 f S c σ γ Q R hp⟩
theorem blk_pt {X : Cx} {scope : Scope} {ifs : List Expr} {g : Gm → Rs Bool} (h : Blk X scope fun Y => MTs Y Wn ifs g) : ∃ t, (Blk X scope fun Y => PTs Y ifs t) ∧ Sim X Wn vT t g :=
  ⟨fun σ H Q => ∀ t, (∃ s H C cl fp, PTs (X.blk s H scope (compEnvC scope cl C X.env) fp) ifs t) → Sim X Wn vT t g → t σ H Q,
    fun s H C cl fp => let ⟨t, h1, s1⟩ := h s H C cl fp; ⟨fun pn sh σ Hh Q inv hw => h1.run pn sh σ Hh Q inv (hw t ⟨s, H, C, cl, fp, h1⟩ s1)⟩,
    fun f S c σ γ Q R hp t _ s1 => s1 f S c σ γ Q R hp⟩
theorem blk_pg {X : Cx} {scope : Scope} {tg : Expr} {ts : List Nat} {k : Kt} (h : Blk X scope fun Y => MG Y tg ts k) : ∃ g, (Blk X scope fun Y => PG Y tg g) ∧ TgOk X.K ts g k :=
  ⟨fun v σ H Q => ∀ g, (∃ s H C cl fp, PG (X.blk s H scope (compEnvC scope cl C X.env) fp) tg g) → TgOk X.K ts g k → g v σ H Q,
    fun s H C cl fp => let ⟨g, h1, s1⟩ := h s H C cl fp; ⟨fun pn sh σ Hh v u Q inv r hw => h1.run pn sh σ Hh v u Q inv r (hw g ⟨s, H, C, cl, fp, h1⟩ s1)⟩,
    ⟨fun f S c σ γ γ' d v Q R hd e hq g _ s1 => s1.run f S c σ γ γ' d v Q R hd e hq, (h X.s_0 X.H_0 (0 : Nat) [] []).choose_spec.2.keep⟩⟩
section
variable {X : Cx} {W : WX} {pos p2 : Pos} {elt tg iter : Expr} {ifs : List Expr} {scope : Scope} {own : List (Str × Nat)} {gs : Gm → Rs (List D)} {k : Kt} {gt : Gm → Rs Bool} {ge : Gm → Rs D} {ts : List Nat}
theorem mf_lc (hc : X.calm = true) (hN : X.N.Nodup) (hi : MI X W tg iter gs) (hb : BlkOk X.N X.env.scope scope own) (hg : Blk X scope fun Y => MG Y tg ts k) (ht : Blk X scope fun Y => MTs Y Wn ifs gt) (he : Blk X scope fun Y => MP Y Wn elt ge)
    (hts : ∀ j ∈ ts, j ∈ own.map (·.2)) (hs : ∀ x, foldedSetIterable iter X.env x = pure x := by intro _; rfl) : MF X W (.ListComp elt [{ target := tg, iter := iter, ifs := ifs, is_async := 0 }] scope pos) (gLc gs k gt ge (own.map (·.2))) := by
  obtain ⟨wi, h1, s1⟩ := hi
  obtain ⟨g, h2, s2⟩ := blk_pg hg
  obtain ⟨tt, h3, s3⟩ := blk_pt ht
  obtain ⟨te, h4, s4⟩ := blk_pe he
  exact ⟨_, pe_lc hc hN h1 hb h2 h3 h4 hs, sim_lc s1 s2 hts s3 s4⟩
/-- y = [..] -/
theorem ms_lc {i : Nat} {y : Str} (hc : X.calm = true) (hN : X.N.Nodup) (hy : X.N[i]? = some y) (hl : X.env.scope.names.lookup y = some .local)
    (hsw : swapsWith (.ListComp elt [{ target := tg, iter := iter, ifs := ifs, is_async := 0 }] scope pos) (some (.Name y p2)) sp.line X.env = pure true) (hi : MI X W tg iter gs) (hb : BlkOk X.N X.env.scope scope own) (hg : Blk X scope fun Y => MG Y tg ts k) (ht : Blk X scope fun Y => MTs Y Wn ifs gt) (he : Blk X scope fun Y => MP Y Wn elt ge)
    (hts : ∀ j ∈ ts, j ∈ own.map (·.2)) (hs : ∀ x, foldedSetIterable iter X.env x = pure x := by intro _; rfl) : MS X W (.Assign [.Name y p2] (.ListComp elt [{ target := tg, iter := iter, ifs := ifs, is_async := 0 }] scope pos) sp) (hSetF i (gLc gs k gt ge (own.map (·.2)))) := by
  obtain ⟨wi, h1, s1⟩ := hi
  obtain ⟨g, h2, s2⟩ := blk_pg hg
  obtain ⟨tt, h3, s3⟩ := blk_pt ht
  obtain ⟨te, h4, s4⟩ := blk_pe he
  exact ⟨_, ps_setLc hc hN hy hl hsw h1 hb h2 h3 h4 hs, sim_setF i (sim_lc s1 s2 hts s3 s4)⟩
end
end Fv

set_option maxRecDepth 100000
namespace Fv
open PySem L2
open PyProof.Rows (envOfC)

/-! a def by its body -/
def finR : List SV → Gm → Option (List SV)
  | [], _ => some []
  | .bo _ :: l, .bo m :: g => (finR l g).map (.bo m :: ·)
  | .pu d :: l, _ :: g => (finR l g).map (.pu d :: ·)
  | _ :: _, _ => none
def runN (n : Nat) (h : Gm → Out) : List SV → Rs D := fun ps => match h (ps ++ List.replicate (n - ps.length) .un) with
  | .rt d g => match finR ps g with
    | some qs => .ok d qs
    | none => .no
  | .nx g => match finR ps g with
    | some qs => .ok .non qs
    | none => .no
  | _ => .no
theorem finR_at : ∀ {ps : List SV} {g : Gm} {qs : List SV}, finR ps g = some qs → qs.length = ps.length ∧ ∀ (i : Nat) (s : SV), qs[i]? = some s → (∃ d, s = .pu d ∧ ps[i]? = some (.pu d)) ∨ (∃ l m, s = .bo m ∧ ps[i]? = some (.bo l) ∧ g[i]? = some (.bo m))
  | [], g, qs, h => by
    unfold finR at h
    cases h
    exact ⟨rfl, fun i s e => by simp at e⟩
  | .bo l :: ps, .bo m :: g, qs, h => by
    obtain ⟨r, e1, rfl⟩ := map_some (show (finR ps g).map (.bo m :: ·) = some qs from h)
    obtain ⟨h1, h2⟩ := finR_at e1
    refine ⟨by rw [List.length_cons, List.length_cons, h1], fun i s e => ?_⟩
    cases i with
    | zero =>
      have e' : SV.bo m = s := by simpa using e
      exact .inr ⟨l, m, e'.symm, rfl, rfl⟩
    | succ i => simpa using h2 i s (by simpa using e)
  | .pu d :: ps, y :: g, qs, h => by
    obtain ⟨r, e1, rfl⟩ := map_some (show (finR ps g).map (.pu d :: ·) = some qs from h)
    obtain ⟨h1, h2⟩ := finR_at e1
    refine ⟨by rw [List.length_cons, List.length_cons, h1], fun i s e => ?_⟩
    cases i with
    | zero =>
      have e' : SV.pu d = s := by simpa using e
      exact .inl ⟨d, e'.symm, rfl⟩
    | succ i => simpa using h2 i s (by simpa using e)
  | .un :: _, _, _, h => by cases h
  | .ow _ :: _, _, _, h => by cases h
  | .pu _ :: _, [], _, h => by cases h
  | .bo _ :: _, [], _, h => by cases h
  | .bo _ :: _, .un :: _, _, h => by cases h
  | .bo _ :: _, .pu _ :: _, _, h => by cases h
  | .bo _ :: _, .ow _ :: _, _, h => by cases h
theorem fin_rel {K : PySem.W.Frag} {g : Fx} {c' : Cf} {vs : List V} {σ' : St} {ps : List SV} {γ' : Gm} {qs : List SV} (R0 : Rel K g g.S g.c0 (vs.map some) ps) (px : PExt K g.c0 c') (R : Rel K g g.S c' σ' γ') (h : finR ps γ' = some qs) : Rel K g g.S c' (vs.map some) qs := by
  obtain ⟨h1, h2⟩ := finR_at h
  refine ⟨R.wf0, R.wf, R.ext, by rw [h1, R0.len], fun i d e => ?_, fun i l e => ?_, fun i l e => ?_, fun i j s t a hij e1 e2 o1 o2 e3 => ?_⟩
  · rcases h2 i _ e with ⟨d', z, e1⟩ | ⟨l, m, z, _⟩
    · cases z
      obtain ⟨v, h3, h4⟩ := R0.pu i d e1
      exact ⟨v, h3, px _ _ h4⟩
    · cases z
  · rcases h2 i _ e with ⟨d', z, e1⟩ | ⟨l, m, z, _⟩
    · cases z
    · cases z
  · rcases h2 i _ e with ⟨d', z, e1⟩ | ⟨l', m, z, e1, e2⟩
    · cases z
    · cases z
      obtain ⟨h3, h4, h5, h6, _⟩ := R0.bo i l' e1
      exact ⟨h3, h4, h5, h6, (R.bo i l e2).2.2.2.2⟩
  · have back : ∀ {i : Nat} {s : SV}, qs[i]? = some s → s.own = true → ∃ s0, ps[i]? = some s0 ∧ s0.own = true := fun {i s} e o => by
      rcases h2 i s e with ⟨d, rfl, _⟩ | ⟨l, m, _, e1, _⟩
      · cases o
      · exact ⟨_, e1, rfl⟩
    obtain ⟨s0, f1, f2⟩ := back e1 o1
    obtain ⟨t0, f3, f4⟩ := back e2 o2
    exact R0.ne i j s0 t0 a hij f1 f3 f2 f4 e3
theorem start_rel {K : PySem.W.Frag} {f : Fx} {S : Addr → Prop} {c : Cf} {σ : St} {γ : Gm} (R : Rel K f S c σ γ) (k : Nat) : Rel K f S c (σ ++ List.replicate k none) (γ ++ List.replicate k .un) := by
  have slot : ∀ {i : Nat} {s : SV}, (γ ++ List.replicate k .un)[i]? = some s → s = .un ∨ (i < γ.length ∧ γ[i]? = some s) := fun {i s} e => by
    by_cases hi : i < γ.length
    · rw [List.getElem?_append_left hi] at e
      exact .inr ⟨hi, e⟩
    · rw [List.getElem?_append_right (by omega), List.getElem?_replicate] at e
      split at e
      · exact .inl (Option.some.inj e).symm
      · cases e
  have same : ∀ {i : Nat}, i < γ.length → (σ ++ List.replicate k none)[i]? = σ[i]? := fun hi => List.getElem?_append_left (by rw [R.len]; exact hi)
  refine ⟨R.wf0, R.wf, R.ext, by rw [List.length_append, List.length_append, List.length_replicate, List.length_replicate, R.len], fun i d e => ?_, fun i l e => ?_, fun i l e => ?_, fun i j s t a hij e1 e2 o1 o2 e3 => ?_⟩
  · rcases slot e with z | ⟨h, z⟩
    · cases z
    · rw [same h]; exact R.pu i d z
  · rcases slot e with z | ⟨h, z⟩
    · cases z
    · rw [same h]; exact R.ow i l z
  · rcases slot e with z | ⟨h, z⟩
    · cases z
    · rw [same h]; exact R.bo i l z
  · rcases slot e1 with z | ⟨h, z⟩
    · rw [z] at o1; cases o1
    · rcases slot e2 with z' | ⟨h', z'⟩
      · rw [z'] at o2; cases o2
      · rw [same h] at e3
        rw [same h']
        exact R.ne i j s t a hij z z' o1 o2 e3
/-- a def of the text, as callers know it -/
structure Def (P : Program) (w : World) (K : PySem.W.Frag) (mg : Str → Option Value) (base : Heap) (CX : CXT) (k : Nat) (x : Str) (ps : List Str) (F : List SV → Rs D) : Prop where
  ex : ∃ f fd, FnOk P w K mg base CX k f fd ps (spF K mg ps.length F) ∧ mg x = some (.ref f) ∧ PySem.W.keepIn K (.ref f) = true ∧ Binds K fd ps []
section
variable {P : Program} {w : World} {K : PySem.W.Frag} {mg : Str → Option Value} {base : Heap}
theorem fok {x qual : Str} {params : Arguments} {body : List Stmt} {scope : Scope} {f : Addr} {fd : FuncData} {N ps : List Str} {k : Nat} {h : Gm → Out} (F : FunD K x qual params body scope [] [] f fd) (S : FnScope N ps scope)
    (hb : ∀ (cdv : Value) (A : Around) (outer : List Env) (s : Shared) (H : Hp) (E : XK), Room k (A.deeper (envOfC qual scope s.heap.objs.size f cdv)) → MSs (cxOf CX0 P w K mg base N qual scope f cdv A outer s H E).nox Wn body h) :
    FnOk P w K mg base CX0 (k + 1) f fd ps (spF K mg ps.length (runN N.length h)) := by
  refine F.ok S (fun vs H Q E z => z.1) fun cdv A outer s H vs Q E hr z => ?_
  obtain ⟨t, h1, s1⟩ := hb cdv A outer s H E hr
  refine ⟨t, h1.nox, ?_⟩
  obtain ⟨hl, g, γ, rfl, R, hp⟩ := z
  have hlen : γ.length = vs.length := by rw [← R.len, List.length_map]
  have R' := start_rel R (N.length - vs.length)
  refine s1 g g.c0 (start N vs) (γ ++ List.replicate (N.length - vs.length) SV.un) _ (show Rel K g g.S g.c0 (start N vs) (γ ++ List.replicate (N.length - vs.length) SV.un) from R') ?_
  unfold runN at hp
  rw [hlen] at hp
  cases e : h (γ ++ List.replicate (N.length - vs.length) .un) with
  | rt d g' =>
    rw [e] at hp
    simp only at hp
    cases e2 : finR γ g' with
    | none => rw [e2] at hp; exact hp.elim
    | some qs =>
      rw [e2] at hp
      exact fun v σ' c' px R2 hd => hp v c' (fin_rel R px R2 e2) hd
  | nx g' =>
    rw [e] at hp
    simp only at hp
    cases e2 : finR γ g' with
    | none => rw [e2] at hp; exact hp.elim
    | some qs =>
      rw [e2] at hp
      exact fun σ' c' px R2 => hp .non c' (fin_rel R px R2 e2) rfl
  | _ => rw [e] at hp; exact hp.elim
theorem def_mk {x : Str} {params : Arguments} {body : List Stmt} {scope : Scope} {f : Addr} {fd : FuncData} {ps : List Str} {k : Nat} {F : List SV → Rs D} (FD : FunD K x x params body scope [] [] f fd) (hF : FnOk P w K mg base CX0 k f fd ps (spF K mg ps.length F)) (hm : mg x = some (.ref f))
    (hb : ∀ (kV doc pm : Value) (an : Option Addr) (cdv ct : Value) (us : List Value), us.length = ps.length → bindArgs (PySem.W.fnOf x x params body scope .none kV doc pm an cdv ct) ⟨us, []⟩ = pure (ps.zip us)) : Def P w K mg base CX0 k x ps F :=
  ⟨f, fd, hF, hm, FD.kp, FD.bindsN hb⟩
end
section
variable {X : Cx} {W : WX} {pos p : Pos} {a b e : Expr} {es : List Expr} {ga gb : Gm → Rs D} {gs : Gm → Rs (List Ar)} {CX : CXT} {k j : Nat} {ps : List Str} {x : Str}
theorem mp_def {F : List SV → Rs D} (hF : Def X.prog X.w X.K X.mg X.base CX k x ps F) (hr : Room j X.A) (hk : k ≤ j) (hg : Gl X x) (hx : ∀ σ, PassesAt CX X σ (WE W σ))
    (ha : MA X W (e :: es) gs) (hl : (e :: es).length = ps.length := by rfl) (h2 : (x == ("__debug__" : Str)) = false := by decide) (h3 : starEach (e :: es) X.env = (false, eval e X.env) :: starEach es X.env := by rfl) (h4 : (backTo pos (starEach es X.env)).any (·.1) = false := by rfl) :
    MP X W (.Call (.Name x p) (e :: es) [] pos) (gCall F gs) := by
  obtain ⟨f, fd, h5, h6, h7, h8⟩ := hF.ex
  exact mp_call h5 (hr.mono hk) hg h6 h7 h8 hx ha hl h2 h3 h4
end

/-! a written list that is only read: it is looked at as data -/
mutual
def noLst : D → Bool
  | .lst _ => false
  | .tup l => noLsts l
  | _ => true
def noLsts : List D → Bool
  | [] => true
  | d :: l => noLst d && noLsts l
end
mutual
theorem den_flat {K : PySem.W.Frag} {c c' : Cf} (hh : ∀ a xs, SqT K c.H a xs → SqT K c'.H a xs) : ∀ (d : D) (v : V), noLst d = true → Den K c d v → Den K c' d v
  | .non, _, _, h => h
  | .bl _, _, _, h => h
  | .int _, _, _, h => h
  | .str _, _, _, h => h
  | .lst _, _, n, _ => by cases n
  | .tup l, v, n, h => by
    obtain ⟨a, xs, e, q, r⟩ := h
    exact ⟨a, xs, e, hh a xs q, dens_flat hh l xs n r⟩
theorem dens_flat {K : PySem.W.Frag} {c c' : Cf} (hh : ∀ a xs, SqT K c.H a xs → SqT K c'.H a xs) : ∀ (l : List D) (vs : List V), noLsts l = true → Dens K c l vs → Dens K c' l vs
  | [], _, _, h => h
  | d :: l, vs, n, h => by
    obtain ⟨x, r, e, p, q⟩ := h
    obtain ⟨n1, n2⟩ := Bool.and_eq_true_iff.mp (show (noLst d && noLsts l) = true from n)
    exact ⟨x, r, e, den_flat hh d x n1 p, dens_flat hh l r n2 q⟩
end
/-- slot j is no more written -/
def seeG (j : Nat) (γ : Gm) : Option (List D × Bool × Gm) := match γ[j]? with
  | some (.ow l) => some (l, true, γ.set j (.pu (.lst l)))
  | some (.bo l) => some (l, false, γ.set j (.pu (.lst l)))
  | _ => none
def gSee (j : Nat) (g : Gm → Rs D) : Gm → Rs D := fun γ => match seeG j γ with
  | none => .no
  | some (l, b, γ1) => match g γ1 with
    | .ok d γ2 => if noLst d = true ∧ γ2.length = γ.length ∧ ownAt γ2 j = false then .ok d (γ2.set j (if b then .ow l else .bo l)) else .no
    | _ => .no
theorem Rel.see {K : PySem.W.Frag} {f : Fx} {S : Addr → Prop} {c : Cf} {σ : St} {γ : Gm} (R : Rel K f S c σ γ) {j : Nat} {l : List D} {p : Addr} (ho : ownAt γ j = true) (hp : σ[j]? = some (some (.ref p))) (hO : Own K c p l) (h0 : f.c0.H p = none) : Rel K f S (c.del p) σ (γ.set j (.pu (.lst l))) := by
  have R1 : Rel K f S c σ (γ.set j .un) := by
    have sl : ∀ {i : Nat} {s : SV}, (γ.set j .un)[i]? = some s → s = .un ∨ (i ≠ j ∧ γ[i]? = some s) := fun {i s} e => by
      by_cases hi : i = j
      · subst hi
        have hz : i < γ.length := by
          have := (List.getElem?_eq_some_iff.mp e).1
          rw [List.length_set] at this; exact this
        rw [List.getElem?_set_self hz] at e
        exact .inl (Option.some.inj e).symm
      · rw [List.getElem?_set_ne (Ne.symm hi)] at e
        exact .inr ⟨hi, e⟩
    refine ⟨R.wf0, R.wf, R.ext, by rw [List.length_set, R.len], fun i d e => ?_, fun i l e => ?_, fun i l e => ?_, fun i i' s t a hij e1 e2 o1 o2 e3 => ?_⟩
    · rcases sl e with z | ⟨_, z⟩
      · cases z
      · exact R.pu i d z
    · rcases sl e with z | ⟨_, z⟩
      · cases z
      · exact R.ow i l z
    · rcases sl e with z | ⟨_, z⟩
      · cases z
      · exact R.bo i l z
    · rcases sl e1 with z | ⟨_, z⟩
      · rw [z] at o1; cases o1
      · rcases sl e2 with z' | ⟨_, z'⟩
        · rw [z'] at o2; cases o2
        · exact R.ne i i' s t a hij z z' o1 o2 e3
  have hn : ∀ i, ownAt (γ.set j .un) i = true → σ[i]? ≠ some (some (.ref p)) := fun i hi => by
    obtain ⟨s, e, o⟩ := ownAt_some hi
    have hij : j ≠ i := fun z => by
      subst z
      have hz : j < γ.length := by
        have := (List.getElem?_eq_some_iff.mp e).1
        rw [List.length_set] at this; exact this
      rw [List.getElem?_set_self hz] at e
      cases e; cases o
    rw [List.getElem?_set_ne hij] at e
    obtain ⟨s', e', o'⟩ := ownAt_some ho
    exact R.ne j i s' s p hij e' e o' o hp
  have R2 := R1.del h0 hn
  have R3 := R2.setP hO.den j
  rw [List.set_set] at R3
  have hσ : σ.set j (some (.ref p)) = σ := by
    refine List.ext_getElem? fun i => ?_
    by_cases hi : i = j
    · subst hi
      have hz : i < σ.length := (List.getElem?_eq_some_iff.mp hp).1
      rw [List.getElem?_set_self hz, hp]
    · rw [List.getElem?_set_ne (Ne.symm hi)]
  rw [hσ] at R3
  exact R3
end Fv

set_option maxRecDepth 100000
namespace Fv
open PySem L2

/-! a list of this frame's, looked at as data for one expression -/
def flatOwn (j : Nat) (γ : Gm) : Bool := (List.range γ.length).all fun i => i == j || match γ[i]? with
  | some (.ow l) => noLsts l
  | some (.bo l) => noLsts l
  | _ => true
def gSeeO (j : Nat) (g : Gm → Rs D) : Gm → Rs D := fun γ => match γ[j]? with
  | some (.ow l) => match g (γ.set j (.pu (.lst l))) with
    | .ok d γ2 => if noLst d = true ∧ γ2.length = γ.length ∧ flatOwn j γ2 = true then .ok d (γ2.set j (.ow l)) else .no
    | _ => .no
  | _ => .no
theorem sim_see {X : Cx} {W : WX} {t : TE} {g : Gm → Rs D} (j : Nat) (s : Sim X W (vP X.K) t g) : Sim X W (vP X.K) t (gSeeO j g) := by
  intro f S c σ γ Q R hp
  replace hp : Post X.K X.mg (vP X.K) W f S c σ γ Q (gSeeO j g γ) := hp
  unfold gSeeO at hp
  split at hp
  · rename_i l ej
    obtain ⟨p, h1, h2, h3, hO⟩ := R.ow j l ej
    have hown : ownAt γ j = true := by unfold ownAt; rw [ej]; rfl
    have hj : j < γ.length := (List.getElem?_eq_some_iff.mp ej).1
    have R3 := R.see hown h1 hO h2
    have hO' := hO
    obtain ⟨hM, vs, hV, hD⟩ := hO'
    refine s f S (c.del p) σ (γ.set j (.pu (.lst l))) Q R3 ?_
    cases eg : g (γ.set j (.pu (.lst l))) with
    | no => rw [eg] at hp; exact hp.elim
    | ex _ _ _ => rw [eg] at hp; exact hp.elim
    | ok d γ2 =>
      rw [eg] at hp
      simp only at hp
      by_cases hc : noLst d = true ∧ γ2.length = γ.length ∧ flatOwn j γ2 = true
      · rw [if_pos hc] at hp
        obtain ⟨c1, c2, c3⟩ := hc
        intro v c2' x2 R2 k2 hd
        have hV2 : c2'.H p = some (.lst vs) := x2.h p _ hV fun z => z.1.2 rfl
        have g1 : ∀ (i : Nat) (s : SV), i ≠ j → (γ.set j (.pu (.lst l)))[i]? = some s → γ[i]? = some s := fun i s hi q => by rw [List.getElem?_set_ne (Ne.symm hi)] at q; exact q
        have oj : ∀ (i : Nat) (s : SV), γ2[i]? = some s → s.own = true → i ≠ j := fun i s q o z => by
          subst z
          obtain ⟨s', e', o'⟩ := ownAt_some (k2.own i (by unfold ownAt; rw [q]; exact o))
          rw [List.getElem?_set_self hj] at e'
          cases e'; cases o'
        have x3 : Ext S c ⟨fun a => c2'.M a ∨ a = p, c2'.H⟩ := by
          refine ⟨fun a z => ?_, fun a z => ?_, fun a o e n => ?_⟩
          · by_cases ha : a = p
            · exact .inr ha
            · exact .inl (x2.m1 a ⟨z, ha⟩)
          · rcases z with z | z
            · rcases x2.m2 a z with q | q
              · exact .inl q.1
              · exact .inr q
            · exact .inl (by rw [z]; exact hM)
          · exact x2.h a o e fun z => n ⟨z.1.1, z.2⟩
        have w3 : WF ⟨fun a => c2'.M a ∨ a = p, c2'.H⟩ := fun a z => by
          rcases z with z | z
          · exact R2.wf a z
          · exact ⟨vs, by rw [z]; exact hV2⟩
        have flat : ∀ (i : Nat) (s : SV) (m : List D), i ≠ j → γ2[i]? = some s → (s = .ow m ∨ s = .bo m) → noLsts m = true := fun i s m hi q hs => by
          have hz := (List.getElem?_eq_some_iff.mp q).1
          have := List.all_eq_true.mp c3 i (List.mem_range.mpr hz)
          rw [q] at this
          rcases hs with rfl | rfl <;> simpa [hi] using this
        have own3 : ∀ (i : Nat) (s : SV) (m : List D) (a : Addr), i ≠ j → γ2[i]? = some s → (s = .ow m ∨ s = .bo m) → Own X.K c2' a m → Own X.K ⟨fun a => c2'.M a ∨ a = p, c2'.H⟩ a m := fun i s m a hi q hs ⟨m1, ws, m2, m3⟩ =>
          ⟨.inl m1, ws, m2, dens_flat (c := c2') (c' := ⟨fun a => c2'.M a ∨ a = p, c2'.H⟩) (fun _ _ z => z) m ws (flat i s m hi q hs) m3⟩
        have atj : (γ2.set j (.ow l))[j]? = some (.ow l) := List.getElem?_set_self (by rw [c2]; exact hj)
        have nej : ∀ (i : Nat) (s : SV), i ≠ j → (γ2.set j (.ow l))[i]? = some s → γ2[i]? = some s := fun i s hi q => by rw [List.getElem?_set_ne (Ne.symm hi)] at q; exact q
        have kx : Kx γ (γ2.set j (.ow l)) := by
          refine ⟨fun i q => ?_, fun i d' q => ?_⟩
          · by_cases hi : i = j
            · rw [hi]; exact hown
            · obtain ⟨s', e', o'⟩ := ownAt_some q
              obtain ⟨s2, e2, o2⟩ := ownAt_some (k2.own i (by unfold ownAt; rw [nej i s' hi e']; exact o'))
              unfold ownAt; rw [g1 i s2 hi e2]; exact o2
          · by_cases hi : i = j
            · subst hi; rw [atj] at q; cases q
            · exact g1 i _ hi (k2.pu i d' (nej i _ hi q))
        refine hp v ⟨fun a => c2'.M a ∨ a = p, c2'.H⟩ x3 ⟨R.wf0, w3, ⟨fun a z => .inl (R2.ext.m1 a z), fun a z => ?_, R2.ext.h⟩, by rw [List.length_set]; exact R2.len, fun i d' q => ?_, fun i m q => ?_, fun i m q => ?_, fun i i' t t' a hii q q' o1 o2 q3 => ?_⟩ kx (den_flat (c := c2') (c' := ⟨fun a => c2'.M a ∨ a = p, c2'.H⟩) (fun _ _ z => z) d v c1 hd)
        · rcases z with z | z
          · exact R2.ext.m2 a z
          · exact .inr (by rw [z]; exact h2)
        · have hi : i ≠ j := fun z => by subst z; rw [atj] at q; cases q
          obtain ⟨u, h5, h6⟩ := R.pu i d' (kx.pu i d' q)
          exact ⟨u, h5, Den.ext R.wf x3 h6⟩
        · by_cases hi : i = j
          · subst hi
            rw [atj] at q
            cases q
            exact ⟨p, h1, h2, h3, .inr rfl, vs, hV2, Dens.ext R.wf x3 hD⟩
          · have q' := nej i _ hi q
            obtain ⟨a, h5, h6, h7, h8⟩ := R2.ow i m q'
            exact ⟨a, h5, h6, h7, own3 i _ m a hi q' (.inl rfl) h8⟩
        · have hi : i ≠ j := fun z => by subst z; rw [atj] at q; cases q
          have q' := nej i _ hi q
          obtain ⟨h5, h6, h7, h8, h9⟩ := R2.bo i m q'
          exact ⟨h5, h6, h7, h8, own3 i _ m _ hi q' (.inr rfl) h9⟩
        · have was : ∀ {i : Nat} {t : SV}, (γ2.set j (.ow l))[i]? = some t → t.own = true → ∃ t0, γ[i]? = some t0 ∧ t0.own = true := fun {i t} q o => ownAt_some (kx.own i (by unfold ownAt; rw [q]; exact o))
          obtain ⟨t0, f1, f2⟩ := was q o1
          obtain ⟨t1, f3, f4⟩ := was q' o2
          exact R.ne i i' t0 t1 a hii f1 f3 f2 f4 q3
      · rw [if_neg hc] at hp; exact hp.elim
  · exact hp.elim

theorem mp_see {X : Cx} {W : WX} {e : Expr} {g : Gm → Rs D} (j : Nat) (h : MP X W e g) : MP X W e (gSeeO j g) := let ⟨t, ht, s⟩ := h; ⟨t, ht, sim_see j s⟩
theorem mb_see {X : Cx} {W : WX} {e : Expr} {g : Gm → Rs D} (j : Nat) (h : MB X W e g) : MB X W e (gSeeO j g) := let ⟨t, ht, h2, s⟩ := h; ⟨t, ht, h2, sim_see j s⟩
/-! several names at once -/
inductive RV where
  | p (d : D) | f (l : List D)
def frs : List RV → List V → List Addr
  | .p _ :: l, _ :: vs => frs l vs
  | .f _ :: l, .ref a :: vs => a :: frs l vs
  | _, _ => []
def RvsOk (K : PySem.W.Frag) (c c' : Cf) : List RV → List V → Prop
  | [], vs => vs = []
  | .p d :: l, vs => ∃ x r, vs = x :: r ∧ Den K c' d x ∧ RvsOk K c c' l r
  | .f m :: l, vs => ∃ a r, vs = .ref a :: r ∧ c.H a = none ∧ Own K c' a m ∧ a ∉ frs l r ∧ RvsOk K c c' l r
def vX (K : PySem.W.Frag) : VR (List RV) (List V) := fun _ c c' l vs => RvsOk K c c' l vs
theorem RvsOk.pre {K : PySem.W.Frag} {S : Addr → Prop} {c c1 c' : Cf} (w : WF c1) (x : Ext S c c1) : ∀ {l : List RV} {vs : List V}, RvsOk K c1 c' l vs → RvsOk K c c' l vs
  | [], _, h => h
  | .p d :: l, vs, h => by
    obtain ⟨y, r, e, h1, h2⟩ := h
    exact ⟨y, r, e, h1, RvsOk.pre w x h2⟩
  | .f m :: l, vs, h => by
    obtain ⟨a, r, e, h1, h2, h3, h4⟩ := h
    exact ⟨a, r, e, x.noneS w h1, h2, h3, RvsOk.pre w x h4⟩
theorem stab_vX {K : PySem.W.Frag} : Stab (vX K) := fun _ _ _ _ _ _ _ w x h => RvsOk.pre w x h
theorem RvsOk.fresh {K : PySem.W.Frag} {c c' : Cf} : ∀ {l : List RV} {vs : List V}, RvsOk K c c' l vs → ∀ a ∈ frs l vs, c.H a = none
  | [], vs, h, a, q => by
    have e : vs = [] := h
    subst e; simp [frs] at q
  | .p d :: l, vs, h, a, q => by
    obtain ⟨y, r, rfl, h1, h2⟩ := h
    exact RvsOk.fresh h2 a q
  | .f m :: l, vs, h, a, q => by
    obtain ⟨b, r, rfl, h1, h2, h3, h4⟩ := h
    rcases List.mem_cons.mp (show a ∈ b :: frs l r from q) with z | z
    · rw [z]; exact h1
    · exact RvsOk.fresh h4 a z
theorem RvsOk.len {K : PySem.W.Frag} {c c' : Cf} : ∀ {l : List RV} {vs : List V}, RvsOk K c c' l vs → vs.length = l.length
  | [], vs, h => by
    have e : vs = [] := h
    subst e; rfl
  | .p d :: l, vs, h => by
    obtain ⟨y, r, rfl, h1, h2⟩ := h
    rw [List.length_cons, List.length_cons, RvsOk.len h2]
  | .f m :: l, vs, h => by
    obtain ⟨b, r, rfl, h1, h2, h3, h4⟩ := h
    rw [List.length_cons, List.length_cons, RvsOk.len h4]
theorem RvsOk.ext {K : PySem.W.Frag} {c0 c c' : Cf} (w : WF c) (x : Ext Nop c c') : ∀ {l : List RV} {vs : List V}, RvsOk K c0 c l vs → RvsOk K c0 c' l vs
  | [], _, h => h
  | .p d :: l, vs, h => by
    obtain ⟨y, r, e, h1, h2⟩ := h
    exact ⟨y, r, e, Den.ext w x h1, RvsOk.ext w x h2⟩
  | .f m :: l, vs, h => by
    obtain ⟨a, r, e, h1, h2, h3, h4⟩ := h
    exact ⟨a, r, e, h1, h2.step w x id, h3, RvsOk.ext w x h4⟩
structure MX (X : Cx) (W : WX) (es : List Expr) (g : Gm → Rs (List RV)) : Prop where
  ex : ∃ t, PA X es t ∧ Sim X W (vX X.K) t g
  len : ∀ γ l γ1, g γ = .ok l γ1 → l.length = es.length
def xNil : Gm → Rs (List RV) := fun γ => .ok [] γ
def xP (ga : Gm → Rs D) (gs : Gm → Rs (List RV)) : Gm → Rs (List RV) := fun γ => (ga γ).bind fun d γ1 => (gs γ1).bind fun l γ2 => .ok (.p d :: l) γ2
def xF (ga : Gm → Rs (List D)) (gs : Gm → Rs (List RV)) : Gm → Rs (List RV) := fun γ => (ga γ).bind fun d γ1 => (gs γ1).bind fun l γ2 => .ok (.f d :: l) γ2
section
variable {X : Cx} {W : WX} {pos : Pos} {e : Expr} {es : List Expr} {ga : Gm → Rs D} {gf : Gm → Rs (List D)} {gs : Gm → Rs (List RV)}
theorem mx_nil : MX X W [] xNil := ⟨⟨_, pa_nil, fun f S c σ γ Q R hp => hp [] c .refl R .refl rfl⟩, fun γ l γ1 e => by cases e; rfl⟩
theorem mx_p (ha : MP X W e ga) (hr : MX X W es gs) (hs : starEach (e :: es) X.env = (false, eval e X.env) :: starEach es X.env := by rfl) : MX X W (e :: es) (xP ga gs) := by
  obtain ⟨ta, h1, s1⟩ := ha
  obtain ⟨⟨ts, h2, s2⟩, hl⟩ := hr
  refine ⟨⟨_, pa_cons h1 h2 hs, fun f S c σ γ Q R hp => s1.bind stab_vX R hp fun d γ1 v c1 _ x1 R1 k1 q1 h3 => s2 f S c1 σ γ1 _ R1 ?_⟩, fun γ l γ1 e => ?_⟩
  · cases e3 : gs γ1 with
    | no => rw [e3] at h3; exact h3
    | ex n fs g => rw [e3] at h3; exact h3
    | ok l γ2 =>
      rw [e3] at h3
      exact fun vs c2 x2 R2 k2 q2 => h3 (v :: vs) c2 x2 R2 k2 ⟨v, vs, rfl, Den.ext R1.wf x2 q1, q2⟩
  · obtain ⟨d, g1, _, e2⟩ := bind_ok e
    obtain ⟨l', g2, e3, e4⟩ := bind_ok e2
    cases e4
    rw [List.length_cons, List.length_cons, hl _ _ _ e3]
theorem mx_f (ha : MF X W e gf) (hr : MX X W es gs) (hs : starEach (e :: es) X.env = (false, eval e X.env) :: starEach es X.env := by rfl) : MX X W (e :: es) (xF gf gs) := by
  obtain ⟨ta, h1, s1⟩ := ha
  obtain ⟨⟨ts, h2, s2⟩, hl⟩ := hr
  refine ⟨⟨_, pa_cons h1 h2 hs, fun f S c σ γ Q R hp => s1 f S c σ γ _ R ?_⟩, fun γ l γ1 e => ?_⟩
  · replace hp : Post X.K X.mg (vX X.K) W f S c σ γ Q ((gf γ).bind fun d γ1 => (gs γ1).bind fun l γ2 => .ok (.f d :: l) γ2) := hp
    cases e1 : gf γ with
    | no => rw [e1] at hp; exact hp
    | ex n fs g => rw [e1] at hp; exact hp
    | ok m γ1 =>
      rw [e1] at hp
      intro v c1 x1 R1 k1 q1
      obtain ⟨p, rfl, n, o⟩ := q1
      have hsl : ∀ (i : Nat) (s : SV) (a : Addr), γ1[i]? = some s → s.own = true → σ[i]? = some (some (V.ref a)) → S a → S a ∧ a ≠ p := fun i s a e o ea hz => ⟨hz, fun z => by
        rw [z] at ea
        exact fresh_slot R k1.own n i (by unfold ownAt; rw [e]; exact o) ea⟩
      refine s2 f (fun a => S a ∧ a ≠ p) c1 σ γ1 _ (R1.lessS hsl) ?_
      have hp' : Post X.K X.mg (vX X.K) W f S c σ γ Q ((gs γ1).bind fun l γ2 => .ok (.f m :: l) γ2) := hp
      have up : ∀ {c2 : Cf} {g : Gm}, Rel X.K f (fun a => S a ∧ a ≠ p) c2 σ g → Rel X.K f S c2 σ g := fun h => h.lessS fun _ _ _ _ _ _ z => z.1
      cases e3 : gs γ1 with
      | no => rw [e3] at hp'; exact hp'
      | ex nm fs g =>
        rw [e3] at hp'
        exact fun C d c2 hm x2 R2 k2 hx => hp' C d c2 hm (x1.trans R1.wf (x2.mono fun _ _ z => z.1)) (up R2) (k1.trans k2) hx
      | ok l γ2 =>
        rw [e3] at hp'
        intro vs c2 x2 R2 k2 q2
        have q2' : RvsOk X.K c1 c2 l vs := q2
        obtain ⟨hM, ws, hV, hD⟩ := o
        have o2 : Own X.K c2 p m := ⟨x2.m1 p hM, ws, x2.h p _ hV fun z => z.2.2 rfl, Dens.ext R1.wf x2 hD⟩
        refine hp' (.ref p :: vs) c2 (x1.trans R1.wf (x2.mono fun _ _ z => z.1)) (up R2) (k1.trans k2) ⟨p, vs, rfl, n, o2, fun z => ?_, q2'.pre R1.wf x1⟩
        have := q2'.fresh p z
        rw [hV] at this; cases this
  · obtain ⟨d, g1, _, e2⟩ := bind_ok e
    obtain ⟨l', g2, e3, e4⟩ := bind_ok e2
    cases e4
    rw [List.length_cons, List.length_cons, hl _ _ _ e3]
def setsG : List Nat → List RV → Gm → Option Gm
  | [], [], γ => some γ
  | i :: is, .p d :: r, γ => setsG is r (γ.set i (.pu d))
  | i :: is, .f l :: r, γ => setsG is r (γ.set i (.ow l))
  | _, _, _ => none
def setsS : List Nat → List V → St → St
  | i :: is, v :: vs, σ => setsS is vs (σ.set i (some v))
  | _, _, σ => σ
theorem sets_rel {K : PySem.W.Frag} {f : Fx} {c : Cf} : ∀ {is : List Nat} {l : List RV} {vs : List V} {c0 : Cf} {σ : St} {γ γ' : Gm}, Rel K f f.S c σ γ → RvsOk K c0 c l vs → (∀ a ∈ frs l vs, f.c0.H a = none ∧ ∀ j, ownAt γ j = true → σ[j]? ≠ some (some (.ref a))) → setsG is l γ = some γ' → Rel K f f.S c (setsS is vs σ) γ'
  | [], [], vs, c0, σ, γ, γ', R, h, hn, e => by
    have ev : vs = [] := h
    subst ev
    cases e; exact R
  | i :: is, .p d :: l, vs, c0, σ, γ, γ', R, h, hn, e => by
    obtain ⟨x, r, rfl, h1, h2⟩ := h
    refine sets_rel (is := is) (R.setP h1 i) h2 (fun a ha => ⟨(hn a ha).1, fun j hj => ?_⟩) e
    have hji : j ≠ i := fun z => by
      subst z
      obtain ⟨s, e1, o⟩ := ownAt_some hj
      have hz : j < γ.length := by
        have := (List.getElem?_eq_some_iff.mp e1).1
        rw [List.length_set] at this; exact this
      rw [List.getElem?_set_self hz] at e1
      cases e1; cases o
    rw [List.getElem?_set_ne (Ne.symm hji)]
    exact (hn a ha).2 j (Kd.set j hj)
  | i :: is, .f m :: l, vs, c0, σ, γ, γ', R, h, hn, e => by
    obtain ⟨p, r, rfl, h1, h2, h3, h4⟩ := h
    obtain ⟨n1, n2⟩ := hn p (List.mem_cons_self ..)
    refine sets_rel (is := is) (R.setO n1 h2 n2 i) h4 (fun a ha => ?_) e
    obtain ⟨m1, m2⟩ := hn a (List.mem_cons_of_mem _ ha)
    refine ⟨m1, fun j hj => ?_⟩
    by_cases hji : j = i
    · subst hji
      have hz : j < σ.length := by
        obtain ⟨s, e1, o⟩ := ownAt_some hj
        have := (List.getElem?_eq_some_iff.mp e1).1
        rw [List.length_set] at this; rw [R.len]; exact this
      rw [List.getElem?_set_self hz]
      intro z
      cases z
      exact h3 ha
    · rw [List.getElem?_set_ne (Ne.symm hji)]
      obtain ⟨s, e1, o⟩ := ownAt_some hj
      rw [List.getElem?_set_ne (Ne.symm hji)] at e1
      exact m2 j (by unfold ownAt; rw [e1]; exact o)
  | [], _ :: _, _, _, _, _, _, _, _, _, e => by cases e
  | _ :: _, [], _, _, _, _, _, _, _, _, e => by cases e
def hMulti (is : List Nat) (gs : Gm → Rs (List RV)) : Gm → Out := fun γ => (gs γ).out fun l γ1 => match setsG is l γ1 with
  | some γ2 => .nx γ2
  | none => .no
theorem multi_end {f : Fx} {c c1 : Cf} {σ : St} {γ γ1 : Gm} {is : List Nat} {l : List RV} {vs : List V} {T : Ends} (R : Rel X.K f f.S c σ γ) (R1 : Rel X.K f f.S c1 σ γ1) (k1 : Kx γ γ1) (q1 : RvsOk X.K c c1 l vs)
    (h : SPost X.K X.mg W f c1 T (match setsG is l γ1 with | some γ2 => .nx γ2 | none => .no)) : T.nx (setsS is vs σ) c1.H := by
  cases e : setsG is l γ1 with
  | none => rw [e] at h; exact h.elim
  | some γ2 =>
    rw [e] at h
    exact h _ c1 .refl (sets_rel R1 q1 (fun a ha => ⟨R.ext.noneS R.wf (q1.fresh a ha), fresh_slot R k1.own (q1.fresh a ha)⟩) e)
/-- a, b = e1, e2: two local names -/
theorem ms_par2 {i j : Nat} {x y : Str} {a b : Expr} {px py pt pt2 : Pos} {kt k2} (hc : X.calm = true) (hN : X.N.Nodup) (hi : X.N[i]? = some x) (hj : X.N[j]? = some y) (hij : i ≠ j) (hx : X.env.scope.names.lookup x = some .local) (hy : X.env.scope.names.lookup y = some .local) (ha : MX X W [a, b] gs)
    (hw : swappedStores [.Tuple [.Name x px, .Name y py] kt pt] (.Tuple [a, b] k2 pt2) X.env = pure (some [x, y])) (hs : swapsWithSole [.Tuple [.Name x px, .Name y py] kt pt] (.Tuple [a, b] k2 pt2) pos.line X.env = pure false := by rfl) :
    MS X W (.Assign [.Tuple [.Name x px, .Name y py] kt pt] (.Tuple [a, b] k2 pt2) pos) (hMulti [i, j] gs) := by
  obtain ⟨⟨t, h1, s1⟩, hl⟩ := ha
  refine ⟨_, ps_par hc hN hi hj hij hx hy h1 hw hs, fun f c σ γ T R hp => s1.out R hp fun l γ1 vs c1 e0 x1 R1 k1 q1 h2 => ?_⟩
  have q1' : RvsOk X.K c c1 l vs := q1
  have hlen : vs.length = 2 := q1'.len.trans (hl _ _ _ e0)
  match vs, hlen with
  | [v, w], _ => exact ⟨v, w, rfl, multi_end R R1 k1 q1' h2⟩
/-- any number of names, by the pair itself -/
def gNames : List Nat → TGs
  | [] => L2.gNil
  | i :: is => L2.gCons (gName i) (gNames is)
theorem gNames_to {is : List Nat} : ∀ {vs : List V} {σ : St} {H : Hp} {Q : St → Hp → Prop}, vs.length = is.length → Q (setsS is vs σ) H → gNames is vs σ H Q := by
  induction is with
  | nil =>
    intro vs σ H Q hl h
    match vs, hl with
    | [], _ => exact ⟨rfl, h⟩
  | cons i is ih =>
    intro vs σ H Q hl h
    match vs, hl with
    | v :: vs, hl => exact ⟨v, vs, rfl, ih (by simpa using hl) h⟩
theorem ms_names {is : List Nat} {ts es : List Expr} {k k2} {pt pt2 : Pos} (hc : X.calm = true) (hg : PGs X ts (gNames is)) (ha : MX X W es gs) (hl : es.length = is.length) (hz : es.length ≤ sizeLine := by decide) (hn : (assignEach ts X.env).length = is.length := by rfl) (hst : (assignEach ts X.env).findIdx? (·.1) = none := by rfl)
    (hs : swapsWithSole [.Tuple ts k pt] (.Tuple es k2 pt2) pos.line X.env = pure false := by rfl) (hw : swappedStores [.Tuple ts k pt] (.Tuple es k2 pt2) X.env = pure none := by rfl)
    (h1 : (assignEach [.Tuple ts k pt] X.env).map (·.2) = [assign (.Tuple ts k pt) X.env] := by rfl) : MS X W (.Assign [.Tuple ts k pt] (.Tuple es k2 pt2) pos) (hMulti is gs) := by
  obtain ⟨⟨t, h2, s1⟩, hl2⟩ := ha
  refine ⟨_, ps_asg (pe_tup h2) (pg_tup hc hg hn hst) hs hw h1, fun f c σ γ T R hp => s1.out R hp fun l γ1 vs c1 e0 x1 R1 k1 q1 h3 => ?_⟩
  have q1' : RvsOk X.K c c1 l vs := q1
  have hlen : vs.length = es.length := q1'.len.trans (hl2 _ _ _ e0)
  refine ⟨by rw [hlen]; exact hz, fun p n => ⟨p, vs, rfl, .inl (.inl upd_same), hlen.trans hl, gNames_to (hlen.trans hl) ?_⟩⟩
  have x2 : Ext Nop c1 ⟨c1.M, upd c1.H p (.tup vs)⟩ := Ext.new n
  have R2 := R1.step x2 (R1.wf.new n)
  have q2 := q1'.ext R1.wf x2
  exact multi_end R R2 k1 q2 (SPost.pre (x2.p R1.wf) h3)
end
end Fv

set_option maxRecDepth 100000
namespace Fv
open PySem L2
open PyProof.Rows (seqObj sortedHeap list_sort_tree sortedHeap_at sortedHeap_old kind_sorted plain_sorted entry_sorted args_sorted1 slot_list_sort entry_list_sort args_list_sort)

section
variable {X : Cx} {W : WX} {pos p p1 p2 : Pos} {a b e tg : Expr} {ga gb : Gm → Rs D} {x : Str} {j : Nat}
/-! len(own) -/
def gLenO (j : Nat) : Gm → Rs D := fun γ => (gOwn j γ).bind fun d γ1 => ofO (dLen [d]) γ1
theorem mp_lenO (hg : Gl X "len") (hm : X.mg "len" = none) (ho : PE X (.Name x p) (tVar j)) (h3 : starEach [.Name x p] X.env = (false, eval (.Name x p) X.env) :: starEach [] X.env := by rfl) : MP X W (.Call (.Name "len" p1) [.Name x p] [] pos) (gLenO j) := by
  refine ⟨_, pe_callB call_len hg hm PySem.boot_len (pa_cons ho pa_nil h3) (he := h3), fun f S c σ γ Q R hp => ?_⟩
  replace hp : Post X.K X.mg (vP X.K) W f S c σ γ Q (gLenO j γ) := hp
  unfold gLenO at hp
  rcases gOwn_cases j γ with e0 | ⟨l0, e0⟩
  · rw [e0] at hp; exact hp.elim
  · rw [e0] at hp
    obtain ⟨s, l, e1, _, e5, _, e2⟩ := gOwn_ok e0
    cases e5
    obtain ⟨q, f1, _, vs, f2, f3⟩ := R.ownL e1 e2
    refine ⟨.ref q, f1, .ref q, vs.length, rfl, .inl ⟨vs, SqL.of f2, rfl⟩, ?_⟩
    rw [f3.length]
    exact hp (.int l0.length) c .refl R .refl rfl
/-! a target of any form -/
def hAsg (ga : Gm → Rs D) (k : Kt) : Gm → Out := fun γ => (ga γ).out fun d γ1 => match k d γ1 with
  | some γ2 => .nx γ2
  | none => .no
theorem ms_asg {ts : List Nat} {k : Kt} (ha : MP X W e ga) (hg : MG X tg ts k) (hs : swapsWithSole [tg] e pos.line X.env = pure false := by rfl) (hw : swappedStores [tg] e X.env = pure none := by rfl) (h1 : (assignEach [tg] X.env).map (·.2) = [assign tg X.env] := by rfl) : MS X W (.Assign [tg] e pos) (hAsg ga k) := by
  obtain ⟨t, h2, s1⟩ := ha
  obtain ⟨g, h3, s2⟩ := hg
  refine ⟨_, ps_asg h2 h3 hs hw h1, fun f c σ γ T R hp => s1.out R hp fun d γ1 v c1 _ x1 R1 k1 q1 h4 => ?_⟩
  cases ek : k d γ1 with
  | none => rw [ek] at h4; exact h4.elim
  | some γ2 =>
    rw [ek] at h4
    exact s2.run f f.S c1 σ γ1 γ2 d v _ R1 q1 ek fun σ' R2 _ _ _ => h4 σ' c1 .refl R2
/-- x += e, x -= e (ints) -/
def hAug (i : Nat) (h : Int → Int → Int) (ga : Gm → Rs D) : Gm → Out := fun γ => (gVar i γ).out fun d γ0 => (ga γ0).out fun e γ1 => match d, e with
  | .int m, .int n => .nx (γ1.set i (.pu (.int (h m n))))
  | _, _ => .no
theorem ms_aug {i : Nat} {op : Operator} {h : Int → Int → Int} (hN : X.N.Nodup) (hi : X.N[i]? = some x) (hx : Loc X.env.scope x) (ho : PIp X op (ipI h)) (ha : MP X W e ga) (hf : X.fn x = true ∨ X.env.scope.names.lookup x = some .local := by first | exact .inl rfl | exact .inr rfl | assumption) :
    MS X W (.AugAssign (.Name x p) op e pos) (hAug i h ga) := by
  obtain ⟨t, h2, s1⟩ := ha
  refine ⟨_, ps_aug hN hi hx h2 ho hf, fun f c σ γ T R hp => ?_⟩
  replace hp : SPost X.K X.mg W f c T (hAug i h ga γ) := hp
  unfold hAug gVar at hp
  cases q : γ[i]? with
  | none => rw [q] at hp; exact hp.elim
  | some s =>
    rw [q] at hp
    cases s with
    | pu d =>
      obtain ⟨v, h3, h4⟩ := R.pu i d q
      refine ⟨v, h3, s1.out R hp fun d2 γ1 w c1 _ x1 R1 k1 q1 h5 => ?_⟩
      cases d with
      | int m =>
        cases d2 with
        | int n =>
          cases (show v = .int m from h4)
          cases (show w = .int n from q1)
          exact ⟨m, n, rfl, rfl, h5 _ c1 .refl (R1.setP (show Den X.K c1 (.int (h m n)) (.int (h m n)) from rfl) i)⟩
        | _ => exact h5.elim
      | _ => cases d2 <;> exact h5.elim
    | _ => exact hp.elim
/-- from here on the list of slot j is data -/
def hFrz (j : Nat) (h : Gm → Out) : Gm → Out := fun γ => match γ[j]? with
  | some (.ow l) => h (γ.set j (.pu (.lst l)))
  | _ => h γ
theorem mss_frz (j : Nat) {sts : List Stmt} {h : Gm → Out} (hs : MSs X W sts h) : MSs X W sts (hFrz j h) := by
  obtain ⟨t, h1, s1⟩ := hs
  refine ⟨t, h1, fun f c σ γ T R hp => ?_⟩
  replace hp : SPost X.K X.mg W f c T (hFrz j h γ) := hp
  unfold hFrz at hp
  split at hp
  · rename_i l ej
    obtain ⟨q, h2, h3, h4, hO⟩ := R.ow j l ej
    have R2 := R.see (by unfold ownAt; rw [ej]; rfl) h2 hO h3
    have s3 := (Rel.lessS R2 (S' := f.S) fun _ _ _ _ _ _ z => z)
    exact s1 f (c.del q) σ _ T s3 (SPost.pre (fun d v hd => hd.less fun _ z => z.1) hp)
  · exact s1 f c σ γ T R hp
/-! sorted, of ints, fewer than 64 -/
def insI (i : Int) : List Int → List Int
  | [] => [i]
  | j :: l => if i ≤ j then i :: j :: l else j :: insI i l
def sortI : List Int → List Int
  | [] => []
  | i :: l => insI i (sortI l)
theorem insI_perm (i : Int) : ∀ l : List Int, (insI i l).Perm (i :: l)
  | [] => .refl _
  | j :: l => by
    unfold insI
    split
    · exact .refl _
    · exact ((insI_perm i l).cons j).trans (.swap i j l)
theorem sortI_perm : ∀ l : List Int, (sortI l).Perm l
  | [] => .refl _
  | i :: l => (insI_perm i (sortI l)).trans ((sortI_perm l).cons i)
theorem insI_sorted (i : Int) : ∀ {l : List Int}, l.Pairwise (· ≤ ·) → (insI i l).Pairwise (· ≤ ·)
  | [], _ => List.pairwise_singleton ..
  | j :: l, h => by
    unfold insI
    obtain ⟨h1, h2⟩ := List.pairwise_cons.mp h
    by_cases hij : i ≤ j
    · rw [if_pos hij]
      refine List.pairwise_cons.mpr ⟨fun y hy => ?_, h⟩
      rcases List.mem_cons.mp hy with rfl | hy
      · exact hij
      · exact Int.le_trans hij (h1 y hy)
    · rw [if_neg hij]
      refine List.pairwise_cons.mpr ⟨fun y hy => ?_, insI_sorted i h2⟩
      rcases List.mem_cons.mp ((insI_perm i l).mem_iff.mp hy) with rfl | hy
      · omega
      · exact h1 y hy
theorem sortI_sorted : ∀ l : List Int, (sortI l).Pairwise (· ≤ ·)
  | [] => .nil
  | i :: l => insI_sorted i (sortI_sorted l)
theorem sort_one {l m : List Int} (h : m.Perm l) (s : m.Pairwise (· ≤ ·)) : m = sortI l :=
  (h.trans (sortI_perm l).symm).eq_of_pairwise (fun a b _ _ h1 h2 => Int.le_antisymm h1 h2) s (sortI_sorted l)
def dSorted : List D → Option (List D)
  | [d] => match itemsD d with
    | some l => match intL l with
      | some ns => if ns.length < 64 then some ((sortI ns).map .int) else none
      | none => none
    | none => none
  | _ => none
theorem ok_some {P : Program} {w : World} {H : Hp} {h : Heap} {a : Addr} {o : HO} (x : ObjOk P w H h a o) : ∃ u, h.get? a = some u := by
  cases o with
  | lst xs => obtain ⟨_, _, _, _, e⟩ := x; exact ⟨_, e⟩
  | tup xs => obtain ⟨_, _, _, u, e, _⟩ := x; exact ⟨u, e⟩
  | dK kvs => obtain ⟨_, _, _, _, u, _, _, e, _⟩ := x; exact ⟨u, e⟩
  | dT kvs => obtain ⟨_, _, _, _, u, _, _, e, _⟩ := x; exact ⟨u, e⟩
  | set S n => obtain ⟨u, _, _, _, e, _⟩ := x; exact ⟨u, e⟩
  | ins C dx fs => obtain ⟨_, _, _, e, _⟩ := x; exact ⟨_, e⟩
  | own y => exact x
  | xd fs => obtain ⟨_, ⟨u, _, _, e, _⟩, _⟩ := x; exact ⟨u, e⟩
  | rng lo hi => obtain ⟨_, _, _, e⟩ := x; exact ⟨_, e⟩
  | frz ob u => exact ⟨_, x.1⟩
  | tbl ps => exact ⟨_, x⟩
  | met f y => exact ⟨_, x⟩
  | ext φ => exact x.2.1
theorem laid_at {X : Cx} {pn : List (Addr × Obj)} {st : St} {hh : Hp} {s : Shared} {h' : Heap} {t' : Nat} {p : Addr} {o : HO} (inv : L2.Inv X pn st hh s) (keep : ∀ b u, s.heap.get? b = some u → h'.get? b = some u) (ne : ∀ b u, s.heap.get? b = some u → b ≠ p) (nn : hh p = none)
    (new : ObjOk X.prog X.w (upd hh p o) h' p o) : L2.Inv X pn st (upd hh p o) { s with heap := h', toks := t' } := by
  have at_ne : ∀ b u, hh b = some u → upd hh p o b = some u := fun b u e => by rw [upd_ne (ne_of_none e nn)]; exact e
  refine inv.un ⟨fun b u q _ _ _ => keep b u q, fun b u q _ _ _ => ⟨u.slots, keep b u q⟩, fun b u q n _ => by rw [upd_ne (ne b u q)]; exact n, fun b u q _ => ⟨u, keep b u q⟩, fun b xs q => at_ne b _ q, fun b u xs q => at_ne b _ q, fun b ps q => ⟨#[], by rw [at_ne b _ q]; simp⟩⟩ fun b u e => ?_
  by_cases hb : b = p
  · subst hb
    rw [upd_same] at e
    cases e; exact new
  · rw [upd_ne hb] at e
    exact (inv.hok b u e).stay (fun c v _ q => keep c v q) (fun c q => at_ne c _ q) fun c xs q => at_ne c _ q
def rSortSeq (K : PySem.W.Frag) : List V → Hp → VK → Prop := fun vs H Q => ∃ (k : Addr) (ns : List Int), vs = [V.ref k] ∧ (SqL K H k (ns.map V.int) ∨ SqT K H k (ns.map V.int)) ∧ ns.length < 64 ∧ ∀ q, H q = none → Q (.ref q) (upd H q (.lst ((sortI ns).map V.int)))
theorem cr_sortSeq : CallR X (.builtin "sorted") (rSortSeq X.K) := by
  intro pn s st hh vs us Q inv rv hw
  obtain ⟨k, ns, rfl, hs, h64, q⟩ := hw
  rw [Vals.ref1 rv]
  obtain ⟨its, T, o, n, ri, hT, ho, hc, hd⟩ : ∃ (its : List Value) (T : String) (o : Obj) (n : Nat), Vals (ns.map V.int) its ∧ (T = "list" ∨ T = "tuple") ∧ s.heap.get? k = some o ∧ o.cls = .type T ∧ o.data = .seq its.toArray n := by
    rcases hs with hs | hs
    · obtain ⟨its, ri, ⟨o, n, h1, h2, _, h3⟩, _⟩ := inv.list hs
      exact ⟨its, "list", o, n, ri, .inl rfl, h1, h2, h3⟩
    · obtain ⟨its, ri, ⟨o, h1, h2, n, h3⟩, _⟩ := inv.tuple hs
      exact ⟨its, "tuple", o, n, ri, .inr rfl, h1, h2, h3⟩
  have hi := ri.ints
  have hl : its.length = ns.length := hi.length
  have hz : its.length ≤ sizeLine := by rw [hl]; exact small64 h64
  refine Calls.call_function_entry kind_sorted plain_sorted entry_sorted (args_sorted1 _) ?_
  unfold Builtin.«sorted»
  refine wpAny_bind (m := checkCount "sorted" 1 1 _) (wpAny_pure ?_)
  refine wpAny_bind (wpAny_collect_seq k hT ho hc hd (fun h' hk => ?_) (by rw [List.size_toArray]; exact hz))
  refine wpAny_bind (wpAny_newList ?_ hz)
  have hoL : (h'.push (seqObj "list" its.toArray 0)).get? h'.objs.size = some (seqObj "list" its.toArray 0) := Heap.get?_push_size _ rfl
  refine wpAny_bind (wpAny_holding (wpAny_call_entry slot_list_sort ⟨_, hoL, rfl⟩ entry_list_sort (list_sort_tree hoL hi (by rw [hl]; exact h64) fun out ns' a1 a2 a3 => ⟨_, rfl, ?_⟩) (args_list_sort _)))
  refine wpAny_pure ?_
  obtain ⟨ep, he⟩ := sortedHeap_at (vs := its) (out := out) hoL
  have e3 : ns' = sortI ns := sort_one a2 a3
  subst e3
  have hlen : ((sortI ns).map V.int).length ≤ sizeLine := by rw [List.length_map, a2.length_eq]; exact small64 h64
  have keep : ∀ b ob, s.heap.get? b = some ob → (sortedHeap (h'.push (seqObj "list" its.toArray 0)) h'.objs.size its out).get? b = some ob := fun b ob hb => by
    have h1 := hk b ob hb
    have hlt : b < h'.objs.size := Heap.lt_size h1
    rw [sortedHeap_old (Nat.ne_of_lt hlt) (by rw [PyProof.Rows.size_push']; exact Nat.lt_succ_of_lt hlt)]
    exact Heap.get?_push_of_some _ h1
  have nn : hh h'.objs.size = none := by
    cases z : hh h'.objs.size with
    | none => rfl
    | some u =>
      obtain ⟨ob, h1⟩ := ok_some (inv.hok _ u z)
      exact absurd (Heap.lt_size (hk _ ob h1)) (Nat.lt_irrefl _)
  exact ⟨_, rfl, .ref _, upd hh h'.objs.size (.lst ((sortI ns).map V.int)), laid_at (s := s) (h' := sortedHeap (h'.push (seqObj "list" its.toArray 0)) h'.objs.size its out) (t' := s.toks) inv keep (fun b ob hb => Nat.ne_of_lt (Heap.lt_size (hk b ob hb))) nn ⟨hlen, out.toList, ep, vals_of_ints a1, he⟩, rfl, q _ nn⟩
end
end Fv

set_option maxRecDepth 100000
namespace Fv
open PySem L2
open PyProof.Rows (boot_range Call_)

section
variable {X : Cx} {W : WX} {pos p p1 p2 : Pos} {a b c e tg : Expr} {es : List Expr} {ga gb gc : Gm → Rs D} {x : Str} {j : Nat} {gs : Gm → Rs (List D)}
theorem mf_callB {x : Str} {p : Pos} {id : String} {r : List V → Hp → VK → Prop} {h : List D → Option (List D)} (hc : CallR X (.builtin id) r) (m : MeetF X.K r h) (hg : Gl X x) (hm : X.mg x = none) (hv : bootBuiltins x = some (.builtin id)) (ha : MD X W (e :: es) gs)
    (h1 : x ≠ "__name__" := by decide) (h2 : (x == ("__debug__" : Str)) = false := by decide) (h3 : starEach (e :: es) X.env = (false, eval e X.env) :: starEach es X.env := by rfl) (h4 : (backTo pos (starEach es X.env)).any (·.1) = false := by rfl) :
    MF X W (.Call (.Name x p) (e :: es) [] pos) (gBF h gs) := by
  obtain ⟨⟨t, ht, s⟩, _⟩ := ha
  exact ⟨_, pe_callB hc hg hm hv ht h1 h2 h3 h4, simBF m s⟩
theorem dens_ints {K : PySem.W.Frag} {c : Cf} : ∀ {ns : List Int}, Dens K c (ns.map .int) (ns.map V.int)
  | [] => Dens.nil
  | n :: ns => Dens.cons rfl dens_ints
theorem mf_sorted (hg : Gl X "sorted") (hm : X.mg "sorted" = none) (ha : MP X W a ga) (h3 : starEach [a] X.env = (false, eval a X.env) :: starEach [] X.env := by rfl) : MF X W (.Call (.Name "sorted" p) [a] [] pos) (gBF dSorted (gCons ga gNil)) := by
  refine mf_callB cr_sortSeq (fun c l z vs Q wf h q k => ?_) hg hm (by decide +kernel) (md_cons ha md_nil h3) (h3 := h3)
  unfold dSorted at h
  split at h
  · rename_i d
    obtain ⟨v, rfl, p1⟩ := dens1 q
    cases e1 : itemsD d with
    | none => rw [e1] at h; cases h
    | some l =>
      rw [e1] at h
      simp only at h
      cases e2 : intL l with
      | none => rw [e2] at h; cases h
      | some ns =>
        rw [e2] at h
        obtain ⟨h64, rfl⟩ := ite_of h
        cases d with
        | lst l' =>
          cases e1
          obtain ⟨pp, xs, rfl, q1, q2⟩ := p1
          have e3 := intL_den e2 q2
          subst e3
          exact ⟨pp, ns, rfl, .inl q1.sq, h64, fun q n => k q _ n dens_ints⟩
        | tup l' =>
          cases e1
          obtain ⟨pp, xs, rfl, q1, q2⟩ := p1
          have e3 := intL_den e2 q2
          subst e3
          exact ⟨pp, ns, rfl, .inr q1, h64, fun q n => k q _ n dens_ints⟩
        | _ => cases e1
  · cases h
/-! list(range(..)), tuple(range(..)) of ranges by ones -/
theorem cr_rg1 : CallR X (.type "range") (fun vs H Q => ∃ i, vs = [V.int i] ∧ ∀ q, H q = none → Q (.ref q) (upd H q (.rng 0 i))) := by
  intro pn s st hh vs us Q inv rv hw
  obtain ⟨i, rfl, q⟩ := hw
  obtain ⟨u, rfl, ru⟩ : ∃ u, us = [u] ∧ RelV (.int i) u := by
    cases rv with
    | cons r t => cases t; exact ⟨_, rfl, r⟩
  obtain ⟨t, rfl⟩ := ru
  exact call_range_1 ⟨.ref s.heap.objs.size, upd hh s.heap.objs.size (.rng 0 i), inv.laid (t' := s.toks + 2) (fun b o e => Heap.get?_push_of_some _ e) (Nat.le_refl _) ⟨_, _, _, Heap.get?_push_size _ rfl⟩, rfl, q _ (inv.hok.fresh (Nat.le_refl _))⟩
def rRgL : List V → Hp → VK → Prop := fun vs H Q => ∃ (k : Addr) (lo hi : Int), vs = [V.ref k] ∧ H k = some (.rng lo hi) ∧ -(2 ^ 62) ≤ lo ∧ lo < 2 ^ 62 ∧ -(2 ^ 62) ≤ hi ∧ hi < 2 ^ 62 ∧ hi - lo ≤ 10000000 ∧ ∀ q, H q = none → Q (.ref q) (upd H q (.lst ((List.range (hi - lo).toNat).map fun i => V.int (lo + (i : Nat)))))
theorem items_rel {lo : Int} {n : Nat} {acc : Array Value} (h : ItemsOf (fun i v => ∃ t, v = .int (lo + i * 1) t) acc n) : Vals ((List.range n).map fun i => V.int (lo + (i : Nat))) acc.toList := by
  obtain ⟨h1, h2⟩ := h
  have key : ∀ (m : Nat), m ≤ n → Vals ((List.range' (n - m) m).map fun i => V.int (lo + (i : Nat))) (acc.toList.drop (n - m)) := by
    intro m
    induction m with
    | zero => intro _; rw [List.drop_eq_nil_of_le (by rw [Array.length_toList]; omega)]; exact .nil
    | succ m ih =>
      intro hm
      have hlt : n - (m + 1) < acc.toList.length := by rw [Array.length_toList]; omega
      rw [List.drop_eq_getElem_cons hlt, List.range'_succ, List.map_cons]
      have e1 : n - (m + 1) + 1 = n - m := by omega
      rw [e1]
      refine .cons ?_ (ih (by omega))
      obtain ⟨t, e2⟩ := h2 (n - (m + 1)) acc.toList[n - (m + 1)] (by rw [← Array.getElem?_toList, List.getElem?_eq_getElem hlt])
      exact ⟨t, by rw [e2, Int.mul_one]⟩
  have := key n (Nat.le_refl _)
  rw [Nat.sub_self] at this
  rw [List.range_eq_range']
  exact this
theorem cr_rgL (hc : X.calm = true) : CallR X (.type "list") rRgL := by
  intro pn s st hh vs us Q inv rv hw
  obtain ⟨k, lo, hi, rfl, hk, b1, b2, b3, b4, b5, q⟩ := hw
  rw [Vals.ref1 rv]
  obtain ⟨t, u, v, ho⟩ := inv.hok k _ hk
  have hz : (hi - lo).toNat ≤ 10000000 := by omega
  refine call_list_range (n := (hi - lo).toNat) (inv.ok.hd hc) ho (small_one b1 b2 b3 b4) (by rw [rangeSize_one]; split <;> omega) (Nat.le_trans hz (by decide)) fun h' tk acc c' keep hS hacc => ?_
  exact ⟨.ref _, upd hh s.heap.objs.size (.lst _), inv.laid (t' := tk) keep (Nat.le_refl _) ⟨by rw [List.length_map, List.length_range]; exact Nat.le_trans hz (by decide), acc.toList, c', items_rel hacc, hS⟩, rfl, q _ (inv.hok.fresh (Nat.le_refl _))⟩
def dRgL (lo hi : Int) : Option (List D) := if -(2 ^ 62) ≤ lo ∧ lo < 2 ^ 62 ∧ -(2 ^ 62) ≤ hi ∧ hi < 2 ^ 62 ∧ hi - lo ≤ 10000000 then some (rangeD lo (hi - lo).toNat) else none
theorem dens_range {K : PySem.W.Frag} {c : Cf} {lo : Int} : ∀ {l : List Nat}, Dens K c (l.map fun i => .int (lo + (i : Nat))) (l.map fun i => V.int (lo + (i : Nat)))
  | [] => Dens.nil
  | n :: l => Dens.cons rfl dens_range
def gRgL1 (ga : Gm → Rs D) : Gm → Rs (List D) := fun γ => (ga γ).bind fun d γ1 => match d with
  | .int j => ofO (dRgL 0 j) γ1
  | _ => .no
theorem mf_listRange {pr : Pos} (hc : X.calm = true) (hg : Gl X "list") (hm : X.mg "list" = none) (hg2 : Gl X "range") (hm2 : X.mg "range" = none) (ha : MP X W a ga)
    (h3 : starEach [a] X.env = (false, eval a X.env) :: starEach [] X.env := by rfl) (h4 : starEach [.Call (.Name "range" p2) [a] [] pr] X.env = (false, eval (.Call (.Name "range" p2) [a] [] pr) X.env) :: starEach [] X.env := by rfl) :
    MF X W (.Call (.Name "list" p) [.Call (.Name "range" p2) [a] [] pr] [] pos) (gRgL1 ga) := by
  obtain ⟨ta, h1, s1⟩ := ha
  refine ⟨_, pe_callTy (cr_rgL hc) hg hm (by decide +kernel) (pa_cons (pe_callTy cr_rg1 hg2 hm2 boot_range (pa_cons h1 pa_nil h3) (he := h3)) pa_nil h4) (he := h4), fun f S c σ γ Q R hp => s1.bind stab_vF R hp fun d γ1 v c1 _ x1 R1 k1 q1 h2 => ?_⟩
  cases d with
  | int i =>
    cases (show v = .int i from q1)
    obtain ⟨z, e1, h5⟩ := h2.fin R1
    obtain ⟨⟨b1, b2, b3, b4, b5⟩, rfl⟩ := ite_of e1
    refine ⟨i, rfl, fun q n => ⟨q, 0, i, rfl, upd_same, b1, b2, b3, b4, b5, fun q' n' => ?_⟩⟩
    have x2 : Ext Nop c1 ⟨c1.M, upd c1.H q (.rng 0 i)⟩ := Ext.new n
    have w2 : WF ⟨c1.M, upd c1.H q (.rng 0 i)⟩ := R1.wf.new n
    have n2 : c1.H q' = none := x2.noneS w2 n'
    exact h5 (.ref q') (Cf.add ⟨c1.M, upd c1.H q (.rng 0 i)⟩ q' _) (x2.trans w2 (Ext.add n')) (w2.add n') ⟨q', rfl, n2, Own.add w2 n' dens_range⟩
  | _ => exact h2.elim

/-! gcd, lcm -/
def dGcd : List D → Option D
  | [.int i, .int j] => some (.int (Nat.gcd i.natAbs j.natAbs : Nat))
  | _ => none
theorem mp_gcd (hg : Gl X "gcd") (hm : X.mg "gcd" = some (.builtin "math.gcd")) (ha : MP X W a ga) (hb : MP X W b gb) (h3 : starEach [a, b] X.env = (false, eval a X.env) :: starEach [b] X.env := by rfl) (h5 : starEach [b] X.env = (false, eval b X.env) :: starEach [] X.env := by rfl) (h4 : (backTo pos (starEach [b] X.env)).any (·.1) = false := by rfl) :
    MP X W (.Call (.Name "gcd" p) [a, b] [] pos) (gB dGcd (gCons ga (gCons gb gNil))) := by
  obtain ⟨⟨t, ht, s⟩, _⟩ := md_cons ha (md_cons hb md_nil h5) h3
  refine ⟨_, pe_callBfun cr_gcd hg hm ht (he := h3) (hpl := h4), simB (r := rGcd) (fun c l z vs Q wf h q k => ?_) s⟩
  unfold dGcd at h
  split at h
  · obtain ⟨v, w, rfl, p1, p2⟩ := dens2 q
    cases h
    exact ⟨_, _, by rw [show v = .int _ from p1, show w = .int _ from p2], k _ c .refl wf rfl⟩
  · cases h
def dLcm : List D → Option D
  | [.int i, .int j] => if i.natAbs < 2 ^ 31 ∧ j.natAbs < 2 ^ 31 then some (.int (Nat.lcm i.natAbs j.natAbs : Nat)) else none
  | _ => none
def rLcm : List V → Hp → VK → Prop := fun vs H Q => ∃ i j : Int, vs = [.int i, .int j] ∧ i.natAbs < 2 ^ 31 ∧ j.natAbs < 2 ^ 31 ∧ Q (.int ((Nat.lcm i.natAbs j.natAbs : Nat) : Int)) H
theorem cr_lcm : CallR X (.builtin "math.lcm") rLcm := by
  intro pn s st hh vs us Q inv rv hw
  obtain ⟨i, j, rfl, b1, b2, q⟩ := hw
  obtain ⟨t, u, rfl⟩ := Vals.int2 rv
  have e1 : (Nat.lcm 1 i.natAbs).lcm j.natAbs = Nat.lcm i.natAbs j.natAbs := by rw [Nat.lcm_one_left]
  have hle : Nat.lcm i.natAbs j.natAbs < 2 ^ 62 := by
    have h1 : Nat.lcm i.natAbs j.natAbs ≤ i.natAbs * j.natAbs := Nat.div_le_self ..
    have h2 : i.natAbs * j.natAbs ≤ 2 ^ 31 * j.natAbs := Nat.mul_le_mul_right _ (Nat.le_of_lt b1)
    omega
  refine PySem.W.mg_lcm (by omega) (by omega) (by rw [e1, Int.natAbs_natCast]; exact Nat.lt_of_le_of_lt (PySem.W.mg_log (by omega)) (by decide)) ⟨.int _, hh, inv.tok _, ⟨_, rfl⟩, ?_⟩
  rw [e1]; exact q
theorem mp_lcm (hg : Gl X "lcm") (hm : X.mg "lcm" = some (.builtin "math.lcm")) (ha : MP X W a ga) (hb : MP X W b gb) (h3 : starEach [a, b] X.env = (false, eval a X.env) :: starEach [b] X.env := by rfl) (h5 : starEach [b] X.env = (false, eval b X.env) :: starEach [] X.env := by rfl) (h4 : (backTo pos (starEach [b] X.env)).any (·.1) = false := by rfl) :
    MP X W (.Call (.Name "lcm" p) [a, b] [] pos) (gB dLcm (gCons ga (gCons gb gNil))) := by
  obtain ⟨⟨t, ht, s⟩, _⟩ := md_cons ha (md_cons hb md_nil h5) h3
  refine ⟨_, pe_callBfun cr_lcm hg hm ht (he := h3) (hpl := h4), simB (r := rLcm) (fun c l z vs Q wf h q k => ?_) s⟩
  unfold dLcm at h
  split at h
  · obtain ⟨v, w, rfl, p1, p2⟩ := dens2 q
    obtain ⟨⟨b1, b2⟩, h2⟩ := ite_of h
    cases h2
    exact ⟨_, _, by rw [show v = .int _ from p1, show w = .int _ from p2], b1, b2, k _ c .refl wf rfl⟩
  · cases h
end

/-! the law's end -/
theorem law_sp {K : PySem.W.Frag} {mg : Str → Option Value} {F : List SV → Rs D} {H : Hp} {a : Addr} {ns : List Int} (hS : SqL K H a (ns.map V.int)) {γ : Gm} (h : F [.pu (.lst (ns.map .int))] = .ok (.bl true) γ) : spF K mg 1 F [.ref a] H (fun v _ => v = .bl true) (fun _ _ _ => False) := by
  refine ⟨rfl, ⟨⟨fun _ => False, H⟩, fun _ => (0 : Nat), fun _ => False⟩, [.pu (.lst (ns.map .int))], rfl, ?_, ?_⟩
  · refine ⟨fun _ z => z.elim, fun _ z => z.elim, .refl, rfl, fun i d e => ?_, fun i l e => ?_, fun i l e => ?_, fun i j s t a hij e1 e2 o1 o2 e3 => ?_⟩
    · match i, e with
      | 0, e =>
        have e' : SV.pu (.lst (ns.map .int)) = .pu d := by simpa using e
        cases e'
        refine ⟨.ref a, rfl, a, ns.map V.int, rfl, ?_, dens_ints⟩
        rcases hS with hS | hS
        · exact .inl ⟨hS, fun z => z⟩
        · exact .inr (.inr hS)
    · match i, e with
      | 0, e => simp at e
    · match i, e with
      | 0, e => simp at e
    · match i, e1 with
      | 0, e1 =>
        have e' : SV.pu (.lst (ns.map .int)) = s := by simpa using e1
        rw [← e'] at o1; cases o1
  · rw [h]
    exact fun v c' _ hd => hd
end Fv

set_option maxRecDepth 100000
namespace Fv
open PySem L2
def hBk : Gm → Out := fun γ => .bk γ
def hCt : Gm → Out := fun γ => .ct γ
section
variable {X : Cx} {W : WX} {pos : Pos}
theorem mp_cst {x : Str} {i : Int} (hg : Gl X x) (hm : ∃ t, X.mg x = some (.int i t)) (h2 : (x == ("__debug__" : Str)) = false := by decide) : MP X W (.Name x pos) (gC (.int i)) := by
  obtain ⟨t, e⟩ := hm
  exact mp_glob hg e (show RelV (.int i) (.int i t) from ⟨t, rfl⟩) (fun c => rfl) h2
end
end Fv

set_option maxRecDepth 100000
/-! ### the head: facts of names, and names that stand for builtins -/
namespace Fv
open PySem L2
abbrev AlB : Type := He.AlD × Bool
def bxB (bx : List (Str × String)) (K : PySem.W.Frag) : Bool := bx.all fun p => He.eqO (PySem.W.nsIn K mainGlobals p.1) (some (some (.builtin p.2)))
def obsB (n : Nat) (fa : List He.Fa) (fn : List He.DefD) (bx : List (Str × String)) (g : Addr → Option Obj) : AlB :=
  let K := He.frG g (He.asD g n)
  (He.obsD fa fn K, bxB bx K)
def SaysB (fa : List He.Fa) (fn : List He.DefD) (bx : List (Str × String)) (K : PySem.W.Frag) : Prop := He.SaysD fa fn K ∧ bxB bx K = true
theorem obsB_eq {n : Nat} {fa : List He.Fa} {fn : List He.DefD} {bx : List (Str × String)} {g : Addr → Option Obj} {s : Shared} (h : ∀ a, g a = s.heap.get? a) : obsB n fa fn bx g = obsB n fa fn bx s.heap.get? := by
  have e : g = s.heap.get? := funext h
  rw [e]
def hookB (n : Nat) (fa : List He.Fa) (fn : List He.DefD) (bx : List (Str × String)) : PySem.W.Hook where
  α := AlB
  obs := fun s => obsB n fa fn bx s.heap.get?
  val := fun _ => (He.valD fn, true)
  says := fun _ h => ∃ K, PySem.W.Frag.In K h ∧ SaysB fa fn bx K
  of := fun _ s e => ⟨_, He.frG_in, (Prod.mk.inj e).1, (Prod.mk.inj e).2⟩
  keeps := fun _ _ _ ⟨K, h1, h2⟩ k => ⟨K, fun a o e => k a o (h1 a o e), h2⟩
theorem bx_ok {fa : List He.Fa} {fn : List He.DefD} {bx : List (Str × String)} {K : PySem.W.Frag} {h : Heap} {mg : Str → Option Value} (X : K.In h) (G : h.Ns mainGlobals mg) (c : SaysB fa fn bx K) (i : Nat) {x : Str} {z : String} (e : bx[i]? = some (x, z)) : mg x = some (.builtin z) := by
  have h1 := List.all_eq_true.mp c.2 (x, z) (List.mem_of_getElem? e)
  exact PySem.W.mg_of X G (He.eqO_ok h1)
end Fv

set_option maxRecDepth 100000
/-! ### the text -/
namespace Tx
open PySem L2 Fv
open PyProof.Rows (envOfC)
def topS (i : Nat) : Stmt := PySem.Challenge.pw_eventcore_k09_whole_scales.main.body.getD i (.Pass ⟨0, 0, 0, 0⟩)
/-! rounded_up -/
abbrev s_rounded_up : Stmt := topS 2
abbrev N_rounded_up : List Str := ["length", "gap"]
theorem sc_rounded_up : FnScope ["length", "gap"] ["length", "gap"] (defScope s_rounded_up) := ⟨rfl, rfl, rfl, by decide +kernel, rfl, by decide +kernel, by decide +kernel⟩
def h_rounded_up : Gm → Out := (hRet (g1 dNeg (g2 dFdiv (g1 dNeg (gVar 0)) (gVar 1))))
def F_rounded_up : List SV → Rs D := runN 2 h_rounded_up
set_option maxHeartbeats 4000000 in
theorem w_rounded_up {P : Program} {w : World} {K : PySem.W.Frag} {mg : Str → Option Value} {base : Heap} {f : Addr} {fd : FuncData} (F : FunD K ("rounded_up" : Str) ("rounded_up" : Str) (defArgs s_rounded_up) (defBody s_rounded_up) (defScope s_rounded_up) [] [] f fd) : FnOk P w K mg base CX0 1 f fd ["length", "gap"] (spF K mg 2 F_rounded_up) :=
  fok (k := 0) F sc_rounded_up fun cdv A outer s H E hr => (mss_one (ms_ret (mp_neg (mp_fdiv (mp_neg (mp_tvar (pv 0))) (mp_tvar (pv 1))))))
/-! is_number -/
abbrev s_is_number : Stmt := topS 9
abbrev N_is_number : List Str := ["value"]
theorem sc_is_number : FnScope ["value"] ["value"] (defScope s_is_number) := ⟨rfl, rfl, rfl, by decide +kernel, rfl, by decide +kernel, by decide +kernel⟩
def h_is_number : Gm → Out := (hRet (gAnd (g1 (dIsi "int") (gVar 0)) (gNot (g1 (dIsi "bool") (gVar 0)))))
def F_is_number : List SV → Rs D := runN 1 h_is_number
set_option maxHeartbeats 4000000 in
theorem w_is_number {P : Program} {w : World} {K : PySem.W.Frag} {mg : Str → Option Value} {base : Heap} {f : Addr} {fd : FuncData} (m_bool : mg ("bool" : Str) = none) (m_int : mg ("int" : Str) = none) (m_isinstance : mg ("isinstance" : Str) = none) (F : FunD K ("is_number" : Str) ("is_number" : Str) (defArgs s_is_number) (defBody s_is_number) (defScope s_is_number) [] [] f fd) : FnOk P w K mg base CX0 1 f fd ["value"] (spF K mg 1 F_is_number) :=
  fok (k := 0) F sc_is_number fun cdv A outer s H E hr => (mss_one (ms_ret (mp_and (mp_isi (T := ("int" : Str)) (Ts := "int") rfl m_isinstance rfl m_int (by decide +kernel) (mp_tvar (pv 0))) (mp_one (mp_not (mp_isi (T := ("bool" : Str)) (Ts := "bool") rfl m_isinstance rfl m_bool (by decide +kernel) (mp_tvar (pv 0))))))))
/-! is_integer -/
abbrev s_is_integer : Stmt := topS 10
abbrev N_is_integer : List Str := ["value", "low", "high"]
theorem sc_is_integer : FnScope ["value", "low", "high"] ["value", "low", "high"] (defScope s_is_integer) := ⟨rfl, rfl, rfl, by decide +kernel, rfl, by decide +kernel, by decide +kernel⟩
def h_is_integer : Gm → Out := (hRet (gAnd (gCall F_is_number (aCons (gVar 0) aNil)) (gChain dLe dLe (gVar 1) (gVar 0) (gVar 2))))
def F_is_integer : List SV → Rs D := runN 3 h_is_integer
set_option maxHeartbeats 4000000 in
theorem w_is_integer {P : Program} {w : World} {K : PySem.W.Frag} {mg : Str → Option Value} {base : Heap} {f : Addr} {fd : FuncData} (d_is_number : Def P w K mg base CX0 1 ("is_number" : Str) ["value"] F_is_number) (F : FunD K ("is_integer" : Str) ("is_integer" : Str) (defArgs s_is_integer) (defBody s_is_integer) (defScope s_is_integer) [] [] f fd) : FnOk P w K mg base CX0 2 f fd ["value", "low", "high"] (spF K mg 3 F_is_integer) :=
  fok (k := 1) F sc_is_integer fun cdv A outer s H E hr => (mss_one (ms_ret (mp_and (mp_def d_is_number hr (by decide) rfl at0 (ma_cons (mp_tvar (pv 0)) ma_nil)) (mp_one (mp_b (mp_le_le (mp_tvar (pv 1)) (mp_tvar (pv 0)) (mp_tvar (pv 2))))))))
/-! is_tuple -/
abbrev s_is_tuple : Stmt := topS 11
abbrev N_is_tuple : List Str := ["value", "least", "most"]
theorem sc_is_tuple : FnScope ["value", "least", "most"] ["value", "least", "most"] (defScope s_is_tuple) := ⟨rfl, rfl, rfl, by decide +kernel, rfl, by decide +kernel, by decide +kernel⟩
def h_is_tuple : Gm → Out := (hRet (gAnd (g1 (dIsi "tuple") (gVar 0)) (gChain dLe dLe (gVar 1) (gB dLen (gCons (gVar 0) gNil)) (gVar 2))))
def F_is_tuple : List SV → Rs D := runN 3 h_is_tuple
set_option maxHeartbeats 4000000 in
theorem w_is_tuple {P : Program} {w : World} {K : PySem.W.Frag} {mg : Str → Option Value} {base : Heap} {f : Addr} {fd : FuncData} (m_isinstance : mg ("isinstance" : Str) = none) (m_len : mg ("len" : Str) = none) (m_tuple : mg ("tuple" : Str) = none) (F : FunD K ("is_tuple" : Str) ("is_tuple" : Str) (defArgs s_is_tuple) (defBody s_is_tuple) (defScope s_is_tuple) [] [] f fd) : FnOk P w K mg base CX0 1 f fd ["value", "least", "most"] (spF K mg 3 F_is_tuple) :=
  fok (k := 0) F sc_is_tuple fun cdv A outer s H E hr => (mss_one (ms_ret (mp_and (mp_isi (T := ("tuple" : Str)) (Ts := "tuple") rfl m_isinstance rfl m_tuple (by decide +kernel) (mp_tvar (pv 0))) (mp_one (mp_b (mp_le_le (mp_tvar (pv 1)) (mp_len rfl m_len (mp_tvar (pv 0))) (mp_tvar (pv 2))))))))
/-! is_order -/
abbrev s_is_order : Stmt := topS 12
abbrev N_is_order : List Str := ["value", "many", "entry"]
theorem sc_is_order : FnScope ["value", "many", "entry"] ["value", "many"] (defScope s_is_order) := ⟨rfl, rfl, rfl, by decide +kernel, rfl, by decide +kernel, by decide +kernel⟩
def h_is_order : Gm → Out := (hSeq (hIf (tgNot (gTst (gCall F_is_tuple (aCons (gVar 0) (aCons (gVar 1) (aCons (gVar 1) aNil)))))) (hRet (gC (.bl false))) hNx) (hSeq (hFor (gItems (gVar 0)) (kSet 2) (hIf (tgNot (gTst (gCall F_is_integer (aCons (gVar 2) (aCons (gC (.int 0)) (aCons (g2 dSub (gVar 1) (gC (.int 1))) aNil)))))) (hRet (gC (.bl false))) hNx)) (hRet (g2 dEq (gPu (gBF dSorted (gCons (gVar 0) gNil))) (gPu (gRgL1 (gVar 1)))))))
def F_is_order : List SV → Rs D := runN 3 h_is_order
set_option maxHeartbeats 4000000 in
theorem w_is_order {P : Program} {w : World} {K : PySem.W.Frag} {mg : Str → Option Value} {base : Heap} {f : Addr} {fd : FuncData} (m_list : mg ("list" : Str) = none) (m_range : mg ("range" : Str) = none) (m_sorted : mg ("sorted" : Str) = none) (d_is_tuple : Def P w K mg base CX0 1 ("is_tuple" : Str) ["value", "least", "most"] F_is_tuple) (d_is_integer : Def P w K mg base CX0 2 ("is_integer" : Str) ["value", "low", "high"] F_is_integer) (F : FunD K ("is_order" : Str) ("is_order" : Str) (defArgs s_is_order) (defBody s_is_order) (defScope s_is_order) [] [] f fd) : FnOk P w K mg base CX0 3 f fd ["value", "many"] (spF K mg 2 F_is_order) :=
  fok (k := 2) F sc_is_order fun cdv A outer s H E hr => (mss_cons (ms_if (mt_not (mt_val (mp_def d_is_tuple hr (by decide) rfl at0 (ma_cons (mp_tvar (pv 0)) (ma_cons (mp_tvar (pv 1)) (ma_cons (mp_tvar (pv 1)) ma_nil)))))) (mss_one (ms_ret mp_bl)) mss_nil) (mss_cons (ms_for PassesOwn.never rfl (mi_seq (mp_tvar (pv 0))) (mg_name (i := 2) sc_is_order.nd rfl (.inl rfl)) (mss_one (ms_if (mt_not (mt_val (mp_def d_is_integer hr (by decide) rfl at0 (ma_cons (mp_tvar (pv 2)) (ma_cons mp_int (ma_cons (mp_sub (mp_tvar (pv 1)) mp_int) ma_nil)))))) (mss_one (ms_ret mp_bl)) mss_nil))) (mss_one (ms_ret (mp_b (mp_eq hr.units (mp_of_f (mf_sorted rfl m_sorted (mp_tvar (pv 0)))) (mp_of_f (mf_listRange rfl rfl m_list rfl m_range (mp_tvar (pv 1))))))))))
/-! check_order -/
abbrev s_check_order : Stmt := topS 13
abbrev N_check_order : List Str := ["value", "many"]
theorem sc_check_order : FnScope ["value", "many"] ["value", "many"] (defScope s_check_order) := ⟨rfl, rfl, rfl, by decide +kernel, rfl, by decide +kernel, by decide +kernel⟩
def h_check_order : Gm → Out := (hIf (tgNot (gTst (gCall F_is_order (aCons (gVar 0) (aCons (gVar 1) aNil))))) hNever hNx)
def F_check_order : List SV → Rs D := runN 2 h_check_order
set_option maxHeartbeats 4000000 in
theorem w_check_order {P : Program} {w : World} {K : PySem.W.Frag} {mg : Str → Option Value} {base : Heap} {f : Addr} {fd : FuncData} (d_is_order : Def P w K mg base CX0 3 ("is_order" : Str) ["value", "many"] F_is_order) (F : FunD K ("check_order" : Str) ("check_order" : Str) (defArgs s_check_order) (defBody s_check_order) (defScope s_check_order) [] [] f fd) : FnOk P w K mg base CX0 4 f fd ["value", "many"] (spF K mg 2 F_check_order) :=
  fok (k := 3) F sc_check_order fun cdv A outer s H E hr => (mss_one (ms_if (mt_not (mt_val (mp_def d_is_order hr (by decide) rfl at0 (ma_cons (mp_tvar (pv 0)) (ma_cons (mp_tvar (pv 1)) ma_nil))))) (mss_one ms_never) mss_nil))
/-! arrived_work -/
abbrev s_arrived_work : Stmt := topS 15
abbrev N_arrived_work : List Str := ["tasks", "length", "cost", "_", "gap"]
theorem sc_arrived_work : FnScope ["tasks", "length", "cost", "_", "gap"] ["tasks", "length"] (defScope s_arrived_work) := ⟨rfl, rfl, rfl, by decide +kernel, rfl, by decide +kernel, by decide +kernel⟩
def h_arrived_work : Gm → Out := (hRet (gB dSum (gCons (gPu (gLc (gItems (gVar 0)) (kTup 3 (kCons (kSet 2) (kCons (kSet 3) (kCons (kSet 4) kNil)))) gYes (g2 dMul (gVar 2) (gCall F_rounded_up (aCons (gVar 1) (aCons (gVar 4) aNil)))) [2, 3, 4])) gNil)))
def F_arrived_work : List SV → Rs D := runN 5 h_arrived_work
set_option maxHeartbeats 4000000 in
theorem w_arrived_work {P : Program} {w : World} {K : PySem.W.Frag} {mg : Str → Option Value} {base : Heap} {f : Addr} {fd : FuncData} (m_sum : mg ("sum" : Str) = none) (d_rounded_up : Def P w K mg base CX0 1 ("rounded_up" : Str) ["length", "gap"] F_rounded_up) (F : FunD K ("arrived_work" : Str) ("arrived_work" : Str) (defArgs s_arrived_work) (defBody s_arrived_work) (defScope s_arrived_work) [] [] f fd) : FnOk P w K mg base CX0 2 f fd ["tasks", "length"] (spF K mg 2 F_arrived_work) :=
  fok (k := 1) F sc_arrived_work fun cdv A outer s H E hr => (mss_one (ms_ret (mp_sum rfl rfl m_sum (mp_of_f (mf_lc (own := [(("cost" : Str), 2), (("_" : Str), 3), (("gap" : Str), 4)]) rfl sc_arrived_work.nd (mi_seq (mp_tvar (pv 0))) (blkOk_by (by show blkC N_arrived_work (defScope s_arrived_work) _ _ = true; decide +kernel)) (fun _ _ _ _ _ => (mg_tup rfl (mgs_cons (mg_name (i := 2) sc_arrived_work.nd rfl (.inl rfl)) (mgs_cons (mg_name (i := 3) sc_arrived_work.nd rfl (.inl rfl)) (mgs_cons (mg_name (i := 4) sc_arrived_work.nd rfl (.inl rfl)) mgs_nil))))) (fun _ _ _ _ _ => mts_nil) (fun _ _ _ _ _ => (mp_mulI (mp_tvar (pv 2)) (mp_def d_rounded_up hr (by decide) rfl at0 (ma_cons (mp_tvar (pv 1)) (ma_cons (mp_tvar (pv 4)) ma_nil))))) (by decide))))))
/-! is_task -/
abbrev s_is_task : Stmt := topS 21
abbrev N_is_task : List Str := ["value", "cost", "deadline", "gap"]
theorem sc_is_task : FnScope ["value", "cost", "deadline", "gap"] ["value"] (defScope s_is_task) := ⟨rfl, rfl, rfl, by decide +kernel, rfl, by decide +kernel, by decide +kernel⟩
def h_is_task : Gm → Out := (hSeq (hIf (tgNot (gTst (gCall F_is_tuple (aCons (gVar 0) (aCons (gC (.int 3)) (aCons (gC (.int 3)) aNil)))))) (hRet (gC (.bl false))) hNx) (hSeq (hAsg (gVar 0) (kTup 3 (kCons (kSet 1) (kCons (kSet 2) (kCons (kSet 3) kNil))))) (hSeq (hIf (tgNot (gTst (gCall F_is_integer (aCons (gVar 1) (aCons (gC (.int 1)) (aCons (gC (.int 20)) aNil)))))) (hRet (gC (.bl false))) hNx) (hRet (gAnd (gCall F_is_integer (aCons (gVar 2) (aCons (gC (.int 1)) (aCons (gC (.int 60)) aNil)))) (gCall F_is_integer (aCons (gVar 3) (aCons (gC (.int 1)) (aCons (gC (.int 60)) aNil)))))))))
def F_is_task : List SV → Rs D := runN 4 h_is_task
set_option maxHeartbeats 4000000 in
theorem w_is_task {P : Program} {w : World} {K : PySem.W.Frag} {mg : Str → Option Value} {base : Heap} {f : Addr} {fd : FuncData} (c_MOST_COST : ∃ t, mg ("MOST_COST" : Str) = some (.int 20 t)) (c_MOST_DEADLINE : ∃ t, mg ("MOST_DEADLINE" : Str) = some (.int 60 t)) (c_MOST_GAP : ∃ t, mg ("MOST_GAP" : Str) = some (.int 60 t)) (d_is_tuple : Def P w K mg base CX0 1 ("is_tuple" : Str) ["value", "least", "most"] F_is_tuple) (d_is_integer : Def P w K mg base CX0 2 ("is_integer" : Str) ["value", "low", "high"] F_is_integer) (F : FunD K ("is_task" : Str) ("is_task" : Str) (defArgs s_is_task) (defBody s_is_task) (defScope s_is_task) [] [] f fd) : FnOk P w K mg base CX0 3 f fd ["value"] (spF K mg 1 F_is_task) :=
  fok (k := 2) F sc_is_task fun cdv A outer s H E hr => (mss_cons (ms_if (mt_not (mt_val (mp_def d_is_tuple hr (by decide) rfl at0 (ma_cons (mp_tvar (pv 0)) (ma_cons mp_int (ma_cons mp_int ma_nil)))))) (mss_one (ms_ret mp_bl)) mss_nil) (mss_cons (ms_asg (mp_tvar (pv 0)) (mg_tup rfl (mgs_cons (mg_name (i := 1) sc_is_task.nd rfl (.inl rfl)) (mgs_cons (mg_name (i := 2) sc_is_task.nd rfl (.inl rfl)) (mgs_cons (mg_name (i := 3) sc_is_task.nd rfl (.inl rfl)) mgs_nil))))) (mss_cons (ms_if (mt_not (mt_val (mp_def d_is_integer hr (by decide) rfl at0 (ma_cons (mp_tvar (pv 1)) (ma_cons mp_int (ma_cons (mp_cst rfl c_MOST_COST) ma_nil)))))) (mss_one (ms_ret mp_bl)) mss_nil) (mss_one (ms_ret (mp_and (mp_def d_is_integer hr (by decide) rfl at0 (ma_cons (mp_tvar (pv 2)) (ma_cons mp_int (ma_cons (mp_cst rfl c_MOST_DEADLINE) ma_nil)))) (mp_one (mp_def d_is_integer hr (by decide) rfl at0 (ma_cons (mp_tvar (pv 3)) (ma_cons mp_int (ma_cons (mp_cst rfl c_MOST_GAP) ma_nil)))))))))))
/-! check_tasks -/
abbrev s_check_tasks : Stmt := topS 22
abbrev N_check_tasks : List Str := ["tasks", "index", "value"]
theorem sc_check_tasks : FnScope ["tasks", "index", "value"] ["tasks"] (defScope s_check_tasks) := ⟨rfl, rfl, rfl, by decide +kernel, rfl, by decide +kernel, by decide +kernel⟩
def h_check_tasks : Gm → Out := (hSeq (hIf (tgNot (gTst (gCall F_is_tuple (aCons (gVar 0) (aCons (gC (.int 1)) (aCons (gC (.int 6)) aNil)))))) hNever hNx) (hFor (gEnum (gVar 0)) (kTup 2 (kCons (kSet 1) (kCons (kSet 2) kNil))) (hIf (tgNot (gTst (gCall F_is_task (aCons (gVar 2) aNil)))) hNever hNx)))
def F_check_tasks : List SV → Rs D := runN 3 h_check_tasks
set_option maxHeartbeats 4000000 in
theorem w_check_tasks {P : Program} {w : World} {K : PySem.W.Frag} {mg : Str → Option Value} {base : Heap} {f : Addr} {fd : FuncData} (m_enumerate : mg ("enumerate" : Str) = none) (c_MOST_TASKS : ∃ t, mg ("MOST_TASKS" : Str) = some (.int 6 t)) (d_is_tuple : Def P w K mg base CX0 1 ("is_tuple" : Str) ["value", "least", "most"] F_is_tuple) (d_is_task : Def P w K mg base CX0 3 ("is_task" : Str) ["value"] F_is_task) (F : FunD K ("check_tasks" : Str) ("check_tasks" : Str) (defArgs s_check_tasks) (defBody s_check_tasks) (defScope s_check_tasks) [] [] f fd) : FnOk P w K mg base CX0 4 f fd ["tasks"] (spF K mg 1 F_check_tasks) :=
  fok (k := 3) F sc_check_tasks fun cdv A outer s H E hr => (mss_cons (ms_if (mt_not (mt_val (mp_def d_is_tuple hr (by decide) rfl at0 (ma_cons (mp_tvar (pv 0)) (ma_cons mp_int (ma_cons (mp_cst rfl c_MOST_TASKS) ma_nil)))))) (mss_one ms_never) mss_nil) (mss_one (ms_for PassesOwn.never rfl (mi_enum rfl m_enumerate (mp_tvar (pv 0))) (mg_tup rfl (mgs_cons (mg_name (i := 1) sc_check_tasks.nd rfl (.inl rfl)) (mgs_cons (mg_name (i := 2) sc_check_tasks.nd rfl (.inl rfl)) mgs_nil))) (mss_one (ms_if (mt_not (mt_val (mp_def d_is_task hr (by decide) rfl at0 (ma_cons (mp_tvar (pv 2)) ma_nil)))) (mss_one ms_never) mss_nil)))))
/-! check_short_deadlines -/
abbrev s_check_short_deadlines : Stmt := topS 24
abbrev N_check_short_deadlines : List Str := ["tasks", "index", "_", "deadline", "gap"]
theorem sc_check_short_deadlines : FnScope ["tasks", "index", "_", "deadline", "gap"] ["tasks"] (defScope s_check_short_deadlines) := ⟨rfl, rfl, rfl, by decide +kernel, rfl, by decide +kernel, by decide +kernel⟩
def h_check_short_deadlines : Gm → Out := (hFor (gEnum (gVar 0)) (kTup 2 (kCons (kSet 1) (kCons (kTup 3 (kCons (kSet 2) (kCons (kSet 3) (kCons (kSet 4) kNil)))) kNil))) (hIf (gTst (g2 dGt (gVar 3) (gVar 4))) hNever hNx))
def F_check_short_deadlines : List SV → Rs D := runN 5 h_check_short_deadlines
set_option maxHeartbeats 4000000 in
theorem w_check_short_deadlines {P : Program} {w : World} {K : PySem.W.Frag} {mg : Str → Option Value} {base : Heap} {f : Addr} {fd : FuncData} (m_enumerate : mg ("enumerate" : Str) = none) (F : FunD K ("check_short_deadlines" : Str) ("check_short_deadlines" : Str) (defArgs s_check_short_deadlines) (defBody s_check_short_deadlines) (defScope s_check_short_deadlines) [] [] f fd) : FnOk P w K mg base CX0 1 f fd ["tasks"] (spF K mg 1 F_check_short_deadlines) :=
  fok (k := 0) F sc_check_short_deadlines fun cdv A outer s H E hr => (mss_one (ms_for PassesOwn.never rfl (mi_enum rfl m_enumerate (mp_tvar (pv 0))) (mg_tup rfl (mgs_cons (mg_name (i := 1) sc_check_short_deadlines.nd rfl (.inl rfl)) (mgs_cons (mg_tup rfl (mgs_cons (mg_name (i := 2) sc_check_short_deadlines.nd rfl (.inl rfl)) (mgs_cons (mg_name (i := 3) sc_check_short_deadlines.nd rfl (.inl rfl)) (mgs_cons (mg_name (i := 4) sc_check_short_deadlines.nd rfl (.inl rfl)) mgs_nil)))) mgs_nil))) (mss_one (ms_if (mt_b (mp_gt (mp_tvar (pv 3)) (mp_tvar (pv 4)))) (mss_one ms_never) mss_nil))))
/-! is_less -/
abbrev s_is_less : Stmt := topS 25
abbrev N_is_less : List Str := ["ratio", "other"]
theorem sc_is_less : FnScope ["ratio", "other"] ["ratio", "other"] (defScope s_is_less) := ⟨rfl, rfl, rfl, by decide +kernel, rfl, by decide +kernel, by decide +kernel⟩
def h_is_less : Gm → Out := (hRet (g2 dLt (g2 dMul (g2 dIx (gVar 0) (gC (.int 0))) (g2 dIx (gVar 1) (gC (.int 1)))) (g2 dMul (g2 dIx (gVar 1) (gC (.int 0))) (g2 dIx (gVar 0) (gC (.int 1))))))
def F_is_less : List SV → Rs D := runN 2 h_is_less
set_option maxHeartbeats 4000000 in
theorem w_is_less {P : Program} {w : World} {K : PySem.W.Frag} {mg : Str → Option Value} {base : Heap} {f : Addr} {fd : FuncData} (F : FunD K ("is_less" : Str) ("is_less" : Str) (defArgs s_is_less) (defBody s_is_less) (defScope s_is_less) [] [] f fd) : FnOk P w K mg base CX0 1 f fd ["ratio", "other"] (spF K mg 2 F_is_less) :=
  fok (k := 0) F sc_is_less fun cdv A outer s H E hr => (mss_one (ms_ret (mp_b (mp_lt (mp_mulI (mp_ix (mp_tvar (pv 0)) mp_int) (mp_ix (mp_tvar (pv 1)) mp_int)) (mp_mulI (mp_ix (mp_tvar (pv 1)) mp_int) (mp_ix (mp_tvar (pv 0)) mp_int))))))
/-! task_scale -/
abbrev s_task_scale : Stmt := topS 26
abbrev N_task_scale : List Str := ["members", "deadline", "best", "length", "ratio"]
theorem sc_task_scale : FnScope ["members", "deadline", "best", "length", "ratio"] ["members", "deadline"] (defScope s_task_scale) := ⟨rfl, rfl, rfl, by decide +kernel, rfl, by decide +kernel, by decide +kernel⟩
def h_task_scale : Gm → Out := (hSeq (hSet 2 (gTup (gCons (gC (.int 0)) (gCons (gC (.int 1)) gNil)))) (hSeq (hFor (gRng2 (gC (.int 1)) (g2 dAdd (gVar 1) (gC (.int 1)))) (kSet 3) (hSeq (hSet 4 (gTup (gCons (gVar 3) (gCons (gCall F_arrived_work (aCons (gVar 0) (aCons (gVar 3) aNil))) gNil)))) (hIf (gTst (gCall F_is_less (aCons (gVar 2) (aCons (gVar 4) aNil)))) (hSet 2 (gVar 4)) hNx))) (hRet (gVar 2))))
def F_task_scale : List SV → Rs D := runN 5 h_task_scale
set_option maxHeartbeats 4000000 in
theorem w_task_scale {P : Program} {w : World} {K : PySem.W.Frag} {mg : Str → Option Value} {base : Heap} {f : Addr} {fd : FuncData} (m_range : mg ("range" : Str) = none) (d_is_less : Def P w K mg base CX0 1 ("is_less" : Str) ["ratio", "other"] F_is_less) (d_arrived_work : Def P w K mg base CX0 2 ("arrived_work" : Str) ["tasks", "length"] F_arrived_work) (F : FunD K ("task_scale" : Str) ("task_scale" : Str) (defArgs s_task_scale) (defBody s_task_scale) (defScope s_task_scale) [] [] f fd) : FnOk P w K mg base CX0 3 f fd ["members", "deadline"] (spF K mg 2 F_task_scale) :=
  fok (k := 2) F sc_task_scale fun cdv A outer s H E hr => (mss_cons (ms_set (i := 2) sc_task_scale.nd rfl (.inl rfl) (mp_tup (md_cons mp_int (md_cons mp_int md_nil)))) (mss_cons (ms_for PassesOwn.never rfl (mi_range2 rfl m_range mp_int (mp_add (mp_tvar (pv 1)) mp_int)) (mg_name (i := 3) sc_task_scale.nd rfl (.inl rfl)) (mss_cons (ms_set (i := 4) sc_task_scale.nd rfl (.inl rfl) (mp_tup (md_cons (mp_tvar (pv 3)) (md_cons (mp_def d_arrived_work hr (by decide) rfl at0 (ma_cons (mp_tvar (pv 0)) (ma_cons (mp_tvar (pv 3)) ma_nil))) md_nil)))) (mss_one (ms_if (mt_val (mp_def d_is_less hr (by decide) rfl at0 (ma_cons (mp_tvar (pv 2)) (ma_cons (mp_tvar (pv 4)) ma_nil)))) (mss_one (ms_set (i := 2) sc_task_scale.nd rfl (.inl rfl) (mp_tvar (pv 4)))) mss_nil)))) (mss_one (ms_ret (mp_tvar (pv 2))))))
/-! greatest_scale -/
abbrev s_greatest_scale : Stmt := topS 27
abbrev N_greatest_scale : List Str := ["tasks", "order", "members", "scales", "task", "least", "scale", "common"]
theorem sc_greatest_scale : FnScope ["tasks", "order", "members", "scales", "task", "least", "scale", "common"] ["tasks", "order"] (defScope s_greatest_scale) := ⟨rfl, rfl, rfl, by decide +kernel, rfl, by decide +kernel, by decide +kernel⟩
def h_greatest_scale : Gm → Out := (hSeq (hDrop (gCall F_check_tasks (aCons (gVar 0) aNil))) (hSeq (hDrop (gCall F_check_short_deadlines (aCons (gVar 0) aNil))) (hSeq (hDrop (gCall F_check_order (aCons (gVar 1) (aCons (gB dLen (gCons (gVar 0) gNil)) aNil)))) (hSeq (hSetF 2 gNil) (hSeq (hSetF 3 gNil) (hSeq (hFor (gItems (gVar 1)) (kSet 4) (hSeq (hDrop (gApp 2 (g2 dIx (gVar 0) (gVar 4)))) (hDrop (gApp 3 (gSeeO 2 (gCall F_task_scale (aCons (gVar 2) (aCons (g2 dIx (g2 dIx (gVar 0) (gVar 4)) (gC (.int 1))) aNil)))))))) (hFrz 2 (hFrz 3 (hSeq (hSet 5 (g2 dIx (gVar 3) (gC (.int 0)))) (hSeq (hFor (gItems (gVar 3)) (kSet 6) (hIf (gTst (gCall F_is_less (aCons (gVar 6) (aCons (gVar 5) aNil)))) (hSet 5 (gVar 6)) hNx)) (hSeq (hSet 7 (gB dGcd (gCons (g2 dIx (gVar 5) (gC (.int 0))) (gCons (g2 dIx (gVar 5) (gC (.int 1))) gNil)))) (hRet (gTup (gCons (g2 dFdiv (g2 dIx (gVar 5) (gC (.int 0))) (gVar 7)) (gCons (g2 dFdiv (g2 dIx (gVar 5) (gC (.int 1))) (gVar 7)) gNil)))))))))))))))
def F_greatest_scale : List SV → Rs D := runN 8 h_greatest_scale
set_option maxHeartbeats 4000000 in
theorem w_greatest_scale {P : Program} {w : World} {K : PySem.W.Frag} {mg : Str → Option Value} {base : Heap} {f : Addr} {fd : FuncData} (m_len : mg ("len" : Str) = none) (i_gcd : mg ("gcd" : Str) = some (.builtin "math.gcd")) (d_check_tasks : Def P w K mg base CX0 4 ("check_tasks" : Str) ["tasks"] F_check_tasks) (d_check_short_deadlines : Def P w K mg base CX0 1 ("check_short_deadlines" : Str) ["tasks"] F_check_short_deadlines) (d_check_order : Def P w K mg base CX0 4 ("check_order" : Str) ["value", "many"] F_check_order) (d_is_less : Def P w K mg base CX0 1 ("is_less" : Str) ["ratio", "other"] F_is_less) (d_task_scale : Def P w K mg base CX0 3 ("task_scale" : Str) ["members", "deadline"] F_task_scale) (F : FunD K ("greatest_scale" : Str) ("greatest_scale" : Str) (defArgs s_greatest_scale) (defBody s_greatest_scale) (defScope s_greatest_scale) [] [] f fd) : FnOk P w K mg base CX0 5 f fd ["tasks", "order"] (spF K mg 2 F_greatest_scale) :=
  fok (k := 4) F sc_greatest_scale fun cdv A outer s H E hr => (mss_cons (ms_expr (mp_def d_check_tasks hr (by decide) rfl at0 (ma_cons (mp_tvar (pv 0)) ma_nil))) (mss_cons (ms_expr (mp_def d_check_short_deadlines hr (by decide) rfl at0 (ma_cons (mp_tvar (pv 0)) ma_nil))) (mss_cons (ms_expr (mp_def d_check_order hr (by decide) rfl at0 (ma_cons (mp_tvar (pv 1)) (ma_cons (mp_len rfl m_len (mp_tvar (pv 0))) ma_nil)))) (mss_cons (ms_setF (i := 2) sc_greatest_scale.nd rfl (.inl rfl) (mf_lst md_nil)) (mss_cons (ms_setF (i := 3) sc_greatest_scale.nd rfl (.inl rfl) (mf_lst md_nil)) (mss_cons (ms_for PassesOwn.never rfl (mi_seq (mp_tvar (pv 1))) (mg_name (i := 4) sc_greatest_scale.nd rfl (.inl rfl)) (mss_cons (ms_expr (mp_app (pv 2) (mp_ix (mp_tvar (pv 0)) (mp_tvar (pv 4))))) (mss_one (ms_expr (mp_app (pv 3) (mp_see 2 (mp_def d_task_scale hr (by decide) rfl at0 (ma_cons (mp_tvar (pv 2)) (ma_cons (mp_ix (mp_ix (mp_tvar (pv 0)) (mp_tvar (pv 4))) mp_int) ma_nil))))))))) (mss_frz 2 (mss_frz 3 (mss_cons (ms_set (i := 5) sc_greatest_scale.nd rfl (.inl rfl) (mp_ix (mp_tvar (pv 3)) mp_int)) (mss_cons (ms_for PassesOwn.never rfl (mi_seq (mp_tvar (pv 3))) (mg_name (i := 6) sc_greatest_scale.nd rfl (.inl rfl)) (mss_one (ms_if (mt_val (mp_def d_is_less hr (by decide) rfl at0 (ma_cons (mp_tvar (pv 6)) (ma_cons (mp_tvar (pv 5)) ma_nil)))) (mss_one (ms_set (i := 5) sc_greatest_scale.nd rfl (.inl rfl) (mp_tvar (pv 6)))) mss_nil))) (mss_cons (ms_set (i := 7) sc_greatest_scale.nd rfl (.inl rfl) (mp_gcd rfl i_gcd (mp_ix (mp_tvar (pv 5)) mp_int) (mp_ix (mp_tvar (pv 5)) mp_int))) (mss_one (ms_ret (mp_tup (md_cons (mp_fdiv (mp_ix (mp_tvar (pv 5)) mp_int) (mp_tvar (pv 7))) (md_cons (mp_fdiv (mp_ix (mp_tvar (pv 5)) mp_int) (mp_tvar (pv 7))) md_nil))))))))))))))))
/-! _law_taken -/
abbrev s__law_taken : Stmt := topS 29
abbrev N__law_taken : List Str := ["row", "many", "found", "cell"]
theorem sc__law_taken : FnScope ["row", "many", "found", "cell"] ["row", "many"] (defScope s__law_taken) := ⟨rfl, rfl, rfl, by decide +kernel, rfl, by decide +kernel, by decide +kernel⟩
def h__law_taken : Gm → Out := (hSeq (hIf (gTst (g2 dGt (gIxO 0 (gC (.int 3))) (gC (.int 0)))) (hSeq (hSet 2 (g2 dMod (gB dInt1 (gCons (gIxO 0 (gC (.int 3))) gNil)) (gVar 1))) (hSeq (hPut 0 (g2 dFdiv (gIxO 0 (gC (.int 3))) (gVar 1)) (gC (.int 3))) (hRet (gVar 2)))) hNx) (hSeq (hPut 0 (g2 dAdd (gIxO 0 (gC (.int 1))) (gC (.int 1))) (gC (.int 1))) (hSeq (hIf (gTst (g2 dGt (gIxO 0 (gC (.int 1))) (gB dLen (gCons (gIxO 0 (gC (.int 0))) gNil)))) (hSeq (hPut 0 (g2 dMod (gB dInt1 (gCons (g2 dAdd (g2 dMul (gIxO 0 (gC (.int 2))) (gC (.int 48271))) (gC (.int 11))) gNil)) (gC (.int 2147483647))) (gC (.int 2))) (hRet (g2 dMod (gB dInt1 (gCons (g2 dFdiv (gIxO 0 (gC (.int 2))) (gC (.int 7))) gNil)) (gVar 1)))) hNx) (hSeq (hSet 3 (g2 dIx (gIxO 0 (gC (.int 0))) (g2 dSub (gIxO 0 (gC (.int 1))) (gC (.int 1))))) (hSeq (hPut 0 (g2 dMod (gB dInt1 (gCons (g2 dAdd (g2 dAdd (g2 dMul (gIxO 0 (gC (.int 2))) (gC (.int 48271))) (gVar 3)) (gC (.int 11))) gNil)) (gC (.int 2147483647))) (gC (.int 2))) (hSeq (hIf (gTst (g2 dGe (gVar 3) (g2 dPow (gC (.int 10)) (gC (.int 18))))) (hPut 0 (g2 dFdiv (gVar 3) (gVar 1)) (gC (.int 3))) hNx) (hRet (g2 dMod (gB dInt1 (gCons (gVar 3) gNil)) (gVar 1)))))))))
def F__law_taken : List SV → Rs D := runN 4 h__law_taken
set_option maxHeartbeats 4000000 in
theorem w__law_taken {P : Program} {w : World} {K : PySem.W.Frag} {mg : Str → Option Value} {base : Heap} {f : Addr} {fd : FuncData} (m_int : mg ("int" : Str) = none) (m_len : mg ("len" : Str) = none) (F : FunD K ("_law_taken" : Str) ("_law_taken" : Str) (defArgs s__law_taken) (defBody s__law_taken) (defScope s__law_taken) [] [] f fd) : FnOk P w K mg base CX0 1 f fd ["row", "many"] (spF K mg 2 F__law_taken) :=
  fok (k := 0) F sc__law_taken fun cdv A outer s H E hr => (mss_cons (ms_if (mt_b (mp_gt (mp_ixO (pv 0) mp_int) mp_int)) (mss_cons (ms_set (i := 2) sc__law_taken.nd rfl (.inl rfl) (mp_mod (mp_int1 rfl m_int (mp_ixO (pv 0) mp_int)) (mp_tvar (pv 1)))) (mss_cons (ms_put (pv 0) mp_int (mp_fdiv (mp_ixO (pv 0) mp_int) (mp_tvar (pv 1)))) (mss_one (ms_ret (mp_tvar (pv 2)))))) mss_nil) (mss_cons (ms_put (pv 0) mp_int (mp_add (mp_ixO (pv 0) mp_int) mp_int)) (mss_cons (ms_if (mt_b (mp_gt (mp_ixO (pv 0) mp_int) (mp_len rfl m_len (mp_ixO (pv 0) mp_int)))) (mss_cons (ms_put (pv 0) mp_int (mp_mod (mp_int1 rfl m_int (mp_add (mp_mulI (mp_ixO (pv 0) mp_int) mp_int) mp_int)) mp_int)) (mss_one (ms_ret (mp_mod (mp_int1 rfl m_int (mp_fdiv (mp_ixO (pv 0) mp_int) mp_int)) (mp_tvar (pv 1)))))) mss_nil) (mss_cons (ms_set (i := 3) sc__law_taken.nd rfl (.inl rfl) (mp_ix (mp_ixO (pv 0) mp_int) (mp_sub (mp_ixO (pv 0) mp_int) mp_int))) (mss_cons (ms_put (pv 0) mp_int (mp_mod (mp_int1 rfl m_int (mp_add (mp_add (mp_mulI (mp_ixO (pv 0) mp_int) mp_int) (mp_tvar (pv 3))) mp_int)) mp_int)) (mss_cons (ms_if (mt_b (mp_ge (mp_tvar (pv 3)) (mp_pow mp_int mp_int))) (mss_one (ms_put (pv 0) mp_int (mp_fdiv (mp_tvar (pv 3)) (mp_tvar (pv 1))))) mss_nil) (mss_one (ms_ret (mp_mod (mp_int1 rfl m_int (mp_tvar (pv 3))) (mp_tvar (pv 1)))))))))))
/-! _law_pick -/
abbrev s__law_pick : Stmt := topS 30
abbrev N__law_pick : List Str := ["row", "things"]
theorem sc__law_pick : FnScope ["row", "things"] ["row", "things"] (defScope s__law_pick) := ⟨rfl, rfl, rfl, by decide +kernel, rfl, by decide +kernel, by decide +kernel⟩
def h__law_pick : Gm → Out := (hRet (g2 dIx (gVar 1) (gCall F__law_taken (aSlot 0 (aCons (gB dLen (gCons (gVar 1) gNil)) aNil)))))
def F__law_pick : List SV → Rs D := runN 2 h__law_pick
set_option maxHeartbeats 4000000 in
theorem w__law_pick {P : Program} {w : World} {K : PySem.W.Frag} {mg : Str → Option Value} {base : Heap} {f : Addr} {fd : FuncData} (m_len : mg ("len" : Str) = none) (d__law_taken : Def P w K mg base CX0 1 ("_law_taken" : Str) ["row", "many"] F__law_taken) (F : FunD K ("_law_pick" : Str) ("_law_pick" : Str) (defArgs s__law_pick) (defBody s__law_pick) (defScope s__law_pick) [] [] f fd) : FnOk P w K mg base CX0 2 f fd ["row", "things"] (spF K mg 2 F__law_pick) :=
  fok (k := 1) F sc__law_pick fun cdv A outer s H E hr => (mss_one (ms_ret (mp_ix (mp_tvar (pv 1)) (mp_def d__law_taken hr (by decide) rfl at0 (ma_slot (pv 0) (ma_cons (mp_len rfl m_len (mp_tvar (pv 1))) ma_nil))))))
/-! _law_small -/
abbrev s__law_small : Stmt := topS 31
abbrev N__law_small : List Str := ["row", "many", "found", "k", "gap", "cost", "deadline"]
theorem sc__law_small : FnScope ["row", "many", "found", "k", "gap", "cost", "deadline"] ["row", "many"] (defScope s__law_small) := ⟨rfl, rfl, rfl, by decide +kernel, rfl, by decide +kernel, by decide +kernel⟩
def h__law_small : Gm → Out := (hSeq (hSetF 2 gNil) (hSeq (hFor (gRng1 (g2 dAdd (gC (.int 1)) (gCall F__law_taken (aSlot 0 (aCons (gVar 1) aNil))))) (kSet 3) (hSeq (hSet 4 (gCall F__law_pick (aSlot 0 (aCons (gPu (gCons (gC (.int 2)) (gCons (gC (.int 3)) (gCons (gC (.int 4)) (gCons (gC (.int 4)) (gCons (gC (.int 6)) (gCons (gC (.int 6)) (gCons (gC (.int 8)) (gCons (gC (.int 12)) (gCons (gC (.int 12)) gNil)))))))))) aNil)))) (hSeq (hSet 5 (gB dMin2 (gCons (g2 dAdd (gC (.int 1)) (gCall F__law_taken (aSlot 0 (aCons (g2 dAdd (gC (.int 1)) (g2 dFdiv (gVar 4) (gC (.int 3)))) aNil)))) (gCons (gC (.int 20)) gNil)))) (hSeq (hSet 6 (gCall F__law_pick (aSlot 0 (aCons (gPu (gCons (gVar 4) (gCons (gVar 4) (gCons (gB dMax2 (gCons (gC (.int 1)) (gCons (g2 dSub (gVar 4) (gC (.int 1))) gNil))) (gCons (g2 dAdd (gVar 5) (gCall F__law_taken (aSlot 0 (aCons (gC (.int 9)) aNil)))) (gCons (g2 dAdd (gC (.int 1)) (gCall F__law_taken (aSlot 0 (aCons (gC (.int 30)) aNil)))) gNil)))))) aNil)))) (hDrop (gApp 2 (gTup (gCons (gVar 5) (gCons (gVar 6) (gCons (gVar 4) gNil)))))))))) (hFrz 2 (hRet (gB dTupOf (gCons (gVar 2) gNil))))))
def F__law_small : List SV → Rs D := runN 7 h__law_small
set_option maxHeartbeats 4000000 in
theorem w__law_small {P : Program} {w : World} {K : PySem.W.Frag} {mg : Str → Option Value} {base : Heap} {f : Addr} {fd : FuncData} (m_max : mg ("max" : Str) = none) (m_min : mg ("min" : Str) = none) (m_range : mg ("range" : Str) = none) (m_tuple : mg ("tuple" : Str) = none) (d__law_pick : Def P w K mg base CX0 2 ("_law_pick" : Str) ["row", "things"] F__law_pick) (d__law_taken : Def P w K mg base CX0 1 ("_law_taken" : Str) ["row", "many"] F__law_taken) (F : FunD K ("_law_small" : Str) ("_law_small" : Str) (defArgs s__law_small) (defBody s__law_small) (defScope s__law_small) [] [] f fd) : FnOk P w K mg base CX0 3 f fd ["row", "many"] (spF K mg 2 F__law_small) :=
  fok (k := 2) F sc__law_small fun cdv A outer s H E hr => (mss_cons (ms_setF (i := 2) sc__law_small.nd rfl (.inl rfl) (mf_lst md_nil)) (mss_cons (ms_for PassesOwn.never rfl (mi_range1 rfl m_range (mp_add mp_int (mp_def d__law_taken hr (by decide) rfl at0 (ma_slot (pv 0) (ma_cons (mp_tvar (pv 1)) ma_nil))))) (mg_name (i := 3) sc__law_small.nd rfl (.inl rfl)) (mss_cons (ms_set (i := 4) sc__law_small.nd rfl (.inl rfl) (mp_def d__law_pick hr (by decide) rfl at0 (ma_slot (pv 0) (ma_cons (mp_of_f (mf_lst (md_cons mp_int (md_cons mp_int (md_cons mp_int (md_cons mp_int (md_cons mp_int (md_cons mp_int (md_cons mp_int (md_cons mp_int (md_cons mp_int md_nil))))))))))) ma_nil)))) (mss_cons (ms_set (i := 5) sc__law_small.nd rfl (.inl rfl) (mp_min2 rfl rfl m_min (mp_add mp_int (mp_def d__law_taken hr (by decide) rfl at0 (ma_slot (pv 0) (ma_cons (mp_add mp_int (mp_fdiv (mp_tvar (pv 4)) mp_int)) ma_nil)))) mp_int)) (mss_cons (ms_set (i := 6) sc__law_small.nd rfl (.inl rfl) (mp_def d__law_pick hr (by decide) rfl at0 (ma_slot (pv 0) (ma_cons (mp_of_f (mf_lst (md_cons (mp_tvar (pv 4)) (md_cons (mp_tvar (pv 4)) (md_cons (mp_max2 rfl rfl m_max mp_int (mp_sub (mp_tvar (pv 4)) mp_int)) (md_cons (mp_add (mp_tvar (pv 5)) (mp_def d__law_taken hr (by decide) rfl at0 (ma_slot (pv 0) (ma_cons mp_int ma_nil)))) (md_cons (mp_add mp_int (mp_def d__law_taken hr (by decide) rfl at0 (ma_slot (pv 0) (ma_cons mp_int ma_nil)))) md_nil))))))) ma_nil)))) (mss_one (ms_expr (mp_app (pv 2) (mp_tup (md_cons (mp_tvar (pv 5)) (md_cons (mp_tvar (pv 6)) (md_cons (mp_tvar (pv 4)) md_nil))))))))))) (mss_frz 2 (mss_one (ms_ret (mp_tupleOf rfl m_tuple (mp_tvar (pv 2))))))))
/-! _law_order -/
abbrev s__law_order : Stmt := topS 32
abbrev N__law_order : List Str := ["row", "many", "left", "found", "k", "at"]
theorem sc__law_order : FnScope ["row", "many", "left", "found", "k", "at"] ["row", "many"] (defScope s__law_order) := ⟨rfl, rfl, rfl, by decide +kernel, rfl, by decide +kernel, by decide +kernel⟩
def h__law_order : Gm → Out := (hSeq (hMulti [2, 3] (xP (gPu (gLc (gRng1 (gVar 1)) (kSet 4) gYes (gVar 4) [4])) (xF gNil xNil))) (hSeq (hFor (gRng1 (gVar 1)) (kSet 4) (hSeq (hSet 5 (gCall F__law_taken (aSlot 0 (aCons (gB dLen (gCons (gVar 2) gNil)) aNil)))) (hSeq (hDrop (gApp 3 (g2 dIx (gVar 2) (gVar 5)))) (hSet 2 (g2 dAdd (gCut (gVar 2) none (some (gVar 5))) (gCut (gVar 2) (some (g2 dAdd (gVar 5) (gC (.int 1)))) none)))))) (hFrz 3 (hRet (gB dTupOf (gCons (gVar 3) gNil))))))
def F__law_order : List SV → Rs D := runN 6 h__law_order
set_option maxHeartbeats 4000000 in
theorem w__law_order {P : Program} {w : World} {K : PySem.W.Frag} {mg : Str → Option Value} {base : Heap} {f : Addr} {fd : FuncData} (m_len : mg ("len" : Str) = none) (m_range : mg ("range" : Str) = none) (m_tuple : mg ("tuple" : Str) = none) (d__law_taken : Def P w K mg base CX0 1 ("_law_taken" : Str) ["row", "many"] F__law_taken) (F : FunD K ("_law_order" : Str) ("_law_order" : Str) (defArgs s__law_order) (defBody s__law_order) (defScope s__law_order) [] [] f fd) : FnOk P w K mg base CX0 2 f fd ["row", "many"] (spF K mg 2 F__law_order) :=
  fok (k := 1) F sc__law_order fun cdv A outer s H E hr => (mss_cons (ms_par2 (i := 2) (j := 3) rfl sc__law_order.nd rfl rfl (by decide) rfl rfl (mx_p (mp_of_f (mf_lc (own := [(("k" : Str), 4)]) rfl sc__law_order.nd (mi_range1 rfl m_range (mp_tvar (pv 1))) (blkOk_by (by show blkC N__law_order (defScope s__law_order) _ _ = true; decide +kernel)) (fun _ _ _ _ _ => (mg_name (i := 4) sc__law_order.nd rfl (.inl rfl))) (fun _ _ _ _ _ => mts_nil) (fun _ _ _ _ _ => (mp_tvar (pv 4))) (by decide))) (mx_f (mf_lst md_nil) mx_nil)) (by rfl)) (mss_cons (ms_for PassesOwn.never rfl (mi_range1 rfl m_range (mp_tvar (pv 1))) (mg_name (i := 4) sc__law_order.nd rfl (.inl rfl)) (mss_cons (ms_set (i := 5) sc__law_order.nd rfl (.inl rfl) (mp_def d__law_taken hr (by decide) rfl at0 (ma_slot (pv 0) (ma_cons (mp_len rfl m_len (mp_tvar (pv 2))) ma_nil)))) (mss_cons (ms_expr (mp_app (pv 3) (mp_ix (mp_tvar (pv 2)) (mp_tvar (pv 5))))) (mss_one (ms_set (i := 2) sc__law_order.nd rfl (.inl rfl) (mp_add (mp_cut (mp_tvar (pv 2)) mo_none (mo_some (mp_tvar (pv 5)))) (mp_cut (mp_tvar (pv 2)) (mo_some (mp_add (mp_tvar (pv 5)) mp_int)) mo_none))))))) (mss_frz 3 (mss_one (ms_ret (mp_tupleOf rfl m_tuple (mp_tvar (pv 3))))))))
/-! _law_is_met -/
abbrev s__law_is_met : Stmt := topS 33
abbrev N__law_is_met : List Str := ["some", "deadline", "length", "cost", "one", "turn", "work"]
theorem sc__law_is_met : FnScope ["some", "deadline", "length", "cost", "one", "turn", "work"] ["some", "deadline"] (defScope s__law_is_met) := ⟨rfl, rfl, rfl, by decide +kernel, rfl, by decide +kernel, by decide +kernel⟩
def h__law_is_met : Gm → Out := (hSeq (hMulti [2, 3] (xP (gB dSum (gCons (gPu (gLc (gItems (gVar 0)) (kSet 4) gYes (g2 dIx (gVar 4) (gC (.int 0))) [4])) gNil)) (xP (g2 dIx (g2 dIx (gVar 0) (g1 dNeg (gC (.int 1)))) (gC (.int 0))) xNil))) (hSeq (hFor (gRng1 (gC (.int 400))) (kSet 5) (hSeq (hIf (gTst (g2 dGt (gVar 2) (gVar 1))) (hRet (gC (.bl false))) hNx) (hSeq (hSet 6 (g2 dAdd (gVar 3) (gB dSum (gCons (gPu (gLc (gItems (gCut (gVar 0) none (some (g1 dNeg (gC (.int 1)))))) (kSet 4) gYes (g2 dMul (g2 dIx (gVar 4) (gC (.int 0))) (g2 dFdiv (g2 dSub (g2 dAdd (gVar 2) (g2 dIx (gVar 4) (gC (.int 1)))) (gC (.int 1))) (g2 dIx (gVar 4) (gC (.int 1))))) [4])) gNil)))) (hSeq (hIf (gTst (g2 dEq (gVar 6) (gVar 2))) (hRet (gC (.bl true))) hNx) (hSet 2 (gVar 6)))))) (hRet (gC (.bl false)))))
def F__law_is_met : List SV → Rs D := runN 7 h__law_is_met
set_option maxHeartbeats 4000000 in
theorem w__law_is_met {P : Program} {w : World} {K : PySem.W.Frag} {mg : Str → Option Value} {base : Heap} {f : Addr} {fd : FuncData} (m_range : mg ("range" : Str) = none) (m_sum : mg ("sum" : Str) = none) (F : FunD K ("_law_is_met" : Str) ("_law_is_met" : Str) (defArgs s__law_is_met) (defBody s__law_is_met) (defScope s__law_is_met) [] [] f fd) : FnOk P w K mg base CX0 1 f fd ["some", "deadline"] (spF K mg 2 F__law_is_met) :=
  fok (k := 0) F sc__law_is_met fun cdv A outer s H E hr => (mss_cons (ms_names (is := [2, 3]) rfl (pgs_cons (pg_name (i := 2) sc__law_is_met.nd rfl (.inr rfl)) (pgs_cons (pg_name (i := 3) sc__law_is_met.nd rfl (.inl rfl)) pgs_nil)) (mx_p (mp_sum rfl rfl m_sum (mp_of_f (mf_lc (own := [(("one" : Str), 4)]) rfl sc__law_is_met.nd (mi_seq (mp_tvar (pv 0))) (blkOk_by (by show blkC N__law_is_met (defScope s__law_is_met) _ _ = true; decide +kernel)) (fun _ _ _ _ _ => (mg_name (i := 4) sc__law_is_met.nd rfl (.inl rfl))) (fun _ _ _ _ _ => mts_nil) (fun _ _ _ _ _ => (mp_ix (mp_tvar (pv 4)) mp_int)) (by decide)))) (mx_p (mp_ix (mp_ix (mp_tvar (pv 0)) (mp_neg mp_int)) mp_int) mx_nil)) rfl) (mss_cons (ms_for PassesOwn.never rfl (mi_range1 rfl m_range mp_int) (mg_name (i := 5) sc__law_is_met.nd rfl (.inl rfl)) (mss_cons (ms_if (mt_b (mp_gt (mp_tvar (pv 2)) (mp_tvar (pv 1)))) (mss_one (ms_ret mp_bl)) mss_nil) (mss_cons (ms_set (i := 6) sc__law_is_met.nd rfl (.inl rfl) (mp_add (mp_tvar (pv 3)) (mp_sum rfl rfl m_sum (mp_of_f (mf_lc (own := [(("one" : Str), 4)]) rfl sc__law_is_met.nd (mi_seq (mp_cut (mp_tvar (pv 0)) mo_none (mo_some (mp_neg mp_int)))) (blkOk_by (by show blkC N__law_is_met (defScope s__law_is_met) _ _ = true; decide +kernel)) (fun _ _ _ _ _ => (mg_name (i := 4) sc__law_is_met.nd rfl (.inl rfl))) (fun _ _ _ _ _ => mts_nil) (fun _ _ _ _ _ => (mp_mulI (mp_ix (mp_tvar (pv 4)) mp_int) (mp_fdiv (mp_sub (mp_add (mp_tvar (pv 2)) (mp_ix (mp_tvar (pv 4)) mp_int)) mp_int) (mp_ix (mp_tvar (pv 4)) mp_int)))) (by decide)))))) (mss_cons (ms_if (mt_b (mp_eq hr.units (mp_tvar (pv 6)) (mp_tvar (pv 2)))) (mss_one (ms_ret mp_bl)) mss_nil) (mss_one (ms_set (i := 2) sc__law_is_met.nd rfl (.inr rfl) (mp_tvar (pv 6)))))))) (mss_one (ms_ret mp_bl))))
/-! _law_all_met -/
abbrev s__law_all_met : Stmt := topS 34
abbrev N__law_all_met : List Str := ["tasks", "order", "top", "bottom", "k", "some", "j"]
theorem sc__law_all_met : FnScope ["tasks", "order", "top", "bottom", "k", "some", "j"] ["tasks", "order", "top", "bottom"] (defScope s__law_all_met) := ⟨rfl, rfl, rfl, by decide +kernel, rfl, by decide +kernel, by decide +kernel⟩
def h__law_all_met : Gm → Out := (hSeq (hFor (gRng1 (gB dLen (gCons (gVar 1) gNil))) (kSet 4) (hSeq (hSetF 5 (gLc (gItems (gCut (gVar 1) none (some (g2 dAdd (gVar 4) (gC (.int 1)))))) (kSet 6) gYes (gTup (gCons (g2 dMul (g2 dIx (g2 dIx (gVar 0) (gVar 6)) (gC (.int 0))) (gVar 2)) (gCons (g2 dMul (g2 dIx (g2 dIx (gVar 0) (gVar 6)) (gC (.int 2))) (gVar 3)) gNil))) [6])) (hFrz 5 (hIf (tgNot (gTst (gCall F__law_is_met (aCons (gVar 5) (aCons (g2 dMul (g2 dIx (g2 dIx (gVar 0) (g2 dIx (gVar 1) (gVar 4))) (gC (.int 1))) (gVar 3)) aNil))))) (hRet (gC (.bl false))) hNx)))) (hRet (gC (.bl true))))
def F__law_all_met : List SV → Rs D := runN 7 h__law_all_met
set_option maxHeartbeats 4000000 in
theorem w__law_all_met {P : Program} {w : World} {K : PySem.W.Frag} {mg : Str → Option Value} {base : Heap} {f : Addr} {fd : FuncData} (m_len : mg ("len" : Str) = none) (m_range : mg ("range" : Str) = none) (d__law_is_met : Def P w K mg base CX0 1 ("_law_is_met" : Str) ["some", "deadline"] F__law_is_met) (F : FunD K ("_law_all_met" : Str) ("_law_all_met" : Str) (defArgs s__law_all_met) (defBody s__law_all_met) (defScope s__law_all_met) [] [] f fd) : FnOk P w K mg base CX0 2 f fd ["tasks", "order", "top", "bottom"] (spF K mg 4 F__law_all_met) :=
  fok (k := 1) F sc__law_all_met fun cdv A outer s H E hr => (mss_cons (ms_for PassesOwn.never rfl (mi_range1 rfl m_range (mp_len rfl m_len (mp_tvar (pv 1)))) (mg_name (i := 4) sc__law_all_met.nd rfl (.inl rfl)) (mss_cons (ms_lc (i := 5) (own := [(("j" : Str), 6)]) rfl sc__law_all_met.nd rfl rfl (sw_true rfl rfl rfl (by decide +kernel)) (mi_seq (mp_cut (mp_tvar (pv 1)) mo_none (mo_some (mp_add (mp_tvar (pv 4)) mp_int)))) (blkOk_by (by show blkC N__law_all_met (defScope s__law_all_met) _ _ = true; decide +kernel)) (fun _ _ _ _ _ => (mg_name (i := 6) sc__law_all_met.nd rfl (.inl rfl))) (fun _ _ _ _ _ => mts_nil) (fun _ _ _ _ _ => (mp_tup (md_cons (mp_mulI (mp_ix (mp_ix (mp_tvar (pv 0)) (mp_tvar (pv 6))) mp_int) (mp_tvar (pv 2))) (md_cons (mp_mulI (mp_ix (mp_ix (mp_tvar (pv 0)) (mp_tvar (pv 6))) mp_int) (mp_tvar (pv 3))) md_nil)))) (by decide)) (mss_frz 5 (mss_one (ms_if (mt_not (mt_val (mp_def d__law_is_met hr (by decide) rfl at0 (ma_cons (mp_tvar (pv 5)) (ma_cons (mp_mulI (mp_ix (mp_ix (mp_tvar (pv 0)) (mp_ix (mp_tvar (pv 1)) (mp_tvar (pv 4)))) mp_int) (mp_tvar (pv 3))) ma_nil))))) (mss_one (ms_ret mp_bl)) mss_nil))))) (mss_one (ms_ret mp_bl)))
/-! _law_common -/
abbrev s__law_common : Stmt := topS 35
abbrev N__law_common : List Str := ["one", "other"]
theorem sc__law_common : FnScope ["one", "other"] ["one", "other"] (defScope s__law_common) := ⟨rfl, rfl, rfl, by decide +kernel, rfl, by decide +kernel, by decide +kernel⟩
def h__law_common : Gm → Out := (hSeq (whileN (gTst (g2 dNe (gVar 1) (gC (.int 0)))) (hMulti [0, 1] (xP (gVar 1) (xP (g2 dMod (gB dInt1 (gCons (gVar 0) gNil)) (gVar 1)) xNil))) 1000000) (hRet (gVar 0)))
def F__law_common : List SV → Rs D := runN 2 h__law_common
set_option maxHeartbeats 4000000 in
theorem w__law_common {P : Program} {w : World} {K : PySem.W.Frag} {mg : Str → Option Value} {base : Heap} {f : Addr} {fd : FuncData} (m_int : mg ("int" : Str) = none) (F : FunD K ("_law_common" : Str) ("_law_common" : Str) (defArgs s__law_common) (defBody s__law_common) (defScope s__law_common) [] [] f fd) : FnOk P w K mg base CX0 1 f fd ["one", "other"] (spF K mg 2 F__law_common) :=
  fok (k := 0) F sc__law_common fun cdv A outer s H E hr => (mss_cons (ms_while 1000000 PassesOwn.never (mt_b (mp_ne hr.units (mp_tvar (pv 1)) mp_int)) (mss_one (ms_par2 (i := 0) (j := 1) rfl sc__law_common.nd rfl rfl (by decide) rfl rfl (mx_p (mp_tvar (pv 1)) (mx_p (mp_mod (mp_int1 rfl m_int (mp_tvar (pv 0))) (mp_tvar (pv 1))) mx_nil)) (by rfl)))) (mss_one (ms_ret (mp_tvar (pv 0)))))
/-! law -/
abbrev s_law : Stmt := topS 36
abbrev N_law : List Str := ["script", "row", "factor", "tasks", "task", "order", "found", "one"]
theorem sc_law : FnScope ["script", "row", "factor", "tasks", "task", "order", "found", "one"] ["script"] (defScope s_law) := ⟨rfl, rfl, rfl, by decide +kernel, rfl, by decide +kernel, by decide +kernel⟩
def h_law : Gm → Out := (hSeq (hSetF 1 (gCons (gVar 0) (gCons (gC (.int 0)) (gCons (gC (.int 3209)) (gCons (gC (.int 0)) gNil))))) (hSeq (hSet 2 (gCall F__law_pick (aSlot 1 (aCons (gPu (gCons (gC (.int 1)) (gCons (gC (.int 1)) (gCons (gC (.int 2)) (gCons (gC (.int 5)) gNil))))) aNil)))) (hSeq (hSetF 3 (gLc (gItems (gCall F__law_small (aSlot 1 (aCons (gC (.int 3)) aNil)))) (kSet 4) gYes (gTup (gCons (gB dMin2 (gCons (gC (.int 20)) (gCons (g2 dMul (gVar 2) (g2 dIx (gVar 4) (gC (.int 0)))) gNil))) (gCons (gB dMin2 (gCons (g2 dIx (gVar 4) (gC (.int 1))) (gCons (g2 dIx (gVar 4) (gC (.int 2))) gNil))) (gCons (g2 dMul (gVar 2) (g2 dIx (gVar 4) (gC (.int 2)))) gNil)))) [4])) (hFrz 3 (hSeq (hSet 3 (gB dTupOf (gCons (gPu (gLc (gItems (gVar 3)) (kSet 4) gYes (gTup (gCons (g2 dIx (gVar 4) (gC (.int 0))) (gCons (gB dMin2 (gCons (gC (.int 60)) (gCons (g2 dMul (gVar 2) (g2 dIx (gVar 4) (gC (.int 1)))) gNil))) (gCons (g2 dIx (gVar 4) (gC (.int 2))) gNil)))) [4])) gNil))) (hSeq (hSet 5 (gCall F__law_order (aSlot 1 (aCons (gB dLen (gCons (gVar 3) gNil)) aNil)))) (hFrz 1 (hSeq (hSet 6 (gCall F_greatest_scale (aCons (gVar 3) (aCons (gVar 5) aNil)))) (hSeq (hIf (tgOr (tgNot (gTst (g1 (dIsi "tuple") (gVar 6)))) (gTst (g2 dNe (gB dLen (gCons (gVar 6) gNil)) (gC (.int 2))))) (hRet (gC (.bl false))) hNx) (hSeq (hIf (gTst (g2 dNe (gPu (gLc (gItems (gVar 6)) (kSet 7) (tgOr (tgNot (gTst (g1 (dIsi "int") (gVar 7)))) (tgOr (gTst (g1 (dIsi "bool") (gVar 7))) (gTst (g2 dLt (gVar 7) (gC (.int 1)))))) (gVar 7) [7])) (gPu gNil))) (hRet (gC (.bl false))) hNx) (hSeq (hIf (tgOr (gTst (g2 dNe (gCall F__law_common (aCons (g2 dIx (gVar 6) (gC (.int 0))) (aCons (g2 dIx (gVar 6) (gC (.int 1))) aNil))) (gC (.int 1)))) (tgNot (gTst (gCall F__law_all_met (aCons (gVar 3) (aCons (gVar 5) (aCons (g2 dIx (gVar 6) (gC (.int 0))) (aCons (g2 dIx (gVar 6) (gC (.int 1))) aNil)))))))) (hRet (gC (.bl false))) hNx) (hRet (gNot (gCall F__law_all_met (aCons (gVar 3) (aCons (gVar 5) (aCons (g2 dAdd (g2 dMul (g2 dIx (gVar 6) (gC (.int 0))) (gC (.int 100000))) (gC (.int 1))) (aCons (g2 dMul (g2 dIx (gVar 6) (gC (.int 1))) (gC (.int 100000))) aNil))))))))))))))))))
def F_law : List SV → Rs D := runN 8 h_law
set_option maxHeartbeats 4000000 in
theorem w_law {P : Program} {w : World} {K : PySem.W.Frag} {mg : Str → Option Value} {base : Heap} {f : Addr} {fd : FuncData} (m_bool : mg ("bool" : Str) = none) (m_int : mg ("int" : Str) = none) (m_isinstance : mg ("isinstance" : Str) = none) (m_len : mg ("len" : Str) = none) (m_min : mg ("min" : Str) = none) (m_tuple : mg ("tuple" : Str) = none) (d__law_pick : Def P w K mg base CX0 2 ("_law_pick" : Str) ["row", "things"] F__law_pick) (d__law_order : Def P w K mg base CX0 2 ("_law_order" : Str) ["row", "many"] F__law_order) (d_greatest_scale : Def P w K mg base CX0 5 ("greatest_scale" : Str) ["tasks", "order"] F_greatest_scale) (d__law_all_met : Def P w K mg base CX0 2 ("_law_all_met" : Str) ["tasks", "order", "top", "bottom"] F__law_all_met) (d__law_small : Def P w K mg base CX0 3 ("_law_small" : Str) ["row", "many"] F__law_small) (d__law_common : Def P w K mg base CX0 1 ("_law_common" : Str) ["one", "other"] F__law_common) (F : FunD K ("law" : Str) ("law" : Str) (defArgs s_law) (defBody s_law) (defScope s_law) [] [] f fd) : FnOk P w K mg base CX0 6 f fd ["script"] (spF K mg 1 F_law) :=
  fok (k := 5) F sc_law fun cdv A outer s H E hr => (mss_cons (ms_setF (i := 1) sc_law.nd rfl (.inl rfl) (mf_lst (md_cons (mp_tvar (pv 0)) (md_cons mp_int (md_cons mp_int (md_cons mp_int md_nil)))))) (mss_cons (ms_set (i := 2) sc_law.nd rfl (.inr rfl) (mp_def d__law_pick hr (by decide) rfl at0 (ma_slot (pv 1) (ma_cons (mp_of_f (mf_lst (md_cons mp_int (md_cons mp_int (md_cons mp_int (md_cons mp_int md_nil)))))) ma_nil)))) (mss_cons (ms_lc (i := 3) (own := [(("task" : Str), 4)]) rfl sc_law.nd rfl rfl (sw_true rfl rfl rfl (by decide +kernel)) (mi_seq (mp_def d__law_small hr (by decide) rfl at0 (ma_slot (pv 1) (ma_cons mp_int ma_nil)))) (blkOk_by (by show blkC N_law (defScope s_law) _ _ = true; decide +kernel)) (fun _ _ _ _ _ => (mg_name (i := 4) sc_law.nd rfl (.inl rfl))) (fun _ _ _ _ _ => mts_nil) (fun _ _ _ _ _ => (mp_tup (md_cons (mp_min2 rfl rfl m_min mp_int (mp_mulI (mp_tvar (pv 2)) (mp_ix (mp_tvar (pv 4)) mp_int))) (md_cons (mp_min2 rfl rfl m_min (mp_ix (mp_tvar (pv 4)) mp_int) (mp_ix (mp_tvar (pv 4)) mp_int)) (md_cons (mp_mulI (mp_tvar (pv 2)) (mp_ix (mp_tvar (pv 4)) mp_int)) md_nil))))) (by decide)) (mss_frz 3 (mss_cons (ms_set (i := 3) sc_law.nd rfl (.inl rfl) (mp_tupleOf rfl m_tuple (mp_of_f (mf_lc (own := [(("task" : Str), 4)]) rfl sc_law.nd (mi_seq (mp_tvar (pv 3))) (blkOk_by (by show blkC N_law (defScope s_law) _ _ = true; decide +kernel)) (fun _ _ _ _ _ => (mg_name (i := 4) sc_law.nd rfl (.inl rfl))) (fun _ _ _ _ _ => mts_nil) (fun _ _ _ _ _ => (mp_tup (md_cons (mp_ix (mp_tvar (pv 4)) mp_int) (md_cons (mp_min2 rfl rfl m_min mp_int (mp_mulI (mp_tvar (pv 2)) (mp_ix (mp_tvar (pv 4)) mp_int))) (md_cons (mp_ix (mp_tvar (pv 4)) mp_int) md_nil))))) (by decide))))) (mss_cons (ms_set (i := 5) sc_law.nd rfl (.inl rfl) (mp_def d__law_order hr (by decide) rfl at0 (ma_slot (pv 1) (ma_cons (mp_len rfl m_len (mp_tvar (pv 3))) ma_nil)))) (mss_frz 1 (mss_cons (ms_set (i := 6) sc_law.nd rfl (.inl rfl) (mp_def d_greatest_scale hr (by decide) rfl at0 (ma_cons (mp_tvar (pv 3)) (ma_cons (mp_tvar (pv 5)) ma_nil)))) (mss_cons (ms_if (mt_of_w (mw_or (mt_not (mt_val (mp_isi (T := ("tuple" : Str)) (Ts := "tuple") rfl m_isinstance rfl m_tuple (by decide +kernel) (mp_tvar (pv 6))))) (mw_or1 (mt_b (mp_ne hr.units (mp_len rfl m_len (mp_tvar (pv 6))) mp_int))))) (mss_one (ms_ret mp_bl)) mss_nil) (mss_cons (ms_if (mt_b (mp_ne hr.units (mp_of_f (mf_lc (own := [(("one" : Str), 7)]) rfl sc_law.nd (mi_seq (mp_tvar (pv 6))) (blkOk_by (by show blkC N_law (defScope s_law) _ _ = true; decide +kernel)) (fun _ _ _ _ _ => (mg_name (i := 7) sc_law.nd rfl (.inl rfl))) (fun _ _ _ _ _ => (mts_one (mt_of_w (mw_or (mt_not (mt_val (mp_isi (T := ("int" : Str)) (Ts := "int") rfl m_isinstance rfl m_int (by decide +kernel) (mp_tvar (pv 7))))) (mw_or (mt_val (mp_isi (T := ("bool" : Str)) (Ts := "bool") rfl m_isinstance rfl m_bool (by decide +kernel) (mp_tvar (pv 7)))) (mw_or1 (mt_b (mp_lt (mp_tvar (pv 7)) mp_int)))))))) (fun _ _ _ _ _ => (mp_tvar (pv 7))) (by decide))) (mp_of_f (mf_lst md_nil)))) (mss_one (ms_ret mp_bl)) mss_nil) (mss_cons (ms_if (mt_of_w (mw_or (mt_b (mp_ne hr.units (mp_def d__law_common hr (by decide) rfl at0 (ma_cons (mp_ix (mp_tvar (pv 6)) mp_int) (ma_cons (mp_ix (mp_tvar (pv 6)) mp_int) ma_nil))) mp_int)) (mw_or1 (mt_not (mt_val (mp_def d__law_all_met hr (by decide) rfl at0 (ma_cons (mp_tvar (pv 3)) (ma_cons (mp_tvar (pv 5)) (ma_cons (mp_ix (mp_tvar (pv 6)) mp_int) (ma_cons (mp_ix (mp_tvar (pv 6)) mp_int) ma_nil)))))))))) (mss_one (ms_ret mp_bl)) mss_nil) (mss_one (ms_ret (mp_not (mp_def d__law_all_met hr (by decide) rfl at0 (ma_cons (mp_tvar (pv 3)) (ma_cons (mp_tvar (pv 5)) (ma_cons (mp_add (mp_mulI (mp_ix (mp_tvar (pv 6)) mp_int) mp_int) mp_int) (ma_cons (mp_mulI (mp_ix (mp_tvar (pv 6)) mp_int) mp_int) ma_nil)))))))))))))))))))
/-! ### the head -/
def dd_rounded_up : He.DefD := ⟨("rounded_up", none), "rounded_up", "rounded_up", defArgs s_rounded_up, defBody s_rounded_up, defScope s_rounded_up, [], []⟩
def dd_is_number : He.DefD := ⟨("is_number", none), "is_number", "is_number", defArgs s_is_number, defBody s_is_number, defScope s_is_number, [], []⟩
def dd_is_integer : He.DefD := ⟨("is_integer", none), "is_integer", "is_integer", defArgs s_is_integer, defBody s_is_integer, defScope s_is_integer, [], []⟩
def dd_is_tuple : He.DefD := ⟨("is_tuple", none), "is_tuple", "is_tuple", defArgs s_is_tuple, defBody s_is_tuple, defScope s_is_tuple, [], []⟩
def dd_is_order : He.DefD := ⟨("is_order", none), "is_order", "is_order", defArgs s_is_order, defBody s_is_order, defScope s_is_order, [], []⟩
def dd_check_order : He.DefD := ⟨("check_order", none), "check_order", "check_order", defArgs s_check_order, defBody s_check_order, defScope s_check_order, [], []⟩
def dd_arrived_work : He.DefD := ⟨("arrived_work", none), "arrived_work", "arrived_work", defArgs s_arrived_work, defBody s_arrived_work, defScope s_arrived_work, [], []⟩
def dd_is_task : He.DefD := ⟨("is_task", none), "is_task", "is_task", defArgs s_is_task, defBody s_is_task, defScope s_is_task, [], []⟩
def dd_check_tasks : He.DefD := ⟨("check_tasks", none), "check_tasks", "check_tasks", defArgs s_check_tasks, defBody s_check_tasks, defScope s_check_tasks, [], []⟩
def dd_check_short_deadlines : He.DefD := ⟨("check_short_deadlines", none), "check_short_deadlines", "check_short_deadlines", defArgs s_check_short_deadlines, defBody s_check_short_deadlines, defScope s_check_short_deadlines, [], []⟩
def dd_is_less : He.DefD := ⟨("is_less", none), "is_less", "is_less", defArgs s_is_less, defBody s_is_less, defScope s_is_less, [], []⟩
def dd_task_scale : He.DefD := ⟨("task_scale", none), "task_scale", "task_scale", defArgs s_task_scale, defBody s_task_scale, defScope s_task_scale, [], []⟩
def dd_greatest_scale : He.DefD := ⟨("greatest_scale", none), "greatest_scale", "greatest_scale", defArgs s_greatest_scale, defBody s_greatest_scale, defScope s_greatest_scale, [], []⟩
def dd__law_taken : He.DefD := ⟨("_law_taken", none), "_law_taken", "_law_taken", defArgs s__law_taken, defBody s__law_taken, defScope s__law_taken, [], []⟩
def dd__law_pick : He.DefD := ⟨("_law_pick", none), "_law_pick", "_law_pick", defArgs s__law_pick, defBody s__law_pick, defScope s__law_pick, [], []⟩
def dd__law_small : He.DefD := ⟨("_law_small", none), "_law_small", "_law_small", defArgs s__law_small, defBody s__law_small, defScope s__law_small, [], []⟩
def dd__law_order : He.DefD := ⟨("_law_order", none), "_law_order", "_law_order", defArgs s__law_order, defBody s__law_order, defScope s__law_order, [], []⟩
def dd__law_is_met : He.DefD := ⟨("_law_is_met", none), "_law_is_met", "_law_is_met", defArgs s__law_is_met, defBody s__law_is_met, defScope s__law_is_met, [], []⟩
def dd__law_all_met : He.DefD := ⟨("_law_all_met", none), "_law_all_met", "_law_all_met", defArgs s__law_all_met, defBody s__law_all_met, defScope s__law_all_met, [], []⟩
def dd__law_common : He.DefD := ⟨("_law_common", none), "_law_common", "_law_common", defArgs s__law_common, defBody s__law_common, defScope s__law_common, [], []⟩
def dd_law : He.DefD := ⟨("law", none), "law", "law", defArgs s_law, defBody s_law, defScope s_law, [], []⟩
def fn : List He.DefD := [dd_rounded_up, dd_is_number, dd_is_integer, dd_is_tuple, dd_is_order, dd_check_order, dd_arrived_work, dd_is_task, dd_check_tasks, dd_check_short_deadlines, dd_is_less, dd_task_scale, dd_greatest_scale, dd__law_taken, dd__law_pick, dd__law_small, dd__law_order, dd__law_is_met, dd__law_all_met, dd__law_common, dd_law]
def fa : List He.Fa := [.glo "rounded_up", .glo "is_number", .glo "is_integer", .glo "is_tuple", .glo "is_order", .glo "check_order", .glo "arrived_work", .glo "is_task", .glo "check_tasks", .glo "check_short_deadlines", .glo "is_less", .glo "task_scale", .glo "greatest_scale", .glo "_law_taken", .glo "_law_pick", .glo "_law_small", .glo "_law_order", .glo "_law_is_met", .glo "_law_all_met", .glo "_law_common", .glo "law", .free "bool", .free "enumerate", .free "int", .free "isinstance", .free "len", .free "list", .free "max", .free "min", .free "range", .free "sorted", .free "sum", .free "tuple", .int "MOST_COST" 20, .int "MOST_DEADLINE" 60, .int "MOST_GAP" 60, .int "MOST_TASKS" 6]
def bx : List (Str × String) := [("gcd", "math.gcd")]
abbrev R : PySem.W.OpenRow := PySem.W.OpenLaw.row PySem.Challenge.rw_eventcore_k09_whole_scales
abbrev hk : PySem.W.Hook := hookB 4 fa fn bx
def loose0 : List Str := ["gcd", "rounded_up", "EventError", "BadTasks", "BadOrder", "LongDeadline", "is_number", "is_integer", "is_tuple", "is_order", "check_order", "arrived_work", "MOST_TASKS", "MOST_COST", "MOST_DEADLINE", "MOST_GAP", "is_task", "check_tasks", "check_short_deadlines", "is_less", "task_scale", "greatest_scale", "_law_taken", "_law_pick", "_law_small", "_law_order", "_law_is_met", "_law_all_met", "_law_common"]
abbrev loose : List Str := loose0
open PySem.W in
set_option maxHeartbeats 0 in
theorem left : LeftO R.prog (view R.prog [36]) loose (fun s => xlAt (view R.prog [36]) [] s && recOk R.toRowW.records s) hk.obs hk.val 4000 := by
  intro w
  kernel_rfl
set_option maxHeartbeats 4000000 in
theorem facts {P : Program} {w : World} {K : PySem.W.Frag} {h : Heap} {mg : Str → Option Value} {f : Addr} (X : K.In h) (G : h.Ns mainGlobals mg) (hfa : mg ("law" : Str) = some (.ref f)) (cc : SaysB fa fn bx K) :
    ∃ fd : FuncData, (∀ (s : Shared) (v : Value), BindsTo s fd ⟨[v], []⟩ [("script", v)]) ∧ ∀ base : Heap, K.In base → base.Ns mainGlobals mg → FnOk P w K mg base CX0 6 f fd ["script"] (spF K mg 1 F_law) := by
  have c : He.SaysD fa fn K := cc.1
  have m_bool : mg ("bool" : Str) = none := He.free_ok X G (c.fact 21 (f := .free "bool") rfl)
  have m_enumerate : mg ("enumerate" : Str) = none := He.free_ok X G (c.fact 22 (f := .free "enumerate") rfl)
  have m_int : mg ("int" : Str) = none := He.free_ok X G (c.fact 23 (f := .free "int") rfl)
  have m_isinstance : mg ("isinstance" : Str) = none := He.free_ok X G (c.fact 24 (f := .free "isinstance") rfl)
  have m_len : mg ("len" : Str) = none := He.free_ok X G (c.fact 25 (f := .free "len") rfl)
  have m_list : mg ("list" : Str) = none := He.free_ok X G (c.fact 26 (f := .free "list") rfl)
  have m_max : mg ("max" : Str) = none := He.free_ok X G (c.fact 27 (f := .free "max") rfl)
  have m_min : mg ("min" : Str) = none := He.free_ok X G (c.fact 28 (f := .free "min") rfl)
  have m_range : mg ("range" : Str) = none := He.free_ok X G (c.fact 29 (f := .free "range") rfl)
  have m_sorted : mg ("sorted" : Str) = none := He.free_ok X G (c.fact 30 (f := .free "sorted") rfl)
  have m_sum : mg ("sum" : Str) = none := He.free_ok X G (c.fact 31 (f := .free "sum") rfl)
  have m_tuple : mg ("tuple" : Str) = none := He.free_ok X G (c.fact 32 (f := .free "tuple") rfl)
  have c_MOST_COST : ∃ t, mg ("MOST_COST" : Str) = some (.int 20 t) := He.int_ok X G (c.fact 33 (f := .int "MOST_COST" 20) rfl)
  have c_MOST_DEADLINE : ∃ t, mg ("MOST_DEADLINE" : Str) = some (.int 60 t) := He.int_ok X G (c.fact 34 (f := .int "MOST_DEADLINE" 60) rfl)
  have c_MOST_GAP : ∃ t, mg ("MOST_GAP" : Str) = some (.int 60 t) := He.int_ok X G (c.fact 35 (f := .int "MOST_GAP" 60) rfl)
  have c_MOST_TASKS : ∃ t, mg ("MOST_TASKS" : Str) = some (.int 6 t) := He.int_ok X G (c.fact 36 (f := .int "MOST_TASKS" 6) rfl)
  have i_gcd : mg ("gcd" : Str) = some (.builtin "math.gcd") := bx_ok X G cc 0 rfl
  obtain ⟨fd, F⟩ := c.def_ 20 (d := dd_law) rfl
  have e := hfa.symm.trans (He.glo_ok X G (c.fact 20 (f := .glo "law") rfl))
  cases e
  have b := FunD.bindsA (ps := ["script"]) F fun _ _ _ _ _ _ us hl => match us, hl with | [_], _ => rfl
  refine ⟨fd, fun s v => b s [v] rfl, fun base _ _ => ?_⟩
  have d_rounded_up : Def P w K mg base CX0 1 ("rounded_up" : Str) ["length", "gap"] F_rounded_up := by
    obtain ⟨fd, F⟩ := c.def_ 0 (d := dd_rounded_up) rfl
    exact def_mk F (w_rounded_up  F) (He.glo_ok X G (c.fact 0 (f := .glo "rounded_up") rfl)) fun _ _ _ _ _ _ us hl => match us, hl with | [_, _], _ => rfl
  have d_is_number : Def P w K mg base CX0 1 ("is_number" : Str) ["value"] F_is_number := by
    obtain ⟨fd, F⟩ := c.def_ 1 (d := dd_is_number) rfl
    exact def_mk F (w_is_number m_bool m_int m_isinstance F) (He.glo_ok X G (c.fact 1 (f := .glo "is_number") rfl)) fun _ _ _ _ _ _ us hl => match us, hl with | [_], _ => rfl
  have d_is_integer : Def P w K mg base CX0 2 ("is_integer" : Str) ["value", "low", "high"] F_is_integer := by
    obtain ⟨fd, F⟩ := c.def_ 2 (d := dd_is_integer) rfl
    exact def_mk F (w_is_integer d_is_number F) (He.glo_ok X G (c.fact 2 (f := .glo "is_integer") rfl)) fun _ _ _ _ _ _ us hl => match us, hl with | [_, _, _], _ => rfl
  have d_is_tuple : Def P w K mg base CX0 1 ("is_tuple" : Str) ["value", "least", "most"] F_is_tuple := by
    obtain ⟨fd, F⟩ := c.def_ 3 (d := dd_is_tuple) rfl
    exact def_mk F (w_is_tuple m_isinstance m_len m_tuple F) (He.glo_ok X G (c.fact 3 (f := .glo "is_tuple") rfl)) fun _ _ _ _ _ _ us hl => match us, hl with | [_, _, _], _ => rfl
  have d_is_order : Def P w K mg base CX0 3 ("is_order" : Str) ["value", "many"] F_is_order := by
    obtain ⟨fd, F⟩ := c.def_ 4 (d := dd_is_order) rfl
    exact def_mk F (w_is_order m_list m_range m_sorted d_is_tuple d_is_integer F) (He.glo_ok X G (c.fact 4 (f := .glo "is_order") rfl)) fun _ _ _ _ _ _ us hl => match us, hl with | [_, _], _ => rfl
  have d_check_order : Def P w K mg base CX0 4 ("check_order" : Str) ["value", "many"] F_check_order := by
    obtain ⟨fd, F⟩ := c.def_ 5 (d := dd_check_order) rfl
    exact def_mk F (w_check_order d_is_order F) (He.glo_ok X G (c.fact 5 (f := .glo "check_order") rfl)) fun _ _ _ _ _ _ us hl => match us, hl with | [_, _], _ => rfl
  have d_arrived_work : Def P w K mg base CX0 2 ("arrived_work" : Str) ["tasks", "length"] F_arrived_work := by
    obtain ⟨fd, F⟩ := c.def_ 6 (d := dd_arrived_work) rfl
    exact def_mk F (w_arrived_work m_sum d_rounded_up F) (He.glo_ok X G (c.fact 6 (f := .glo "arrived_work") rfl)) fun _ _ _ _ _ _ us hl => match us, hl with | [_, _], _ => rfl
  have d_is_task : Def P w K mg base CX0 3 ("is_task" : Str) ["value"] F_is_task := by
    obtain ⟨fd, F⟩ := c.def_ 7 (d := dd_is_task) rfl
    exact def_mk F (w_is_task c_MOST_COST c_MOST_DEADLINE c_MOST_GAP d_is_tuple d_is_integer F) (He.glo_ok X G (c.fact 7 (f := .glo "is_task") rfl)) fun _ _ _ _ _ _ us hl => match us, hl with | [_], _ => rfl
  have d_check_tasks : Def P w K mg base CX0 4 ("check_tasks" : Str) ["tasks"] F_check_tasks := by
    obtain ⟨fd, F⟩ := c.def_ 8 (d := dd_check_tasks) rfl
    exact def_mk F (w_check_tasks m_enumerate c_MOST_TASKS d_is_tuple d_is_task F) (He.glo_ok X G (c.fact 8 (f := .glo "check_tasks") rfl)) fun _ _ _ _ _ _ us hl => match us, hl with | [_], _ => rfl
  have d_check_short_deadlines : Def P w K mg base CX0 1 ("check_short_deadlines" : Str) ["tasks"] F_check_short_deadlines := by
    obtain ⟨fd, F⟩ := c.def_ 9 (d := dd_check_short_deadlines) rfl
    exact def_mk F (w_check_short_deadlines m_enumerate F) (He.glo_ok X G (c.fact 9 (f := .glo "check_short_deadlines") rfl)) fun _ _ _ _ _ _ us hl => match us, hl with | [_], _ => rfl
  have d_is_less : Def P w K mg base CX0 1 ("is_less" : Str) ["ratio", "other"] F_is_less := by
    obtain ⟨fd, F⟩ := c.def_ 10 (d := dd_is_less) rfl
    exact def_mk F (w_is_less  F) (He.glo_ok X G (c.fact 10 (f := .glo "is_less") rfl)) fun _ _ _ _ _ _ us hl => match us, hl with | [_, _], _ => rfl
  have d_task_scale : Def P w K mg base CX0 3 ("task_scale" : Str) ["members", "deadline"] F_task_scale := by
    obtain ⟨fd, F⟩ := c.def_ 11 (d := dd_task_scale) rfl
    exact def_mk F (w_task_scale m_range d_is_less d_arrived_work F) (He.glo_ok X G (c.fact 11 (f := .glo "task_scale") rfl)) fun _ _ _ _ _ _ us hl => match us, hl with | [_, _], _ => rfl
  have d_greatest_scale : Def P w K mg base CX0 5 ("greatest_scale" : Str) ["tasks", "order"] F_greatest_scale := by
    obtain ⟨fd, F⟩ := c.def_ 12 (d := dd_greatest_scale) rfl
    exact def_mk F (w_greatest_scale m_len i_gcd d_check_tasks d_check_short_deadlines d_check_order d_is_less d_task_scale F) (He.glo_ok X G (c.fact 12 (f := .glo "greatest_scale") rfl)) fun _ _ _ _ _ _ us hl => match us, hl with | [_, _], _ => rfl
  have d__law_taken : Def P w K mg base CX0 1 ("_law_taken" : Str) ["row", "many"] F__law_taken := by
    obtain ⟨fd, F⟩ := c.def_ 13 (d := dd__law_taken) rfl
    exact def_mk F (w__law_taken m_int m_len F) (He.glo_ok X G (c.fact 13 (f := .glo "_law_taken") rfl)) fun _ _ _ _ _ _ us hl => match us, hl with | [_, _], _ => rfl
  have d__law_pick : Def P w K mg base CX0 2 ("_law_pick" : Str) ["row", "things"] F__law_pick := by
    obtain ⟨fd, F⟩ := c.def_ 14 (d := dd__law_pick) rfl
    exact def_mk F (w__law_pick m_len d__law_taken F) (He.glo_ok X G (c.fact 14 (f := .glo "_law_pick") rfl)) fun _ _ _ _ _ _ us hl => match us, hl with | [_, _], _ => rfl
  have d__law_small : Def P w K mg base CX0 3 ("_law_small" : Str) ["row", "many"] F__law_small := by
    obtain ⟨fd, F⟩ := c.def_ 15 (d := dd__law_small) rfl
    exact def_mk F (w__law_small m_max m_min m_range m_tuple d__law_pick d__law_taken F) (He.glo_ok X G (c.fact 15 (f := .glo "_law_small") rfl)) fun _ _ _ _ _ _ us hl => match us, hl with | [_, _], _ => rfl
  have d__law_order : Def P w K mg base CX0 2 ("_law_order" : Str) ["row", "many"] F__law_order := by
    obtain ⟨fd, F⟩ := c.def_ 16 (d := dd__law_order) rfl
    exact def_mk F (w__law_order m_len m_range m_tuple d__law_taken F) (He.glo_ok X G (c.fact 16 (f := .glo "_law_order") rfl)) fun _ _ _ _ _ _ us hl => match us, hl with | [_, _], _ => rfl
  have d__law_is_met : Def P w K mg base CX0 1 ("_law_is_met" : Str) ["some", "deadline"] F__law_is_met := by
    obtain ⟨fd, F⟩ := c.def_ 17 (d := dd__law_is_met) rfl
    exact def_mk F (w__law_is_met m_range m_sum F) (He.glo_ok X G (c.fact 17 (f := .glo "_law_is_met") rfl)) fun _ _ _ _ _ _ us hl => match us, hl with | [_, _], _ => rfl
  have d__law_all_met : Def P w K mg base CX0 2 ("_law_all_met" : Str) ["tasks", "order", "top", "bottom"] F__law_all_met := by
    obtain ⟨fd, F⟩ := c.def_ 18 (d := dd__law_all_met) rfl
    exact def_mk F (w__law_all_met m_len m_range d__law_is_met F) (He.glo_ok X G (c.fact 18 (f := .glo "_law_all_met") rfl)) fun _ _ _ _ _ _ us hl => match us, hl with | [_, _, _, _], _ => rfl
  have d__law_common : Def P w K mg base CX0 1 ("_law_common" : Str) ["one", "other"] F__law_common := by
    obtain ⟨fd, F⟩ := c.def_ 19 (d := dd__law_common) rfl
    exact def_mk F (w__law_common m_int F) (He.glo_ok X G (c.fact 19 (f := .glo "_law_common") rfl)) fun _ _ _ _ _ _ us hl => match us, hl with | [_, _], _ => rfl
  exact w_law m_bool m_int m_isinstance m_len m_min m_tuple d__law_pick d__law_order d_greatest_scale d__law_all_met d__law_small d__law_common F
end Tx
section
open PySem PySem.W PySem.Calls PyProof.Rows
theorem Tx.holds_of (math : ∀ ns : List Int, ns.length ≤ 63 → ∃ γ, Tx.F_law [.pu (.lst (ns.map .int))] = .ok (.bl true) γ) : PySem.Challenge.rw_eventcore_k09_whole_scales.Holds := by
  w_on; o_law
  refine holds_open (r := OpenLaw.row PySem.Challenge.rw_eventcore_k09_whole_scales) (q := view (OpenLaw.row PySem.Challenge.rw_eventcore_k09_whole_scales).prog [36]) (loose := Tx.loose) (XP := XL (view (OpenLaw.row PySem.Challenge.rw_eventcore_k09_whole_scales).prog [36]) []) (YP := Tx.hk.says) (kwd := []) Tx.left (fun w s e => Tx.hk.of w s e) (fun w h h1 y k => Tx.hk.keeps w h h1 y k)
    (fun s z => xl_of s (Bool.and_eq_true_iff.mp z).1) XL.keeps (by rfl) (by rfl) (by rfl) (fun s z => recFacts_of (Bool.and_eq_true_iff.mp z).2) (by rfl) (by first | assumption | decide +kernel) (by decide +kernel) ⟨rfl, rfl, rfl, rfl, rfl, by decide +kernel⟩ ?hw ?hc
  case hw => w_witness2
  case hc =>
    refine L2.walk_ofE (l := PySem.Challenge.rw_eventcore_k09_whole_scales) (n := 63) (k := 6) (x := "script") (CX := L2.CX0) rfl (by decide) (by kernel_rfl) ⟨rfl, by decide, by decide⟩ ?F (fun _ _ _ _ z => z)
    intro w mg fa h Y G hmg0
    obtain ⟨K, KX, c⟩ := Y
    have hmg : mg ("law" : PySem.Str) = some (.ref fa) := by
      have e : (HandSHeadRun.topDef (OpenLaw.row PySem.Challenge.rw_eventcore_k09_whole_scales).prog 36).name = ("law" : PySem.Str) := by kernel_rfl
      rw [← e]
      exact hmg0
    obtain ⟨fd, hb, hF⟩ := Tx.facts (P := (PySem.Challenge.rw_eventcore_k09_whole_scales).prog) (w := w) KX G hmg c
    exact ⟨K, fd, Fv.spF K mg 1 Tx.F_law, KX, hb, fun H a ns hl _ hS => let ⟨_, e⟩ := math ns hl; Fv.law_sp hS e, hF⟩

end

set_option maxRecDepth 100000
/-! ### evaluating denotations -/
namespace Fv
open PySem L2
section
variable {γ : Gm} {i j : Nat} {h h' : Gm → Out} {ga gb gc : Gm → Rs D} {ta tb : Gm → Rs Bool} {gs : Gm → Rs (List D)} {k : Kt} {d e : D}
@[simp] theorem e_gVar : gVar i γ = (match γ[i]? with | some (.pu d) => .ok d γ | _ => .no) := rfl
@[simp] theorem e_gC : gC d γ = .ok d γ := rfl
@[simp] theorem e_g1 {p : D → Option D} : g1 p ga γ = (ga γ).bind fun d γ1 => ofO (p d) γ1 := rfl
@[simp] theorem e_g2 {p : D → D → Option D} : g2 p ga gb γ = (ga γ).bind fun d γ1 => (gb γ1).bind fun e γ2 => ofO (p d e) γ2 := rfl
@[simp] theorem e_gTst : gTst ga γ = (ga γ).bind fun d γ1 => (match d with | .bl k => .ok k γ1 | _ => .no) := rfl
@[simp] theorem e_tgAnd : tgAnd ta tb γ = (ta γ).bind fun k γ1 => if k then tb γ1 else .ok false γ1 := rfl
@[simp] theorem e_tgOr : tgOr ta tb γ = (ta γ).bind fun k γ1 => if k then .ok true γ1 else tb γ1 := rfl
@[simp] theorem e_tgNot : tgNot ta γ = (ta γ).bind fun k γ1 => .ok (!k) γ1 := rfl
@[simp] theorem e_gAnd : gAnd ga gb γ = (ga γ).bind fun d γ1 => (match d with | .bl true => gb γ1 | .bl false => .ok (.bl false) γ1 | _ => .no) := rfl
@[simp] theorem e_gOr : gOr ga gb γ = (ga γ).bind fun d γ1 => (match d with | .bl true => .ok (.bl true) γ1 | .bl false => gb γ1 | _ => .no) := rfl
@[simp] theorem e_gIf : gIf ta ga gb γ = (ta γ).bind fun k γ1 => if k then ga γ1 else gb γ1 := rfl
@[simp] theorem e_gNil : gNil γ = .ok [] γ := rfl
@[simp] theorem e_gCons : gCons ga gs γ = (ga γ).bind fun d γ1 => (gs γ1).bind fun l γ2 => .ok (d :: l) γ2 := rfl
@[simp] theorem e_gTup : gTup gs γ = (gs γ).bind fun l γ1 => .ok (.tup l) γ1 := rfl
@[simp] theorem e_gB {p : List D → Option D} : gB p gs γ = (gs γ).bind fun l γ1 => ofO (p l) γ1 := rfl
@[simp] theorem e_gBF {p : List D → Option (List D)} : gBF p gs γ = (gs γ).bind fun l γ1 => ofO (p l) γ1 := rfl
@[simp] theorem e_gPu : gPu gs γ = (gs γ).bind fun l γ1 => .ok (.lst l) γ1 := rfl
@[simp] theorem e_gOwn : gOwn i γ = (match γ[i]? with | some (.ow l) => .ok (.lst l) γ | some (.bo l) => .ok (.lst l) γ | _ => .no) := rfl
@[simp] theorem e_gIxO : gIxO i gb γ = (gOwn i γ).bind fun _ γ0 => (gb γ0).bind fun d γ1 => (gOwn i γ1).bind fun o γ2 => ofO (dIx o d) γ2 := rfl
@[simp] theorem e_gLenO : gLenO j γ = (gOwn j γ).bind fun d γ1 => ofO (dLen [d]) γ1 := rfl
@[simp] theorem e_gItems : gItems ga γ = (ga γ).bind fun d γ1 => ofO (itemsD d) γ1 := rfl
@[simp] theorem e_gEnum : gEnum ga γ = (ga γ).bind fun d γ1 => ofO ((itemsD d).map (enumD 0)) γ1 := rfl
@[simp] theorem e_gRng1 : gRng1 ga γ = (ga γ).bind fun d γ1 => ofO (dRng1 d) γ1 := rfl
@[simp] theorem e_gRng2 : gRng2 ga gb γ = (ga γ).bind fun d γ1 => (gb γ1).bind fun e γ2 => ofO (dRng2 d e) γ2 := rfl
@[simp] theorem e_hNx : hNx γ = .nx γ := rfl
@[simp] theorem e_hBk : hBk γ = .bk γ := rfl
@[simp] theorem e_hCt : hCt γ = .ct γ := rfl
@[simp] theorem e_hSeq : hSeq h h' γ = (h γ).bind h' := rfl
@[simp] theorem e_hRet : hRet ga γ = (ga γ).out fun d γ1 => .rt d γ1 := rfl
@[simp] theorem e_hRetN : hRetN γ = .rt .non γ := rfl
@[simp] theorem e_hDrop : hDrop ga γ = (ga γ).out fun _ γ1 => .nx γ1 := rfl
@[simp] theorem e_hIf : hIf ta h h' γ = (ta γ).out fun k γ1 => if k then h γ1 else h' γ1 := rfl
@[simp] theorem e_hSet : hSet i ga γ = (ga γ).out fun d γ1 => .nx (γ1.set i (.pu d)) := rfl
@[simp] theorem e_hSetF : hSetF i gs γ = (gs γ).out fun l γ1 => .nx (γ1.set i (.ow l)) := rfl
@[simp] theorem e_hFor : hFor gs k h γ = (gs γ).out fun l γ1 => forL k h l γ1 := rfl
@[simp] theorem e_hAsg : hAsg ga k γ = (ga γ).out fun d γ1 => (match k d γ1 with | some γ2 => .nx γ2 | none => .no) := rfl
@[simp] theorem e_hAug {f : Int → Int → Int} : hAug i f ga γ = (gVar i γ).out fun d γ0 => (ga γ0).out fun e γ1 => (match d, e with | .int m, .int n => .nx (γ1.set i (.pu (.int (f m n)))) | _, _ => .no) := rfl
@[simp] theorem e_hFrz : hFrz j h γ = (match γ[j]? with | some (.ow l) => h (γ.set j (.pu (.lst l))) | _ => h γ) := rfl
@[simp] theorem e_hPut : hPut j ga gb γ = (ga γ).out fun d γ1 => (gOwn j γ1).out fun _ γ2 => (gb γ2).out fun i γ3 => (match i with
  | .int k => (match putO j (fun l => (ixN l.length k).map fun n => l.set n d) γ3 with
    | some γ4 => .nx γ4
    | none => .no)
  | _ => .no) := rfl
@[simp] theorem e_gApp : gApp j ga γ = (gOwn j γ).bind fun _ γ0 => (ga γ0).bind fun d γ1 => (match putO j (fun l => if l.length < sizeLine then some (l ++ [d]) else none) γ1 with
  | some γ2 => .ok .non γ2
  | none => .no) := rfl
@[simp] theorem e_putO {f : List D → Option (List D)} : putO j f γ = (match γ[j]? with
  | some (.ow l) => (f l).map fun m => γ.set j (.ow m)
  | some (.bo l) => (f l).map fun m => γ.set j (.bo m)
  | _ => none) := rfl
@[simp] theorem e_aNil : aNil γ = .ok [] γ := rfl
@[simp] theorem e_aCons {gs : Gm → Rs (List Ar)} : aCons ga gs γ = (ga γ).bind fun d γ1 => (gs γ1).bind fun l γ2 => .ok (.d d :: l) γ2 := rfl
@[simp] theorem e_aSlot {gs : Gm → Rs (List Ar)} : aSlot i gs γ = (gOwn i γ).bind fun _ γ1 => (gs γ1).bind fun l γ2 => .ok (.s i :: l) γ2 := rfl
@[simp] theorem e_kSet : kSet i d γ = some (γ.set i (.pu d)) := rfl
@[simp] theorem e_kNil : kNil [] γ = some γ := rfl
@[simp] theorem e_kCons {ks : List D → Gm → Option Gm} {l : List D} : kCons k ks (d :: l) γ = (k d γ).bind fun γ1 => ks l γ1 := rfl
@[simp] theorem e_kTup {n : Nat} {ks : List D → Gm → Option Gm} {l : List D} : kTup n ks (.tup l) γ = if l.length = n then ks l γ else none := rfl
@[simp] theorem ofO_none {α : Type} (g : Gm) : ofO (none : Option α) g = .no := rfl
@[simp] theorem Rs.map_ok {α β : Type} (a : α) (g : Gm) (f : α → β) : (Rs.ok a g).map f = .ok (f a) g := rfl
/-! data -/
variable {x y : Int}
@[simp] theorem d_add : dAdd (.int x) (.int y) = some (.int (x + y)) := rfl
@[simp] theorem d_sub : dSub (.int x) (.int y) = some (.int (x - y)) := rfl
@[simp] theorem d_lt : dLt (.int x) (.int y) = some (.bl (decide (x < y))) := rfl
@[simp] theorem d_le : dLe (.int x) (.int y) = some (.bl (decide (x ≤ y))) := rfl
@[simp] theorem d_gt : dGt (.int x) (.int y) = some (.bl (decide (y < x))) := rfl
@[simp] theorem d_ge : dGe (.int x) (.int y) = some (.bl (decide (y ≤ x))) := rfl
@[simp] theorem d_neg : dNeg (.int x) = some (.int (-x)) := rfl
theorem d_mulS (h : Nat.log2 x.natAbs + Nat.log2 y.natAbs < 1000000) : dMul (.int x) (.int y) = some (.int (x * y)) := if_pos h
theorem log2_le {n k : Nat} (h : n < 2 ^ k) : Nat.log2 n ≤ k := by
  by_cases h0 : n = 0
  · subst h0; have : Nat.log2 0 = 0 := by decide
    omega
  · exact Nat.le_of_lt ((Nat.log2_lt h0).mpr h)
theorem d_mul (hx : x.natAbs < 2 ^ 64) (hy : y.natAbs < 2 ^ 64) : dMul (.int x) (.int y) = some (.int (x * y)) := d_mulS (by have := log2_le hx; have := log2_le hy; omega)
theorem d_fdiv (h : y ≠ 0 ∧ y.natAbs < 1073741824) : dFdiv (.int x) (.int y) = some (.int (x.fdiv y)) := if_pos (.inl h)
theorem d_fdivW (h : 0 < y) (h2 : y.natAbs < 2 ^ 64) : dFdiv (.int x) (.int y) = some (.int (x.fdiv y)) := if_pos (.inr ⟨h, by have := log2_le h2; omega⟩)
theorem d_mod (h : y ≠ 0) : dMod (.int x) (.int y) = some (.int (x.fmod y)) := if_pos h
theorem d_pow (h : 0 ≤ y ∧ y ≤ 1000000 ∧ x.natAbs < 2 ^ 64) : dPow (.int x) (.int y) = some (.int (x ^ y.toNat)) := if_pos h
@[simp] theorem d_lenL {l : List D} : dLen [.lst l] = some (.int l.length) := rfl
@[simp] theorem d_lenT {l : List D} : dLen [.tup l] = some (.int l.length) := rfl
@[simp] theorem d_int1 : dInt1 [.int x] = some (.int x) := rfl
@[simp] theorem d_itL {l : List D} : itemsD (.lst l) = some l := rfl
@[simp] theorem d_itT {l : List D} : itemsD (.tup l) = some l := rfl
@[simp] theorem d_ixT {l : List D} : dIx (.tup l) (.int x) = atI l x := rfl
@[simp] theorem d_ixL {l : List D} : dIx (.lst l) (.int x) = atI l x := rfl
theorem at_ofNat {l : List D} {n : Nat} (h : n < l.length) : atI l (n : Int) = l[n]? := by
  unfold atI ixN
  rw [if_pos (Int.natCast_nonneg n), if_pos (by omega)]
  simp
@[simp] theorem at_0 {a : D} {l : List D} : atI (a :: l) 0 = some a := at_ofNat (l := a :: l) (n := 0) (by simp)
@[simp] theorem at_1 {a b : D} {l : List D} : atI (a :: b :: l) 1 = some b := at_ofNat (l := a :: b :: l) (n := 1) (by simp)
@[simp] theorem at_2 {a b c : D} {l : List D} : atI (a :: b :: c :: l) 2 = some c := at_ofNat (l := a :: b :: c :: l) (n := 2) (by simp)
@[simp] theorem at_3 {a b c d : D} {l : List D} : atI (a :: b :: c :: d :: l) 3 = some d := at_ofNat (l := a :: b :: c :: d :: l) (n := 3) (by simp)
theorem ixN_of {n k : Nat} (h : k < n) : ixN n (k : Int) = some k := by
  unfold ixN
  rw [if_pos (Int.natCast_nonneg k), if_pos (by omega)]
  simp
@[simp] theorem ix4_0 : ixN 4 0 = some 0 := ixN_of (n := 4) (k := 0) (by omega)
@[simp] theorem ix4_1 : ixN 4 1 = some 1 := ixN_of (n := 4) (k := 1) (by omega)
@[simp] theorem ix4_2 : ixN 4 2 = some 2 := ixN_of (n := 4) (k := 2) (by omega)
@[simp] theorem ix4_3 : ixN 4 3 = some 3 := ixN_of (n := 4) (k := 3) (by omega)
theorem runN_rt {n : Nat} {h : Gm → Out} {ps qs : List SV} {d : D} {g : Gm} (e : h (ps ++ List.replicate (n - ps.length) .un) = .rt d g) (q : finR ps g = some qs) : runN n h ps = .ok d qs := by
  unfold runN
  rw [e]
  show (match finR ps g with | some qs => Rs.ok d qs | none => .no) = _
  rw [q]
/-! calls -/
@[simp] theorem e_gCall {F : List SV → Rs D} {gs : Gm → Rs (List Ar)} : gCall F gs γ = (gs γ).bind fun ars γ1 =>
  if (slotsA ars).Nodup then (match parG γ1 ars with
    | none => .no
    | some ps => (match F ps with
      | .ok d qs => (match backG γ1 ars qs with
        | some γ2 => .ok d γ2
        | none => .no)
      | .ex n fs qs => (match backG γ1 ars qs with
        | some γ2 => .ex n fs γ2
        | none => .no)
      | .no => .no))
  else .no := rfl
@[simp] theorem parG_nil : parG γ [] = some [] := rfl
@[simp] theorem parG_d {l : List Ar} : parG γ (.d d :: l) = (parG γ l).map (.pu d :: ·) := rfl
@[simp] theorem parG_s {l : List Ar} : parG γ (.s j :: l) = (match γ[j]? with
    | some (.ow m) => (parG γ l).map (.bo m :: ·)
    | some (.bo m) => (parG γ l).map (.bo m :: ·)
    | _ => none) := rfl
@[simp] theorem slotsA_nil : slotsA [] = [] := rfl
@[simp] theorem slotsA_d {l : List Ar} : slotsA (.d d :: l) = slotsA l := rfl
@[simp] theorem slotsA_s {l : List Ar} : slotsA (.s j :: l) = j :: slotsA l := rfl
@[simp] theorem backG_nil {qs : List SV} : backG γ [] qs = some γ := by cases qs <;> rfl
@[simp] theorem backG_d {l : List Ar} {s : SV} {qs : List SV} : backG γ (.d d :: l) (s :: qs) = backG γ l qs := rfl
@[simp] theorem backG_s {l : List Ar} {m : List D} {qs : List SV} : backG γ (.s j :: l) (.bo m :: qs) = (match γ[j]? with
    | some (.ow _) => backG (γ.set j (.ow m)) l qs
    | some (.bo _) => backG (γ.set j (.bo m)) l qs
    | _ => none) := rfl
@[simp] theorem finR_nil : finR [] γ = some [] := rfl
@[simp] theorem finR_bo {l m : List D} {ps : List SV} : finR (.bo l :: ps) (.bo m :: γ) = (finR ps γ).map (.bo m :: ·) := rfl
@[simp] theorem finR_pu {s : SV} {ps : List SV} : finR (.pu d :: ps) (s :: γ) = (finR ps γ).map (.pu d :: ·) := rfl
/-! loops -/
theorem forL_run {l : List D} (I : Nat → Gm → Prop) (B : Gm → Prop) (R : D → Gm → Prop)
    (step : ∀ i d γ, l[i]? = some d → I i γ → ∃ γ1, k d γ = some γ1 ∧ ((∃ γ2, h γ1 = .nx γ2 ∧ I (i + 1) γ2) ∨ (∃ γ2, h γ1 = .ct γ2 ∧ I (i + 1) γ2) ∨ (∃ γ2, h γ1 = .bk γ2 ∧ B γ2) ∨ ∃ d g, h γ1 = .rt d g ∧ R d g)) (h0 : I 0 γ) :
    (∃ γ2, forL k h l γ = .nx γ2 ∧ (I l.length γ2 ∨ B γ2)) ∨ ∃ d g, forL k h l γ = .rt d g ∧ R d g := by
  have key : ∀ (r : List D) (i : Nat) (γ : Gm), l.drop i = r → i ≤ l.length → I i γ → (∃ γ2, forL k h r γ = .nx γ2 ∧ (I l.length γ2 ∨ B γ2)) ∨ ∃ d g, forL k h r γ = .rt d g ∧ R d g := by
    intro r
    induction r with
    | nil =>
      intro i γ e hi hI
      have : l.length ≤ i := List.drop_eq_nil_iff.mp e
      have : i = l.length := by omega
      subst this
      exact .inl ⟨γ, rfl, .inl hI⟩
    | cons d r ih =>
      intro i γ e hi hI
      have hd : l[i]? = some d := by rw [← List.head?_drop, e]; rfl
      have hr : l.drop (i + 1) = r := by rw [← List.tail_drop, e]; rfl
      have hlt : i < l.length := (List.getElem?_eq_some_iff.mp hd).1
      obtain ⟨γ1, e1, q⟩ := step i d γ hd hI
      rcases q with ⟨γ2, e2, q⟩ | ⟨γ2, e2, q⟩ | ⟨γ2, e2, q⟩ | ⟨d', g, e2, q⟩
      · have := ih (i + 1) γ2 hr hlt q
        simpa [forL, e1, e2] using this
      · have := ih (i + 1) γ2 hr hlt q
        simpa [forL, e1, e2] using this
      · exact .inl ⟨γ2, by simp [forL, e1, e2], .inr q⟩
      · exact .inr ⟨d', g, by simp [forL, e1, e2], q⟩
  exact key l 0 γ rfl (Nat.zero_le _) h0
theorem forL_nx {l : List D} (I : Nat → Gm → Prop)
    (step : ∀ i d γ, l[i]? = some d → I i γ → ∃ γ1, k d γ = some γ1 ∧ ∃ γ2, h γ1 = .nx γ2 ∧ I (i + 1) γ2) (h0 : I 0 γ) : ∃ γ2, forL k h l γ = .nx γ2 ∧ I l.length γ2 := by
  rcases forL_run (l := l) (k := k) (h := h) I (fun _ => False) (fun _ _ => False) (fun i d γ e q => let ⟨γ1, e1, q⟩ := step i d γ e q; ⟨γ1, e1, .inl q⟩) h0 with ⟨γ2, e, q | q⟩ | ⟨_, _, _, q⟩
  · exact ⟨γ2, e, q⟩
  · exact q.elim
  · exact q.elim
theorem lcL_map {gt : Gm → Rs Bool} {ge : Gm → Rs D} {vs : List Nat} {l : List D} {f : D → D} (hs : ∀ d, d ∈ l → ∃ γ1, k d γ = some γ1 ∧ gt γ1 = .ok true γ1 ∧ ge γ1 = .ok (f d) γ1 ∧ wipeG γ1 vs = γ) : lcL k gt ge vs l γ = .ok (l.map f) γ := by
  induction l with
  | nil => rfl
  | cons d l ih =>
    obtain ⟨γ1, e1, e2, e3, e4⟩ := hs d (List.mem_cons_self)
    have := ih fun d hd => hs d (List.mem_cons_of_mem _ hd)
    simp [lcL, e1, e2, e3, e4, this]
theorem lcL_filter {gt : Gm → Rs Bool} {ge : Gm → Rs D} {vs : List Nat} {l : List D} {p : D → Bool} {f : D → D} (hs : ∀ d, d ∈ l → ∃ γ1, k d γ = some γ1 ∧ gt γ1 = .ok (p d) γ1 ∧ (p d = true → ge γ1 = .ok (f d) γ1) ∧ wipeG γ1 vs = γ) : lcL k gt ge vs l γ = .ok ((l.filter p).map f) γ := by
  induction l with
  | nil => rfl
  | cons d l ih =>
    obtain ⟨γ1, e1, e2, e3, e4⟩ := hs d (List.mem_cons_self)
    have := ih fun d hd => hs d (List.mem_cons_of_mem _ hd)
    cases hp : p d with
    | true => simp [lcL, e1, e2, e3 hp, e4, this, hp, List.filter]
    | false => simp [lcL, e1, e2, e4, this, hp, List.filter]
theorem e_gLc {gs : Gm → Rs (List D)} {gt : Gm → Rs Bool} {ge : Gm → Rs D} {vs : List Nat} {l ys : List D} {γ1 γ2 : Gm} (h1 : gs γ = .ok l γ1) (hl : l.length ≤ sizeLine) (hv : vs.all (fun i => !ownAt γ1 i) = true) (h2 : lcL k gt ge vs l (wipeG γ1 vs) = .ok ys γ2) : gLc gs k gt ge vs γ = .ok ys (restG γ1 γ2 vs) := by
  unfold gLc
  simp only [h1, Rs.bind_ok]
  rw [if_pos ⟨hl, hv⟩, h2]
@[simp] theorem i_int {T : String} {x : Int} : dIsi T (.int x) = (kitB "int" T).map .bl := rfl
@[simp] theorem i_tup {T : String} {l : List D} : dIsi T (.tup l) = (kitB "tuple" T).map .bl := rfl
@[simp] theorem k_ib : kitB "int" "bool" = some false := by decide
@[simp] theorem k_ii : kitB "int" "int" = some true := by decide
@[simp] theorem k_tt : kitB "tuple" "tuple" = some true := by decide
end
/-! tasks -/
structure Tk where
  c : Int
  d : Int
  g : Int
def Tk.D (t : Tk) : D := .tup [.int t.c, .int t.d, .int t.g]
def ofI (l : List Int) : List D := l.map .int
theorem size_ok {α : Type} {l : List α} (h : l.length ≤ 1000) : l.length ≤ sizeLine := Nat.le_trans h (by decide)
end Fv
namespace Fv
open PySem L2
def Tk.ok (t : Tk) : Prop := 1 ≤ t.c ∧ t.c ≤ 20 ∧ 1 ≤ t.d ∧ t.d ≤ 60 ∧ 1 ≤ t.g ∧ t.g ≤ 60
@[simp] theorem itT {ts : List Tk} : itemsD (.tup (ts.map Tk.D)) = some (ts.map Tk.D) := rfl
@[simp] theorem enumD_nil {n : Nat} : enumD n [] = [] := rfl
theorem map_at {ts : List Tk} {i : Nat} {d : D} (h : (ts.map Tk.D)[i]? = some d) : ∃ t, ts[i]? = some t ∧ d = t.D := by
  rw [List.getElem?_map] at h
  cases e : ts[i]? with
  | none => rw [e] at h; cases h
  | some t => rw [e] at h; exact ⟨t, rfl, (Option.some.inj h).symm⟩
theorem d_rng1 {x : Int} (h : -(2 ^ 62) ≤ x ∧ x < 2 ^ 62) : dRng1 (.int x) = some (rangeD 0 x.toNat) := if_pos h
theorem d_rng2 {x y : Int} (h : -(2 ^ 62) ≤ x ∧ x < 2 ^ 62 ∧ -(2 ^ 62) ≤ y ∧ y < 2 ^ 62) : dRng2 (.int x) (.int y) = some (rangeD x (y - x).toNat) := if_pos h
theorem intL_map {l : List Int} : intL (l.map D.int) = some l := by
  induction l with
  | nil => rfl
  | cons i l ih => simp [intL, ih]
theorem d_sumI {l : List Int} : dSum [.lst (l.map D.int)] = some (.int l.sum) := by
  unfold dSum
  simp [intL_map]
theorem lcL_of {α : Type} {k : Kt} {γ : Gm} {gt : Gm → Rs Bool} {ge : Gm → Rs D} {vs : List Nat} {xs : List α} {D0 f : α → D} (hs : ∀ x, x ∈ xs → ∃ γ1, k (D0 x) γ = some γ1 ∧ gt γ1 = .ok true γ1 ∧ ge γ1 = .ok (f x) γ1 ∧ wipeG γ1 vs = γ) : lcL k gt ge vs (xs.map D0) γ = .ok (xs.map f) γ := by
  induction xs with
  | nil => rfl
  | cons d l ih =>
    obtain ⟨γ1, e1, e2, e3, e4⟩ := hs d (List.mem_cons_self)
    have := ih fun d hd => hs d (List.mem_cons_of_mem _ hd)
    simp [lcL, e1, e2, e3, e4, this]
theorem d_sumF {α : Type} {xs : List α} {f : α → Int} : dSum [.lst (xs.map fun x => .int (f x))] = some (.int (xs.map f).sum) := by
  have : (xs.map fun x => D.int (f x)) = (xs.map f).map D.int := by simp
  rw [this, d_sumI]
@[simp] theorem e_gYes {γ : Gm} : gYes γ = .ok true γ := rfl
@[simp] theorem e_gSeeO {γ : Gm} {j : Nat} {g : Gm → Rs D} : gSeeO j g γ = (match γ[j]? with
  | some (.ow l) => (match g (γ.set j (.pu (.lst l))) with
    | .ok d γ2 => if noLst d = true ∧ γ2.length = γ.length ∧ flatOwn j γ2 = true then .ok d (γ2.set j (.ow l)) else .no
    | _ => .no)
  | _ => .no) := rfl
@[simp] theorem noLst_int {x : Int} : noLst (.int x) = true := rfl
@[simp] theorem noLst_bl {x : Bool} : noLst (.bl x) = true := rfl
@[simp] theorem noLst_non : noLst .non = true := rfl
@[simp] theorem noLst_tup {l : List D} : noLst (.tup l) = noLsts l := by simp [noLst]
@[simp] theorem noLsts_nil : noLsts [] = true := by simp [noLsts]
@[simp] theorem noLsts_cons {d : D} {l : List D} : noLsts (d :: l) = (noLst d && noLsts l) := by simp [noLsts]
theorem noLsts_of {l : List D} (h : ∀ d, d ∈ l → noLst d = true) : noLsts l = true := by
  induction l with
  | nil => simp
  | cons d l ih => simp [h d List.mem_cons_self, ih fun d hd => h d (List.mem_cons_of_mem _ hd)]
/-- the work of all jobs that arrive in a length -/
def up (n g : Int) : Int := -((-n).fdiv g)
def wk (ts : List Tk) (n : Int) : Int := (ts.map fun t => t.c * up n t.g).sum
@[simp] theorem tk_0 {t : Tk} : dIx t.D (.int 0) = some (.int t.c) := at_0
@[simp] theorem tk_1 {t : Tk} : dIx t.D (.int 1) = some (.int t.d) := at_1
@[simp] theorem tk_2 {t : Tk} : dIx t.D (.int 2) = some (.int t.g) := at_2
@[simp] theorem tk_noLst {t : Tk} : noLst t.D = true := by simp [Tk.D]
@[simp] theorem e_xNil {γ : Gm} : xNil γ = .ok [] γ := rfl
@[simp] theorem e_xP {γ : Gm} {ga : Gm → Rs D} {gs : Gm → Rs (List RV)} : xP ga gs γ = (ga γ).bind fun d γ1 => (gs γ1).bind fun l γ2 => .ok (.p d :: l) γ2 := rfl
@[simp] theorem e_xF {γ : Gm} {ga : Gm → Rs (List D)} {gs : Gm → Rs (List RV)} : xF ga gs γ = (ga γ).bind fun d γ1 => (gs γ1).bind fun l γ2 => .ok (.f d :: l) γ2 := rfl
@[simp] theorem e_hMulti {γ : Gm} {is : List Nat} {gs : Gm → Rs (List RV)} : hMulti is gs γ = (gs γ).out fun l γ1 => (match setsG is l γ1 with | some γ2 => .nx γ2 | none => .no) := rfl
@[simp] theorem setsG_nil {γ : Gm} : setsG [] [] γ = some γ := rfl
@[simp] theorem setsG_p {γ : Gm} {i : Nat} {is : List Nat} {d : D} {r : List RV} : setsG (i :: is) (.p d :: r) γ = setsG is r (γ.set i (.pu d)) := rfl
@[simp] theorem setsG_f {γ : Gm} {i : Nat} {is : List Nat} {l : List D} {r : List RV} : setsG (i :: is) (.f l :: r) γ = setsG is r (γ.set i (.ow l)) := rfl
@[simp] theorem e_part0 {γ : Gm} : gPart none γ = .ok none γ := rfl
@[simp] theorem e_part1 {γ : Gm} {g : Gm → Rs D} : gPart (some g) γ = (g γ).bind fun d γ1 => (match d with | .int i => .ok (some i) γ1 | _ => .no) := rfl
@[simp] theorem e_gCut {γ : Gm} {ga : Gm → Rs D} {gl gh : Option (Gm → Rs D)} : gCut ga gl gh γ = (ga γ).bind fun d γ1 => (gPart gl γ1).bind fun lo γ2 => (gPart gh γ2).bind fun hi γ3 => ofO (dCut d lo hi) γ3 := rfl
@[simp] theorem d_cutL {l : List D} {a b : Option Int} : dCut (.lst l) a b = some (.lst (cutD l a b)) := rfl
@[simp] theorem d_cutT {l : List D} {a b : Option Int} : dCut (.tup l) a b = some (.tup (cutD l a b)) := rfl
theorem cut_init {ys : List D} {z : D} : cutD (ys ++ [z]) none (some (-1)) = ys := by
  unfold cutD HT.sIx
  simp
  rw [show (-1 + ((ys.length : Int) + 1)).toNat = ys.length by omega]
  simp
theorem cut_to {l : List D} {k : Nat} (h : k ≤ l.length) : cutD l none (some (k : Int)) = l.take k := by
  unfold cutD HT.sIx
  have z : ¬ ((k : Int) < 0) := by omega
  simp [z, Nat.min_eq_left h]
theorem cut_from {l : List D} {k : Nat} (h : k ≤ l.length) : cutD l (some (k : Int)) none = l.drop k := by
  unfold cutD HT.sIx
  have z : ¬ ((k : Int) < 0) := by omega
  simp [z, Nat.min_eq_left h]
  exact List.take_of_length_le (by rw [List.length_drop]; exact Nat.le_refl _)
theorem at_last {ys : List D} {z : D} : atI (ys ++ [z]) (-1) = some z := by
  unfold atI ixN
  simp
  rw [if_pos (by omega), show (-1 + ((ys.length : Int) + 1)).toNat = ys.length by omega]
  simp
theorem eqD_int {x y : Int} : eqD (.int x) (.int y) = decide (x = y) := by
  by_cases h : x = y <;> simp [eqD, h]
@[simp] theorem d_eqI {x y : Int} : dEq (.int x) (.int y) = some (.bl (decide (x = y))) := by
  have : dEq (.int x) (.int y) = some (.bl (eqD (.int x) (.int y))) := rfl
  rw [this, eqD_int]
@[simp] theorem d_neI {x y : Int} : dNe (.int x) (.int y) = some (.bl (!decide (x = y))) := by
  have : dNe (.int x) (.int y) = some (.bl (!eqD (.int x) (.int y))) := rfl
  rw [this, eqD_int]
end Fv

set_option maxRecDepth 100000
namespace Tx
open Fv
open L2 (atI ixN)
def RowOk (r : List D) : Prop := ∃ (ns : List Int) (p s q : Int), r = [.lst (ns.map .int), .int p, .int s, .int q] ∧ 0 ≤ p ∧ 0 ≤ s ∧ s < 2147483647
theorem taken_ok {r : List D} {m : Int} (hr : RowOk r) (h1 : 0 < m) (h2 : m < 1073741824) : ∃ (v : Int) (r' : List D), F__law_taken [.bo r, .pu (.int m)] = .ok (.int v) [.bo r', .pu (.int m)] ∧ 0 ≤ v ∧ v < m ∧ RowOk r' := by
  obtain ⟨ns, p, s, q, rfl, hp, hs, hs2⟩ := hr
  have hm0 : m ≠ 0 := by omega
  have hm1 : m.natAbs < 1073741824 := by omega
  have ms : dMul (.int s) (.int 48271) = some (.int (s * 48271)) := d_mul (by omega) (by decide)
  by_cases hq : 0 < q
  · refine ⟨q.fmod m, [.lst (ns.map .int), .int p, .int s, .int (q.fdiv m)], runN_rt (g := [.bo [.lst (ns.map .int), .int p, .int s, .int (q.fdiv m)], .pu (.int m), .pu (.int (q.fmod m)), .un]) ?_ rfl, ?_, ?_, ⟨ns, p, s, _, rfl, hp, hs, hs2⟩⟩
    · unfold h__law_taken
      simp [hq, d_mod hm0, d_fdiv ⟨hm0, hm1⟩]
    · exact Int.fmod_nonneg_of_pos q h1
    · exact Int.fmod_lt_of_pos q h1
  · by_cases hlen : (ns.length : Int) < p + 1
    · have m2 : dFdiv (.int ((s * 48271 + 11).fmod 2147483647)) (.int 7) = some (.int (((s * 48271 + 11).fmod 2147483647).fdiv 7)) := d_fdiv (by decide)
      have m3 : dMod (.int (s * 48271 + 11)) (.int 2147483647) = some (.int ((s * 48271 + 11).fmod 2147483647)) := d_mod (by decide)
      refine ⟨(((s * 48271 + 11).fmod 2147483647).fdiv 7).fmod m, [.lst (ns.map .int), .int (p + 1), .int ((s * 48271 + 11).fmod 2147483647), .int q], runN_rt (g := [.bo [.lst (ns.map .int), .int (p + 1), .int ((s * 48271 + 11).fmod 2147483647), .int q], .pu (.int m), .un, .un]) ?_ rfl, ?_, ?_, ⟨ns, _, _, q, rfl, by omega, Int.fmod_nonneg_of_pos _ (by decide), Int.fmod_lt_of_pos _ (by decide)⟩⟩
      · unfold h__law_taken
        simp [hq, hlen, ms, m2, m3, d_mod hm0]
      · exact Int.fmod_nonneg_of_pos _ h1
      · exact Int.fmod_lt_of_pos _ h1
    · obtain ⟨n, rfl⟩ := Int.eq_ofNat_of_zero_le hp
      have hn : n < ns.length := by omega
      have hat : atI (ns.map D.int) (n : Int) = some (.int ns[n]) := by
        rw [at_ofNat (by simpa using hn)]
        simp [hn]
      have m3 : dMod (.int (s * 48271 + ns[n] + 11)) (.int 2147483647) = some (.int ((s * 48271 + ns[n] + 11).fmod 2147483647)) := d_mod (by decide)
      have m4 : dPow (.int 10) (.int 18) = some (.int (10 ^ 18)) := d_pow (by decide)
      have hlen' : ¬ (ns.length : Int) < (n : Int) + 1 := hlen
      by_cases hc : (10 : Int) ^ 18 ≤ ns[n]
      · refine ⟨ns[n].fmod m, [.lst (ns.map .int), .int (n + 1), .int ((s * 48271 + ns[n] + 11).fmod 2147483647), .int (ns[n].fdiv m)], runN_rt (g := [.bo [.lst (ns.map .int), .int (n + 1), .int ((s * 48271 + ns[n] + 11).fmod 2147483647), .int (ns[n].fdiv m)], .pu (.int m), .un, .pu (.int ns[n])]) ?_ rfl, ?_, ?_, ⟨ns, _, _, _, rfl, by omega, Int.fmod_nonneg_of_pos _ (by decide), Int.fmod_lt_of_pos _ (by decide)⟩⟩
        · unfold h__law_taken
          simp [hq, hlen', ms, m3, m4, hat, d_mod hm0, d_fdiv ⟨hm0, hm1⟩]
          simp [show (1000000000000000000 : Int) ≤ ns[n] from hc, d_fdiv ⟨hm0, hm1⟩, d_mod hm0]
        · exact Int.fmod_nonneg_of_pos _ h1
        · exact Int.fmod_lt_of_pos _ h1
      · refine ⟨ns[n].fmod m, [.lst (ns.map .int), .int (n + 1), .int ((s * 48271 + ns[n] + 11).fmod 2147483647), .int q], runN_rt (g := [.bo [.lst (ns.map .int), .int (n + 1), .int ((s * 48271 + ns[n] + 11).fmod 2147483647), .int q], .pu (.int m), .un, .pu (.int ns[n])]) ?_ rfl, ?_, ?_, ⟨ns, _, _, _, rfl, by omega, Int.fmod_nonneg_of_pos _ (by decide), Int.fmod_lt_of_pos _ (by decide)⟩⟩
        · unfold h__law_taken
          simp [hq, hlen', ms, m3, m4, hat, d_mod hm0, d_fdiv ⟨hm0, hm1⟩]
          simp [show ¬ (1000000000000000000 : Int) ≤ ns[n] from hc, d_fdiv ⟨hm0, hm1⟩, d_mod hm0]
        · exact Int.fmod_nonneg_of_pos _ h1
        · exact Int.fmod_lt_of_pos _ h1
theorem eF_is_number {v : Int} : F_is_number [.pu (.int v)] = .ok (.bl true) [.pu (.int v)] := by
  simp [F_is_number, runN, h_is_number, gNot]
theorem eF_is_integer {v lo hi : Int} : F_is_integer [.pu (.int v), .pu (.int lo), .pu (.int hi)] = .ok (.bl (decide (lo ≤ v) && decide (v ≤ hi))) [.pu (.int v), .pu (.int lo), .pu (.int hi)] := by
  by_cases h : lo ≤ v <;> simp [F_is_integer, runN, h_is_integer, gChain, eF_is_number, h]
theorem eF_is_tuple {l : List D} {a b : Int} : F_is_tuple [.pu (.tup l), .pu (.int a), .pu (.int b)] = .ok (.bl (decide (a ≤ l.length) && decide ((l.length : Int) ≤ b))) [.pu (.tup l), .pu (.int a), .pu (.int b)] := by
  by_cases h : a ≤ l.length <;> simp [F_is_tuple, runN, h_is_tuple, gChain, h]
theorem eF_is_task {t : Tk} (h : t.ok) : F_is_task [.pu t.D] = .ok (.bl true) [.pu t.D] := by
  obtain ⟨h1, h2, h3, h4, h5, h6⟩ := h
  simp [F_is_task, runN, h_is_task, Tk.D, eF_is_tuple, eF_is_integer, h1, h2, h3, h4, h5, h6]
theorem eF_check_tasks {ts : List Tk} (h0 : 1 ≤ ts.length) (h6 : ts.length ≤ 6) (h : ∀ t, t ∈ ts → t.ok) : F_check_tasks [.pu (.tup (ts.map Tk.D))] = .ok .non [.pu (.tup (ts.map Tk.D))] := by
  obtain ⟨γ2, e, a, b, hI⟩ := forL_nx (l := enumD 0 (ts.map Tk.D)) (k := kTup 2 (kCons (kSet 1) (kCons (kSet 2) kNil))) (h := hIf (tgNot (gTst (gCall F_is_task (aCons (gVar 2) aNil)))) hNever hNx)
    (γ := [.pu (.tup (ts.map Tk.D)), .un, .un]) (fun _ γ => ∃ a b, γ = [.pu (.tup (ts.map Tk.D)), a, b]) (fun i d γ hd hI => by
      obtain ⟨a, b, rfl⟩ := hI
      obtain ⟨u, e, rfl⟩ := enumD_get hd
      obtain ⟨t, e1, rfl⟩ := map_at e
      have ht := h t (List.mem_of_getElem? e1)
      exact ⟨[.pu (.tup (ts.map Tk.D)), .pu (.int (0 + i : Nat)), .pu t.D], rfl, [.pu (.tup (ts.map Tk.D)), .pu (.int (0 + i : Nat)), .pu t.D], by simp [eF_is_task ht], _, _, rfl⟩) ⟨_, _, rfl⟩
  subst hI
  simp [F_check_tasks, runN, h_check_tasks, eF_is_tuple, h0, h6, e, show (1 : Int) ≤ ts.length by omega, show (ts.length : Int) ≤ 6 by omega]
theorem eF_short {ts : List Tk} (h : ∀ t, t ∈ ts → t.d ≤ t.g) : F_check_short_deadlines [.pu (.tup (ts.map Tk.D))] = .ok .non [.pu (.tup (ts.map Tk.D))] := by
  obtain ⟨γ2, e, a, b, c, c2, hI⟩ := forL_nx (l := enumD 0 (ts.map Tk.D)) (k := (kTup 2 (kCons (kSet 1) (kCons (kTup 3 (kCons (kSet 2) (kCons (kSet 3) (kCons (kSet 4) kNil)))) kNil)))) (h := (hIf (gTst (g2 dGt (gVar 3) (gVar 4))) hNever hNx))
    (γ := [.pu (.tup (ts.map Tk.D)), .un, .un, .un, .un]) (fun _ γ => ∃ a b c d, γ = [.pu (.tup (ts.map Tk.D)), a, b, c, d]) (fun i d γ hd hI => by
      obtain ⟨a, b, c, c2, rfl⟩ := hI
      obtain ⟨u, e, rfl⟩ := enumD_get hd
      obtain ⟨t, e1, rfl⟩ := map_at e
      have ht := h t (List.mem_of_getElem? e1)
      exact ⟨[.pu (.tup (ts.map Tk.D)), .pu (.int (0 + i : Nat)), .pu (.int t.c), .pu (.int t.d), .pu (.int t.g)], rfl, [.pu (.tup (ts.map Tk.D)), .pu (.int (0 + i : Nat)), .pu (.int t.c), .pu (.int t.d), .pu (.int t.g)], by simp [show ¬ t.g < t.d by omega], _, _, _, _, rfl⟩) ⟨_, _, _, _, rfl⟩
  subst hI
  simp [F_check_short_deadlines, runN, h_check_short_deadlines, e]
theorem eF_up {n g : Int} (hg : 0 < g) (h2 : g < 1073741824) : F_rounded_up [.pu (.int n), .pu (.int g)] = .ok (.int (up n g)) [.pu (.int n), .pu (.int g)] := by
  have := d_fdiv (x := -n) (y := g) ⟨by omega, by omega⟩
  simp [F_rounded_up, runN, h_rounded_up, up, this]
theorem up_bd {n g : Int} (hn : 0 ≤ n) (hg : 0 < g) : 0 ≤ up n g ∧ up n g ≤ n := by
  unfold up
  rw [Int.fdiv_eq_ediv_of_nonneg _ (by omega)]
  constructor
  · have : (-n) / g ≤ 0 := Int.ediv_nonpos_of_nonpos_of_neg (by omega) (by omega) 
    omega
  · have : -n ≤ (-n) / g := by
      rw [Int.le_ediv_iff_mul_le hg]
      have : n * 1 ≤ n * g := Int.mul_le_mul_of_nonneg_left (by omega) hn
      rw [Int.neg_mul]
      omega
    omega
theorem eF_wk {ts : List Tk} {n : Int} (h : ∀ t, t ∈ ts → t.ok) (hs : ts.length ≤ 6) (hn : 0 ≤ n) (hn2 : n ≤ 1000000) : F_arrived_work [.pu (.lst (ts.map Tk.D)), .pu (.int n)] = .ok (.int (wk ts n)) [.pu (.lst (ts.map Tk.D)), .pu (.int n)] := by
  have e := e_gLc (k := kTup 3 (kCons (kSet 2) (kCons (kSet 3) (kCons (kSet 4) kNil)))) (gs := gItems (gVar 0)) (gt := gYes) (ge := g2 dMul (gVar 2) (gCall F_rounded_up (aCons (gVar 1) (aCons (gVar 4) aNil)))) (vs := [2, 3, 4])
    (γ := [.pu (.lst (ts.map Tk.D)), .pu (.int n), .un, .un, .un]) (γ1 := [.pu (.lst (ts.map Tk.D)), .pu (.int n), .un, .un, .un]) (γ2 := [.pu (.lst (ts.map Tk.D)), .pu (.int n), .un, .un, .un]) (l := ts.map Tk.D) (ys := ts.map fun t => .int (t.c * up n t.g)) rfl
    (by rw [List.length_map]; exact size_ok (by omega)) rfl (lcL_of fun t ht => by
      obtain ⟨h1, h2, h3, h4, h5, h6⟩ := h t ht
      obtain ⟨h7, h8⟩ := up_bd hn (show 0 < t.g by omega)
      exact ⟨[.pu (.lst (ts.map Tk.D)), .pu (.int n), .pu (.int t.c), .pu (.int t.d), .pu (.int t.g)], rfl, rfl, by simp [eF_up (n := n) (show 0 < t.g by omega) (by omega), d_mul (x := t.c) (y := up n t.g) (by omega) (by omega)], rfl⟩)
  have e2 : (Rs.ok (ts.map fun t => D.int (t.c * up n t.g)) (restG [.pu (.lst (ts.map Tk.D)), .pu (.int n), .un, .un, .un] [.pu (.lst (ts.map Tk.D)), .pu (.int n), .un, .un, .un] [2, 3, 4])) = Rs.ok (ts.map fun t => D.int (t.c * up n t.g)) [.pu (.lst (ts.map Tk.D)), .pu (.int n), .un, .un, .un] := rfl
  simp only [e2] at e
  simp [F_arrived_work, runN, h_arrived_work, List.replicate, e, d_sumF, wk]
theorem eF_less {a b c d : Int} (ha : a.natAbs < 2 ^ 64) (hb : b.natAbs < 2 ^ 64) (hc : c.natAbs < 2 ^ 64) (hd : d.natAbs < 2 ^ 64) : F_is_less [.pu (.tup [.int a, .int b]), .pu (.tup [.int c, .int d])] = .ok (.bl (decide (a * d < c * b))) [.pu (.tup [.int a, .int b]), .pu (.tup [.int c, .int d])] := by
  simp [F_is_less, runN, h_is_less, d_mul ha hd, d_mul hc hb]
end Tx

set_option maxRecDepth 100000
namespace Tx
open Fv
open L2 (atI ixN)
theorem up_pos {n g : Int} (hn : 1 ≤ n) (hg : 0 < g) : 1 ≤ up n g := by
  unfold up
  rw [Int.fdiv_eq_ediv_of_nonneg _ (by omega)]
  have : (-n) / g < 0 := Int.ediv_neg_of_neg_of_pos (by omega) hg
  omega
theorem wk_bd {ts : List Tk} {n : Int} (hn : 0 ≤ n) (h : ∀ t, t ∈ ts → t.ok) : 0 ≤ wk ts n ∧ wk ts n ≤ 20 * n * ts.length := by
  induction ts with
  | nil => simp [wk]
  | cons t ts ih =>
    obtain ⟨i1, i2⟩ := ih fun t ht => h t (List.mem_cons_of_mem _ ht)
    obtain ⟨h1, h2, h3, h4, h5, h6⟩ := h t List.mem_cons_self
    obtain ⟨h7, h8⟩ := up_bd hn (show 0 < t.g by omega)
    have e : wk (t :: ts) n = t.c * up n t.g + wk ts n := by simp [wk]
    have a1 : 0 ≤ t.c * up n t.g := Int.mul_nonneg (by omega) h7
    have a2 : t.c * up n t.g ≤ 20 * n := Int.mul_le_mul h2 h8 h7 (by decide)
    have a3 : 20 * n * ((t :: ts).length : Int) = 20 * n * (ts.length : Int) + 20 * n := by
      rw [List.length_cons, Int.natCast_add, Int.mul_add]; simp
    rw [e, a3]
    omega
theorem wk_pos {ts : List Tk} {n : Int} (hn : 1 ≤ n) (h : ∀ t, t ∈ ts → t.ok) (h0 : ts ≠ []) : 1 ≤ wk ts n := by
  cases ts with
  | nil => exact absurd rfl h0
  | cons t ts =>
    obtain ⟨i1, i2⟩ := wk_bd (n := n) (by omega) fun t ht => h t (List.mem_cons_of_mem _ ht)
    obtain ⟨h1, h2, h3, h4, h5, h6⟩ := h t List.mem_cons_self
    have h7 := up_pos hn (show 0 < t.g by omega)
    have e : wk (t :: ts) n = t.c * up n t.g + wk ts n := by simp [wk]
    have a1 : 1 * 1 ≤ t.c * up n t.g := Int.mul_le_mul h1 h7 (by decide) (by omega)
    rw [e]
    omega
/-- comparing ratios -/
theorem tr {a b c d e f : Int} (hd : 0 < d) (hb : 0 ≤ b) (hf : 0 ≤ f) (h1 : a * d ≤ c * b) (h2 : c * f ≤ e * d) : a * f ≤ e * b := by
  have x1 : a * d * f ≤ c * b * f := Int.mul_le_mul_of_nonneg_right h1 hf
  have x2 : c * f * b ≤ e * d * b := Int.mul_le_mul_of_nonneg_right h2 hb
  have e1 : a * d * f = a * f * d := Int.mul_right_comm a d f
  have e2 : c * b * f = c * f * b := Int.mul_right_comm c b f
  have e3 : e * d * b = e * b * d := Int.mul_right_comm e d b
  exact Int.le_of_mul_le_mul_right (by omega) hd
/-- the greatest ratio of a length to its work -/
def Best (ts : List Tk) (D p q : Int) : Prop := 1 ≤ p ∧ p ≤ D ∧ q = wk ts p ∧ ∀ t, 1 ≤ t → t ≤ D → t * q ≤ p * wk ts t
theorem eF_scale {ts : List Tk} {Dl : Int} (h : ∀ t, t ∈ ts → t.ok) (hs : ts.length ≤ 6) (h0 : ts ≠ []) (hD : 1 ≤ Dl) (hD2 : Dl ≤ 60) : ∃ p q, F_task_scale [.pu (.lst (ts.map Tk.D)), .pu (.int Dl)] = .ok (.tup [.int p, .int q]) [.pu (.lst (ts.map Tk.D)), .pu (.int Dl)] ∧ Best ts Dl p q := by
  have hsz : ∀ n : Int, 0 ≤ n → n ≤ 60 → (wk ts n).natAbs < 2 ^ 60 ∧ 0 ≤ wk ts n := by
    intro n a b
    obtain ⟨i1, i2⟩ := wk_bd (n := n) a h
    have : 20 * n * (ts.length : Int) ≤ 20 * 60 * 6 := Int.mul_le_mul (by omega) (by omega) (by omega) (by omega)
    omega
  obtain ⟨γ2, e, p, q, x, y, rfl, h1, h2, h3, h4, h5⟩ := forL_nx (l := rangeD 1 Dl.toNat) (k := kSet 3) (h := hSeq (hSet 4 (gTup (gCons (gVar 3) (gCons (gCall F_arrived_work (aCons (gVar 0) (aCons (gVar 3) aNil))) gNil)))) (hIf (gTst (gCall F_is_less (aCons (gVar 2) (aCons (gVar 4) aNil)))) (hSet 2 (gVar 4)) hNx))
    (γ := [.pu (.lst (ts.map Tk.D)), .pu (.int Dl), .pu (.tup [.int 0, .int 1]), .un, .un])
    (fun i γ => ∃ p q x y, γ = [.pu (.lst (ts.map Tk.D)), .pu (.int Dl), .pu (.tup [.int p, .int q]), x, y] ∧ 0 ≤ p ∧ p ≤ i ∧ (0 < q ∧ q < 2 ^ 60) ∧ (1 ≤ i → 1 ≤ p ∧ q = wk ts p) ∧ ∀ t : Int, 1 ≤ t → t ≤ i → t * q ≤ p * wk ts t)
    (fun i d γ hd hI => by
      obtain ⟨hi, rfl⟩ := rangeD_get hd
      obtain ⟨p, q, x, y, rfl, h1, h2, h3, h4, h5⟩ := hI
      have hi2 : (i : Int) + 1 ≤ 60 := by omega
      have w1 := hsz (1 + i) (by omega) (by omega)
      have w2 := wk_pos (n := 1 + i) (by omega) h h0
      have e1 := eF_wk (n := 1 + i) h hs (by omega) (by omega)
      have e2 := eF_less (a := p) (b := q) (c := 1 + i) (d := wk ts (1 + i)) (by omega) (by omega) (by omega) (by omega)
      refine ⟨[.pu (.lst (ts.map Tk.D)), .pu (.int Dl), .pu (.tup [.int p, .int q]), .pu (.int (1 + i)), y], rfl, ?_⟩
      by_cases hc : p * wk ts (1 + i) < (1 + i) * q
      · refine ⟨[.pu (.lst (ts.map Tk.D)), .pu (.int Dl), .pu (.tup [.int (1 + i), .int (wk ts (1 + i))]), .pu (.int (1 + i)), .pu (.tup [.int (1 + i), .int (wk ts (1 + i))])], by simp [e1, e2, hc], _, _, _, _, rfl, by omega, by omega, by omega, fun _ => ⟨by omega, rfl⟩, fun t t1 t2 => ?_⟩
        by_cases ht : t ≤ i
        · exact tr h3.1 (hsz t (by omega) (by omega)).2 w1.2 (h5 t t1 ht) (by omega)
        · have : t = 1 + i := by omega
          subst this
          exact Int.le_refl _
      · refine ⟨[.pu (.lst (ts.map Tk.D)), .pu (.int Dl), .pu (.tup [.int p, .int q]), .pu (.int (1 + i)), .pu (.tup [.int (1 + i), .int (wk ts (1 + i))])], by simp [e1, e2, hc], _, _, _, _, rfl, by omega, by omega, h3, fun _ => ?_, fun t t1 t2 => ?_⟩
        · rcases Nat.eq_zero_or_pos i with hz | hz
          · exfalso
            subst hz
            have : p = 0 := by omega
            subst this
            apply hc
            rw [Int.zero_mul]
            exact Int.mul_pos (by omega) h3.1
          · exact h4 hz
        · by_cases ht : t ≤ i
          · exact h5 t t1 ht
          · have : t = 1 + i := by omega
            subst this
            omega)
    ⟨0, 1, _, _, rfl, by decide, by decide, by decide, fun z => absurd z (by decide), fun t t1 t2 => by omega⟩
  rw [rangeD_len] at h2 h4 h5
  refine ⟨p, q, ?_, ?_⟩
  · have r : dRng2 (.int 1) (.int (Dl + 1)) = some (rangeD 1 Dl.toNat) := by rw [d_rng2 (by omega), show Dl + 1 - 1 = Dl by omega]
    simp [F_task_scale, runN, h_task_scale, List.replicate, r, e]
  · obtain ⟨h6, h7⟩ := h4 (by omega)
    exact ⟨h6, by omega, h7, fun t t1 t2 => h5 t t1 (by omega)⟩
end Tx

set_option maxRecDepth 100000
namespace Tx
open Fv
open L2 (atI ixN)
open PySem (sizeLine)
def Tk0 : Tk := ⟨1, 1, 1⟩
def pk (ts : List Tk) (os : List Nat) : List Tk := os.map fun j => ts.getD j Tk0
def oD (os : List Nat) : List D := os.map fun (j : Nat) => D.int (j : Int)
def prD (p : Int × Int) : D := .tup [.int p.1, .int p.2]
theorem pk_ok {ts : List Tk} (h : ∀ t, t ∈ ts → t.ok) {os : List Nat} (ho : ∀ j, j ∈ os → j < ts.length) : ∀ t, t ∈ pk ts os → t.ok := by
  intro t ht
  obtain ⟨j, hj, rfl⟩ := List.mem_map.mp ht
  have := ho j hj
  rw [List.getD_eq_getElem?_getD, List.getElem?_eq_getElem this]
  exact h _ (List.getElem_mem this)
theorem at_task {ts : List Tk} {j : Nat} (h : j < ts.length) : atI (ts.map Tk.D) (j : Int) = some (ts.getD j Tk0).D := by
  rw [at_ofNat (by simpa using h), List.getElem?_map, List.getD_eq_getElem?_getD, List.getElem?_eq_getElem h]
  rfl
theorem take_pk {ts : List Tk} {os : List Nat} {i j : Nat} (h : os[i]? = some j) : pk ts (os.take (i + 1)) = pk ts (os.take i) ++ [ts.getD j Tk0] := by
  unfold pk
  obtain ⟨hi, rfl⟩ := List.getElem?_eq_some_iff.mp h
  rw [← List.map_singleton (f := fun j => ts.getD j Tk0), ← List.map_append, List.take_append_getElem]
/-- what stands at place k of the order, and its ratio -/
def At (ts : List Tk) (os : List Nat) (k : Nat) (p : Int × Int) : Prop := ∃ j, os[k]? = some j ∧ Best (pk ts (os.take (k + 1))) (ts.getD j Tk0).d p.1 p.2
theorem sizeBig : 1000 < sizeLine := by decide
theorem eF_scales {ts : List Tk} {os : List Nat} (h : ∀ t, t ∈ ts → t.ok) (ho : ∀ j, j ∈ os → j < ts.length) (hs : os.length ≤ 6) :
    ∃ (x : SV) (ps : List (Int × Int)), forL (kSet 4) (hSeq (hDrop (gApp 2 (g2 dIx (gVar 0) (gVar 4)))) (hDrop (gApp 3 (gSeeO 2 (gCall F_task_scale (aCons (gVar 2) (aCons (g2 dIx (g2 dIx (gVar 0) (gVar 4)) (gC (.int 1))) aNil))))))) (oD os) [.pu (.tup (ts.map Tk.D)), .pu (.tup (oD os)), .ow [], .ow [], .un, .un, .un, .un]
      = .nx [.pu (.tup (ts.map Tk.D)), .pu (.tup (oD os)), .ow ((pk ts os).map Tk.D), .ow (ps.map prD), x, .un, .un, .un] ∧ ps.length = os.length ∧ ∀ k p, ps[k]? = some p → At ts os k p := by
  obtain ⟨γ2, e, x, ps, rfl, h1, h2⟩ := forL_nx (l := oD os) (k := kSet 4) (h := hSeq (hDrop (gApp 2 (g2 dIx (gVar 0) (gVar 4)))) (hDrop (gApp 3 (gSeeO 2 (gCall F_task_scale (aCons (gVar 2) (aCons (g2 dIx (g2 dIx (gVar 0) (gVar 4)) (gC (.int 1))) aNil)))))))
    (γ := [.pu (.tup (ts.map Tk.D)), .pu (.tup (oD os)), .ow [], .ow [], .un, .un, .un, .un])
    (fun i γ => ∃ (x : SV) (ps : List (Int × Int)), γ = [.pu (.tup (ts.map Tk.D)), .pu (.tup (oD os)), .ow ((pk ts (os.take i)).map Tk.D), .ow (ps.map prD), x, .un, .un, .un] ∧ ps.length = i ∧ ∀ k p, ps[k]? = some p → At ts os k p)
    (fun i d γ hd hI => by
      obtain ⟨x, ps, rfl, h1, h2⟩ := hI
      unfold oD at hd
      rw [List.getElem?_map] at hd
      obtain ⟨j, e1, rfl⟩ := map_some hd
      have hi : i < os.length := (List.getElem?_eq_some_iff.mp e1).1
      have hj := ho j (List.mem_of_getElem? e1)
      have e2 := at_task hj
      have hmem : ∀ t, t ∈ pk ts (os.take (i + 1)) → t.ok := pk_ok h fun j hj => ho j (List.mem_of_mem_take hj)
      have htk : (ts.getD j Tk0).ok := by
        rw [List.getD_eq_getElem?_getD, List.getElem?_eq_getElem hj]; exact h _ (List.getElem_mem hj)
      have hlen : (pk ts (os.take (i + 1))).length = i + 1 := by unfold pk; rw [List.length_map, List.length_take]; omega
      have hlen2 : (pk ts (os.take i)).length = i := by unfold pk; rw [List.length_map, List.length_take]; omega
      obtain ⟨p, q, e3, b⟩ := eF_scale (ts := pk ts (os.take (i + 1))) (Dl := (ts.getD j Tk0).d) hmem (by omega) (by intro z; rw [z] at hlen; simp at hlen) htk.2.2.1 htk.2.2.2.1
      have etk := take_pk (ts := ts) e1
      have e4 : (pk ts (os.take i)).map Tk.D ++ [(ts.getD j Tk0).D] = (pk ts (os.take (i + 1))).map Tk.D := by rw [etk, List.map_append]; rfl
      have n1 : noLsts (ps.map prD) = true := noLsts_of fun d hd => by
        obtain ⟨p, _, rfl⟩ := List.mem_map.mp hd
        simp [prD]
      have s1 : (pk ts (os.take i)).length < sizeLine := by have := sizeBig; omega
      have s2 : ps.length < sizeLine := by have := sizeBig; omega
      have f1 : flatOwn 2 [.pu (.tup (ts.map Tk.D)), .pu (.tup (oD os)), .pu (.lst ((pk ts (os.take (i + 1))).map Tk.D)), .ow (ps.map prD), .pu (.int (j : Int)), .un, .un, .un] = true := by
        simp [flatOwn, List.range_succ, n1]
      refine ⟨[.pu (.tup (ts.map Tk.D)), .pu (.tup (oD os)), .ow ((pk ts (os.take i)).map Tk.D), .ow (ps.map prD), .pu (.int (j : Int)), .un, .un, .un], rfl, [.pu (.tup (ts.map Tk.D)), .pu (.tup (oD os)), .ow ((pk ts (os.take (i + 1))).map Tk.D), .ow ((ps ++ [(p, q)]).map prD), .pu (.int (j : Int)), .un, .un, .un], ?_, _, _, rfl, by simp [h1], fun k p' hp => ?_⟩
      · generalize ts.getD j Tk0 = t at *
        simp [e2, s1, s2, e4, e3, f1, prD]
      · by_cases hk : k < ps.length
        · rw [List.getElem?_append_left hk] at hp
          exact h2 k p' hp
        · rw [List.getElem?_append_right (by omega)] at hp
          have : k = ps.length := by
            have := (List.getElem?_eq_some_iff.mp hp).1
            simp at this
            omega
          subst this
          simp at hp
          subst hp
          exact ⟨j, by rw [h1]; exact e1, by rw [h1]; exact b⟩)
    ⟨_, [], by simp [pk]; rfl, rfl, fun k p hp => by simp at hp⟩
  have : (oD os).length = os.length := by simp [oD]
  rw [this] at e h1
  rw [List.take_length] at e
  exact ⟨x, ps, e, h1, h2⟩
end Tx

set_option maxRecDepth 100000
namespace Tx
open Fv
open L2 (atI ixN)
open PySem (sizeLine)
theorem At_bd {ts : List Tk} {os : List Nat} (h : ∀ t, t ∈ ts → t.ok) (ho : ∀ j, j ∈ os → j < ts.length) (hs : os.length ≤ 6) {k : Nat} {p : Int × Int} (a : At ts os k p) : 1 ≤ p.1 ∧ p.1 ≤ 60 ∧ 1 ≤ p.2 ∧ p.2 ≤ 7200 := by
  obtain ⟨j, e1, b1, b2, b3, b4⟩ := a
  have hi : k < os.length := (List.getElem?_eq_some_iff.mp e1).1
  have hj := ho j (List.mem_of_getElem? e1)
  have htk : (ts.getD j Tk0).ok := by
    rw [List.getD_eq_getElem?_getD, List.getElem?_eq_getElem hj]; exact h _ (List.getElem_mem hj)
  have hmem : ∀ t, t ∈ pk ts (os.take (k + 1)) → t.ok := pk_ok h fun j hj => ho j (List.mem_of_mem_take hj)
  have hlen : (pk ts (os.take (k + 1))).length = k + 1 := by unfold pk; rw [List.length_map, List.length_take]; omega
  have hp60 : p.1 ≤ 60 := Int.le_trans b2 htk.2.2.2.1
  obtain ⟨i1, i2⟩ := wk_bd (n := p.1) (by omega) hmem
  have i3 := wk_pos (n := p.1) b1 hmem (by intro z; rw [z] at hlen; simp at hlen)
  have : 20 * p.1 * ((pk ts (os.take (k + 1))).length : Int) ≤ 20 * 60 * 6 := Int.mul_le_mul (by omega) (by omega) (by omega) (by omega)
  rw [← b3] at i2 i3
  exact ⟨b1, hp60, i3, by omega⟩
theorem eF_greatest {ts : List Tk} {os : List Nat} (h : ∀ t, t ∈ ts → t.ok) (hdg : ∀ t, t ∈ ts → t.d ≤ t.g) (h0 : 1 ≤ ts.length) (h6 : ts.length ≤ 6) (ho : ∀ j, j ∈ os → j < ts.length) (hs : os.length = ts.length)
    (hck : F_check_order [.pu (.tup (oD os)), .pu (.int ts.length)] = .ok .non [.pu (.tup (oD os)), .pu (.int ts.length)]) :
    ∃ (P Q : Int) (G : Nat) (k : Nat) (p : Int × Int), F_greatest_scale [.pu (.tup (ts.map Tk.D)), .pu (.tup (oD os))] = .ok (.tup [.int P, .int Q]) [.pu (.tup (ts.map Tk.D)), .pu (.tup (oD os))] ∧ 1 ≤ P ∧ P ≤ 60 ∧ 1 ≤ Q ∧ Q ≤ 7200 ∧ Nat.gcd P.natAbs Q.natAbs = 1 ∧ At ts os k p ∧ 0 < G ∧ p.1 = P * G ∧ p.2 = Q * G ∧ ∀ k, k < os.length → ∃ p', At ts os k p' ∧ P * p'.2 ≤ p'.1 * Q := by
  obtain ⟨x, ps, e, h1, h2⟩ := eF_scales h ho (by omega)
  have hb : ∀ (k : Nat) (p : Int × Int), ps[k]? = some p → 1 ≤ p.1 ∧ p.1 ≤ 60 ∧ 1 ≤ p.2 ∧ p.2 ≤ 7200 := fun k p hk => At_bd h ho (by omega) (h2 k p hk)
  have hne : 0 < ps.length := by omega
  obtain ⟨γ2, e2, y, p, m, rfl, hm, hmin⟩ := forL_nx (l := ps.map prD) (k := kSet 6) (h := hIf (gTst (gCall F_is_less (aCons (gVar 6) (aCons (gVar 5) aNil)))) (hSet 5 (gVar 6)) hNx)
    (γ := [.pu (.tup (ts.map Tk.D)), .pu (.tup (oD os)), .pu (.lst ((pk ts os).map Tk.D)), .pu (.lst (ps.map prD)), x, .pu (prD ps[0]), .un, .un])
    (fun i γ => ∃ (y : SV) (p : Int × Int) (m : Nat), γ = [.pu (.tup (ts.map Tk.D)), .pu (.tup (oD os)), .pu (.lst ((pk ts os).map Tk.D)), .pu (.lst (ps.map prD)), x, .pu (prD p), y, .un] ∧ ps[m]? = some p ∧ ∀ k, k < i → ∀ p', ps[k]? = some p' → p.1 * p'.2 ≤ p'.1 * p.2)
    (fun i d γ hd hI => by
      obtain ⟨y, p, m, rfl, hm, hmin⟩ := hI
      rw [List.getElem?_map] at hd
      obtain ⟨a, e1, rfl⟩ := map_some hd
      have ba := hb i a e1
      have bp := hb m p hm
      have e3 := eF_less (a := a.1) (b := a.2) (c := p.1) (d := p.2) (by omega) (by omega) (by omega) (by omega)
      have e4 : F_is_less [.pu (prD a), .pu (prD p)] = .ok (.bl (decide (a.1 * p.2 < p.1 * a.2))) [.pu (prD a), .pu (prD p)] := e3
      refine ⟨_, rfl, ?_⟩
      by_cases hc : a.1 * p.2 < p.1 * a.2
      · refine ⟨[.pu (.tup (ts.map Tk.D)), .pu (.tup (oD os)), .pu (.lst ((pk ts os).map Tk.D)), .pu (.lst (ps.map prD)), x, .pu (prD a), .pu (prD a), .un], by simp [e4, hc], _, a, i, rfl, e1, fun k hk p' hp' => ?_⟩
        have bp' := hb k p' hp'
        by_cases hki : k < i
        · exact tr (by omega) (by omega) (by omega) (by omega) (hmin k hki p' hp')
        · have : k = i := by omega
          subst this
          rw [e1] at hp'
          cases hp'
          exact Int.le_refl _
      · refine ⟨[.pu (.tup (ts.map Tk.D)), .pu (.tup (oD os)), .pu (.lst ((pk ts os).map Tk.D)), .pu (.lst (ps.map prD)), x, .pu (prD p), .pu (prD a), .un], by simp [e4, hc], _, p, m, rfl, hm, fun k hk p' hp' => ?_⟩
        by_cases hki : k < i
        · exact hmin k hki p' hp'
        · have : k = i := by omega
          subst this
          rw [e1] at hp'
          cases hp'
          omega)
    ⟨.un, ps[0], 0, rfl, List.getElem?_eq_getElem hne, fun k hk => absurd hk (Nat.not_lt_zero _)⟩
  rw [List.length_map] at hmin
  have bp := hb m p hm
  let G := Nat.gcd p.1.natAbs p.2.natAbs
  have hG : 0 < G := Nat.gcd_pos_of_pos_left _ (by omega)
  have hG60 : G ≤ 60 := Nat.le_trans (Nat.le_of_dvd (by omega) (Nat.gcd_dvd_left p.1.natAbs p.2.natAbs)) (by omega)
  obtain ⟨u, hu⟩ := Nat.gcd_dvd_left p.1.natAbs p.2.natAbs
  obtain ⟨v, hv⟩ := Nat.gcd_dvd_right p.1.natAbs p.2.natAbs
  have hu' : p.1.natAbs = G * u := hu
  have hv' : p.2.natAbs = G * v := hv
  have eu : p.1 = (u : Int) * (G : Int) := by
    have : p.1 = (p.1.natAbs : Int) := by omega
    rw [this, hu', Int.natCast_mul, Int.mul_comm]
  have ev : p.2 = (v : Int) * (G : Int) := by
    have : p.2 = (p.2.natAbs : Int) := by omega
    rw [this, hv', Int.natCast_mul, Int.mul_comm]
  have gZ : (G : Int) ≠ 0 := by omega
  have f1 : dFdiv (.int p.1) (.int G) = some (.int u) := by
    rw [d_fdiv ⟨gZ, by omega⟩, Int.fdiv_eq_ediv_of_nonneg _ (by omega), eu, Int.mul_ediv_cancel _ gZ]
  have f2 : dFdiv (.int p.2) (.int G) = some (.int v) := by
    rw [d_fdiv ⟨gZ, by omega⟩, Int.fdiv_eq_ediv_of_nonneg _ (by omega), ev, Int.mul_ediv_cancel _ gZ]
  have hu1 : 1 ≤ u := by
    rcases Nat.eq_zero_or_pos u with z | z
    · rw [z] at hu'; omega
    · exact z
  have hv1 : 1 ≤ v := by
    rcases Nat.eq_zero_or_pos v with z | z
    · rw [z] at hv'; omega
    · exact z
  have u1 : u ≤ G * u := Nat.le_mul_of_pos_left u hG
  have v1 : v ≤ G * v := Nat.le_mul_of_pos_left v hG
  have g1' : dGcd [.int p.1, .int p.2] = some (.int (G : Int)) := rfl
  have hat0 : atI (ps.map prD) 0 = some (prD ps[0]) := by
    have := at_ofNat (l := ps.map prD) (n := 0) (by simpa using hne)
    rw [List.getElem?_map, List.getElem?_eq_getElem hne] at this
    exact this
  have c1 := eF_check_tasks h0 h6 h
  have c2 := eF_short hdg
  have p1 : dIx (prD p) (.int 0) = some (.int p.1) := at_0
  have p2 : dIx (prD p) (.int 1) = some (.int p.2) := at_1
  have io : itemsD (.tup (oD os)) = some (oD os) := rfl
  refine ⟨u, v, G, m, p, ?_, by omega, by omega, by omega, by omega, ?_, h2 m p hm, hG, eu, ev, fun k hk => ?_⟩
  · simp [F_greatest_scale, runN, h_greatest_scale, List.replicate, c1, c2, hck, e, hat0, e2, p1, p2, g1', f1, f2]
  · rw [Int.natAbs_natCast, Int.natAbs_natCast]
    have := Nat.gcd_mul_left G u v
    rw [← hu', ← hv'] at this
    have h3 : G * 1 = G * Nat.gcd u v := by rw [Nat.mul_one]; exact this
    exact (Nat.eq_of_mul_eq_mul_left hG h3).symm
  · have hk' : k < ps.length := by omega
    have := hmin k hk' ps[k] (List.getElem?_eq_getElem hk')
    refine ⟨ps[k], h2 k _ (List.getElem?_eq_getElem hk'), ?_⟩
    rw [eu, ev] at this
    have hGi : (0 : Int) < G := by omega
    have e5 : (u : Int) * G * ps[k].2 = (u : Int) * ps[k].2 * G := Int.mul_right_comm _ _ _
    have e6 : ps[k].1 * ((v : Int) * G) = ps[k].1 * v * G := (Int.mul_assoc _ _ _).symm
    exact Int.le_of_mul_le_mul_right (by omega) hGi
end Tx

set_option maxRecDepth 100000
namespace Tx
open Fv
open L2 (atI ixN)
open PySem (sizeLine)
def cu (n g : Int) : Int := (n + g - 1).fdiv g
def wq (ys : List (Int × Int)) (n : Int) : Int := (ys.map fun y => y.1 * cu n y.2).sum
def metN (W : Int → Int) (dl : Int) : Nat → Int → Bool
  | 0, _ => false
  | n + 1, L => if dl < L then false else if W L = L then true else metN W dl n (W L)
/-- the numbers that the check meets stay small -/
def Sm (ys : List (Int × Int)) : Prop := ys.length ≤ 6 ∧ ∀ y, y ∈ ys → 1 ≤ y.1 ∧ y.1 ≤ 2 ^ 30 ∧ 1 ≤ y.2 ∧ y.2 ≤ 2 ^ 40
theorem cu_bd {n g : Int} (hn : 0 ≤ n) (hg : 0 < g) : 0 ≤ cu n g ∧ cu n g ≤ n := by
  unfold cu
  rw [Int.fdiv_eq_ediv_of_nonneg _ (by omega)]
  constructor
  · exact Int.ediv_nonneg (by omega) (by omega)
  · rcases Int.lt_or_eq_of_le hn with h | h
    · have : (n + g - 1) / g < n + 1 := by
        rw [Int.ediv_lt_iff_lt_mul hg]
        have : (n + 1) * 1 ≤ (n + 1) * g := Int.mul_le_mul_of_nonneg_left (by omega) (by omega)
        have e : (n + 1) * g = n * g + g := by rw [Int.add_mul, Int.one_mul]
        have : n * 1 ≤ n * g := Int.mul_le_mul_of_nonneg_left (by omega) (by omega)
        omega
      omega
    · subst h
      have : (0 + g - 1) / g = 0 := Int.ediv_eq_zero_of_lt (by omega) (by omega)
      omega
def pD (y : Int × Int) : D := .tup [.int y.1, .int y.2]
@[simp] theorem pD_0 {y : Int × Int} : dIx (pD y) (.int 0) = some (.int y.1) := at_0
@[simp] theorem pD_1 {y : Int × Int} : dIx (pD y) (.int 1) = some (.int y.2) := at_1
theorem eF_is_met0 {ys : List (Int × Int)} {z : Int × Int} {dl : Int} (h : Sm ys) (hz : 0 ≤ z.1) (hdl : dl ≤ 2 ^ 40) : F__law_is_met [.pu (.lst ((ys ++ [z]).map pD)), .pu (.int dl)] = .ok (.bl (metN (fun n => z.1 + wq ys n) dl 400 (((ys ++ [z]).map (·.1)).sum))) [.pu (.lst ((ys ++ [z]).map pD)), .pu (.int dl)] := by
  have e1 := e_gLc (k := kSet 4) (gs := gItems (gVar 0)) (gt := gYes) (ge := g2 dIx (gVar 4) (gC (.int 0))) (vs := [4])
    (γ := [.pu (.lst ((ys ++ [z]).map pD)), .pu (.int dl), .un, .un, .un, .un, .un]) (γ1 := [.pu (.lst ((ys ++ [z]).map pD)), .pu (.int dl), .un, .un, .un, .un, .un]) (γ2 := [.pu (.lst ((ys ++ [z]).map pD)), .pu (.int dl), .un, .un, .un, .un, .un]) (l := (ys ++ [z]).map pD) (ys := (ys ++ [z]).map fun y => .int y.1) rfl
    (by simp; have := h.1; have := sizeBig; omega) rfl (lcL_of fun y hy => ⟨[.pu (.lst ((ys ++ [z]).map pD)), .pu (.int dl), .un, .un, .pu (pD y), .un, .un], rfl, rfl, by simp, rfl⟩)
  have e2 : restG [.pu (.lst ((ys ++ [z]).map pD)), .pu (.int dl), .un, .un, .un, .un, .un] [.pu (.lst ((ys ++ [z]).map pD)), .pu (.int dl), .un, .un, .un, .un, .un] [4] = [.pu (.lst ((ys ++ [z]).map pD)), .pu (.int dl), .un, .un, .un, .un, .un] := rfl
  rw [e2] at e1
  have e3 : dSum [.lst ((ys ++ [z]).map fun y => .int y.1)] = some (.int ((ys ++ [z]).map (·.1)).sum) := d_sumF
  have e4 : atI ((ys ++ [z]).map pD) (-1) = some (pD z) := by rw [List.map_append]; exact at_last
  generalize hL0 : ((ys ++ [z]).map (·.1)).sum = L0 at *
  have hL : 0 ≤ L0 := by
    rw [← hL0, List.map_append, List.sum_append]
    have : 0 ≤ (ys.map (·.1)).sum := by
      have hy := h.2
      clear e1 e2 e3 e4 hL0 h
      induction ys with
      | nil => simp
      | cons y ys ih =>
        have := ih fun y hy' => hy y (List.mem_cons_of_mem _ hy')
        have := hy y List.mem_cons_self
        simp; omega
    simp; omega
  have wq0 : ∀ L, 0 ≤ L → 0 ≤ wq ys L := by
    intro L hL
    have hy := h.2
    clear e1 e2 e3 e4 hL0 h
    induction ys with
    | nil => simp [wq]
    | cons y ys ih =>
      have h1 := ih fun y hy' => hy y (List.mem_cons_of_mem _ hy')
      have h2 := hy y List.mem_cons_self
      have h3 := (cu_bd hL (show 0 < y.2 by omega)).1
      have h4 : 0 ≤ y.1 * cu L y.2 := Int.mul_nonneg (by omega) h3
      have : wq (y :: ys) L = y.1 * cu L y.2 + wq ys L := by simp [wq]
      omega
  have key := forL_run (l := rangeD 0 400) (k := kSet 5) (h := (hSeq (hIf (gTst (g2 dGt (gVar 2) (gVar 1))) (hRet (gC (.bl false))) hNx) (hSeq (hSet 6 (g2 dAdd (gVar 3) (gB dSum (gCons (gPu (gLc (gItems (gCut (gVar 0) none (some (g1 dNeg (gC (.int 1)))))) (kSet 4) gYes (g2 dMul (g2 dIx (gVar 4) (gC (.int 0))) (g2 dFdiv (g2 dSub (g2 dAdd (gVar 2) (g2 dIx (gVar 4) (gC (.int 1)))) (gC (.int 1))) (g2 dIx (gVar 4) (gC (.int 1))))) [4])) gNil)))) (hSeq (hIf (gTst (g2 dEq (gVar 6) (gVar 2))) (hRet (gC (.bl true))) hNx) (hSet 2 (gVar 6))))))
    (γ := [.pu (.lst ((ys ++ [z]).map pD)), .pu (.int dl), .pu (.int L0), .pu (.int z.1), .un, .un, .un])
    (fun i γ => ∃ (L : Int) (a b : SV), γ = [.pu (.lst ((ys ++ [z]).map pD)), .pu (.int dl), .pu (.int L), .pu (.int z.1), .un, a, b] ∧ 0 ≤ L ∧ metN (fun n => z.1 + wq ys n) dl 400 L0 = metN (fun n => z.1 + wq ys n) dl (400 - i) L)
    (fun _ => False) (fun d g => d = .bl (metN (fun n => z.1 + wq ys n) dl 400 L0) ∧ ∃ s1 s2 g', g = s1 :: s2 :: g')
    (fun i d γ hd hI => by
      obtain ⟨hi, rfl⟩ := rangeD_get hd
      obtain ⟨L, a, b, rfl, hL, hm⟩ := hI
      have em : 400 - i = (400 - (i + 1)) + 1 := by omega
      rw [em] at hm
      refine ⟨[.pu (.lst ((ys ++ [z]).map pD)), .pu (.int dl), .pu (.int L), .pu (.int z.1), .un, .pu (.int (0 + i)), b], rfl, ?_⟩
      by_cases hc : dl < L
      · refine .inr (.inr (.inr ⟨.bl false, [.pu (.lst ((ys ++ [z]).map pD)), .pu (.int dl), .pu (.int L), .pu (.int z.1), .un, .pu (.int (0 + i)), b], by simp [hc], ?_, _, _, _, rfl⟩))
        rw [hm]
        unfold metN
        rw [if_pos hc]
      · have f1 := e_gLc (k := kSet 4) (gs := gItems (gCut (gVar 0) none (some (g1 dNeg (gC (.int 1)))))) (gt := gYes) (ge := g2 dMul (g2 dIx (gVar 4) (gC (.int 0))) (g2 dFdiv (g2 dSub (g2 dAdd (gVar 2) (g2 dIx (gVar 4) (gC (.int 1)))) (gC (.int 1))) (g2 dIx (gVar 4) (gC (.int 1))))) (vs := [4])
          (γ := [.pu (.lst ((ys ++ [z]).map pD)), .pu (.int dl), .pu (.int L), .pu (.int z.1), .un, .pu (.int (0 + i)), b]) (γ1 := [.pu (.lst ((ys ++ [z]).map pD)), .pu (.int dl), .pu (.int L), .pu (.int z.1), .un, .pu (.int (0 + i)), b]) (γ2 := [.pu (.lst ((ys ++ [z]).map pD)), .pu (.int dl), .pu (.int L), .pu (.int z.1), .un, .pu (.int (0 + i)), b]) (l := ys.map pD) (ys := ys.map fun y => .int (y.1 * cu L y.2))
          (by rw [List.map_append]; simp [cut_init]) (by simp; have := h.1; have := sizeBig; omega) rfl (lcL_of fun y hy => by
            obtain ⟨h1, h2, h3, h4⟩ := h.2 y hy
            obtain ⟨h5, h6⟩ := cu_bd hL (show 0 < y.2 by omega)
            have g1 : dFdiv (.int (L + y.2 - 1)) (.int y.2) = some (.int (cu L y.2)) := d_fdivW (by omega) (by omega)
            have g2 : dMul (.int y.1) (.int (cu L y.2)) = some (.int (y.1 * cu L y.2)) := d_mul (by omega) (by omega)
            exact ⟨[.pu (.lst ((ys ++ [z]).map pD)), .pu (.int dl), .pu (.int L), .pu (.int z.1), .pu (pD y), .pu (.int (0 + i)), b], rfl, rfl, by simp [g1, g2], rfl⟩)
        have f2 : restG [.pu (.lst ((ys ++ [z]).map pD)), .pu (.int dl), .pu (.int L), .pu (.int z.1), .un, .pu (.int (0 + i)), b] [.pu (.lst ((ys ++ [z]).map pD)), .pu (.int dl), .pu (.int L), .pu (.int z.1), .un, .pu (.int (0 + i)), b] [4] = [.pu (.lst ((ys ++ [z]).map pD)), .pu (.int dl), .pu (.int L), .pu (.int z.1), .un, .pu (.int (0 + i)), b] := rfl
        rw [f2] at f1
        have f3 : dSum [.lst (ys.map fun y => .int (y.1 * cu L y.2))] = some (.int (wq ys L)) := d_sumF
        by_cases he : z.1 + wq ys L = L
        · refine .inr (.inr (.inr ⟨.bl true, [.pu (.lst ((ys ++ [z]).map pD)), .pu (.int dl), .pu (.int L), .pu (.int z.1), .un, .pu (.int (0 + i)), .pu (.int (z.1 + wq ys L))], ?_, ?_, _, _, _, rfl⟩))
          · simp only [Int.zero_add] at f1
            simp [hc, f1, f3, he, -List.map_append]
          · rw [hm]
            unfold metN
            rw [if_neg hc, if_pos he]
        · refine .inl ⟨[.pu (.lst ((ys ++ [z]).map pD)), .pu (.int dl), .pu (.int (z.1 + wq ys L)), .pu (.int z.1), .un, .pu (.int (0 + i)), .pu (.int (z.1 + wq ys L))], ?_, _, _, _, rfl, by have := wq0 L hL; omega, ?_⟩
          · simp only [Int.zero_add] at f1
            simp [hc, f1, f3, he, -List.map_append]
          · rw [hm]
            conv => lhs; unfold metN
            rw [if_neg hc, if_neg he])
    ⟨L0, _, _, rfl, hL, rfl⟩
  have hr : dRng1 (.int 400) = some (rangeD 0 400) := d_rng1 (by decide)
  rcases key with ⟨γ2, k1, ⟨L, a, b, rfl, k2, k3⟩ | k2⟩ | ⟨d, g, k1, rfl, s1, s2, g', rfl⟩
  · rw [rangeD_len] at k3
    have k4 : metN (fun n => z.1 + wq ys n) dl 400 L0 = false := k3
    rw [k4]
    simp [F__law_is_met, runN, h__law_is_met, List.replicate, e1, e3, e4, hr, k1, -List.map_append]
  · exact k2.elim
  · simp [F__law_is_met, runN, h__law_is_met, List.replicate, e1, e3, e4, hr, k1, -List.map_append]
theorem eF_is_met {N : Nat} (hN : N = 400) {ys : List (Int × Int)} {z : Int × Int} {dl : Int} (h : Sm ys) (hz : 0 ≤ z.1) (hdl : dl ≤ 2 ^ 40) : F__law_is_met [.pu (.lst ((ys ++ [z]).map pD)), .pu (.int dl)] = .ok (.bl (metN (fun n => z.1 + wq ys n) dl N (((ys ++ [z]).map (·.1)).sum))) [.pu (.lst ((ys ++ [z]).map pD)), .pu (.int dl)] := by
  subst hN
  exact eF_is_met0 h hz hdl
end Tx

set_option maxRecDepth 100000
namespace Tx
open Fv
theorem up_le {n g m : Int} (hg : 0 < g) : up n g ≤ m ↔ n ≤ m * g := by
  unfold up
  rw [Int.fdiv_eq_ediv_of_nonneg _ (by omega)]
  have := Int.le_ediv_iff_mul_le (a := -m) (b := -n) hg
  rw [Int.neg_mul] at this
  constructor
  · intro h
    have := this.mp (by omega)
    omega
  · intro h
    have := this.mpr (by omega)
    omega
theorem cu_le {n g m : Int} (hg : 0 < g) : cu n g ≤ m ↔ n ≤ m * g := by
  unfold cu
  rw [Int.fdiv_eq_ediv_of_nonneg _ (by omega)]
  have := Int.ediv_lt_iff_lt_mul (a := n + g - 1) (b := m + 1) hg
  rw [Int.add_mul, Int.one_mul] at this
  constructor
  · intro h
    have := this.mp (by omega)
    omega
  · intro h
    have := this.mpr (by omega)
    omega
theorem cu_cu {L g b : Int} (hg : 0 < g) (hb : 0 < b) : cu L (g * b) = up (cu L b) g := by
  have hgb : 0 < g * b := Int.mul_pos hg hb
  apply Int.le_antisymm
  · rw [cu_le hgb, ← Int.mul_assoc, ← cu_le hb, ← up_le hg]
    exact Int.le_refl _
  · rw [up_le hg, cu_le hb, Int.mul_assoc, ← cu_le hgb]
    exact Int.le_refl _
theorem up_mono {n m g : Int} (hg : 0 < g) (h : n ≤ m) : up n g ≤ up m g := by
  rw [up_le hg]
  exact Int.le_trans h ((up_le hg).mp (Int.le_refl _))
theorem cu_mono {n m g : Int} (hg : 0 < g) (h : n ≤ m) : cu n g ≤ cu m g := by
  rw [cu_le hg]
  exact Int.le_trans h ((cu_le hg).mp (Int.le_refl _))
theorem wk_mono {ts : List Tk} {n m : Int} (h : ∀ t, t ∈ ts → t.ok) (hnm : n ≤ m) : wk ts n ≤ wk ts m := by
  induction ts with
  | nil => exact Int.le_refl _
  | cons t ts ih =>
    have i1 := ih fun t ht => h t (List.mem_cons_of_mem _ ht)
    obtain ⟨h1, h2, h3, h4, h5, h6⟩ := h t List.mem_cons_self
    have := Int.mul_le_mul_of_nonneg_left (up_mono (show 0 < t.g by omega) hnm) (show 0 ≤ t.c by omega)
    have e1 : wk (t :: ts) n = t.c * up n t.g + wk ts n := by simp [wk]
    have e2 : wk (t :: ts) m = t.c * up m t.g + wk ts m := by simp [wk]
    omega
def sc (top bot : Int) (t : Tk) : Int × Int := (t.c * top, t.g * bot)
theorem wq_sc {hp : List Tk} {top bot L : Int} (h : ∀ t, t ∈ hp → t.ok) (hb : 0 < bot) : wq (hp.map (sc top bot)) L = top * wk hp (cu L bot) := by
  induction hp with
  | nil => simp [wq, wk]
  | cons t ts ih =>
    have i1 := ih fun t ht => h t (List.mem_cons_of_mem _ ht)
    obtain ⟨h1, h2, h3, h4, h5, h6⟩ := h t List.mem_cons_self
    have e1 : wk (t :: ts) (cu L bot) = t.c * up (cu L bot) t.g + wk ts (cu L bot) := by simp [wk]
    have e2 : wq ((t :: ts).map (sc top bot)) L = t.c * top * cu L (t.g * bot) + wq (ts.map (sc top bot)) L := by simp [wq, sc]
    rw [e1, e2, i1, cu_cu (by omega) hb, Int.mul_add]
    congr 1
    rw [Int.mul_comm t.c top, Int.mul_assoc]
/-- the check's answer -/
theorem met_true {W : Int → Int} {dl top bot T : Int} {V : Int → Int} (hW : ∀ L, W L = top * V (cu L bot)) (htop : 0 ≤ top) (hb : 0 < bot) (hV : ∀ a b, a ≤ b → V a ≤ V b) (hdl : T * bot ≤ dl) (hT : top * V T ≤ T * bot) :
    ∀ (n : Nat) (L t : Int), L = top * V t → t ≤ cu L bot → t ≤ T → (T - t) + 1 ≤ n → metN W dl n L = true := by
  intro n
  induction n with
  | zero => intro L t _ _ h3 h4; exfalso; omega
  | succ n ih =>
    intro L t h1 h2 h3 h4
    have hLT : L ≤ top * V T := by rw [h1]; exact Int.mul_le_mul_of_nonneg_left (hV t T h3) htop
    have hcT : cu L bot ≤ T := (cu_le hb).mpr (by omega)
    unfold metN
    rw [if_neg (by omega)]
    by_cases he : W L = L
    · rw [if_pos he]
    · rw [if_neg he]
      have hlt : t < cu L bot := by
        rcases Int.lt_or_eq_of_le h2 with h | h
        · exact h
        · exfalso; apply he; rw [hW, ← h]; exact h1.symm
      have hLe : L ≤ W L := by rw [hW, h1]; exact Int.mul_le_mul_of_nonneg_left (hV _ _ (by rw [← h1]; exact h2)) htop
      exact ih (W L) (cu L bot) (hW L) (cu_mono hb hLe) hcT (by omega)
theorem met_false {W : Int → Int} {dl top bot Dd : Int} {V : Int → Int} (hW : ∀ L, W L = top * V (cu L bot)) (hb : 0 < bot) (hdl : dl = Dd * bot) (hF : ∀ T, 1 ≤ T → T ≤ Dd → T * bot < top * V T) (hp : ∀ L, 1 ≤ L → 1 ≤ W L) :
    ∀ (n : Nat) (L : Int), 1 ≤ L → metN W dl n L = false := by
  intro n
  induction n with
  | zero => intro L _; rfl
  | succ n ih =>
    intro L h0
    unfold metN
    by_cases hc : dl < L
    · rw [if_pos hc]
    · rw [if_neg hc]
      by_cases he : W L = L
      · exfalso
        have h1 : L ≤ cu L bot * bot := (cu_le hb).mp (Int.le_refl _)
        have h2 : cu L bot ≤ Dd := (cu_le hb).mpr (by omega)
        have h3 : 1 ≤ cu L bot := by
          have h5 : ¬ cu L bot ≤ 0 := fun z => by
            have := (cu_le hb).mp z
            omega
          omega
        have := hF _ h3 h2
        have := hW L
        omega
      · rw [if_neg he]; exact ih _ (hp L h0)
/-- one task at the end of its list -/
theorem wk_last {hp : List Tk} {t : Tk} {n : Int} (hn : 1 ≤ n) (hn2 : n ≤ t.g) (hg : 0 < t.g) : wk (hp ++ [t]) n = t.c + wk hp n := by
  have h1 : up n t.g = 1 := by
    apply Int.le_antisymm
    · rw [up_le hg]; omega
    · exact up_pos hn hg
  have : wk (hp ++ [t]) n = wk hp n + t.c * up n t.g := by simp [wk]
  rw [this, h1]; omega
/-- met exactly where the ratio is no greater than the best one -/
theorem met_iff {N : Nat} (hN : 61 ≤ N) {hp : List Tk} {t : Tk} {top bot p q : Int} (h : ∀ x, x ∈ hp ++ [t] → x.ok) (hdg : t.d ≤ t.g) (htop : 1 ≤ top) (hb : 1 ≤ bot) (B : Best (hp ++ [t]) t.d p q) :
    metN (fun n => (sc top bot t).1 + wq (hp.map (sc top bot)) n) (t.d * bot) N (((hp ++ [t]).map (fun x => (sc top bot x).1)).sum) = decide (top * q ≤ p * bot) := by
  have hhp : ∀ x, x ∈ hp → x.ok := fun x hx => h x (List.mem_append_left _ hx)
  obtain ⟨o1, o2, o3, o4, o5, o6⟩ := h t (List.mem_append_right _ (List.mem_singleton.mpr rfl))
  obtain ⟨b1, b2, b3, b4⟩ := B
  have hW : ∀ L, (fun n => (sc top bot t).1 + wq (hp.map (sc top bot)) n) L = top * (fun n => t.c + wk hp n) (cu L bot) := by
    intro L
    show t.c * top + wq (hp.map (sc top bot)) L = top * (t.c + wk hp (cu L bot))
    rw [wq_sc hhp (by omega), Int.mul_add, Int.mul_comm t.c top]
  have hV : ∀ a b : Int, a ≤ b → (fun n => t.c + wk hp n) a ≤ (fun n => t.c + wk hp n) b := fun a b hab => by
    have := wk_mono hhp hab
    show t.c + wk hp a ≤ t.c + wk hp b
    omega
  have hlast : ∀ n : Int, 1 ≤ n → n ≤ t.d → wk (hp ++ [t]) n = t.c + wk hp n := fun n h1 h2 => wk_last h1 (by omega) (by omega)
  have hL0 : ((hp ++ [t]).map (fun x => (sc top bot x).1)).sum = top * (t.c + wk hp 1) := by
    have e1 : ∀ x, x ∈ hp → up 1 x.g = 1 := fun x hx => by
      obtain ⟨a1, a2, a3, a4, a5, a6⟩ := hhp x hx
      apply Int.le_antisymm
      · rw [up_le (by omega)]; omega
      · exact up_pos (Int.le_refl _) (by omega)
    have e2 : (hp.map fun x => (sc top bot x).1).sum = top * wk hp 1 := by
      clear hW hV hlast b3 b4 h hhp
      induction hp with
      | nil => simp [wk]
      | cons x xs ih =>
        have i1 := ih fun x hx => e1 x (List.mem_cons_of_mem _ hx)
        have i2 := e1 x List.mem_cons_self
        have e3 : wk (x :: xs) 1 = x.c * up 1 x.g + wk xs 1 := by simp [wk]
        rw [List.map_cons, List.sum_cons, i1, e3, i2, Int.mul_add]
        simp [sc, Int.mul_comm]
    rw [List.map_append, List.sum_append, e2, Int.mul_add]
    simp [sc, Int.mul_comm top t.c]
    omega
  have hpos : 1 ≤ t.c + wk hp 1 := by
    have := (wk_bd (n := 1) (by decide) hhp).1
    omega
  by_cases hc : top * q ≤ p * bot
  · rw [decide_eq_true hc]
    refine met_true (V := fun n => t.c + wk hp n) hW (by omega) (by omega) hV (T := p) (Int.mul_le_mul_of_nonneg_right b2 (by omega)) ?_ N _ 1 hL0 ?_ b1 (by omega)
    · show top * (t.c + wk hp p) ≤ p * bot
      rw [← hlast p b1 b2, ← b3]; exact hc
    · rw [hL0]
      have h5 : ¬ cu (top * (t.c + wk hp 1)) bot ≤ 0 := fun z => by
        have := (cu_le (show 0 < bot by omega)).mp z
        have : 1 * 1 ≤ top * (t.c + wk hp 1) := Int.mul_le_mul htop hpos (by decide) (by omega)
        omega
      omega
  · rw [decide_eq_false hc]
    refine met_false (V := fun n => t.c + wk hp n) (top := top) hW (by omega) (Dd := t.d) rfl (fun T h1 h2 => ?_) (fun L hL => ?_) N _ ?_
    · show T * bot < top * (t.c + wk hp T)
      rw [← hlast T h1 h2]
      have x1 := b4 T h1 h2
      have wT := wk_pos (n := T) h1 h (by simp)
      have wp := wk_pos (n := p) b1 h (by simp)
      rw [← b3] at wp
      have x2 : p * bot * wk (hp ++ [t]) T < top * q * wk (hp ++ [t]) T := Int.mul_lt_mul_of_pos_right (by omega) (by omega)
      have x3 : T * q * bot ≤ p * wk (hp ++ [t]) T * bot := Int.mul_le_mul_of_nonneg_right x1 (by omega)
      have e1 : T * q * bot = T * bot * q := Int.mul_right_comm _ _ _
      have e2 : p * wk (hp ++ [t]) T * bot = p * bot * wk (hp ++ [t]) T := Int.mul_right_comm _ _ _
      have e3 : top * q * wk (hp ++ [t]) T = top * wk (hp ++ [t]) T * q := Int.mul_right_comm _ _ _
      exact Int.lt_of_mul_lt_mul_right (a := q) (by omega) (by omega)
    · show 1 ≤ t.c * top + wq (hp.map (sc top bot)) L
      rw [wq_sc hhp (by omega)]
      have h5 : ¬ cu L bot ≤ 0 := fun z => by
        have := (cu_le (show 0 < bot by omega)).mp z
        omega
      have h6 := (wk_bd (n := cu L bot) (by omega) hhp).1
      have h7 : 0 ≤ top * wk hp (cu L bot) := Int.mul_nonneg (by omega) h6
      have h8 : 1 * 1 ≤ t.c * top := Int.mul_le_mul o1 htop (by decide) (by omega)
      omega
    · rw [hL0]
      have : 1 * 1 ≤ top * (t.c + wk hp 1) := Int.mul_le_mul htop hpos (by decide) (by omega)
      omega
end Tx

set_option maxRecDepth 100000
namespace Tx
open Fv
open L2 (atI ixN)
open PySem (sizeLine)
theorem At_le {ts : List Tk} {os : List Nat} {k : Nat} {p p' : Int × Int} (a : At ts os k p) (b : At ts os k p') : p.1 * p'.2 ≤ p'.1 * p.2 := by
  obtain ⟨j, e1, a1, a2, a3, a4⟩ := a
  obtain ⟨j', e2, b1, b2, b3, b4⟩ := b
  rw [e1] at e2
  cases e2
  have := b4 p.1 a1 a2
  rw [a3]; exact this
theorem all_loop {ts : List Tk} {os : List Nat} {top bot : Int} (h : ∀ t, t ∈ ts → t.ok) (hdg : ∀ t, t ∈ ts → t.d ≤ t.g) (ho : ∀ j, j ∈ os → j < ts.length) (hs : os.length ≤ 6) (ht : 1 ≤ top ∧ top ≤ 10000000) (hb : 1 ≤ bot ∧ bot ≤ 1000000000) (hAt : ∀ k, k < os.length → ∃ p, At ts os k p) :
    (∃ a b, forL (kSet 4) (hSeq (hSetF 5 (gLc (gItems (gCut (gVar 1) none (some (g2 dAdd (gVar 4) (gC (.int 1)))))) (kSet 6) gYes (gTup (gCons (g2 dMul (g2 dIx (g2 dIx (gVar 0) (gVar 6)) (gC (.int 0))) (gVar 2)) (gCons (g2 dMul (g2 dIx (g2 dIx (gVar 0) (gVar 6)) (gC (.int 2))) (gVar 3)) gNil))) [6])) (hFrz 5 (hIf (tgNot (gTst (gCall F__law_is_met (aCons (gVar 5) (aCons (g2 dMul (g2 dIx (g2 dIx (gVar 0) (g2 dIx (gVar 1) (gVar 4))) (gC (.int 1))) (gVar 3)) aNil))))) (hRet (gC (.bl false))) hNx))) (rangeD 0 os.length) [.pu (.tup (ts.map Tk.D)), .pu (.tup (oD os)), .pu (.int top), .pu (.int bot), .un, .un, .un] = .nx [.pu (.tup (ts.map Tk.D)), .pu (.tup (oD os)), .pu (.int top), .pu (.int bot), a, b, .un] ∧ ∀ k p, k < os.length → At ts os k p → top * p.2 ≤ p.1 * bot) ∨ ((∃ k p, At ts os k p ∧ p.1 * bot < top * p.2) ∧ ∃ s1 s2 s3 s4 g', forL (kSet 4) (hSeq (hSetF 5 (gLc (gItems (gCut (gVar 1) none (some (g2 dAdd (gVar 4) (gC (.int 1)))))) (kSet 6) gYes (gTup (gCons (g2 dMul (g2 dIx (g2 dIx (gVar 0) (gVar 6)) (gC (.int 0))) (gVar 2)) (gCons (g2 dMul (g2 dIx (g2 dIx (gVar 0) (gVar 6)) (gC (.int 2))) (gVar 3)) gNil))) [6])) (hFrz 5 (hIf (tgNot (gTst (gCall F__law_is_met (aCons (gVar 5) (aCons (g2 dMul (g2 dIx (g2 dIx (gVar 0) (g2 dIx (gVar 1) (gVar 4))) (gC (.int 1))) (gVar 3)) aNil))))) (hRet (gC (.bl false))) hNx))) (rangeD 0 os.length) [.pu (.tup (ts.map Tk.D)), .pu (.tup (oD os)), .pu (.int top), .pu (.int bot), .un, .un, .un] = .rt (.bl false) (s1 :: s2 :: s3 :: s4 :: g')) := by
  have key := forL_run (l := rangeD 0 os.length) (k := kSet 4) (h := (hSeq (hSetF 5 (gLc (gItems (gCut (gVar 1) none (some (g2 dAdd (gVar 4) (gC (.int 1)))))) (kSet 6) gYes (gTup (gCons (g2 dMul (g2 dIx (g2 dIx (gVar 0) (gVar 6)) (gC (.int 0))) (gVar 2)) (gCons (g2 dMul (g2 dIx (g2 dIx (gVar 0) (gVar 6)) (gC (.int 2))) (gVar 3)) gNil))) [6])) (hFrz 5 (hIf (tgNot (gTst (gCall F__law_is_met (aCons (gVar 5) (aCons (g2 dMul (g2 dIx (g2 dIx (gVar 0) (g2 dIx (gVar 1) (gVar 4))) (gC (.int 1))) (gVar 3)) aNil))))) (hRet (gC (.bl false))) hNx))))
    (γ := [.pu (.tup (ts.map Tk.D)), .pu (.tup (oD os)), .pu (.int top), .pu (.int bot), .un, .un, .un])
    (fun i γ => ∃ a b, γ = [.pu (.tup (ts.map Tk.D)), .pu (.tup (oD os)), .pu (.int top), .pu (.int bot), a, b, .un] ∧ (b.own = false) ∧ ∀ k p, k < i → At ts os k p → top * p.2 ≤ p.1 * bot)
    (fun _ => False) (fun d g => d = .bl false ∧ (∃ k p, At ts os k p ∧ p.1 * bot < top * p.2) ∧ ∃ s1 s2 s3 s4 g', g = s1 :: s2 :: s3 :: s4 :: g')
    (fun i d γ hd hI => by
      obtain ⟨hi, rfl⟩ := rangeD_get hd
      obtain ⟨a, b, rfl, hbo, hm⟩ := hI
      clear hd
      simp only [Int.zero_add]
      obtain ⟨p, hA⟩ := hAt i hi
      have hA0 := hA
      obtain ⟨j, ej, B⟩ := hA
      have hj := ho j (List.mem_of_getElem? ej)
      have etk := take_pk (ts := ts) ej
      have hmem : ∀ t, t ∈ pk ts (os.take (i + 1)) → t.ok := pk_ok h fun j hj => ho j (List.mem_of_mem_take hj)
      have hlen : (pk ts (os.take i)).length = i := by unfold pk; rw [List.length_map, List.length_take]; omega
      have htg : (ts.getD j Tk0).d ≤ (ts.getD j Tk0).g := by
        rw [List.getD_eq_getElem?_getD, List.getElem?_eq_getElem hj]; exact hdg _ (List.getElem_mem hj)
      rw [etk] at hmem B
      obtain ⟨N, hN⟩ : ∃ N : Nat, N = 400 := ⟨_, rfl⟩
      have em := met_iff (N := N) (by omega) (hp := pk ts (os.take i)) (t := ts.getD j Tk0) (top := top) (bot := bot) (p := p.1) (q := p.2) hmem htg ht.1 hb.1 B
      have htk := hmem _ (List.mem_append_right _ (List.mem_singleton.mpr rfl))
      obtain ⟨o1, o2, o3, o4, o5, o6⟩ := htk
      have f0 : itemsD (.tup (cutD (oD os) none (some ((i : Int) + 1)))) = some ((os.take (i + 1)).map fun (j : Nat) => D.int (j : Int)) := by
        have : ((i : Int) + 1) = ((i + 1 : Nat) : Int) := by omega
        rw [this, cut_to (by simp [oD]; omega)]
        simp [oD, List.map_take]
      have f1 := e_gLc (k := kSet 6) (gs := gItems (gCut (gVar 1) none (some (g2 dAdd (gVar 4) (gC (.int 1)))))) (gt := gYes) (ge := gTup (gCons (g2 dMul (g2 dIx (g2 dIx (gVar 0) (gVar 6)) (gC (.int 0))) (gVar 2)) (gCons (g2 dMul (g2 dIx (g2 dIx (gVar 0) (gVar 6)) (gC (.int 2))) (gVar 3)) gNil))) (vs := [6])
        (γ := [.pu (.tup (ts.map Tk.D)), .pu (.tup (oD os)), .pu (.int top), .pu (.int bot), .pu (.int i), b, .un]) (γ1 := [.pu (.tup (ts.map Tk.D)), .pu (.tup (oD os)), .pu (.int top), .pu (.int bot), .pu (.int i), b, .un]) (γ2 := [.pu (.tup (ts.map Tk.D)), .pu (.tup (oD os)), .pu (.int top), .pu (.int bot), .pu (.int i), b, .un])
        (l := (os.take (i + 1)).map fun (j : Nat) => D.int (j : Int)) (ys := (os.take (i + 1)).map fun j => pD (sc top bot (ts.getD j Tk0)))
        (by simp [f0]) (by rw [List.length_map, List.length_take]; have := sizeBig; omega) (by simp [Fv.ownAt, SV.own]) (lcL_of fun j' hj' => by
          have hj2 := ho j' (List.mem_of_mem_take hj')
          have htk : (ts.getD j' Tk0).ok := by
            rw [List.getD_eq_getElem?_getD, List.getElem?_eq_getElem hj2]; exact h _ (List.getElem_mem hj2)
          have e2 := at_task hj2
          generalize ts.getD j' Tk0 = t at *
          obtain ⟨q1, q2, q3, q4, q5, q6⟩ := htk
          have m1 : dMul (.int t.c) (.int top) = some (.int (t.c * top)) := d_mul (by omega) (by omega)
          have m2 : dMul (.int t.g) (.int bot) = some (.int (t.g * bot)) := d_mul (by omega) (by omega)
          exact ⟨[.pu (.tup (ts.map Tk.D)), .pu (.tup (oD os)), .pu (.int top), .pu (.int bot), .pu (.int i), b, .pu (.int (j' : Int))], rfl, rfl, by simp [e2, m1, m2, pD, sc], rfl⟩)
      have f2 : restG [.pu (.tup (ts.map Tk.D)), .pu (.tup (oD os)), .pu (.int top), .pu (.int bot), .pu (.int i), b, .un] [.pu (.tup (ts.map Tk.D)), .pu (.tup (oD os)), .pu (.int top), .pu (.int bot), .pu (.int i), b, .un] [6] = [.pu (.tup (ts.map Tk.D)), .pu (.tup (oD os)), .pu (.int top), .pu (.int bot), .pu (.int i), b, .un] := rfl
      rw [f2] at f1
      have f3 : ((os.take (i + 1)).map fun j => pD (sc top bot (ts.getD j Tk0))) = ((pk ts (os.take i)).map (sc top bot) ++ [sc top bot (ts.getD j Tk0)]).map pD := by
        have : ((os.take (i + 1)).map fun j => pD (sc top bot (ts.getD j Tk0))) = ((pk ts (os.take (i + 1))).map (sc top bot)).map pD := by simp [pk, Function.comp_def]
        rw [this, etk, List.map_append]; rfl
      rw [f3] at f1
      have e2 := at_task hj
      have e3 : atI (oD os) (i : Int) = some (.int (j : Int)) := by
        rw [at_ofNat (by simpa [oD] using hi)]
        simp [oD, ej]
      have m3 : dMul (.int (ts.getD j Tk0).d) (.int bot) = some (.int ((ts.getD j Tk0).d * bot)) := d_mul (by omega) (by omega)
      have sm : Sm ((pk ts (os.take i)).map (sc top bot)) := by
        refine ⟨by rw [List.length_map]; omega, fun y hy => ?_⟩
        obtain ⟨x, hx, rfl⟩ := List.mem_map.mp hy
        obtain ⟨q1, q2, q3, q4, q5, q6⟩ := hmem x (List.mem_append_left _ hx)
        have x1 : 1 * 1 ≤ x.c * top := Int.mul_le_mul q1 ht.1 (by decide) (by omega)
        have x2 : x.c * top ≤ 20 * 10000000 := Int.mul_le_mul q2 ht.2 (by omega) (by decide)
        have x3 : 1 * 1 ≤ x.g * bot := Int.mul_le_mul q5 hb.1 (by decide) (by omega)
        have x4 : x.g * bot ≤ 60 * 1000000000 := Int.mul_le_mul q6 hb.2 (by omega) (by decide)
        show 1 ≤ x.c * top ∧ x.c * top ≤ 2 ^ 30 ∧ 1 ≤ x.g * bot ∧ x.g * bot ≤ 2 ^ 40
        omega
      have z1 : 0 ≤ (sc top bot (ts.getD j Tk0)).1 := Int.mul_nonneg (by omega) (by omega)
      have z2 : (ts.getD j Tk0).d * bot ≤ 60 * 1000000000 := Int.mul_le_mul o4 hb.2 (by omega) (by decide)
      have g1 := eF_is_met hN (ys := (pk ts (os.take i)).map (sc top bot)) (z := sc top bot (ts.getD j Tk0)) (dl := (ts.getD j Tk0).d * bot) sm z1 (by omega)
      have g2 : (((pk ts (os.take i)).map (sc top bot) ++ [sc top bot (ts.getD j Tk0)]).map (·.1)).sum = (((pk ts (os.take i) ++ [ts.getD j Tk0]).map (fun x => (sc top bot x).1)).sum) := by simp [Function.comp_def]
      rw [g2, em] at g1
      generalize ts.getD j Tk0 = t at *
      refine ⟨[.pu (.tup (ts.map Tk.D)), .pu (.tup (oD os)), .pu (.int top), .pu (.int bot), .pu (.int i), b, .un], rfl, ?_⟩
      by_cases hc : top * p.2 ≤ p.1 * bot
      · rw [decide_eq_true hc] at g1
        refine .inl ⟨[.pu (.tup (ts.map Tk.D)), .pu (.tup (oD os)), .pu (.int top), .pu (.int bot), .pu (.int i), .pu (.lst (((pk ts (os.take i)).map (sc top bot) ++ [sc top bot t]).map pD)), .un], ?_, _, _, rfl, rfl, fun k p' hk hA' => ?_⟩
        · simp [f1, e2, e3, m3, g1, -List.map_append]
        · by_cases hki : k < i
          · exact hm k p' hki hA'
          · have : k = i := by omega
            subst this
            have q1 := At_bd h ho hs hA0
            have q2 := At_bd h ho hs hA'
            exact tr (by omega) (by omega) (by omega) hc (At_le hA0 hA')
      · rw [decide_eq_false hc] at g1
        refine .inr (.inr (.inr ⟨.bl false, [.pu (.tup (ts.map Tk.D)), .pu (.tup (oD os)), .pu (.int top), .pu (.int bot), .pu (.int i), .pu (.lst (((pk ts (os.take i)).map (sc top bot) ++ [sc top bot t]).map pD)), .un], ?_, rfl, ⟨i, p, hA0, by omega⟩, _, _, _, _, _, rfl⟩))
        simp [f1, e2, e3, m3, g1, -List.map_append])
    ⟨.un, .un, rfl, rfl, fun k p hk => absurd hk (Nat.not_lt_zero _)⟩
  rcases key with ⟨γ2, k1, ⟨a, b, rfl, k2, k3⟩ | k2⟩ | ⟨d, g, k1, rfl, k2, s1, s2, s3, s4, g', rfl⟩
  · rw [rangeD_len] at k3
    exact .inl ⟨a, b, k1, k3⟩
  · exact k2.elim
  · exact .inr ⟨k2, s1, s2, s3, s4, g', k1⟩
end Tx

set_option maxRecDepth 100000
namespace Tx
open Fv
open L2 (atI ixN)
open PySem (sizeLine)
theorem eF_all_met {ts : List Tk} {os : List Nat} {top bot : Int} (h : ∀ t, t ∈ ts → t.ok) (hdg : ∀ t, t ∈ ts → t.d ≤ t.g) (ho : ∀ j, j ∈ os → j < ts.length) (hs : os.length ≤ 6) (ht : 1 ≤ top ∧ top ≤ 10000000) (hb : 1 ≤ bot ∧ bot ≤ 1000000000) (hAt : ∀ k, k < os.length → ∃ p, At ts os k p) :
    ∃ b, F__law_all_met [.pu (.tup (ts.map Tk.D)), .pu (.tup (oD os)), .pu (.int top), .pu (.int bot)] = .ok (.bl b) [.pu (.tup (ts.map Tk.D)), .pu (.tup (oD os)), .pu (.int top), .pu (.int bot)] ∧ (b = true → ∀ k p, At ts os k p → top * p.2 ≤ p.1 * bot) ∧ (b = false → ∃ k p, At ts os k p ∧ p.1 * bot < top * p.2) := by
  have hl : (oD os).length = os.length := by simp [oD]
  obtain ⟨zz, hz⟩ : ∃ zz : Int, ((oD os).length : Int) = zz := ⟨_, rfl⟩
  have r : dRng1 (.int zz) = some (rangeD 0 os.length) := by
    rw [d_rng1 (x := zz) (by omega), show zz.toNat = os.length by omega]
  rcases all_loop h hdg ho hs ht hb hAt with ⟨a, b, k1, k3⟩ | ⟨k2, s1, s2, s3, s4, g', k1⟩
  · have k4 : h__law_all_met [.pu (.tup (ts.map Tk.D)), .pu (.tup (oD os)), .pu (.int top), .pu (.int bot), .un, .un, .un] = .rt (.bl true) [.pu (.tup (ts.map Tk.D)), .pu (.tup (oD os)), .pu (.int top), .pu (.int bot), a, b, .un] := by
      simp [h__law_all_met, hz, r, k1]
    refine ⟨true, runN_rt k4 rfl, fun _ k p hA => ?_, fun z => by cases z⟩
    have hk : k < os.length := by
      obtain ⟨j, e, _⟩ := hA
      exact (List.getElem?_eq_some_iff.mp e).1
    exact k3 k p hk hA
  · have k4 : h__law_all_met [.pu (.tup (ts.map Tk.D)), .pu (.tup (oD os)), .pu (.int top), .pu (.int bot), .un, .un, .un] = .rt (.bl false) (s1 :: s2 :: s3 :: s4 :: g') := by
      simp [h__law_all_met, hz, r, k1]
    exact ⟨false, runN_rt k4 rfl, fun z => (by cases z), fun _ => k2⟩
end Tx

set_option maxRecDepth 100000
namespace Tx
open Fv
open L2 (atI ixN)
open PySem (sizeLine)
theorem common_loop : ∀ (b a n : Nat), b < n → whileN (gTst (g2 dNe (gVar 1) (gC (.int 0)))) (hMulti [0, 1] (xP (gVar 1) (xP (g2 dMod (gB dInt1 (gCons (gVar 0) gNil)) (gVar 1)) xNil))) n [.pu (.int (a : Int)), .pu (.int (b : Int))] = .nx [.pu (.int (Nat.gcd a b : Nat)), .pu (.int 0)] := by
  intro b
  induction b using Nat.strongRecOn with
  | ind b ih =>
    intro a n hn
    obtain ⟨m, rfl⟩ : ∃ m, n = m + 1 := ⟨n - 1, by omega⟩
    rw [whileN_succ]
    rcases Nat.eq_zero_or_pos b with hb | hb
    · subst hb
      simp
    · have hm : dMod (.int (a : Int)) (.int (b : Int)) = some (.int ((a % b : Nat) : Int)) := by
        rw [d_mod (by omega), Int.fmod_eq_emod_of_nonneg _ (by omega)]
        simp
      have h1 := ih (a % b) (Nat.mod_lt a hb) b m (by have := Nat.mod_lt a hb; omega)
      have e : Nat.gcd b (a % b) = Nat.gcd a b := by rw [Nat.gcd_comm a b, Nat.gcd_rec b a, Nat.gcd_comm]
      rw [e] at h1
      have hb0 : b ≠ 0 := by omega
      generalize ha : a % b = c at *
      simp [hb0, hm, h1]
theorem eF_common {a b : Nat} (hb : b < 1000000) : F__law_common [.pu (.int (a : Int)), .pu (.int (b : Int))] = .ok (.int (Nat.gcd a b : Nat)) [.pu (.int (a : Int)), .pu (.int (b : Int))] := by
  refine runN_rt (g := [.pu (.int (Nat.gcd a b : Nat)), .pu (.int 0)]) ?_ rfl
  have := common_loop b a 1000000 hb
  show h__law_common [.pu (.int (a : Int)), .pu (.int (b : Int))] = _
  unfold h__law_common
  rw [e_hSeq, this]
  simp
/-! draws -/
theorem pick_ok {r : List D} {l : List D} (hr : RowOk r) (h1 : 0 < l.length) (h2 : l.length < 1000) : ∃ d r', F__law_pick [.bo r, .pu (.lst l)] = .ok d [.bo r', .pu (.lst l)] ∧ d ∈ l ∧ RowOk r' := by
  obtain ⟨z, hz⟩ : ∃ z : Int, (l.length : Int) = z := ⟨_, rfl⟩
  obtain ⟨v, r', e, v1, v2, ok⟩ := taken_ok (m := z) hr (by omega) (by omega)
  obtain ⟨n, rfl⟩ := Int.eq_ofNat_of_zero_le v1
  have hn : n < l.length := by omega
  have ha : atI l (n : Int) = some l[n] := by rw [at_ofNat hn, List.getElem?_eq_getElem hn]
  refine ⟨l[n], r', ?_, List.getElem_mem hn, ok⟩
  refine runN_rt (g := [.bo r', .pu (.lst l)]) ?_ rfl
  show h__law_pick [.bo r, .pu (.lst l)] = _
  simp [h__law_pick, hz, e, ha]
/-- a task as it is drawn -/
def Raw (t : Tk) : Prop := (1 ≤ t.c ∧ t.c ≤ 20) ∧ (1 ≤ t.d ∧ t.d ≤ 60) ∧ 2 ≤ t.g ∧ t.g ≤ 12
theorem small_ok {r : List D} (hr : RowOk r) : ∃ (ts : List Tk) (r' : List D), F__law_small [.bo r, .pu (.int 3)] = .ok (.tup (ts.map Tk.D)) [.bo r', .pu (.int 3)] ∧ RowOk r' ∧ 1 ≤ ts.length ∧ ts.length ≤ 3 ∧ ∀ t, t ∈ ts → Raw t := by
  obtain ⟨v, r1, e1, v1, v2, ok1⟩ := taken_ok (m := 3) hr (by decide) (by decide)
  obtain ⟨γ2, e, r', ts, a, b, c, d, rfl, i1, i2, i3⟩ := forL_nx (l := rangeD 0 (1 + v).toNat) (k := kSet 3) (h := (hSeq (hSet 4 (gCall F__law_pick (aSlot 0 (aCons (gPu (gCons (gC (.int 2)) (gCons (gC (.int 3)) (gCons (gC (.int 4)) (gCons (gC (.int 4)) (gCons (gC (.int 6)) (gCons (gC (.int 6)) (gCons (gC (.int 8)) (gCons (gC (.int 12)) (gCons (gC (.int 12)) gNil)))))))))) aNil)))) (hSeq (hSet 5 (gB dMin2 (gCons (g2 dAdd (gC (.int 1)) (gCall F__law_taken (aSlot 0 (aCons (g2 dAdd (gC (.int 1)) (g2 dFdiv (gVar 4) (gC (.int 3)))) aNil)))) (gCons (gC (.int 20)) gNil)))) (hSeq (hSet 6 (gCall F__law_pick (aSlot 0 (aCons (gPu (gCons (gVar 4) (gCons (gVar 4) (gCons (gB dMax2 (gCons (gC (.int 1)) (gCons (g2 dSub (gVar 4) (gC (.int 1))) gNil))) (gCons (g2 dAdd (gVar 5) (gCall F__law_taken (aSlot 0 (aCons (gC (.int 9)) aNil)))) (gCons (g2 dAdd (gC (.int 1)) (gCall F__law_taken (aSlot 0 (aCons (gC (.int 30)) aNil)))) gNil)))))) aNil)))) (hDrop (gApp 2 (gTup (gCons (gVar 5) (gCons (gVar 6) (gCons (gVar 4) gNil))))))))))
    (γ := [.bo r1, .pu (.int 3), .ow [], .un, .un, .un, .un])
    (fun i γ => ∃ (r' : List D) (ts : List Tk) (a b c d : SV), γ = [.bo r', .pu (.int 3), .ow (ts.map Tk.D), a, b, c, d] ∧ RowOk r' ∧ ts.length = i ∧ ∀ t, t ∈ ts → Raw t)
    (fun i d γ hd hI => by
      obtain ⟨r', ts, a, b, c, d', rfl, i1, i2, i3⟩ := hI
      obtain ⟨hi, rfl⟩ := rangeD_get hd
      obtain ⟨g, r2, e2, hg, ok2⟩ := pick_ok (l := [.int 2, .int 3, .int 4, .int 4, .int 6, .int 6, .int 8, .int 12, .int 12]) i1 (by decide) (by decide)
      obtain ⟨gz, rfl, g1, g2⟩ : ∃ gz : Int, g = .int gz ∧ 2 ≤ gz ∧ gz ≤ 12 := by
        simp only [List.mem_cons, List.not_mem_nil, or_false] at hg
        rcases hg with rfl | rfl | rfl | rfl | rfl | rfl | rfl | rfl | rfl <;> exact ⟨_, rfl, by decide, by decide⟩
      have f1 : dFdiv (.int gz) (.int 3) = some (.int (gz.fdiv 3)) := d_fdiv (by decide)
      have q1 : gz.fdiv 3 = gz / 3 := Int.fdiv_eq_ediv_of_nonneg _ (by decide)
      rw [q1] at f1
      obtain ⟨c1, r3, e3, c2, c3, ok3⟩ := taken_ok (m := 1 + gz / 3) ok2 (by omega) (by omega)
      obtain ⟨d1, r4, e4, d2, d3, ok4⟩ := taken_ok (m := 9) ok3 (by decide) (by decide)
      obtain ⟨d5, r5, e5, d6, d7, ok5⟩ := taken_ok (m := 30) ok4 (by decide) (by decide)
      have m1 : dMin2 [.int (1 + c1), .int 20] = some (.int (1 + c1)) := by
        show some (D.int (if (20 : Int) < 1 + c1 then 20 else 1 + c1)) = _
        rw [if_neg (by omega)]
      have m2 : dMax2 [.int 1, .int (gz - 1)] = some (.int (gz - 1)) := by
        show some (D.int (if gz - 1 > 1 then gz - 1 else 1)) = _
        by_cases h : gz - 1 > 1
        · rw [if_pos h]
        · rw [if_neg h, show gz - 1 = 1 by omega]
      obtain ⟨dd, r6, e6, hd6, ok6⟩ := pick_ok (l := [.int gz, .int gz, .int (gz - 1), .int (1 + c1 + d1), .int (1 + d5)]) ok5 (by simp) (by simp)
      obtain ⟨dz, rfl, z1, z2⟩ : ∃ dz : Int, dd = .int dz ∧ 1 ≤ dz ∧ dz ≤ 60 := by
        simp only [List.mem_cons, List.not_mem_nil, or_false] at hd6
        rcases hd6 with rfl | rfl | rfl | rfl | rfl <;> exact ⟨_, rfl, by omega, by omega⟩
      have hs : ts.length < sizeLine := by have := sizeBig; omega
      refine ⟨[.bo r', .pu (.int 3), .ow (ts.map Tk.D), .pu (.int (0 + (i : Int))), b, c, d'], rfl, [.bo r6, .pu (.int 3), .ow ((ts ++ [Tk.mk (1 + c1) dz gz]).map Tk.D), .pu (.int (0 + (i : Int))), .pu (.int gz), .pu (.int (1 + c1)), .pu (.int dz)], ?_, _, _, _, _, _, _, rfl, ok6, by simp [i2], fun t ht => ?_⟩
      · have ta : ts.map Tk.D ++ [D.tup [.int (1 + c1), .int dz, .int gz]] = (ts ++ [Tk.mk (1 + c1) dz gz]).map Tk.D := by rw [List.map_append]; rfl
        simp only [Int.zero_add]
        simp [e2, f1, e3, m1, e4, e5, m2, e6, hs]
        rfl
      · rcases List.mem_append.mp ht with h | h
        · exact i3 t h
        · rw [List.mem_singleton.mp h]
          exact ⟨⟨by show 1 ≤ 1 + c1; omega, by show 1 + c1 ≤ 20; omega⟩, ⟨z1, z2⟩, g1, g2⟩)
    ⟨r1, [], _, _, _, _, rfl, ok1, rfl, fun t ht => by cases ht⟩
  have hr2 : dRng1 (.int (1 + v)) = some (rangeD 0 (1 + v).toNat) := d_rng1 (by omega)
  rw [rangeD_len] at i2
  refine ⟨ts, r', ?_, i1, by omega, by omega, i3⟩
  refine runN_rt (g := [.bo r', .pu (.int 3), .pu (.lst (ts.map Tk.D)), a, b, c, d]) ?_ rfl
  show h__law_small [.bo r, .pu (.int 3), .un, .un, .un, .un, .un] = _
  have ht : dTupOf [.lst (ts.map Tk.D)] = some (.tup (ts.map Tk.D)) := rfl
  generalize hl : rangeD 0 (1 + v).toNat = l at *
  simp [h__law_small, e1, hr2, e, ht]
end Tx

set_option maxRecDepth 100000
namespace Tx
open Fv
open L2 (atI ixN)
open PySem (sizeLine)
theorem order_loop {r : List D} {n : Nat} (hr : RowOk r) (hn : n ≤ 3) : ∃ (r' : List D) (os : List Nat), F__law_order [.bo r, .pu (.int (n : Int))] = .ok (.tup (oD os)) [.bo r', .pu (.int (n : Int))] ∧ RowOk r' ∧ os.Perm (List.range n) := by
  obtain ⟨z, hz0⟩ : ∃ z : Int, (n : Int) = z := ⟨_, rfl⟩
  rw [hz0]
  have r1 : dRng1 (.int z) = some (rangeD 0 n) := by
    rw [d_rng1 (x := z) (by omega), show z.toNat = n by omega]
  have ro : rangeD 0 n = oD (List.range n) := by simp [rangeD, oD]
  have f1 := e_gLc (k := kSet 4) (gs := gRng1 (gVar 1)) (gt := gYes) (ge := gVar 4) (vs := [4])
    (γ := [.bo r, .pu (.int z), .un, .un, .un, .un]) (γ1 := [.bo r, .pu (.int z), .un, .un, .un, .un]) (γ2 := [.bo r, .pu (.int z), .un, .un, .un, .un])
    (l := (List.range n).map fun (j : Nat) => D.int (j : Int)) (ys := (List.range n).map fun (j : Nat) => D.int (j : Int)) (by rw [e_gRng1]; simp only [e_gVar, List.getElem?_cons_succ, List.getElem?_cons_zero, Rs.bind_ok]; rw [r1, ro]; rfl) (by simp; have := sizeBig; omega) rfl
    (lcL_of fun j hj => ⟨[.bo r, .pu (.int z), .un, .un, .pu (.int (j : Int)), .un], rfl, rfl, by simp, rfl⟩)
  have f2 : restG [.bo r, .pu (.int z), .un, .un, .un, .un] [.bo r, .pu (.int z), .un, .un, .un, .un] [4] = [.bo r, .pu (.int z), .un, .un, .un, .un] := rfl
  rw [f2] at f1
  obtain ⟨γ2, e, r', left, found, a, b, rfl, i1, i2, i3⟩ := forL_nx (l := rangeD 0 n) (k := kSet 4) (h := (hSeq (hSet 5 (gCall F__law_taken (aSlot 0 (aCons (gB dLen (gCons (gVar 2) gNil)) aNil)))) (hSeq (hDrop (gApp 3 (g2 dIx (gVar 2) (gVar 5)))) (hSet 2 (g2 dAdd (gCut (gVar 2) none (some (gVar 5))) (gCut (gVar 2) (some (g2 dAdd (gVar 5) (gC (.int 1)))) none))))))
    (γ := [.bo r, .pu (.int z), .pu (.lst (oD (List.range n))), .ow [], .un, .un])
    (fun i γ => ∃ (r' : List D) (left found : List Nat) (a b : SV), γ = [.bo r', .pu (.int z), .pu (.lst (oD left)), .ow (oD found), a, b] ∧ RowOk r' ∧ (found ++ left).Perm (List.range n) ∧ left.length = n - i)
    (fun i d γ hd hI => by
      obtain ⟨r', left, found, a, b, rfl, i1, i2, i3⟩ := hI
      obtain ⟨hi, rfl⟩ := rangeD_get hd
      have hl : 0 < left.length := by omega
      obtain ⟨zl, hz⟩ : ∃ zl : Int, ((oD left).length : Int) = zl := ⟨_, rfl⟩
      have hz2 : (oD left).length = left.length := by simp [oD]
      obtain ⟨v, r2, e2, v1, v2, ok2⟩ := taken_ok (m := zl) i1 (by omega) (by omega)
      obtain ⟨k, rfl⟩ := Int.eq_ofNat_of_zero_le v1
      have hk : k < left.length := by omega
      have ha : atI (oD left) (k : Int) = some (.int (left[k] : Int)) := by
        rw [at_ofNat (by omega)]
        simp [oD, hk]
      have hc1 : cutD (oD left) none (some (k : Int)) = oD (left.take k) := by
        rw [cut_to (by omega)]; simp [oD, List.map_take]
      have hc2 : cutD (oD left) (some ((k : Int) + 1)) none = oD (left.drop (k + 1)) := by
        have : ((k : Int) + 1) = ((k + 1 : Nat) : Int) := by omega
        rw [this, cut_from (by omega)]; simp [oD, List.map_drop]
      have hfl : found.length ≤ 3 := by
        have := i2.length_eq
        rw [List.length_append, List.length_range] at this
        omega
      have hs : (oD found).length < sizeLine := by have := sizeBig; simp [oD]; omega
      have ad : dAdd (.lst (oD (left.take k))) (.lst (oD (left.drop (k + 1)))) = some (.lst (oD (left.take k ++ left.drop (k + 1)))) := by
        have hsz : (oD (left.take k)).length + (oD (left.drop (k + 1))).length ≤ sizeLine := by have := sizeBig; simp [oD]; omega
        have : oD (left.take k ++ left.drop (k + 1)) = oD (left.take k) ++ oD (left.drop (k + 1)) := by simp [oD]
        rw [this]
        exact if_pos hsz
      have af : oD found ++ [.int (left[k] : Int)] = oD (found ++ [left[k]]) := by simp [oD]
      refine ⟨[.bo r', .pu (.int z), .pu (.lst (oD left)), .ow (oD found), .pu (.int (0 + (i : Int))), b], rfl, [.bo r2, .pu (.int z), .pu (.lst (oD (left.take k ++ left.drop (k + 1)))), .ow (oD (found ++ [left[k]])), .pu (.int (0 + (i : Int))), .pu (.int (k : Int))], ?_, _, _, _, _, _, rfl, ok2, ?_, ?_⟩
      · simp [hz, e2, ha, hc1, hc2, hs, ad, af]
      · have h1 : (left[k] :: (left.take k ++ left.drop (k + 1))).Perm left := by
          have h2 : (left.take k ++ left[k] :: left.drop (k + 1)).Perm (left[k] :: (left.take k ++ left.drop (k + 1))) := List.perm_middle
          have h3 : left.take k ++ left[k] :: left.drop (k + 1) = left := by rw [List.getElem_cons_drop, List.take_append_drop]
          rw [h3] at h2
          exact h2.symm
        have h4 : (found ++ [left[k]] ++ (left.take k ++ left.drop (k + 1))) = found ++ (left[k] :: (left.take k ++ left.drop (k + 1))) := by simp
        rw [h4]
        exact (List.Perm.append_left found h1).trans i2
      · simp; omega)
    ⟨r, List.range n, [], _, _, rfl, hr, by simp, by simp⟩
  rw [rangeD_len] at i3
  have hl : left = [] := List.eq_nil_of_length_eq_zero (by omega)
  subst hl
  rw [List.append_nil] at i2
  refine ⟨r', found, ?_, i1, i2⟩
  refine runN_rt (g := [.bo r', .pu (.int z), .pu (.lst (oD [])), .pu (.lst (oD found)), a, b]) ?_ rfl
  show h__law_order [.bo r, .pu (.int z), .un, .un, .un, .un] = _
  have ht : dTupOf [.lst (oD found)] = some (.tup (oD found)) := rfl
  have f3 : ((List.range n).map fun (j : Nat) => D.int (j : Int)) = oD (List.range n) := rfl
  rw [f3] at f1
  generalize hl : rangeD 0 n = l at *
  simp [h__law_order, f1, r1, e, ht]
theorem sorted_ok {os : List Nat} {n : Nat} (hn : n ≤ 3) (hp : os.Perm (List.range n)) : dSorted [.tup (oD os)] = some (rangeD 0 n) := by
  have hi : intL (oD os) = some (os.map fun (j : Nat) => (j : Int)) := by
    have : oD os = (os.map fun (j : Nat) => (j : Int)).map D.int := by simp [oD, Function.comp_def]
    rw [this, intL_map]
  have hs : (List.range n).map (fun (j : Nat) => (j : Int)) = sortI (os.map fun (j : Nat) => (j : Int)) := by
    refine sort_one (hp.symm.map _) ?_
    rw [List.pairwise_map]
    exact List.Pairwise.imp (fun h => by omega) List.pairwise_lt_range
  have hl : os.length ≤ 3 := by rw [hp.length_eq, List.length_range]; exact hn
  have ht : itemsD (.tup (oD os)) = some (oD os) := rfl
  unfold dSorted
  simp only [ht, hi]
  rw [← hs, if_pos (by rw [List.length_map]; omega)]
  simp [rangeD, Function.comp_def]
theorem check_ok {os : List Nat} {n : Nat} (hn : 1 ≤ n) (hn3 : n ≤ 3) (hp : os.Perm (List.range n)) : F_check_order [.pu (.tup (oD os)), .pu (.int (n : Int))] = .ok .non [.pu (.tup (oD os)), .pu (.int (n : Int))] := by
  obtain ⟨z, hz⟩ : ∃ z : Int, (n : Int) = z := ⟨_, rfl⟩
  rw [hz]
  have hl : ((oD os).length : Int) = z := by simp only [oD, List.length_map]; rw [hp.length_eq, List.length_range]; exact hz
  have e1 := eF_is_tuple (l := oD os) (a := z) (b := z)
  rw [hl] at e1
  obtain ⟨γ2, e, a, hI⟩ := forL_nx (l := oD os) (k := kSet 2) (h := hIf (tgNot (gTst (gCall F_is_integer (aCons (gVar 2) (aCons (gC (.int 0)) (aCons (g2 dSub (gVar 1) (gC (.int 1))) aNil)))))) (hRet (gC (.bl false))) hNx)
    (γ := [.pu (.tup (oD os)), .pu (.int z), .un]) (fun _ γ => ∃ a, γ = [.pu (.tup (oD os)), .pu (.int z), a]) (fun i d γ hd hI => by
      obtain ⟨a, rfl⟩ := hI
      unfold oD at hd
      rw [List.getElem?_map] at hd
      obtain ⟨j, ej, rfl⟩ := map_some hd
      have hj : j < n := List.mem_range.mp (hp.subset (List.mem_of_getElem? ej))
      have e2 := eF_is_integer (v := (j : Int)) (lo := 0) (hi := z - 1)
      rw [decide_eq_true (show (0 : Int) ≤ j by omega), decide_eq_true (show (j : Int) ≤ z - 1 by omega)] at e2
      generalize (j : Int) = jz at *
      exact ⟨[.pu (.tup (oD os)), .pu (.int z), .pu (.int jz)], rfl, [.pu (.tup (oD os)), .pu (.int z), .pu (.int jz)], by simp [e2], _, rfl⟩) ⟨_, rfl⟩
  subst hI
  have rg : dRgL 0 z = some (rangeD 0 n) := by
    unfold dRgL
    rw [if_pos (by omega), show (z - 0).toNat = n by omega]
  have so := sorted_ok hn3 hp
  have eq : dEq (.lst (rangeD 0 n)) (.lst (rangeD 0 n)) = some (.bl true) := by
    have : n = 1 ∨ n = 2 ∨ n = 3 := by omega
    rcases this with h | h | h <;> subst h <;> rfl
  have io : F_is_order [.pu (.tup (oD os)), .pu (.int z)] = .ok (.bl true) [.pu (.tup (oD os)), .pu (.int z)] := by
    refine runN_rt (g := [.pu (.tup (oD os)), .pu (.int z), a]) ?_ rfl
    show h_is_order [.pu (.tup (oD os)), .pu (.int z), .un] = _
    have g1 : gRgL1 (gVar 1) [.pu (.tup (oD os)), .pu (.int z), a] = .ok (rangeD 0 n) [.pu (.tup (oD os)), .pu (.int z), a] := by
      show ofO (dRgL 0 z) _ = _
      rw [rg]; rfl
    generalize hq : rangeD 0 n = q at *
    simp [h_is_order, e1, e, so, g1, eq]
  simp [F_check_order, runN, h_check_order, io]
end Tx

set_option maxRecDepth 100000
namespace Tx
open Fv
open L2 (atI ixN)
open PySem (sizeLine)
def mn (a b : Int) : Int := if b < a then b else a
theorem d_mn {a b : Int} : dMin2 [.int a, .int b] = some (.int (mn a b)) := rfl
theorem mn_le {a b : Int} : mn a b ≤ a ∧ mn a b ≤ b ∧ (mn a b = a ∨ mn a b = b) := by
  unfold mn
  by_cases h : b < a
  · rw [if_pos h]; omega
  · rw [if_neg h]; omega
/-- the first change of a drawn task, and the second -/
def ch1 (f : Int) (t : Tk) : Tk := ⟨mn 20 (f * t.c), mn t.d t.g, f * t.g⟩
def ch2 (f : Int) (t : Tk) : Tk := ⟨t.c, mn 60 (f * t.d), t.g⟩
theorem ch_ok {f : Int} {t : Tk} (hf : f = 1 ∨ f = 2 ∨ f = 5) (h : Raw t) : (ch2 f (ch1 f t)).ok ∧ (ch2 f (ch1 f t)).d ≤ (ch2 f (ch1 f t)).g := by
  obtain ⟨⟨a1, a2⟩, ⟨a3, a4⟩, a5, a6⟩ := h
  have m1 := mn_le (a := 20) (b := f * t.c)
  have m2 := mn_le (a := t.d) (b := t.g)
  have m3 := mn_le (a := 60) (b := f * mn t.d t.g)
  have e : ch2 f (ch1 f t) = ⟨mn 20 (f * t.c), mn 60 (f * mn t.d t.g), f * t.g⟩ := rfl
  rw [e]
  unfold Tk.ok
  show (1 ≤ mn 20 (f * t.c) ∧ mn 20 (f * t.c) ≤ 20 ∧ 1 ≤ mn 60 (f * mn t.d t.g) ∧ mn 60 (f * mn t.d t.g) ≤ 60 ∧ 1 ≤ f * t.g ∧ f * t.g ≤ 60) ∧ mn 60 (f * mn t.d t.g) ≤ f * t.g
  rcases hf with rfl | rfl | rfl <;> omega
theorem e_gNot {γ : Gm} {ga : Gm → Rs D} : gNot ga γ = (ga γ).bind fun d γ1 => (match d with | .bl k => .ok (.bl !k) γ1 | _ => .no) := by
  unfold gNot; rfl
theorem call4 {F : List SV → Rs D} {a b c d r : D} {γ : Gm} {ga gb gc gd : Gm → Rs D} (h : F [.pu a, .pu b, .pu c, .pu d] = .ok r [.pu a, .pu b, .pu c, .pu d]) (h1 : ga γ = .ok a γ) (h2 : gb γ = .ok b γ) (h3 : gc γ = .ok c γ) (h4 : gd γ = .ok d γ) : gCall F (aCons ga (aCons gb (aCons gc (aCons gd aNil)))) γ = .ok r γ := by
  have e : aCons ga (aCons gb (aCons gc (aCons gd aNil))) γ = .ok [.d a, .d b, .d c, .d d] γ := by
    simp only [e_aCons, e_aNil, h1, h2, h3, h4, Rs.bind_ok]
  have s0 : slotsA [.d a, .d b, .d c, .d d] = [] := rfl
  have p0 : parG γ [.d a, .d b, .d c, .d d] = some [.pu a, .pu b, .pu c, .pu d] := rfl
  have b0 : backG γ [.d a, .d b, .d c, .d d] [.pu a, .pu b, .pu c, .pu d] = some γ := rfl
  unfold gCall
  rw [e]
  simp only [Rs.bind_ok, s0, p0, h, b0, List.nodup_nil, if_true]
theorem call2 {F : List SV → Rs D} {a b r : D} {γ : Gm} {ga gb : Gm → Rs D} (h : F [.pu a, .pu b] = .ok r [.pu a, .pu b]) (h1 : ga γ = .ok a γ) (h2 : gb γ = .ok b γ) : gCall F (aCons ga (aCons gb aNil)) γ = .ok r γ := by
  have e : aCons ga (aCons gb aNil) γ = .ok [.d a, .d b] γ := by
    simp only [e_aCons, e_aNil, h1, h2, Rs.bind_ok]
  have s0 : slotsA [.d a, .d b] = [] := rfl
  have p0 : parG γ [.d a, .d b] = some [.pu a, .pu b] := rfl
  have b0 : backG γ [.d a, .d b] [.pu a, .pu b] = some γ := rfl
  unfold gCall
  rw [e]
  simp only [Rs.bind_ok, s0, p0, h, b0, List.nodup_nil, if_true]
theorem or_no {a b : Gm → Rs Bool} {h h' : Gm → Out} {γ : Gm} (h1 : a γ = .ok false γ) (h2 : b γ = .ok false γ) : hIf (tgOr a b) h h' γ = h' γ := by
  rw [e_hIf, e_tgOr, h1]
  show ((b γ).out fun k γ1 => if k then h γ1 else h' γ1) = _
  rw [h2]; rfl
theorem not_yes {ga : Gm → Rs D} {γ : Gm} (h1 : ga γ = .ok (.bl true) γ) : tgNot (gTst ga) γ = .ok false γ := by
  rw [e_tgNot, e_gTst, h1]; rfl
theorem ne_one {ga : Gm → Rs D} {γ : Gm} (h1 : ga γ = .ok (.int 1) γ) : gTst (g2 dNe ga (gC (.int 1))) γ = .ok false γ := by
  rw [e_gTst, e_g2, h1]; rfl
theorem law_math (ns : List Int) (_ : ns.length ≤ 63) : ∃ γ, F_law [.pu (.lst (ns.map .int))] = .ok (.bl true) γ := by
  have r0 : RowOk [.lst (ns.map .int), .int 0, .int 3209, .int 0] := ⟨ns, 0, 3209, 0, rfl, by decide, by decide, by decide⟩
  obtain ⟨A, hAA⟩ : ∃ A, D.lst (ns.map .int) = A := ⟨_, rfl⟩
  rw [hAA] at r0 ⊢
  obtain ⟨fd, r1, e1, hf, ok1⟩ := pick_ok (l := [.int 1, .int 1, .int 2, .int 5]) r0 (by decide) (by decide)
  obtain ⟨f, rfl, hf2⟩ : ∃ f : Int, fd = .int f ∧ (f = 1 ∨ f = 2 ∨ f = 5) := by
    simp only [List.mem_cons, List.not_mem_nil, or_false] at hf
    rcases hf with rfl | rfl | rfl | rfl <;> exact ⟨_, rfl, by decide⟩
  obtain ⟨us, r2, e2, ok2, u1, u3, hu⟩ := small_ok ok1
  have w1 := e_gLc (k := kSet 4) (gs := gItems (gCall F__law_small (aSlot 1 (aCons (gC (.int 3)) aNil)))) (gt := gYes) (ge := gTup (gCons (gB dMin2 (gCons (gC (.int 20)) (gCons (g2 dMul (gVar 2) (g2 dIx (gVar 4) (gC (.int 0)))) gNil))) (gCons (gB dMin2 (gCons (g2 dIx (gVar 4) (gC (.int 1))) (gCons (g2 dIx (gVar 4) (gC (.int 2))) gNil))) (gCons (g2 dMul (gVar 2) (g2 dIx (gVar 4) (gC (.int 2)))) gNil)))) (vs := [4])
    (γ := [.pu A, .ow r1, .pu (.int f), .un, .un, .un, .un, .un]) (γ1 := [.pu A, .ow r2, .pu (.int f), .un, .un, .un, .un, .un]) (γ2 := [.pu A, .ow r2, .pu (.int f), .un, .un, .un, .un, .un])
    (l := us.map Tk.D) (ys := us.map fun t => (ch1 f t).D) (by simp [e2]) (by simp; have := sizeBig; omega) (by simp [Fv.ownAt, SV.own]) (lcL_of fun t ht => by
      obtain ⟨⟨a1, a2⟩, ⟨a3, a4⟩, a5, a6⟩ := hu t ht
      have m1 : dMul (.int f) (.int t.c) = some (.int (f * t.c)) := d_mul (by omega) (by omega)
      have m2 : dMul (.int f) (.int t.g) = some (.int (f * t.g)) := d_mul (by omega) (by omega)
      exact ⟨[.pu A, .ow r2, .pu (.int f), .un, .pu t.D, .un, .un, .un], rfl, rfl, by simp [m1, m2, d_mn]; rfl, rfl⟩)
  have w1' : restG [.pu A, .ow r2, .pu (.int f), .un, .un, .un, .un, .un] [.pu A, .ow r2, .pu (.int f), .un, .un, .un, .un, .un] [4] = [.pu A, .ow r2, .pu (.int f), .un, .un, .un, .un, .un] := rfl
  rw [w1'] at w1
  have w2 := e_gLc (k := kSet 4) (gs := gItems (gVar 3)) (gt := gYes) (ge := gTup (gCons (g2 dIx (gVar 4) (gC (.int 0))) (gCons (gB dMin2 (gCons (gC (.int 60)) (gCons (g2 dMul (gVar 2) (g2 dIx (gVar 4) (gC (.int 1)))) gNil))) (gCons (g2 dIx (gVar 4) (gC (.int 2))) gNil)))) (vs := [4])
    (γ := [.pu A, .ow r2, .pu (.int f), .pu (.lst (us.map fun t => (ch1 f t).D)), .un, .un, .un, .un]) (γ1 := [.pu A, .ow r2, .pu (.int f), .pu (.lst (us.map fun t => (ch1 f t).D)), .un, .un, .un, .un]) (γ2 := [.pu A, .ow r2, .pu (.int f), .pu (.lst (us.map fun t => (ch1 f t).D)), .un, .un, .un, .un])
    (l := us.map fun t => (ch1 f t).D) (ys := us.map fun t => (ch2 f (ch1 f t)).D) (by simp) (by simp; have := sizeBig; omega) (by simp [Fv.ownAt, SV.own]) (lcL_of fun t ht => by
      obtain ⟨⟨a1, a2⟩, ⟨a3, a4⟩, a5, a6⟩ := hu t ht
      have hm := mn_le (a := t.d) (b := t.g)
      have m1 : dMul (.int f) (.int (ch1 f t).d) = some (.int (f * (ch1 f t).d)) := d_mul (by omega) (by show (mn t.d t.g).natAbs < _; omega)
      exact ⟨[.pu A, .ow r2, .pu (.int f), .pu (.lst (us.map fun t => (ch1 f t).D)), .pu (ch1 f t).D, .un, .un, .un], rfl, rfl, by simp [m1, d_mn]; rfl, rfl⟩)
  have w2' : restG [.pu A, .ow r2, .pu (.int f), .pu (.lst (us.map fun t => (ch1 f t).D)), .un, .un, .un, .un] [.pu A, .ow r2, .pu (.int f), .pu (.lst (us.map fun t => (ch1 f t).D)), .un, .un, .un, .un] [4] = [.pu A, .ow r2, .pu (.int f), .pu (.lst (us.map fun t => (ch1 f t).D)), .un, .un, .un, .un] := rfl
  rw [w2'] at w2
  obtain ⟨ts, hts⟩ : ∃ ts : List Tk, us.map (fun t => ch2 f (ch1 f t)) = ts := ⟨_, rfl⟩
  have ht1 : (us.map fun t => (ch2 f (ch1 f t)).D) = ts.map Tk.D := by rw [← hts, List.map_map]; rfl
  rw [ht1] at w2
  have hlen : ts.length = us.length := by rw [← hts, List.length_map]
  have hts2 : ∀ t, t ∈ ts → t.ok ∧ t.d ≤ t.g := fun t ht => by
    rw [← hts] at ht
    obtain ⟨u, hu', rfl⟩ := List.mem_map.mp ht
    exact ch_ok hf2 (hu u hu')
  obtain ⟨r3, os, e3, ok3, hp⟩ := order_loop (n := ts.length) ok2 (by omega)
  obtain ⟨zt, hzt⟩ : ∃ zt : Int, (ts.length : Int) = zt := ⟨_, rfl⟩
  rw [hzt] at e3
  have hol : os.length = ts.length := by rw [hp.length_eq, List.length_range]
  have ho : ∀ j, j ∈ os → j < ts.length := fun j hj => List.mem_range.mp (hp.subset hj)
  have hck := check_ok (n := ts.length) (by omega) (by omega) hp
  obtain ⟨P, Q, G, k, p, e4, p1, p2, q1, q2, hg, hA, hG, pe, qe, hall⟩ := eF_greatest (fun t ht => (hts2 t ht).1) (fun t ht => (hts2 t ht).2) (by omega) (by omega) ho hol hck
  have hAt : ∀ k, k < os.length → ∃ p, At ts os k p := fun k hk => let ⟨p', h1, _⟩ := hall k hk; ⟨p', h1⟩
  obtain ⟨b1, e5, b1t, b1f⟩ := eF_all_met (top := P) (bot := Q) (fun t ht => (hts2 t ht).1) (fun t ht => (hts2 t ht).2) ho (by omega) (by omega) (by omega) hAt
  obtain ⟨b2, e6, b2t, b2f⟩ := eF_all_met (top := P * 100000 + 1) (bot := Q * 100000) (fun t ht => (hts2 t ht).1) (fun t ht => (hts2 t ht).2) ho (by omega) (by omega) (by omega) hAt
  have hb1 : b1 = true := by
    cases b1 with
    | true => rfl
    | false =>
      exfalso
      obtain ⟨k', p', hA', hlt⟩ := b1f rfl
      have hk' : k' < os.length := by
        obtain ⟨j, e, _⟩ := hA'
        exact (List.getElem?_eq_some_iff.mp e).1
      obtain ⟨p'', hA'', hle⟩ := hall k' hk'
      have x1 := At_bd (fun t ht => (hts2 t ht).1) ho (by omega) hA'
      have x2 := At_bd (fun t ht => (hts2 t ht).1) ho (by omega) hA''
      have := tr (a := P) (b := Q) (c := p''.1) (d := p''.2) (e := p'.1) (f := p'.2) (by omega) (by omega) (by omega) hle (At_le hA'' hA')
      omega
  have hb2 : b2 = false := by
    cases b2 with
    | false => rfl
    | true =>
      exfalso
      have := b2t rfl k p hA
      rw [pe, qe] at this
      have hQG : 0 < Q * (G : Int) := Int.mul_pos (by omega) (by omega)
      have e7 : (P * 100000 + 1) * (Q * (G : Int)) = P * (Q * (G : Int)) * 100000 + Q * (G : Int) := by
        rw [Int.add_mul, Int.one_mul, Int.mul_right_comm]
      have e8 : P * (G : Int) * (Q * 100000) = P * (Q * (G : Int)) * 100000 := by
        rw [← Int.mul_assoc, Int.mul_assoc P (G : Int) Q, Int.mul_comm (G : Int) Q]
      omega
  subst hb1
  subst hb2
  obtain ⟨Pn, rfl⟩ := Int.eq_ofNat_of_zero_le (show 0 ≤ P by omega)
  obtain ⟨Qn, rfl⟩ := Int.eq_ofNat_of_zero_le (show 0 ≤ Q by omega)
  have e9 := eF_common (a := Pn) (b := Qn) (by omega)
  rw [show Nat.gcd Pn Qn = 1 from hg] at e9
  obtain ⟨Pz, hPz⟩ : ∃ z : Int, (Pn : Int) = z := ⟨_, rfl⟩
  obtain ⟨Qz, hQz⟩ : ∃ z : Int, (Qn : Int) = z := ⟨_, rfl⟩
  have g3 : gLc (gItems (gVar 6)) (kSet 7) (tgOr (tgNot (gTst (g1 (dIsi "int") (gVar 7)))) (tgOr (gTst (g1 (dIsi "bool") (gVar 7))) (gTst (g2 dLt (gVar 7) (gC (.int 1)))))) (gVar 7) [7] [.pu A, .pu (.lst r3), .pu (.int f), .pu (.tup (ts.map Tk.D)), .un, .pu (.tup (oD os)), .pu (.tup [.int Pz, .int Qz]), .un] = .ok [] [.pu A, .pu (.lst r3), .pu (.int f), .pu (.tup (ts.map Tk.D)), .un, .pu (.tup (oD os)), .pu (.tup [.int Pz, .int Qz]), .un] := by
    have := e_gLc (k := kSet 7) (gs := gItems (gVar 6)) (gt := tgOr (tgNot (gTst (g1 (dIsi "int") (gVar 7)))) (tgOr (gTst (g1 (dIsi "bool") (gVar 7))) (gTst (g2 dLt (gVar 7) (gC (.int 1)))))) (ge := gVar 7) (vs := [7])
      (γ := [.pu A, .pu (.lst r3), .pu (.int f), .pu (.tup (ts.map Tk.D)), .un, .pu (.tup (oD os)), .pu (.tup [.int Pz, .int Qz]), .un]) (γ1 := [.pu A, .pu (.lst r3), .pu (.int f), .pu (.tup (ts.map Tk.D)), .un, .pu (.tup (oD os)), .pu (.tup [.int Pz, .int Qz]), .un]) (γ2 := [.pu A, .pu (.lst r3), .pu (.int f), .pu (.tup (ts.map Tk.D)), .un, .pu (.tup (oD os)), .pu (.tup [.int Pz, .int Qz]), .un]) (l := [.int Pz, .int Qz]) (ys := []) (by simp) (by show 2 ≤ sizeLine; have := sizeBig; omega) rfl
      (by simp [lcL, wipeG, show ¬ Pz < 1 by omega, show ¬ Qz < 1 by omega])
    exact this
  have n1 : dNe (.lst []) (.lst []) = some (.bl false) := rfl
  rw [hPz, hQz] at e4 e5 e9
  rw [hPz, hQz] at e6
  have m5 : dMul (.int Pz) (.int 100000) = some (.int (Pz * 100000)) := d_mul (by omega) (by decide)
  have m6 : dMul (.int Qz) (.int 100000) = some (.int (Qz * 100000)) := d_mul (by omega) (by decide)
  have tt : dTupOf [.lst (ts.map Tk.D)] = some (.tup (ts.map Tk.D)) := rfl
  have hd : dLen [.tup (ts.map Tk.D)] = some (.int zt) := by rw [d_lenT, List.length_map, hzt]
  have hd2 : dLen [.tup [.int Pz, .int Qz]] = some (.int 2) := rfl
  have e9' : F__law_common [.pu (.int Pz), .pu (.int Qz)] = .ok (.int 1) [.pu (.int Pz), .pu (.int Qz)] := e9
  have e5' : gCall F__law_all_met (aCons (gVar 3) (aCons (gVar 5) (aCons (g2 dIx (gVar 6) (gC (.int 0))) (aCons (g2 dIx (gVar 6) (gC (.int 1))) aNil)))) [.pu A, .pu (.lst r3), .pu (.int f), .pu (.tup (ts.map Tk.D)), .un, .pu (.tup (oD os)), .pu (.tup [.int Pz, .int Qz]), .un] = .ok (.bl true) [.pu A, .pu (.lst r3), .pu (.int f), .pu (.tup (ts.map Tk.D)), .un, .pu (.tup (oD os)), .pu (.tup [.int Pz, .int Qz]), .un] :=
    call4 e5 rfl rfl (by simp) (by simp)
  have e6' : gCall F__law_all_met (aCons (gVar 3) (aCons (gVar 5) (aCons (g2 dAdd (g2 dMul (g2 dIx (gVar 6) (gC (.int 0))) (gC (.int 100000))) (gC (.int 1))) (aCons (g2 dMul (g2 dIx (gVar 6) (gC (.int 1))) (gC (.int 100000))) aNil)))) [.pu A, .pu (.lst r3), .pu (.int f), .pu (.tup (ts.map Tk.D)), .un, .pu (.tup (oD os)), .pu (.tup [.int Pz, .int Qz]), .un] = .ok (.bl false) [.pu A, .pu (.lst r3), .pu (.int f), .pu (.tup (ts.map Tk.D)), .un, .pu (.tup (oD os)), .pu (.tup [.int Pz, .int Qz]), .un] :=
    call4 e6 rfl rfl (by simp [m5]) (by simp [m6])
  have s1 : hSetF 1 (gCons (gVar 0) (gCons (gC (.int 0)) (gCons (gC (.int 3209)) (gCons (gC (.int 0)) gNil)))) [.pu A, .un, .un, .un, .un, .un, .un, .un] = .nx [.pu A, .ow [A, .int 0, .int 3209, .int 0], .un, .un, .un, .un, .un, .un] := by
    simp
  have s2 : hSet 2 (gCall F__law_pick (aSlot 1 (aCons (gPu (gCons (gC (.int 1)) (gCons (gC (.int 1)) (gCons (gC (.int 2)) (gCons (gC (.int 5)) gNil))))) aNil))) [.pu A, .ow [A, .int 0, .int 3209, .int 0], .un, .un, .un, .un, .un, .un] = .nx [.pu A, .ow r1, .pu (.int f), .un, .un, .un, .un, .un] := by
    simp [e1]
  have s3 : hSetF 3 (gLc (gItems (gCall F__law_small (aSlot 1 (aCons (gC (.int 3)) aNil)))) (kSet 4) gYes (gTup (gCons (gB dMin2 (gCons (gC (.int 20)) (gCons (g2 dMul (gVar 2) (g2 dIx (gVar 4) (gC (.int 0)))) gNil))) (gCons (gB dMin2 (gCons (g2 dIx (gVar 4) (gC (.int 1))) (gCons (g2 dIx (gVar 4) (gC (.int 2))) gNil))) (gCons (g2 dMul (gVar 2) (g2 dIx (gVar 4) (gC (.int 2)))) gNil)))) [4]) [.pu A, .ow r1, .pu (.int f), .un, .un, .un, .un, .un] = .nx [.pu A, .ow r2, .pu (.int f), .ow (us.map fun t => (ch1 f t).D), .un, .un, .un, .un] := by
    rw [e_hSetF, w1]; rfl
  have s4 : hSet 3 (gB dTupOf (gCons (gPu (gLc (gItems (gVar 3)) (kSet 4) gYes (gTup (gCons (g2 dIx (gVar 4) (gC (.int 0))) (gCons (gB dMin2 (gCons (gC (.int 60)) (gCons (g2 dMul (gVar 2) (g2 dIx (gVar 4) (gC (.int 1)))) gNil))) (gCons (g2 dIx (gVar 4) (gC (.int 2))) gNil)))) [4])) gNil)) [.pu A, .ow r2, .pu (.int f), .pu (.lst (us.map fun t => (ch1 f t).D)), .un, .un, .un, .un] = .nx [.pu A, .ow r2, .pu (.int f), .pu (.tup (ts.map Tk.D)), .un, .un, .un, .un] := by
    rw [e_hSet, e_gB, e_gCons, e_gPu, w2]; rfl
  have s5 : hSet 5 (gCall F__law_order (aSlot 1 (aCons (gB dLen (gCons (gVar 3) gNil)) aNil))) [.pu A, .ow r2, .pu (.int f), .pu (.tup (ts.map Tk.D)), .un, .un, .un, .un] = .nx [.pu A, .ow r3, .pu (.int f), .pu (.tup (ts.map Tk.D)), .un, .pu (.tup (oD os)), .un, .un] := by
    simp [hd, e3, -d_lenT]
  have s6 : hSet 6 (gCall F_greatest_scale (aCons (gVar 3) (aCons (gVar 5) aNil))) [.pu A, .pu (.lst r3), .pu (.int f), .pu (.tup (ts.map Tk.D)), .un, .pu (.tup (oD os)), .un, .un] = .nx [.pu A, .pu (.lst r3), .pu (.int f), .pu (.tup (ts.map Tk.D)), .un, .pu (.tup (oD os)), .pu (.tup [.int Pz, .int Qz]), .un] := by
    simp [e4]
  have s7 : hIf (tgOr (tgNot (gTst (g1 (dIsi "tuple") (gVar 6)))) (gTst (g2 dNe (gB dLen (gCons (gVar 6) gNil)) (gC (.int 2))))) (hRet (gC (.bl false))) hNx [.pu A, .pu (.lst r3), .pu (.int f), .pu (.tup (ts.map Tk.D)), .un, .pu (.tup (oD os)), .pu (.tup [.int Pz, .int Qz]), .un] = .nx [.pu A, .pu (.lst r3), .pu (.int f), .pu (.tup (ts.map Tk.D)), .un, .pu (.tup (oD os)), .pu (.tup [.int Pz, .int Qz]), .un] := by
    simp [hd2, -d_lenT]
  have s8 : hIf (gTst (g2 dNe (gPu (gLc (gItems (gVar 6)) (kSet 7) (tgOr (tgNot (gTst (g1 (dIsi "int") (gVar 7)))) (tgOr (gTst (g1 (dIsi "bool") (gVar 7))) (gTst (g2 dLt (gVar 7) (gC (.int 1)))))) (gVar 7) [7])) (gPu gNil))) (hRet (gC (.bl false))) hNx [.pu A, .pu (.lst r3), .pu (.int f), .pu (.tup (ts.map Tk.D)), .un, .pu (.tup (oD os)), .pu (.tup [.int Pz, .int Qz]), .un] = .nx [.pu A, .pu (.lst r3), .pu (.int f), .pu (.tup (ts.map Tk.D)), .un, .pu (.tup (oD os)), .pu (.tup [.int Pz, .int Qz]), .un] := by
    simp [g3, n1]
  have s9 : hIf (tgOr (gTst (g2 dNe (gCall F__law_common (aCons (g2 dIx (gVar 6) (gC (.int 0))) (aCons (g2 dIx (gVar 6) (gC (.int 1))) aNil))) (gC (.int 1)))) (tgNot (gTst (gCall F__law_all_met (aCons (gVar 3) (aCons (gVar 5) (aCons (g2 dIx (gVar 6) (gC (.int 0))) (aCons (g2 dIx (gVar 6) (gC (.int 1))) aNil)))))))) (hRet (gC (.bl false))) hNx [.pu A, .pu (.lst r3), .pu (.int f), .pu (.tup (ts.map Tk.D)), .un, .pu (.tup (oD os)), .pu (.tup [.int Pz, .int Qz]), .un] = .nx [.pu A, .pu (.lst r3), .pu (.int f), .pu (.tup (ts.map Tk.D)), .un, .pu (.tup (oD os)), .pu (.tup [.int Pz, .int Qz]), .un] :=
    or_no (ne_one (call2 e9' (by simp) (by simp))) (not_yes e5')
  have s10 : hRet (gNot (gCall F__law_all_met (aCons (gVar 3) (aCons (gVar 5) (aCons (g2 dAdd (g2 dMul (g2 dIx (gVar 6) (gC (.int 0))) (gC (.int 100000))) (gC (.int 1))) (aCons (g2 dMul (g2 dIx (gVar 6) (gC (.int 1))) (gC (.int 100000))) aNil)))))) [.pu A, .pu (.lst r3), .pu (.int f), .pu (.tup (ts.map Tk.D)), .un, .pu (.tup (oD os)), .pu (.tup [.int Pz, .int Qz]), .un] = .rt (.bl true) [.pu A, .pu (.lst r3), .pu (.int f), .pu (.tup (ts.map Tk.D)), .un, .pu (.tup (oD os)), .pu (.tup [.int Pz, .int Qz]), .un] := by
    rw [e_hRet, e_gNot, e6']; rfl
  refine ⟨_, runN_rt (g := [.pu A, .pu (.lst r3), .pu (.int f), .pu (.tup (ts.map Tk.D)), .un, .pu (.tup (oD os)), .pu (.tup [.int Pz, .int Qz]), .un]) ?_ rfl⟩
  show h_law [.pu A, .un, .un, .un, .un, .un, .un, .un] = _
  unfold h_law
  rw [e_hSeq, s1, Out.bind_nx, e_hSeq, s2, Out.bind_nx, e_hSeq, s3, Out.bind_nx]
  show (hSeq _ _) [.pu A, .ow r2, .pu (.int f), .pu (.lst (us.map fun t => (ch1 f t).D)), .un, .un, .un, .un] = _
  rw [e_hSeq, s4, Out.bind_nx, e_hSeq, s5, Out.bind_nx]
  show (hSeq _ _) [.pu A, .pu (.lst r3), .pu (.int f), .pu (.tup (ts.map Tk.D)), .un, .pu (.tup (oD os)), .un, .un] = _
  rw [e_hSeq, s6, Out.bind_nx, e_hSeq, s7, Out.bind_nx, e_hSeq, s8, Out.bind_nx, e_hSeq, s9, Out.bind_nx, s10]
end Tx

theorem PySem.Challenge.cw_eventcore_k09_whole_scales_holds : PySem.Challenge.rw_eventcore_k09_whole_scales.Holds := by
  exact Tx.holds_of Tx.law_math
