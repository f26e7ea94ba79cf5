import PyProof.Rows.All
import Wide.All
import OpenK.AllK
import Wide.FinOn
import PyProof.EqAt
import PyProof.EqKinds
import HandS.ForMost
import HandS.Lambda
import PyProof.FactsAll.NoneType_1
import HandS.ForExc
import HandS.Wide
import HandS.IsInst
import HandS.TupAny
import HandS.Gcd
import HandS.Flow
import HandS.HeadHook4
import HandS.TupMul
import HandS.Conv
import HandS.Sort
import PyProof.ListRange
import KE.GoesEnum
import HandS.Iter
import HandS.Zip
import HandS.Defaults
import HandS.ExcOwn
import KE.KMathG
import PyProof.TupleOfSeq
import HandS.Ends
import HandS.HeadEnd
import HandS.Words
import HandS.WordsExc
import HandS.Head0
import HandS.Head1
import HandS.Head2
import HandS.HeadHook1
import HandS.HeadHook2
import HandS.Star
import HandS.Deep
import HandS.Rev
import HandS.RevRange
import HandS.SetFor
import HandS.Style
import HandS.Call
import KE.DataMinMax
import KE.SortData
import PyProof.P3Eq
import PyProof.SumAny
import HandS.SortKw
import KE.DataMinKey
import PyProof.WalkInts
import HandS.HeadWalk
import KE.KIndexOf
import HandS.NoneIn
import HandS.ExcInit
import HandS.ExcField
import HandS.ExcIs
import HandS.FStr
import HandS.TryOnly
import KE.KExcSuper
import PyProof.StrOps2
import PyProof.MakeMany
import KE.SortKeyed
import KE.KSortKey
import HandS.Keys
import HandS.Strs
import PySem.Challenge.RW_eventcore_k46_interrupted_refused
set_option Elab.async false
set_option linter.all false
set_option maxRecDepth 100000
set_option maxHeartbeats 2000000
/-! ### dicts whose keys are None and ints, whose values are ints -/
namespace Fv
open PySem PySem.Spec PyProof.Rows L2
abbrev Ky := Option Int
def nIs : Ky → Value → Bool
  | .none, .none => true
  | some i, v => v.isInt i
  | _, _ => false
def hNone : Int := 0xFCA86420
def nH : Ky → Int
  | .none => hNone
  | some i => hashInt i
theorem nIs_shape : ∀ {k : Ky} {v : Value}, nIs k v = true → (k = .none ∧ v = .none) ∨ ∃ i t, k = some i ∧ v = .int i t
  | .none, v, h => by
    cases v <;> first
      | exact .inl ⟨rfl, rfl⟩
      | exact absurd h Bool.false_ne_true
  | some i, v, h => by
    obtain ⟨t, e⟩ := Value.isInt_shape (k := i) (v := v) h
    exact .inr ⟨i, t, rfl, e⟩
theorem pyHash_none {prog : Program} {w : World} {A : Around} {E : Value → Shared → Prop} {s : Shared} {Q : Int → Shared → Prop} (h : Q hNone { s with toks := s.toks + 1 }) :
    wpAny (model prog w) A (pyHash .none) Q E s := by
  have hT : s.TypeIs .none "NoneType" := rfl
  unfold pyHash
  have hv : [Value.none].any Value.onHeap = false := rfl
  refine wpAny_bind ?_
  rw [cRoomFor, if_neg (by rw [hv]; exact Bool.false_ne_true)]; refine wpAny_pure ?_
  refine wpAny_bind (wpAny_specialOf hT PySem.F.slot_NoneType_hash.lookup ?_)
  show wpAny _ _ (if (some (Value.builtin "NoneType.__hash__") == some Value.none) = true then _ else _) Q E s
  rw [if_neg (by rw [beq_builtin_none]; exact Bool.false_ne_true)]
  refine wpAny_bind (wpAny_specialOf hT PySem.F.slot_NoneType_hash.lookup ?_)
  show wpAny _ _ (callSpecialIfBoundUnlessNone? .none "__hash__" _ >>= _) Q E s
  refine wpAny_bind (wpAny_callSpecialIfBoundUnlessNone?_slot hT PySem.F.slot_NoneType_hash
    (wpAny_call_entry PySem.F.slot_NoneType_hash hT PySem.F.entry_NoneType_hash
      (show wpAny _ _ (do ret (← mkInt 0xFCA86420)) _ _ s from wpAny_ret_mkInt ?_) (PySem.F.args_NoneType_hash_1 _)))
  exact wpAny_pure h
theorem key_ss (a b : Int) : decide ((some a : Ky) = some b) = (a == b) := by
  by_cases e : a = b
  · subst e; simp
  · rw [decide_eq_false (fun q => e (Option.some.inj q))]
    exact (beq_eq_false_iff_ne.mpr e).symm
def nKind (prog : Program) (w : World) : PySem.KeyKind prog w Ky where
  is := nIs
  hash := nH
  inj := fun v a b ha hb => by
    rcases nIs_shape ha with ⟨rfl, rfl⟩ | ⟨i, t, rfl, rfl⟩
    · rcases nIs_shape hb with ⟨rfl, e⟩ | ⟨j, u, rfl, e⟩
      · rfl
      · exact nomatch e
    · rcases nIs_shape hb with ⟨rfl, e⟩ | ⟨j, u, rfl, e⟩
      · exact nomatch e
      · injection e with e1 _; rw [e1]
  byValue := fun k v h => by
    rcases nIs_shape h with ⟨rfl, rfl⟩ | ⟨i, t, rfl, rfl⟩ <;> rfl
  pyHash := fun hv h => by
    rcases nIs_shape hv with ⟨rfl, rfl⟩ | ⟨i, t, rfl, rfl⟩
    · exact pyHash_none h
    · exact wpAny_pyHash_int h
  eqBool := fun {A E s a b u v Q} hu hv h => by
    rcases nIs_shape hu with ⟨rfl, rfl⟩ | ⟨i, t, rfl, rfl⟩
    · rcases nIs_shape hv with ⟨rfl, rfl⟩ | ⟨j, w', rfl, rfl⟩
      · exact SeqAt.EqAt.same .none _ _ _ _ (by rw [decide_eq_true rfl] at h; exact h)
      · exact SeqAt.EqAt.none_int j w' _ _ _ _ (by rw [decide_eq_false (fun q => nomatch q)] at h; exact h)
    · rcases nIs_shape hv with ⟨rfl, rfl⟩ | ⟨j, w', rfl, rfl⟩
      · exact SeqAt.EqAt.int_none i t _ _ _ _ (by rw [decide_eq_false (fun q => nomatch q)] at h; exact h)
      · rw [key_ss] at h; exact wpAny_eqBool_int h
  «strs» := fun k x t v h => by
    rcases nIs_shape h with ⟨rfl, e⟩ | ⟨i, u, rfl, e⟩
    · exact nomatch e
    · exact nomatch e
/-! what such a dict is -/
abbrev DL := List (Ky × Int)
def lV (l : DL) : List (Ky × V) := l.map fun p => (p.1, .int p.2)
def getO (l : DL) (k : Ky) : Option Int := (l.find? fun p => decide (p.1 = k)).map (·.2)
def putO' (l : DL) (k : Ky) (v : Int) : DL := if (l.any fun p => decide (p.1 = k)) = true then l.map (fun p => if p.1 = k then (p.1, v) else p) else l ++ [(k, v)]
theorem lV_get {l : DL} {k : Ky} : valV (lV l) k = (getO l k).map V.int := by
  unfold valV lV getO
  rw [List.find?_map, Option.map_map, Option.map_map]
  rfl
theorem lV_put {l : DL} {k : Ky} {v : Int} : putK (lV l) k (.int v) = lV (putO' l k v) := by
  unfold putK putO' lV
  rw [List.any_map]
  have e : (l.any ((fun kv : Ky × V => decide (kv.1 = k)) ∘ fun p : Ky × Int => (p.1, V.int p.2))) = l.any fun p => decide (p.1 = k) := rfl
  rw [e]
  split
  · rw [List.map_map, List.map_map]
    refine List.map_congr_left fun p _ => ?_
    show (if p.1 = k then (p.1, V.int v) else (p.1, V.int p.2)) = (fun q : Ky × Int => (q.1, V.int q.2)) (if p.1 = k then (p.1, v) else p)
    split <;> rfl
  · rw [List.map_append]; rfl
theorem lV_len {l : DL} : (lV l).length = l.length := List.length_map ..
theorem putO_len {l : DL} {k : Ky} {v : Int} : (putO' l k v).length ≤ l.length + 1 := by
  unfold putO'
  split
  · rw [List.length_map]; omega
  · simp
def DcR (a : Addr) (l : DL) (h : Heap) : Prop := l.length ≤ sizeLine ∧ (a == sysModules) = false ∧ ∃ vs, KV (lV l) vs ∧ ∃ (P : Program) (w : World), h.DictOf (nKind P w) a vs
def dctO (a : Addr) (l : DL) : HO := .ext (DcR a l)
theorem pairs_any {P P' : Program} {w w' : World} : ∀ {es : List DictEntry} {vs : List (Ky × Value)}, PySem.Pairs (nKind P w) es vs → PySem.Pairs (nKind P' w') es vs
  | _, _, .nil => .nil
  | _, _, .cons h1 h2 t => .cons h1 h2 (pairs_any t)
theorem dict_any {P P' : Program} {w w' : World} {h : Heap} {a : Addr} {vs : List (Ky × Value)} (d : h.DictOf (nKind P w) a vs) : h.DictOf (nKind P' w') a vs := by
  obtain ⟨o, es, ep, h1, h2, h3, h4, h5, h6⟩ := d
  exact ⟨o, es, ep, h1, h2, h3, h4, pairs_any h5, h6⟩
theorem DcR.at {a : Addr} {l : DL} {h h' : Heap} (r : DcR a l h) (k : ∀ o, h.get? a = some o → h'.get? a = some o) : DcR a l h' := by
  obtain ⟨z, hd, vs, kv, d⟩ := r
  obtain ⟨P, w, o, es, ep, h1, r⟩ := d
  exact ⟨z, hd, vs, kv, P, w, o, es, ep, k o h1, r⟩
theorem dc_new {P : Program} {w : World} {H : Hp} {a : Addr} {l : DL} {h : Heap} (r : DcR a l h) : ObjOk P w H h a (dctO a l) := by
  refine ⟨r, ?_, fun h1 h2 q k => q.at k⟩
  obtain ⟨_, _, _, _, _, _, o, _, _, h1, _⟩ := r
  exact ⟨o, h1⟩
theorem dc_empty {P : Program} {w : World} {H : Hp} (h : Heap) (hb : sysModules < h.objs.size) : ObjOk P w H (h.push { cls := .type "dict", data := .dict #[] }) h.objs.size (dctO h.objs.size []) :=
  dc_new ⟨Nat.zero_le _, beq_eq_false_iff_ne.mpr (Ne.symm (Nat.ne_of_lt hb)), [], .nil, P, w, Heap.DictOf.new h⟩
def kO : Ky → V
  | .none => .non
  | some i => .int i
theorem kO_is {k : Ky} {u : Value} (r : RelV (kO k) u) : nIs k u = true := by
  cases k with
  | none =>
    have e : u = .none := r
    subst e; rfl
  | some i =>
    obtain ⟨t, e⟩ := (show ∃ t, u = Value.int i t from r)
    subst e
    simp [nIs, Value.isInt]
section
variable {X : Cx} {pins : List (Addr × Obj)} {σ : L2.St} {H : Hp} {s : Shared} {a : Addr} {l : DL} {k : Ky} {u r : Value} {A : Around} {E : Value → Shared → Prop}
theorem dc_of (I : Inv X pins σ H s) (e : Rd H a (dctO a l)) : DcR a l s.heap := by
  have := e.ok I.hok
  exact this.1
theorem nd_get {v : Int} {Q : Value → Shared → Prop} (I : Inv X pins σ H s) (e : Rd H a (dctO a l)) (ry : RelV (kO k) u) (hv : getO l k = some v) (h : ∀ w' s', Inv X pins σ H s' → RelV (.int v) w' → Q w' s') :
    wpAny (model X.prog X.w) A (getItem (.ref a) u) Q E s := by
  obtain ⟨z, hd, vs, rel, _, _, dd⟩ := dc_of I e
  have dd := dict_any (P' := X.prog) (w' := X.w) dd
  obtain ⟨w', hw, rw'⟩ := RelO.some_of (v := .int v) (o := valueAt vs k) (by
    have := rel.val k
    rw [lV_get, hv] at this
    exact this)
  exact wpAny_getItem_of (knd := nKind X.prog X.w) (kO_is ry) dd.mapOf hw (h w' _ (I.tok _) rw')
theorem nd_set {v : Int} {Q : Unit → Shared → Prop} (I : Inv X pins σ H s) (e : H a = some (dctO a l)) (ry : RelV (kO k) u) (rv : RelV (.int v) r) (hl : l.length < sizeLine) (h : ∀ s', Inv X pins σ (upd H a (dctO a (putO' l k v))) s' → Q () s') :
    wpAny (model X.prog X.w) A (setItem (.ref a) u r) Q E s := by
  obtain ⟨z, hd, vs, rel, _, _, dd⟩ := dc_of I (.inl e)
  have dd := dict_any (P' := X.prog) (w' := X.w) dd
  have hz : vs.length ≤ sizeLine := by rw [← rel.length, lV_len]; exact z
  have hl' : (putO' l k v).length ≤ sizeLine := by have := putO_len (l := l) (k := k) (v := v); omega
  refine wpAny_setItem_pairs (knd := nKind X.prog X.w) (hsz := hz) (kO_is ry) dd fun h' dd' hs => h _ ?_
  have he : ∃ q, h'.get? a = some q := let ⟨q, _, _, hq, _⟩ := dd'; ⟨q, hq⟩
  have rel' := rel.put k rv
  rw [lV_put] at rel'
  exact d_write I (by rw [e]; exact True.intro) hs he (dc_new ⟨hl', hd, _, rel', _, _, dd'⟩)
theorem nd_type (I : Inv X pins σ H s) (e : Rd H a (dctO a l)) : s.TypeIs (.ref a) "dict" := by
  obtain ⟨_, _, vs, _, _, _, dd⟩ := dc_of I e
  exact dd.typeIs
end
/-- {} -/
def tNNew : TE := fun _ H Q => ∀ p, H p = none → Q (.ref p) (upd H p (dctO p []))
/-- d[y] -/
def tNGet (td ty : TE) : TE := fun σ H Q => td σ H fun x H1 => ty σ H1 fun y H2 => ∃ a l k v, x = .ref a ∧ Rd H2 a (dctO a l) ∧ y = kO k ∧ getO l k = some v ∧ Q (.int v) H2
/-- d[y] = v -/
def sNPut (td ty tv : TE) : TS := fun D σ H => tv σ H fun v H1 => td σ H1 fun x H2 => ty σ H2 fun y H3 => ∃ a l k n, x = .ref a ∧ H3 a = some (dctO a l) ∧ y = kO k ∧ v = .int n ∧ l.length < sizeLine ∧ D.nx σ (upd H3 a (dctO a (putO' l k n)))
/-- a statement behind which the dict is written no more -/
def sFrz (t : TS) : TS := fun D σ H => t { D with nx := fun σ' H' => ∃ a l, H' a = some (dctO a l) ∧ ∀ o, D.nx σ' (upd H' a (.frz o (dctO a l))) } σ H
section
variable {X : Cx} {o i e value : Expr} {pos pos' tpos : Pos} {td ty tv : TE} {st : Stmt} {t : TS}
theorem pe_nnew : PE X (.Dict [] [] pos) tNNew := ⟨fun pins s σ H Q I h =>
  wpAny_Dict_empty ⟨.ref s.heap.objs.size, _, I.laid (a := s.heap.objs.size) (o := dctO s.heap.objs.size []) (t' := s.toks) (fun _ _ q => Heap.get?_push_of_some _ q) (Nat.le_refl _) (dc_empty s.heap I.big), rfl, h _ (I.hok.fresh (Nat.le_refl _))⟩⟩
theorem pe_nget (ho : PE X o td) (hi : PE X i ty) (hs : NoSl i) : PE X (.Subscript o i pos) (tNGet td ty) := by
  refine ⟨fun pins s σ H Q I h => ?_⟩
  refine subD_of PySem.F.slot_dict_getitem.lookup hs (thn (ho.run pins s σ H _ I h) fun u s1 ⟨x, H1, I1, rx, q1⟩ => thn (hi.run pins s1 σ H1 _ I1 q1) fun iv s2 ⟨y, H2, I2, ry, a, l, k, v, ex, g, ey, hv, q2⟩ => ?_)
  subst ex ey
  obtain rfl : u = Value.ref a := rx
  exact ⟨nd_type I2 g, nd_get I2 g ry hv fun w' s3 I3 rw' => ⟨.int v, H2, I3, rw', q2⟩⟩
theorem ps_nput (ho : PE X o td) (hi : PE X i ty) (hv : PE X value tv) (hs : swapsWith value (some (.Subscript o i pos')) pos.line X.env = pure false) :
    PS X (.Assign [.Subscript o i pos'] value pos) (sNPut td ty tv) := by
  refine ⟨fun pins s σ H D I h => ?_⟩
  refine wpAny_Assign_Subscript (thn (hv.run pins s σ H _ I h) fun r s1 ⟨v, H1, I1, rv, q1⟩ => thn (ho.run pins s1 σ H1 _ I1 q1) fun u s2 ⟨x, H2, I2, rx, q2⟩ => thn (hi.run pins s2 σ H2 _ I2 q2) fun iv s3 ⟨y, H3, I3, ry, a, l, k, n, ex, g, ey, ev, hl, q3⟩ => ?_) hs
  subst ex ey ev
  obtain rfl : u = Value.ref a := rx
  exact nd_set I3 g ry rv hl fun s4 I4 => ⟨σ, _, I4, q3⟩
theorem ps_frz (h : PS X st t) : PS X st (sFrz t) := by
  refine ⟨fun pins s σ H D I hw => ?_⟩
  refine thn (h.run pins s σ H _ I hw) fun f s' q => ?_
  cases f with
  | next =>
    obtain ⟨σ', H', I', a, l, e, q⟩ := q
    have ok := I'.hok a _ e
    obtain ⟨_, ⟨o, ho⟩, _⟩ := id ok
    refine ⟨σ', _, I'.write (x := a) (e := a) (h' := s'.heap) (t' := s'.toks) (by rw [e]; exact True.intro) (.inl rfl) (fun _ _ _ z => z) ⟨o, ho⟩ (o := .frz o (dctO a l)) ⟨ho, ok⟩, q o⟩
  | _ => exact q
end
/-- no dict is a code object -/
theorem get_full (vs : Array Value) (a : Addr) : ({ objs := Array.replicate (a + 1) { cls := .none, data := .fields vs } } : Heap).get? a = some { cls := .none, data := .fields vs } := by
  unfold Heap.get?
  simp
theorem dct_code {a : Addr} {l : DL} {q : Str} : dctO a l ≠ LamX.CodeO a q := fun z => by
  have e : DcR a l = fun h => ∃ (oc : Obj) (vs : Array Value) (t : Tok), h.get? a = some oc ∧ oc.data = .fields vs ∧ vs[1]? = some (.str q t) := by injection z
  have g := get_full #[.none, .str q 0] a
  have r : DcR a l { objs := Array.replicate (a + 1) { cls := .none, data := .fields #[.none, .str q 0] } } := by
    rw [e]
    exact ⟨_, _, 0, g, rfl, rfl⟩
  obtain ⟨_, _, _, _, _, _, o, es, ep, h1, _, h2, _⟩ := r
  rw [g] at h1
  cases h1
  cases h2
end Fv

namespace Fv
open PySem L2

/-! pure data, and how a value of the machine stands for it -/
/-- an object that is only looked at: an empty dict, a range -/
inductive Ob where
  | emp | rng (lo hi : Int) | exn (a : Addr) (d : Option Addr) (fs : Option (Str × Option Int)) | dct (l : DL)
deriving DecidableEq
def obH : Ob → HO
  | .emp => .dK []
  | .rng lo hi => .rng lo hi
  | .exn _ _ _ => .dK []
  | .dct _ => .dK []
theorem obH_tbl : ∀ (o : Ob) (ps : Array Value), obH o ≠ .tbl ps
  | .emp, _, z => nomatch z
  | .rng _ _, _, z => nomatch z
  | .exn _ _ _, _, z => nomatch z
  | .dct _, _, z => nomatch z
theorem obH_lst : ∀ (o : Ob) (xs : List V), obH o ≠ .lst xs
  | .emp, _, z => nomatch z
  | .rng _ _, _, z => nomatch z
  | .exn _ _ _, _, z => nomatch z
  | .dct _, _, z => nomatch z
inductive D where
  | non | bl (b : Bool) | int (i : Int) | str (x : Str) | lst (l : List D) | tup (l : List D) | ob (o : Ob)

/-- a configuration: the lists that may still be written, the tracked heap -/
structure Cf where
  M : Addr → Prop
  H : Hp

def LstAt (K : PySem.W.Frag) (c : Cf) (a : Addr) (xs : List V) : Prop := (Rd c.H a (.lst xs) ∧ ¬ c.M a) ∨ SqL K (fun _ => none) a xs
/-- a tuple that was made at run time: its object is known, it has no dict of its own -/
def TpN (H : Hp) (a : Addr) (xs : List V) : Prop := ∃ o : Obj, H a = some (.frz o (.tup xs)) ∧ o.dict = none
theorem TpN.sq {K : PySem.W.Frag} {H : Hp} {a : Addr} {xs : List V} (h : TpN H a xs) : SqT K H a xs := let ⟨o, e, _⟩ := h; .inl (.inr ⟨o, e⟩)
/-- a field of an error -/
def oiV : Option Int → V
  | none => .non
  | some i => .int i
/-- the error at hand: its object is at a, its dict at d -/
def ExO (H : Hp) (d : Option Addr) : Option (Str × Option Int) → Prop
  | none => d = none
  | some (f, i) => ∃ dd, d = some dd ∧ H dd = some (.xd [(f, oiV i)])
def ObDen (H : Hp) : Ob → V → Prop
  | .exn a d fs, v => v = .ref a ∧ ExO H d fs
  | .emp, v => ∃ a, v = .ref a ∧ H a = some (obH .emp)
  | .rng lo hi, v => ∃ a, v = .ref a ∧ H a = some (obH (.rng lo hi))
  | .dct l, v => ∃ a o, v = .ref a ∧ H a = some (.frz o (dctO a l))
theorem ObDen.map {H H' : Hp} (ho : ∀ a o, H a = some (obH o) → H' a = some (obH o)) (hx : ∀ a fs, H a = some (.xd fs) → H' a = some (.xd fs)) (hz : ∀ a o l, H a = some (.frz o (dctO a l)) → H' a = some (.frz o (dctO a l))) : ∀ {o : Ob} {v : V}, ObDen H o v → ObDen H' o v
  | .exn a d none, v, h => h
  | .exn a d (some (f, i)), v, ⟨e, dd, e1, e2⟩ => ⟨e, dd, e1, hx _ _ e2⟩
  | .emp, v, ⟨a, e, q⟩ => ⟨a, e, ho a .emp q⟩
  | .rng lo hi, v, ⟨a, e, q⟩ => ⟨a, e, ho a (.rng lo hi) q⟩
  | .dct l, v, ⟨a, o, e, q⟩ => ⟨a, o, e, hz a o l q⟩
theorem ObDen.ref {H : Hp} : ∀ {o : Ob} {v : V}, ObDen H o v → ∃ a, v = .ref a
  | .exn a _ _, _, h => ⟨a, h.1⟩
  | .emp, _, ⟨a, e, _⟩ => ⟨a, e⟩
  | .rng _ _, _, ⟨a, e, _⟩ => ⟨a, e⟩
  | .dct _, _, ⟨a, _, e, _⟩ => ⟨a, e⟩
mutual
def Den (K : PySem.W.Frag) (c : Cf) : D → V → Prop
  | .non, v => v = .non
  | .bl b, v => v = .bl b
  | .int i, v => v = .int i
  | .str x, v => v = .str x
  | .lst l, v => ∃ a xs, v = .ref a ∧ LstAt K c a xs ∧ Dens K c l xs
  | .tup l, v => ∃ a xs, v = .ref a ∧ TpN c.H a xs ∧ Dens K c l xs
  | .ob o, v => ObDen c.H o v
def Dens (K : PySem.W.Frag) (c : Cf) : List D → List V → Prop
  | [], vs => vs = []
  | d :: l, vs => ∃ x r, vs = x :: r ∧ Den K c d x ∧ Dens K c l r
end
def WF (c : Cf) : Prop := ∀ a, c.M a → ∃ xs, c.H a = some (.lst xs)
/-- the tables that grow: where, and the name of each lambda in them -/
class LamC where
  tabs : List (Addr × Str)
def tabsOf (K : PySem.W.Frag) (names : List Str) : List (Addr × Str) := names.map fun n => ((He.cT K (n, none)).2, n ++ ".<locals>." ++ "<lambda>")
variable [LC : LamC]
structure Ext (S : Addr → Prop) (c c' : Cf) : Prop where
  m1 : ∀ a, c.M a → c'.M a
  m2 : ∀ a, c'.M a → c.M a ∨ c.H a = none
  h : ∀ a o, c.H a = some o → ¬ (c.M a ∧ S a) → (∀ ps, o ≠ .tbl ps) → c'.H a = some o
  ht : ∀ a ps, c.H a = some (.tbl ps) → ∃ ps', c'.H a = some (.tbl ps')
  tb : ∀ p ∈ LC.tabs, LamX.TabS c.H p.1 p.2 → LamX.TabS c'.H p.1 p.2
abbrev Nop : Addr → Prop := fun _ => False

theorem Ext.refl {S : Addr → Prop} {c : Cf} : Ext S c c := ⟨fun _ z => z, fun _ z => .inl z, fun _ _ z _ _ => z, fun _ ps z => ⟨ps, z⟩, fun _ _ z => z⟩
theorem tbl_or (o : HO) : (∃ ps, o = .tbl ps) ∨ ∀ ps, o ≠ .tbl ps := by
  by_cases h : ∃ ps, o = .tbl ps
  · exact .inl h
  · exact .inr fun ps z => h ⟨ps, z⟩
theorem Ext.hasS {S : Addr → Prop} {c c' : Cf} (w' : WF c') (x : Ext S c c') {a : Addr} {o : HO} (e : c.H a = some o) : ∃ o', c'.H a = .some o' := by
  by_cases m : c.M a
  · obtain ⟨xs, q⟩ := w' a (x.m1 a m)
    exact ⟨_, q⟩
  · rcases tbl_or o with ⟨ps, rfl⟩ | t
    · obtain ⟨ps', q⟩ := x.ht a ps e
      exact ⟨_, q⟩
    · exact ⟨o, x.h a o e (fun z => m z.1) t⟩
theorem Ext.noneS {S : Addr → Prop} {c c' : Cf} (w' : WF c') (x : Ext S c c') {a : Addr} (e : c'.H a = none) : c.H a = none := by
  cases q : c.H a with
  | none => rfl
  | some o =>
    obtain ⟨o', z⟩ := x.hasS w' q
    rw [e] at z
    cases z
theorem Ext.trans {S : Addr → Prop} {c c1 c2 : Cf} (w1 : WF c1) (x : Ext S c c1) (y : Ext S c1 c2) : Ext S c c2 := by
  refine ⟨fun a z => y.m1 a (x.m1 a z), fun a z => ?_, fun a o e n t => ?_, fun a ps e => ?_, fun P q z => y.tb P q (x.tb P q z)⟩
  · rcases y.m2 a z with q | q
    · exact x.m2 a q
    · exact .inr (x.noneS w1 q)
  · refine y.h a o (x.h a o e n t) (fun z => n ⟨?_, z.2⟩) t
    rcases x.m2 a z.1 with q | q
    · exact q
    · rw [e] at q; cases q
  · obtain ⟨ps', q⟩ := x.ht a ps e
    exact y.ht a ps' q
theorem Ext.mono {S T : Addr → Prop} {c c' : Cf} (x : Ext S c c') (h : ∀ a, c.M a → S a → T a) : Ext T c c' :=
  ⟨x.m1, x.m2, fun a o e n => x.h a o e fun z => n ⟨z.1, h a z.1 z.2⟩, x.ht, x.tb⟩
theorem Ext.nop {S : Addr → Prop} {c c' : Cf} (x : Ext Nop c c') : Ext S c c' := x.mono fun _ _ z => z.elim
/-- all that stands stays -/
theorem Ext.stay {S : Addr → Prop} {c c' : Cf} (m1 : ∀ a, c.M a → c'.M a) (m2 : ∀ a, c'.M a → c.M a ∨ c.H a = none) (h : ∀ a o, c.H a = some o → c'.H a = some o) : Ext S c c' :=
  ⟨m1, m2, fun a o e _ _ => h a o e, fun a ps e => ⟨ps, h a _ e⟩, fun _ _ z => z.ext h⟩
theorem tab_put {H H' : Hp} {p P : Addr} {q : Str} {xs : List V} (hp : H p = some (.lst xs)) (k : ∀ b o, b ≠ p → H b = some o → H' b = some o) (t : LamX.TabS H P q) : LamX.TabS H' P q := by
  obtain ⟨ps, h1, h2, h3⟩ := t
  have n1 : P ≠ p := fun z => by rw [z, hp] at h1; cases h1
  refine ⟨ps, k _ _ n1 h1, h2, fun pos cv hc => ?_⟩
  obtain ⟨c, e1, e2⟩ := h3 pos cv hc
  have n2 : c ≠ p := fun z => by rw [z, hp] at e2; cases e2
  exact ⟨c, e1, k _ _ n2 e2⟩
/-- one list is written -/
theorem Ext.put {S : Addr → Prop} {c c' : Cf} {p : Addr} {xs : List V} (m1 : ∀ a, c.M a → c'.M a) (m2 : ∀ a, c'.M a → c.M a ∨ c.H a = none) (hp : c.H p = some (.lst xs)) (hs : c.M p ∧ S p) (k : ∀ b o, b ≠ p → c.H b = some o → c'.H b = some o) : Ext S c c' :=
  ⟨m1, m2, fun a o e n _ => k a o (fun z => n (z ▸ hs)) e, fun a ps e => ⟨ps, k a _ (fun z => by rw [z, hp] at e; cases e) e⟩, fun _ _ z => tab_put hp k z⟩

theorem rd_of {c : Cf} {a : Addr} {u : HO} (r : Rd c.H a u) : ∃ o, c.H a = some o := by
  rcases r with r | ⟨o, r⟩
  · exact ⟨_, r⟩
  · exact ⟨_, r⟩
theorem rd_keep {c c' : Cf} {a : Addr} {u : HO} (r : Rd c.H a u) (hu : ∀ ps, u ≠ .tbl ps) (h : ∀ o, c.H a = some o → (∀ ps, o ≠ .tbl ps) → c'.H a = some o) : Rd c'.H a u := by
  rcases r with r | ⟨o, r⟩
  · exact .inl (h _ r hu)
  · exact .inr ⟨o, h _ r fun _ z => by cases z⟩
theorem LstAt.sq {K : PySem.W.Frag} {c : Cf} {a : Addr} {xs : List V} (h : LstAt K c a xs) : SqL K c.H a xs := by
  rcases h with ⟨h, _⟩ | (h | ⟨o, h⟩) | h
  · exact .inl h
  · exact nomatch (show (Option.none : Option HO) = _ from h)
  · exact nomatch (show (Option.none : Option HO) = _ from h)
  · exact .inr h
theorem LstAt.ext {K : PySem.W.Frag} {S : Addr → Prop} {c c' : Cf} (w : WF c) (x : Ext S c c') {a : Addr} {xs : List V} (h : LstAt K c a xs) : LstAt K c' a xs := by
  rcases h with ⟨h, n⟩ | h
  · refine .inl ⟨rd_keep h (fun _ z => by cases z) fun o e t => x.h a o e (fun z => n z.1) t, fun z => ?_⟩
    rcases x.m2 a z with q | q
    · exact n q
    · obtain ⟨o, e⟩ := rd_of h
      rw [e] at q; cases q
  · exact .inr h
theorem SqT_ext {K : PySem.W.Frag} {S : Addr → Prop} {c c' : Cf} (w : WF c) (x : Ext S c c') {a : Addr} {xs : List V} (h : SqT K c.H a xs) : SqT K c'.H a xs := by
  rcases h with h | h
  · refine .inl (rd_keep h (fun _ z => by cases z) fun o e t => x.h a o e (fun z => ?_) t)
    obtain ⟨ys, q⟩ := w a z.1
    rcases h with h | ⟨ob, h⟩
    · rw [q] at h; cases h
    · rw [q] at h; cases h
  · exact .inr h
theorem TpN_ext {S : Addr → Prop} {c c' : Cf} (w : WF c) (x : Ext S c c') {a : Addr} {xs : List V} (h : TpN c.H a xs) : TpN c'.H a xs := by
  obtain ⟨o, e, d⟩ := h
  refine ⟨o, x.h a _ e (fun z => ?_) (fun _ z => by cases z), d⟩
  obtain ⟨ys, q⟩ := w a z.1
  rw [e] at q
  cases q
mutual
theorem Den.mapD {K : PySem.W.Frag} {c c' : Cf} (hl : ∀ a xs, LstAt K c a xs → LstAt K c' a xs) (ht : ∀ a xs, TpN c.H a xs → TpN c'.H a xs) (ho : ∀ a o, c.H a = some (obH o) → c'.H a = some (obH o)) (hx : ∀ a fs, c.H a = some (.xd fs) → c'.H a = some (.xd fs)) (hz : ∀ a o l, c.H a = some (.frz o (dctO a l)) → c'.H a = some (.frz o (dctO a l))) : ∀ (d : D) (v : V), Den K c d v → Den K c' d v
  | .non, _, h => h
  | .bl _, _, h => h
  | .int _, _, h => h
  | .str _, _, h => h
  | .lst l, v, h => by
    obtain ⟨a, xs, e, q, r⟩ := h
    exact ⟨a, xs, e, hl a xs q, Dens.mapD hl ht ho hx hz l xs r⟩
  | .tup l, v, h => by
    obtain ⟨a, xs, e, q, r⟩ := h
    exact ⟨a, xs, e, ht a xs q, Dens.mapD hl ht ho hx hz l xs r⟩
  | .ob o, v, h => by
    exact ObDen.map ho hx hz h
theorem Dens.mapD {K : PySem.W.Frag} {c c' : Cf} (hl : ∀ a xs, LstAt K c a xs → LstAt K c' a xs) (ht : ∀ a xs, TpN c.H a xs → TpN c'.H a xs) (ho : ∀ a o, c.H a = some (obH o) → c'.H a = some (obH o)) (hx : ∀ a fs, c.H a = some (.xd fs) → c'.H a = some (.xd fs)) (hz : ∀ a o l, c.H a = some (.frz o (dctO a l)) → c'.H a = some (.frz o (dctO a l))) : ∀ (l : List D) (vs : List V), Dens K c l vs → Dens K c' l vs
  | [], _, h => h
  | d :: l, vs, h => by
    obtain ⟨x, r, e, p, q⟩ := h
    exact ⟨x, r, e, Den.mapD hl ht ho hx hz d x p, Dens.mapD hl ht ho hx hz l r q⟩
end
theorem ob_ext {S : Addr → Prop} {c c' : Cf} (w : WF c) (x : Ext S c c') {a : Addr} {o : Ob} (h : c.H a = some (obH o)) : c'.H a = some (obH o) :=
  x.h a _ h (fun z => by
    obtain ⟨ys, q⟩ := w a z.1
    rw [h] at q
    exact obH_lst o ys (Option.some.inj q)) (obH_tbl o)
theorem xd_ext {S : Addr → Prop} {c c' : Cf} (w : WF c) (x : Ext S c c') {a : Addr} {fs : List (Str × V)} (h : c.H a = some (.xd fs)) : c'.H a = some (.xd fs) :=
  x.h a _ h (fun z => by
    obtain ⟨ys, q⟩ := w a z.1
    rw [h] at q
    cases q) (fun _ z => by cases z)
theorem zd_ext {S : Addr → Prop} {c c' : Cf} (w : WF c) (x : Ext S c c') {a : Addr} {o : Obj} {l : DL} (h : c.H a = some (.frz o (dctO a l))) : c'.H a = some (.frz o (dctO a l)) :=
  x.h a _ h (fun z => by
    obtain ⟨ys, q⟩ := w a z.1
    rw [h] at q
    cases q) (fun _ z => by cases z)
theorem Den.ext {K : PySem.W.Frag} {S : Addr → Prop} {c c' : Cf} (w : WF c) (x : Ext S c c') {d : D} {v : V} (h : Den K c d v) : Den K c' d v :=
  Den.mapD (fun _ _ z => z.ext w x) (fun _ _ z => TpN_ext w x z) (fun _ _ z => ob_ext w x z) (fun _ _ z => xd_ext w x z) (fun _ _ _ z => zd_ext w x z) d v h
theorem Dens.ext {K : PySem.W.Frag} {S : Addr → Prop} {c c' : Cf} (w : WF c) (x : Ext S c c') {d : List D} {v : List V} (h : Dens K c d v) : Dens K c' d v :=
  Dens.mapD (fun _ _ z => z.ext w x) (fun _ _ z => TpN_ext w x z) (fun _ _ z => ob_ext w x z) (fun _ _ z => xd_ext w x z) (fun _ _ _ z => zd_ext w x z) d v h
/-- fewer writable lists -/
theorem LstAt.less {K : PySem.W.Frag} {c : Cf} {M : Addr → Prop} (m : ∀ a, M a → c.M a) {a : Addr} {xs : List V} (h : LstAt K c a xs) : LstAt K ⟨M, c.H⟩ a xs := by
  rcases h with ⟨h, n⟩ | h
  · exact .inl ⟨h, fun z => n (m a z)⟩
  · exact .inr h
theorem Den.less {K : PySem.W.Frag} {c : Cf} {M : Addr → Prop} (m : ∀ a, M a → c.M a) {d : D} {v : V} (h : Den K c d v) : Den K ⟨M, c.H⟩ d v :=
  Den.mapD (fun _ _ z => z.less m) (fun _ _ z => z) (fun _ _ z => z) (fun _ _ z => z) (fun _ _ _ z => z) d v h
theorem Dens.less {K : PySem.W.Frag} {c : Cf} {M : Addr → Prop} (m : ∀ a, M a → c.M a) {d : List D} {v : List V} (h : Dens K c d v) : Dens K ⟨M, c.H⟩ d v :=
  Dens.mapD (fun _ _ z => z.less m) (fun _ _ z => z) (fun _ _ z => z) (fun _ _ z => z) (fun _ _ _ z => z) d v h
theorem Dens.length {K : PySem.W.Frag} {c : Cf} : ∀ {l : List D} {vs : List V}, Dens K c l vs → vs.length = l.length
  | [], _, h => by
    have e : _ = [] := h
    rw [e]; rfl
  | d :: l, vs, h => by
    obtain ⟨x, r, e, _, q⟩ := h
    rw [e, List.length_cons, List.length_cons, Dens.length q]
theorem Dens.nil {K : PySem.W.Frag} {c : Cf} : Dens K c [] [] := rfl
theorem Dens.cons {K : PySem.W.Frag} {c : Cf} {d : D} {l : List D} {v : V} {vs : List V} (h : Den K c d v) (q : Dens K c l vs) : Dens K c (d :: l) (v :: vs) := ⟨v, vs, rfl, h, q⟩
theorem Dens.app {K : PySem.W.Frag} {c : Cf} : ∀ {l m : List D} {vs ws : List V}, Dens K c l vs → Dens K c m ws → Dens K c (l ++ m) (vs ++ ws)
  | [], _, _, _, h, q => by
    have e : _ = [] := h
    subst e; exact q
  | d :: l, _, _, _, h, q => by
    obtain ⟨x, r, e, p, z⟩ := h
    subst e
    exact ⟨x, _, rfl, p, Dens.app z q⟩
theorem Dens.get {K : PySem.W.Frag} {c : Cf} : ∀ {l : List D} {vs : List V} {i : Nat} {d : D}, Dens K c l vs → l[i]? = some d → ∃ v, vs[i]? = some v ∧ Den K c d v
  | [], _, _, _, _, e => by simp at e
  | d :: l, vs, 0, d', h, e => by
    obtain ⟨x, r, e1, p, _⟩ := h
    subst e1
    have e2 : d = d' := by simpa using e
    subst e2
    exact ⟨x, rfl, p⟩
  | d :: l, vs, i + 1, d', h, e => by
    obtain ⟨x, r, e1, _, q⟩ := h
    subst e1
    obtain ⟨v, e2, p⟩ := Dens.get (i := i) q (by simpa using e)
    exact ⟨v, by simpa using e2, p⟩
theorem Dens.getv {K : PySem.W.Frag} {c : Cf} : ∀ {l : List D} {vs : List V} {i : Nat} {v : V}, Dens K c l vs → vs[i]? = some v → ∃ d, l[i]? = some d ∧ Den K c d v
  | [], _, _, _, h, e => by
    have e1 : _ = [] := h
    subst e1; simp at e
  | d :: l, vs, 0, v, h, e => by
    obtain ⟨x, r, e1, p, _⟩ := h
    subst e1
    have e2 : x = v := by simpa using e
    subst e2
    exact ⟨d, rfl, p⟩
  | d :: l, vs, i + 1, v, h, e => by
    obtain ⟨x, r, e1, _, q⟩ := h
    subst e1
    obtain ⟨d', e2, p⟩ := Dens.getv (i := i) q (by simpa using e)
    exact ⟨d', by simpa using e2, p⟩
theorem Dens.set {K : PySem.W.Frag} {c : Cf} {d : D} {v : V} (h : Den K c d v) : ∀ {l : List D} {vs : List V} (i : Nat), Dens K c l vs → Dens K c (l.set i d) (vs.set i v)
  | [], _, _, q => by
    have e1 : _ = [] := q
    subst e1; exact rfl
  | x :: l, vs, 0, q => by
    obtain ⟨y, r, e1, _, z⟩ := q
    subst e1
    exact ⟨v, r, rfl, h, z⟩
  | x :: l, vs, i + 1, q => by
    obtain ⟨y, r, e1, p, z⟩ := q
    subst e1
    exact ⟨y, _, rfl, p, Dens.set h i z⟩
theorem Dens.take {K : PySem.W.Frag} {c : Cf} : ∀ {l : List D} {vs : List V} (n : Nat), Dens K c l vs → Dens K c (l.take n) (vs.take n)
  | [], _, n, q => by
    have e1 : _ = [] := q
    subst e1
    rw [List.take_nil, List.take_nil]; exact rfl
  | x :: l, vs, 0, q => rfl
  | x :: l, vs, n + 1, q => by
    obtain ⟨y, r, e1, p, z⟩ := q
    subst e1
    exact ⟨y, _, rfl, p, Dens.take n z⟩
theorem Dens.drop {K : PySem.W.Frag} {c : Cf} : ∀ {l : List D} {vs : List V} (n : Nat), Dens K c l vs → Dens K c (l.drop n) (vs.drop n)
  | [], _, n, q => by
    have e1 : _ = [] := q
    subst e1
    rw [List.drop_nil, List.drop_nil]; exact rfl
  | x :: l, vs, 0, q => q
  | x :: l, vs, n + 1, q => by
    obtain ⟨y, r, e1, p, z⟩ := q
    subst e1
    exact Dens.drop n z

/-! the slots of a frame -/
inductive SV where
  | un | pu (d : D) | ow (l : List D) | bo (l : List D)
abbrev Gm := List SV
def SV.own : SV → Bool
  | .ow _ => true
  | .bo _ => true
  | _ => false
/-- what a frame keeps besides its slots: lists at X, of which I tells -/
structure Kp where
  X : Addr → Prop
  I : Cf → Prop
  there : ∀ c a, I c → X a → c.H a ≠ none
  stab : ∀ (S : Addr → Prop) c c', (∀ a, S a → ¬ X a) → WF c → Ext S c c' → I c → I c'
  less : ∀ (c : Cf) (M' : Addr → Prop), (∀ a, X a → c.M a → M' a) → (∀ a, M' a → c.M a) → I c → I ⟨M', c.H⟩
  put : ∀ (c : Cf) (p : Addr) (l : DL) (o : HO), c.H p = some (dctO p l) → ¬ X p → I c → I ⟨c.M, upd c.H p o⟩
def Kp.nil : Kp := ⟨fun _ => False, fun _ => True, fun _ _ _ z => z.elim, fun _ _ _ _ _ _ _ => trivial, fun _ _ _ _ _ => trivial, fun _ _ _ _ _ _ _ => trivial⟩
structure Fx where
  c0 : Cf
  rho : Nat → Addr
  B : Addr → Prop
  kp : Kp
abbrev Fx.S (f : Fx) : Addr → Prop := fun a => (f.c0.H a = none ∨ f.B a) ∧ ¬ f.kp.X a
def Own (K : PySem.W.Frag) (c : Cf) (a : Addr) (l : List D) : Prop := c.M a ∧ ∃ vs, c.H a = some (.lst vs) ∧ Dens K c l vs
structure WF0 (K : PySem.W.Frag) (c : Cf) : Prop where
  wf : WF c
  tab : LamX.Tabs LC.tabs c.H
theorem WF0.ext {K : PySem.W.Frag} {S : Addr → Prop} {c c' : Cf} (w : WF0 K c) (x : Ext S c c') (w' : WF c') : WF0 K c' := ⟨w', fun p hp => x.tb p hp (w.tab p hp)⟩
structure Rel (K : PySem.W.Frag) (f : Fx) (S : Addr → Prop) (c : Cf) (σ : St) (γ : Gm) : Prop where
  wf0 : WF0 K f.c0
  wf : WF c
  ext : Ext f.B f.c0 c
  len : σ.length = γ.length
  pu : ∀ (i : Nat) (d : D), γ[i]? = some (SV.pu d) → ∃ v, σ[i]? = some (some v) ∧ Den K c d v
  ow : ∀ (i : Nat) (l : List D), γ[i]? = some (SV.ow l) → ∃ a, σ[i]? = some (some (V.ref a)) ∧ f.c0.H a = none ∧ S a ∧ Own K c a l
  bo : ∀ (i : Nat) (l : List D), γ[i]? = some (SV.bo l) → σ[i]? = some (some (.ref (f.rho i))) ∧ f.c0.M (f.rho i) ∧ f.B (f.rho i) ∧ S (f.rho i) ∧ Own K c (f.rho i) l
  ne : ∀ (i j : Nat) (s t : SV) (a : Addr), i ≠ j → γ[i]? = some s → γ[j]? = some t → s.own = true → t.own = true → σ[i]? = some (some (V.ref a)) → σ[j]? ≠ some (some (V.ref a))
  inv : f.kp.I c
  sub : ∀ a, S a → ¬ f.kp.X a
theorem Own.step {K : PySem.W.Frag} {S : Addr → Prop} {c c' : Cf} (w : WF c) (x : Ext S c c') {a : Addr} {l : List D} (n : ¬ S a) (h : Own K c a l) : Own K c' a l := by
  obtain ⟨m, vs, e, q⟩ := h
  exact ⟨x.m1 a m, vs, x.h a _ e (fun z => n z.2) (fun _ z => by cases z), q.ext w x⟩
/-- nothing that the frame may write has changed -/
theorem Rel.step {K : PySem.W.Frag} {f : Fx} {S : Addr → Prop} {c c' : Cf} {σ : St} {γ : Gm} (R : Rel K f S c σ γ) (x : Ext Nop c c') (w' : WF c') : Rel K f S c' σ γ where
  wf0 := R.wf0
  wf := w'
  ext := R.ext.trans R.wf x.nop
  len := R.len
  pu := fun i d e => by
    obtain ⟨v, h1, h2⟩ := R.pu i d e
    exact ⟨v, h1, h2.ext R.wf x⟩
  ow := fun i l e => by
    obtain ⟨a, h1, h2, h3, h4⟩ := R.ow i l e
    exact ⟨a, h1, h2, h3, h4.step R.wf x id⟩
  bo := fun i l e => by
    obtain ⟨h1, h2, h3, h4, h5⟩ := R.bo i l e
    exact ⟨h1, h2, h3, h4, h5.step R.wf x id⟩
  ne := R.ne
  inv := f.kp.stab Nop _ _ (fun _ z => z.elim) R.wf x R.inv
  sub := R.sub
/-! a dict that is written is no data yet -/
theorem rd_dct {c : Cf} {p a : Addr} {l : DL} {u : HO} (h : c.H p = some (dctO p l)) (hu : ∀ φ, u ≠ .ext φ) (r : Rd c.H a u) : a ≠ p := fun z => by
  subst z
  rcases r with r | ⟨o, r⟩
  · rw [h] at r
    exact hu _ (Option.some.inj r).symm
  · rw [h] at r
    exact nomatch (show HO.ext _ = HO.frz _ _ from Option.some.inj r)
theorem eq_dct {c : Cf} {p a : Addr} {l : DL} {u : HO} (h : c.H p = some (dctO p l)) (hu : ∀ φ, u ≠ .ext φ) (r : c.H a = some u) : a ≠ p := rd_dct h hu (.inl r)
theorem dct_put {K : PySem.W.Frag} {c : Cf} {p : Addr} {l : DL} {o : HO} (h : c.H p = some (dctO p l)) (d : D) (v : V) (q : Den K c d v) : Den K ⟨c.M, upd c.H p o⟩ d v := by
  have up : ∀ {a : Addr} {u : HO}, (∀ φ, u ≠ .ext φ) → c.H a = some u → upd c.H p o a = some u := fun hu e => by
    rw [upd_ne (eq_dct h hu e)]; exact e
  refine Den.mapD (c' := ⟨c.M, upd c.H p o⟩) (fun a xs z => ?_) (fun a xs z => ?_) (fun a o z => up (fun φ => by cases o <;> exact fun z => nomatch z) z) (fun a fs z => up (fun φ z => nomatch z) z) (fun a o l z => up (fun φ z => nomatch z) z) d v q
  · rcases z with ⟨r, n⟩ | r
    · refine .inl ⟨?_, n⟩
      rcases r with r | ⟨ob, r⟩
      · exact .inl (up (fun φ z => nomatch z) r)
      · exact .inr ⟨ob, up (fun φ z => nomatch z) r⟩
    · exact .inr r
  · obtain ⟨ob, e, d⟩ := z
    exact ⟨ob, up (fun φ z => nomatch z) e, d⟩
theorem dct_puts {K : PySem.W.Frag} {c : Cf} {p : Addr} {l : DL} {o : HO} (h : c.H p = some (dctO p l)) : ∀ (d : List D) (v : List V), Dens K c d v → Dens K ⟨c.M, upd c.H p o⟩ d v
  | [], _, q => q
  | d :: ds, _, q => by
    obtain ⟨x, r, e, p1, p2⟩ := q
    exact ⟨x, r, e, dct_put h d x p1, dct_puts h ds r p2⟩
theorem Own.putD {K : PySem.W.Frag} {c : Cf} {p a : Addr} {l : DL} {m : List D} {o : HO} (h : c.H p = some (dctO p l)) (w : Own K c a m) : Own K ⟨c.M, upd c.H p o⟩ a m := by
  obtain ⟨hm, vs, e, q⟩ := w
  exact ⟨hm, vs, by
    show upd c.H p o a = _
    rw [upd_ne (eq_dct (u := .lst vs) h (fun φ z => nomatch z) e)]; exact e, dct_puts h m vs q⟩
theorem tab_putD {H : Hp} {p P : Addr} {q : Str} {l : DL} {o : HO} (hp : H p = some (dctO p l)) (t : LamX.TabS H P q) : LamX.TabS (upd H p o) P q := by
  obtain ⟨ps, h1, h2, h3⟩ := t
  have n1 : P ≠ p := fun z => by
    rw [z, hp] at h1
    exact nomatch (show HO.ext _ = HO.tbl _ from Option.some.inj h1)
  refine ⟨ps, by rw [upd_ne n1]; exact h1, h2, fun pos cv hc => ?_⟩
  obtain ⟨c, e1, e2⟩ := h3 pos cv hc
  have n2 : c ≠ p := fun z => by
    rw [z, hp] at e2
    exact dct_code (Option.some.inj e2)
  exact ⟨c, e1, by rw [upd_ne n2]; exact e2⟩
theorem Rel.notX {K : PySem.W.Frag} {f : Fx} {S : Addr → Prop} {c : Cf} {σ : St} {γ : Gm} (R : Rel K f S c σ γ) {p : Addr} (n : c.H p = none) : ¬ f.kp.X p := fun z => f.kp.there _ _ R.inv z n
end Fv

namespace Fv
variable [LC : LamC]
open PySem L2

theorem hide {α : Sort _} {a b : α} (h : a = b) : a = b := h
inductive Rs (α : Type) where
  | ok (a : α) (g : Gm) | ex (n : Str) (fs : List (Str × D)) (g : Gm) | no
def Rs.bind {α β : Type} (r : Rs α) (k : α → Gm → Rs β) : Rs β := match r with
  | .ok a g => k a g
  | .ex n fs g => .ex n fs g
  | .no => .no
def Rs.map {α β : Type} (h : α → β) (r : Rs α) : Rs β := r.bind fun a g => .ok (h a) g
def ofO {α : Type} (o : Option α) (g : Gm) : Rs α := match o with
  | some a => .ok a g
  | none => .no
@[simp] theorem Rs.bind_ok {α β : Type} (a : α) (g : Gm) (k : α → Gm → Rs β) : (Rs.ok a g).bind k = k a g := hide rfl
@[simp] theorem Rs.bind_no {α β : Type} (k : α → Gm → Rs β) : (Rs.no : Rs α).bind k = .no := hide rfl
@[simp] theorem Rs.bind_ex {α β : Type} (n : Str) (fs : List (Str × D)) (g : Gm) (k : α → Gm → Rs β) : (Rs.ex n fs g : Rs α).bind k = .ex n fs g := hide rfl
@[simp] theorem ofO_some {α : Type} (a : α) (g : Gm) : ofO (some a) g = .ok a g := hide rfl

def ownAt (γ : Gm) (i : Nat) : Bool := match γ[i]? with
  | some s => s.own
  | none => false
def Kd (γ g : Gm) : Prop := ∀ i, ownAt g i = true → ownAt γ i = true
theorem Kd.refl {γ : Gm} : Kd γ γ := fun _ z => z
theorem Kd.trans {a b c : Gm} (x : Kd a b) (y : Kd b c) : Kd a c := fun i z => x i (y i z)
/-- an expression leaves the slots' kinds and data -/
structure Kx (γ g : Gm) : Prop where
  own : Kd γ g
  pu : ∀ (i : Nat) (d : D), g[i]? = some (SV.pu d) → γ[i]? = some (SV.pu d)
theorem Kx.refl {γ : Gm} : Kx γ γ := ⟨.refl, fun _ _ z => z⟩
theorem Kx.trans {a b c : Gm} (x : Kx a b) (y : Kx b c) : Kx a c := ⟨x.own.trans y.own, fun i d z => x.pu i d (y.pu i d z)⟩
def ExF (K : PySem.W.Frag) (c : Cf) (d : Option Addr) (fs : List (Str × D)) : Prop :=
  (fs = [] ∧ d = none) ∨ ∃ a ys, fs ≠ [] ∧ d = some a ∧ c.H a = some (.xd ys) ∧ ys.map (·.1) = fs.map (·.1) ∧ Dens K c (fs.map (·.2)) (ys.map (·.2))
/-- what is known of a result -/
abbrev VR (α β : Type) := St → Cf → Cf → α → β → Prop
def Post {α β : Type} (K : PySem.W.Frag) (mg : Str → Option Value) (vok : VR α β) (W : WX) (f : Fx) (S : Addr → Prop) (c : Cf) (σ : St) (γ : Gm) (Q : β → Hp → Prop) : Rs α → Prop
  | .ok r g => ∀ v c', Ext S c c' → Rel K f S c' σ g → Kx γ g → vok σ c c' r v → Q v c'.H
  | .ex n fs g => ∀ C d c', mg n = some (.ref C) → Ext S c c' → Rel K f S c' σ g → Kx γ g → ExF K c' d fs → W (.ref C) d σ c'.H
  | .no => False
def Sim {α β : Type} (X : Cx) (W : WX) (vok : VR α β) (t : St → Hp → (β → Hp → Prop) → Prop) (g : Gm → Rs α) : Prop :=
  ∀ f S c σ γ Q, Rel X.K f S c σ γ → Post X.K X.mg vok W f S c σ γ Q (g γ) → t σ c.H Q
def Stab {α β : Type} (vok : VR α β) : Prop := ∀ S σ c c1 c' r v, WF c1 → Ext S c c1 → vok σ c1 c' r v → vok σ c c' r v
def vP (K : PySem.W.Frag) : VR D V := fun _ _ c' d v => Den K c' d v
def vF (K : PySem.W.Frag) : VR (List D) V := fun _ c c' l v => ∃ p, v = .ref p ∧ c.H p = none ∧ Own K c' p l
def vT : VR Bool Bool := fun _ _ _ a b => a = b
theorem stab_vP {K : PySem.W.Frag} : Stab (vP K) := fun _ _ _ _ _ _ _ _ _ h => h
theorem stab_vT : Stab vT := fun _ _ _ _ _ _ _ _ _ h => h
theorem stab_vF {K : PySem.W.Frag} : Stab (vF K) := fun _ _ _ _ _ _ _ w x ⟨p, e, n, o⟩ => ⟨p, e, x.noneS w n, o⟩

/-- a result is handed on -/
theorem Sim.bind {α β α' β' : Type} {X : Cx} {W : WX} {v1 : VR α β} {v2 : VR α' β'} {t : St → Hp → (β → Hp → Prop) → Prop} {g : Gm → Rs α} (s : Sim X W v1 t g) (st : Stab v2)
    {f : Fx} {S : Addr → Prop} {c : Cf} {σ : St} {γ : Gm} {k : α → Gm → Rs α'} {Q2 : β' → Hp → Prop} {Q1 : β → Hp → Prop} (R : Rel X.K f S c σ γ) (h : Post X.K X.mg v2 W f S c σ γ Q2 ((g γ).bind k))
    (step : ∀ a γ1 v c1, g γ = .ok a γ1 → Ext S c c1 → Rel X.K f S c1 σ γ1 → Kx γ γ1 → v1 σ c c1 a v → Post X.K X.mg v2 W f S c1 σ γ1 Q2 (k a γ1) → Q1 v c1.H) : t σ c.H Q1 := by
  refine s f S c σ γ Q1 R ?_
  cases e : g γ with
  | no => rw [e] at h; exact h
  | ex n fs g1 => rw [e] at h; exact h
  | ok a g1 =>
    rw [e] at h
    intro v c1 x1 R1 k1 h1
    refine step a g1 v c1 e x1 R1 k1 h1 ?_
    have h' : Post X.K X.mg v2 W f S c σ γ Q2 (k a g1) := h
    cases e2 : k a g1 with
    | no => rw [e2] at h'; exact h'
    | ok r g2 =>
      rw [e2] at h'
      exact fun v2' c2 x2 R2 k2 q => h' v2' c2 (x1.trans R1.wf x2) R2 (k1.trans k2) (st _ _ _ _ _ _ _ R1.wf x1 q)
    | ex n fs g2 =>
      rw [e2] at h'
      exact fun C d c2 hm x2 R2 k2 q => h' C d c2 hm (x1.trans R1.wf x2) R2 (k1.trans k2) q
/-- the last step, over the heap as it is or with something new -/
theorem Post.fin {α β : Type} {K : PySem.W.Frag} {mg : Str → Option Value} {vok : VR α β} {W : WX} {f : Fx} {S : Addr → Prop} {c : Cf} {σ : St} {γ : Gm} {Q : β → Hp → Prop} {o : Option α} (R : Rel K f S c σ γ) (h : Post K mg vok W f S c σ γ Q (ofO o γ)) :
    ∃ a, o = some a ∧ ∀ v c', Ext Nop c c' → WF c' → vok σ c c' a v → Q v c'.H := by
  cases o with
  | none => exact h.elim
  | some a => exact ⟨a, rfl, fun v c' x w q => h v c' x.nop (R.step x w) Kx.refl q⟩

def MP (X : Cx) (W : WX) (e : Expr) (g : Gm → Rs D) : Prop := ∃ t, PE X e t ∧ Sim X W (vP X.K) t g
def MF (X : Cx) (W : WX) (e : Expr) (g : Gm → Rs (List D)) : Prop := ∃ t, PE X e t ∧ Sim X W (vF X.K) t g
def MT (X : Cx) (W : WX) (e : Expr) (g : Gm → Rs Bool) : Prop := ∃ t, PT X e t ∧ Sim X W vT t g
def MW (X : Cx) (W : WX) (e : Expr) (g : Gm → Rs Bool) : Prop := ∃ t, PW X e t ∧ Sim X W vT t g

/-! something new on the heap -/
theorem Ext.new {c : Cf} {p : Addr} {o : HO} (n : c.H p = none) : Ext Nop c ⟨c.M, upd c.H p o⟩ :=
  Ext.stay (fun _ z => z) (fun _ z => .inl z) fun a u e => by
    show upd c.H p o a = some u
    rw [upd_ne (ne_of_none e n)]; exact e
theorem WF.new {c : Cf} {p : Addr} {o : HO} (w : WF c) (n : c.H p = none) : WF ⟨c.M, upd c.H p o⟩ := fun a m => by
  obtain ⟨xs, e⟩ := w a m
  exact ⟨xs, by
    show upd c.H p o a = _
    rw [upd_ne (ne_of_none e n)]; exact e⟩
def Cf.add (c : Cf) (p : Addr) (vs : List V) : Cf := ⟨fun a => c.M a ∨ a = p, upd c.H p (.lst vs)⟩
theorem Ext.add {c : Cf} {p : Addr} {vs : List V} (n : c.H p = none) : Ext Nop c (c.add p vs) :=
  Ext.stay (fun _ z => .inl z) (fun a z => z.elim .inl fun e => .inr (e ▸ n)) fun a u e => by
    show upd c.H p _ a = some u
    rw [upd_ne (ne_of_none e n)]; exact e
theorem WF.add {c : Cf} {p : Addr} {vs : List V} (w : WF c) (n : c.H p = none) : WF (c.add p vs) := fun a m => by
  rcases m with m | rfl
  · obtain ⟨xs, e⟩ := w a m
    exact ⟨xs, by
      show upd c.H p _ a = _
      rw [upd_ne (ne_of_none e n)]; exact e⟩
  · exact ⟨vs, upd_same⟩
theorem Own.add {K : PySem.W.Frag} {c : Cf} {p : Addr} {vs : List V} {l : List D} (w : WF c) (n : c.H p = none) (h : Dens K c l vs) : Own K (c.add p vs) p l :=
  ⟨.inr rfl, vs, upd_same, h.ext w (Ext.add (vs := vs) n)⟩
theorem Den.tup {K : PySem.W.Frag} {c : Cf} {p : Addr} {o : Obj} {vs : List V} {l : List D} (w : WF c) (n : c.H p = none) (hd : o.dict = none) (h : Dens K c l vs) : Den K ⟨c.M, upd c.H p (.frz o (.tup vs))⟩ (.tup l) (.ref p) :=
  ⟨p, vs, rfl, ⟨o, upd_same, hd⟩, h.ext w (Ext.new n)⟩
theorem Den.lst {K : PySem.W.Frag} {c : Cf} {p : Addr} {vs : List V} {l : List D} (w : WF c) (n : c.H p = none) (h : Dens K c l vs) : Den K ⟨c.M, upd c.H p (.lst vs)⟩ (.lst l) (.ref p) :=
  ⟨p, vs, rfl, .inl ⟨.inl upd_same, fun m => by
    obtain ⟨xs, e⟩ := w p m
    rw [n] at e; cases e⟩, h.ext w (Ext.new n)⟩
/-- a fresh list is never written again -/
def Cf.del (c : Cf) (p : Addr) : Cf := ⟨fun a => c.M a ∧ a ≠ p, c.H⟩
theorem WF.del {c : Cf} {p : Addr} (w : WF c) : WF (c.del p) := fun a m => w a m.1
theorem Own.den {K : PySem.W.Frag} {c : Cf} {p : Addr} {l : List D} (h : Own K c p l) : Den K (c.del p) (.lst l) (.ref p) := by
  obtain ⟨m, vs, e, q⟩ := h
  exact ⟨p, vs, rfl, .inl ⟨.inl e, fun z => z.2 rfl⟩, q.less fun _ z => z.1⟩
theorem Rel.ownA {K : PySem.W.Frag} {f : Fx} {S : Addr → Prop} {c : Cf} {σ : St} {γ : Gm} (R : Rel K f S c σ γ) {i : Nat} {s : SV} (e : γ[i]? = some s) (o : s.own = true) :
    ∃ a l, σ[i]? = some (some (.ref a)) ∧ S a ∧ Own K c a l ∧ (s = .ow l ∧ f.c0.H a = none ∨ s = .bo l ∧ a = f.rho i ∧ f.c0.M a ∧ f.B a) := by
  cases s with
  | un => cases o
  | pu d => cases o
  | ow l =>
    obtain ⟨a, h1, h2, h3, h4⟩ := R.ow i l e
    exact ⟨a, l, h1, h3, h4, .inl ⟨rfl, h2⟩⟩
  | bo l =>
    obtain ⟨h1, h2, h3, h4, h5⟩ := R.bo i l e
    exact ⟨_, l, h1, h4, h5, .inr ⟨rfl, rfl, h2, h3⟩⟩
theorem Own.del {K : PySem.W.Frag} {c : Cf} {p a : Addr} {l : List D} (h : Own K c a l) (n : a ≠ p) : Own K (c.del p) a l := by
  obtain ⟨m, vs, e, q⟩ := h
  exact ⟨⟨m, n⟩, vs, e, q.less fun _ z => z.1⟩
/-- p, which no slot holds for writing, is written no more -/
theorem Rel.del {K : PySem.W.Frag} {f : Fx} {S : Addr → Prop} {c : Cf} {σ : St} {γ : Gm} {p : Addr} (R : Rel K f S c σ γ) (h0 : f.c0.H p = none) (hX : ¬ f.kp.X p) (hn : ∀ i, ownAt γ i = true → σ[i]? ≠ some (some (.ref p))) : Rel K f S (c.del p) σ γ where
  wf0 := R.wf0
  wf := R.wf.del
  ext := ⟨fun a z => ⟨R.ext.m1 a z, fun e => by
      obtain ⟨xs, q⟩ := R.wf0.wf a z
      rw [e, h0] at q; cases q⟩, fun a z => R.ext.m2 a z.1, R.ext.h, R.ext.ht, R.ext.tb⟩
  len := R.len
  pu := fun i d e => by
    obtain ⟨v, h1, h2⟩ := R.pu i d e
    exact ⟨v, h1, h2.less fun _ z => z.1⟩
  ow := fun i l e => by
    obtain ⟨a, h1, h2, h3, h4⟩ := R.ow i l e
    exact ⟨a, h1, h2, h3, h4.del fun z => hn i (by unfold ownAt; rw [e]; rfl) (z ▸ h1)⟩
  bo := fun i l e => by
    obtain ⟨h1, h2, h3, h4, h5⟩ := R.bo i l e
    exact ⟨h1, h2, h3, h4, h5.del fun z => hn i (by unfold ownAt; rw [e]; rfl) (z ▸ h1)⟩
  ne := R.ne
  inv := f.kp.less c _ (fun a x m => ⟨m, fun z => hX (z ▸ x)⟩) (fun a z => z.1) R.inv
  sub := R.sub
theorem ownAt_some {γ : Gm} {i : Nat} (h : ownAt γ i = true) : ∃ s, γ[i]? = some s ∧ s.own = true := by
  unfold ownAt at h
  cases e : γ[i]? with
  | none => rw [e] at h; cases h
  | some s => rw [e] at h; exact ⟨s, rfl, h⟩
def gPu (g : Gm → Rs (List D)) : Gm → Rs D := fun γ => (g γ).map .lst
theorem mp_of_f {X : Cx} {W : WX} {e : Expr} {g : Gm → Rs (List D)} (h : MF X W e g) : MP X W e (gPu g) := by
  obtain ⟨t, ht, hs⟩ := h
  refine ⟨t, ht, fun f S c σ γ Q R hp => hs f S c σ γ Q R ?_⟩
  replace hp : Post X.K X.mg (vP X.K) W f S c σ γ Q ((g γ).map .lst) := hp
  cases e0 : g γ with
  | no => rw [e0] at hp; exact hp
  | ex n fs g1 => rw [e0] at hp; exact hp
  | ok l g1 =>
    rw [e0] at hp
    intro v c1 x1 R1 k1 q1
    obtain ⟨p, e2, n, o⟩ := q1
    subst e2
    have hn : ∀ i, ownAt g1 i = true → σ[i]? ≠ some (some (.ref p)) := fun i z e3 => by
      obtain ⟨s, e4, e5⟩ := ownAt_some (k1.own i z)
      obtain ⟨a, l', h1, h2, ⟨_, vs, h3, _⟩, _⟩ := R.ownA e4 e5
      rw [e3] at h1
      cases h1
      rw [n] at h3; cases h3
    refine hp (.ref p) (c1.del p) ⟨fun a z => ⟨x1.m1 a z, fun e3 => ?_⟩, fun a z => x1.m2 a z.1, x1.h, x1.ht, x1.tb⟩ (R1.del (R.ext.noneS R.wf n) (R.notX n) hn) k1 o.den
    obtain ⟨xs, q⟩ := R.wf a z
    rw [e3, n] at q; cases q
end Fv

/-! ### tuples whose objects are known -/
namespace Fv
open PySem PySem.Spec PyProof.Rows L2
abbrev tupO (its : List Value) : Obj := { cls := .type "tuple", data := .seq its.toArray }
section
variable {X : Cx}
theorem laidF {pins : List (Addr × Obj)} {σ : L2.St} {H : Hp} {s : Shared} {its : List Value} {zs : List V} {t' : Nat} (I : L2.Inv X pins σ H s) (z : zs.length ≤ sizeLine) (r : Vals zs its) :
    L2.Inv X pins σ (upd H s.heap.objs.size (.frz (tupO its) (.tup zs))) { s with heap := s.heap.push (tupO its), toks := t' } :=
  I.laid (fun _ _ e => Heap.get?_push_of_some _ e) (Nat.le_refl _) ⟨Heap.get?_push_size _ rfl, z, its, r, IsTup.new _ _⟩
/-- what is asked where a tuple is made -/
def MkT (H : Hp) (zs : List V) (Q : VK) : Prop := ∀ (p : Addr) (o : Obj), o.dict = none → H p = none → Q (.ref p) (upd H p (.frz o (.tup zs)))
def tTupF (t : TA) : TE := fun σ H Q => t σ H fun xs H1 => xs.length ≤ sizeLine ∧ MkT H1 xs Q
theorem pe_tupF {es : List Expr} {t : TA} {x1} {pos : Pos} (h : PA X es t) : PE X (.Tuple es x1 pos) (tTupF t) := by
  refine ⟨fun pins s σ H Q I hq => ?_⟩
  refine wpAny_Tuple_spliced (thn (h.run pos pins s σ H _ I hq) fun us s1 ⟨xs, H1, I1, r, z, q⟩ => ⟨by rw [← r.length]; exact z, ?_⟩)
  exact ⟨.ref s1.heap.objs.size, _, laidF (t' := s1.toks) I1 z r, rfl, q _ _ rfl (I1.hok.fresh (Nat.le_refl _))⟩
def rCatF (K : PySem.W.Frag) : R2 := fun x y H Q => ∃ a b xs ys, x = .ref a ∧ y = .ref b ∧ SqT K H a xs ∧ SqT K H b ys ∧ xs.length + ys.length ≤ sizeLine ∧
  (xs = [] → Q (.ref b) H) ∧ (xs ≠ [] → ys = [] → Q (.ref a) H) ∧ (xs ≠ [] → ys ≠ [] → MkT H (xs ++ ys) Q)
theorem op_catF : OpR X (binaryOp .Add) (rCatF X.K) := by
  intro pins s σ H x y v u Q I rx ry h
  obtain ⟨a, b, xs, ys, rfl, rfl, ha, hb, hz, q0, q1, q2⟩ := h
  by_cases hne : xs ≠ [] ∧ ys ≠ []
  · cases rx
    cases ry
    obtain ⟨its, r1, p1, _⟩ := I.tuple ha
    obtain ⟨its2, r2, p2, _⟩ := I.tuple hb
    refine HT.cat_tup p1 p2 (fun z => hne.1 (r1.nil_iff.mp z)) (fun z => (hne.2 (r2.nil_iff.mp z)).elim) (fun z => ?_) (by rw [← r1.length, ← r2.length]; exact hz)
    exact ⟨.ref s.heap.objs.size, _, laidF (t' := s.toks) I (by rw [List.length_append]; exact hz) (r1.append r2), rfl, q2 hne.1 hne.2 _ _ rfl (I.hok.fresh (Nat.le_refl _))⟩
  · refine op_catA pins s σ H _ _ v u Q I rx ry ⟨a, b, xs, ys, rfl, rfl, ha, hb, hz, q0, q1, fun h1 h2 => (hne ⟨h1, h2⟩).elim⟩
def rSlF (K : PySem.W.Frag) : V → Option Int → Option Int → Hp → VK → Prop := fun x lo hi H Q => ∃ a xs, x = .ref a ∧ SqT K H a xs ∧
  (HT.sIx xs.length 0 lo = 0 ∧ HT.sIx xs.length xs.length hi = xs.length → Q (.ref a) H) ∧ (¬ (HT.sIx xs.length 0 lo = 0 ∧ HT.sIx xs.length xs.length hi = xs.length) → MkT H (cutV xs lo hi) Q)
theorem sl_tupF : SlR X (rSlF X.K) := by
  intro pins s σ H x v vl vu lo hi sl Q I rx hs pl pu h
  obtain ⟨a, xs, rfl, hx, q1, q2⟩ := h
  by_cases hw : HT.sIx xs.length 0 lo = 0 ∧ HT.sIx xs.length xs.length hi = xs.length
  · exact sl_tupA pins s σ H _ v vl vu lo hi sl Q I rx hs pl pu ⟨a, xs, rfl, hx, q1, fun n => (n hw).elim⟩
  · cases rx
    obtain ⟨its, r, ht, hz⟩ := I.tuple hx
    have hlen : its.toArray.size = xs.length := by rw [List.size_toArray]; exact r.length.symm
    refine ⟨"tuple", _, PyProof.Rows.slot_tuple_getitem.lookup, ht.typeIs, ?_⟩
    refine HT.getItem_tuple_cut ht hs pl pu (by rw [hlen]; exact hw) ?_ (by rw [hlen]; exact hz)
    rw [hlen]
    exact ⟨.ref s.heap.objs.size, _, laidF (t' := s.toks) I (Nat.le_trans (cutV_length xs lo hi) hz) ((r.drop (HT.sIx xs.length 0 lo)).take (HT.sIx xs.length xs.length hi - HT.sIx xs.length 0 lo)), rfl, q2 hw _ _ rfl (I.hok.fresh (Nat.le_refl _))⟩
theorem call_tuple_ofF : CallR X (.type "tuple") (fun xs H Q => ∃ p ys, xs = [.ref p] ∧ ((SqL X.K H p ys ∧ MkT H ys Q) ∨ (SqT X.K H p ys ∧ Q (.ref p) H))) := by
  intro pins s σ H xs us Q I r h
  obtain ⟨p, ys, rfl, h⟩ := h
  rcases h with ⟨hq, q⟩ | ⟨hq, q⟩
  · obtain ⟨u, rfl, rx⟩ := vals1 r
    cases rx
    obtain ⟨its, r', pl, hz⟩ := I.list hq
    have hlen := r'.length
    refine call_tuple_list pl.isList (fun h' kp => ?_) (by simp only [List.size_toArray] <;> omega)
    have I1 : L2.Inv X pins σ H { s with heap := h' } := I.kept (t' := s.toks) kp
    exact ⟨.ref h'.objs.size, _, laidF (s := { s with heap := h' }) (t' := s.toks) I1 hz r', rfl, q _ _ rfl (I1.hok.fresh (Nat.le_refl _))⟩
  · exact call_tuple_of pins s σ H _ us Q I r ⟨p, ys, rfl, .inr ⟨hq, q⟩⟩
theorem call_divmodF : CallR X (.builtin "divmod") (fun xs H Q => ∃ i j, xs = [.int i, .int j] ∧ CDiv i j ∧ MkT H [.int (i / j), .int (i % j)] Q) := by
  intro pins s σ H xs us Q I r h
  obtain ⟨i, j, rfl, ⟨h1, h2⟩, q⟩ := h
  obtain ⟨u, w', rfl, ⟨t, rfl⟩, ⟨t', rfl⟩⟩ := vals2 r
  refine divmod_int (by omega) ?_ (.inl (PyProof.noPylong_small (by omega)))
  rw [Int.fdiv_eq_ediv_of_nonneg i (by omega), Int.fmod_eq_emod_of_nonneg i (by omega)]
  exact ⟨.ref s.heap.objs.size, _, laidF (zs := [.int (i / j), .int (i % j)]) (its := [.int (i / j) s.toks, .int (i % j) (s.toks + 1)]) (t' := s.toks + 1 + 1) I (by simp only [List.length_cons, List.length_nil]; rw [sizeLine_eq]; decide) (.cons ⟨_, rfl⟩ (.cons ⟨_, rfl⟩ .nil)), rfl, q _ _ rfl (I.hok.fresh (Nat.le_refl _))⟩
def rRepF (K : PySem.W.Frag) : R2 := fun x y H Q => ∃ l k xs, x = .ref l ∧ y = .int k ∧ SqT K H l xs ∧ xs ≠ [] ∧ 2 ≤ k ∧ k ≤ 1000 ∧ xs.length ≤ 1000 ∧ MkT H (List.replicate k.toNat xs).flatten Q
theorem op_repF : OpR X (binaryOp .Mult) (rRepF X.K) := by
  intro pins s σ H x y v u Q I rx ry h
  obtain ⟨l, k, xs, rfl, rfl, hT, hne, h1, h2, hz, q⟩ := h
  cases rx
  obtain ⟨t, rfl⟩ := ry
  obtain ⟨its, r, ⟨⟨cls, dd, data, sl⟩, ho, hc, n, hd⟩, hs⟩ := I.tuple hT
  simp only at hc hd
  subst hc hd
  have hle : its.length = xs.length := r.length.symm
  have hpos : 0 < its.length := by
    rw [hle]
    exact List.length_pos_iff.mpr hne
  have hemp : its.toArray.isEmpty = false := by
    cases its with
    | nil => exact absurd hpos (Nat.lt_irrefl _)
    | cons a b => rfl
  have hsz : its.toArray.size = xs.length := by rw [List.size_toArray, hle]
  have prod : ((its.toArray.size : Nat) : Int) * k ≤ 1000000 := by
    rw [hsz]
    have : ((xs.length : Nat) : Int) * k ≤ 1000 * k := Int.mul_le_mul_of_nonneg_right (by omega) (by omega)
    omega
  have bound : ∀ {α : Type} (zs : List α), zs.length = xs.length → (List.replicate k.toNat zs).flatten.length ≤ sizeLine := fun zs e => by
    rw [PyProof.Rows.lm_len_rep_flat, e, sizeLine_eq]
    have : k.toNat * xs.length ≤ 1000 * 1000 := Nat.mul_le_mul (by omega) hz
    omega
  have cA : (decide (k < -(2 ^ 63)) || decide (k ≥ 2 ^ 63)) = false := by rw [decide_eq_false (by omega), decide_eq_false (by omega)] <;> rfl
  have cB : (its.toArray.isEmpty || k == 1) = false := by rw [hemp, Bool.false_or]; exact beq_eq_false_iff_ne.mpr (by omega)
  have cC : (decide (k ≤ 0) || its.toArray.isEmpty) = false := by rw [hemp, Bool.or_false]; exact decide_eq_false (by omega)
  have cD : Builtin.Tuple.tupleTooMany (((its.toArray.size : Nat) : Int) * k) = false := by
    unfold Builtin.Tuple.tupleTooMany
    rw [sizeLine_eq]
    exact decide_eq_false (by omega)
  have mul := tuple_mulW l its.toArray n dd sl k t cA cB cC (by omega) cD (by rw [size_rep, List.size_toArray]; exact bound its hle)
  rw [size_rep] at mul
  refine wpAny_binaryOp_repeat_ref (T := "tuple") (U := "int") (by decide) ⟨_, ho, rfl⟩ (fun s' => typeIs_int s' k t) noFill_tuple_mul F.fills_int_mul F.slot_int_rmul repeat_tuple F.slot_int_index.lookup
    (call_meets F.slot_int_rmul (typeIs_int s k t) F.entry_int_rmul (F.args_int_rmul_2 _ _) (int_rmul_tuple k t l its.toArray n dd sl) ⟨ho, rfl, ⟨_, ho, rfl⟩, call_meets F.slot_tuple_mul ⟨_, ho, rfl⟩ F.entry_tuple_mul (F.args_tuple_mul_2 _ _) mul ⟨ho, ?_⟩⟩)
  exact ⟨.ref s.heap.objs.size, _, laidF (t' := s.toks) I (bound xs rfl) (r.rep k.toNat), rfl, q _ _ rfl (I.hok.fresh (Nat.le_refl _))⟩
end
end Fv

namespace Fv
variable [LC : LamC]
open PySem L2

section
variable {X : Cx} {W : WX} {pos : Pos} {a b e : Expr} {ga gb : Gm → Rs D}
/-! names, constants -/
def gVar (i : Nat) : Gm → Rs D := fun γ => match γ[i]? with
  | some (.pu d) => .ok d γ
  | _ => .no
def gC (d : D) : Gm → Rs D := fun γ => .ok d γ
theorem mp_tvar {e : Expr} {i : Nat} (h : PE X e (tVar i)) : MP X W e (gVar i) := by
  refine ⟨_, h, fun f S c σ γ Q R hp => ?_⟩
  unfold gVar at hp
  cases q : γ[i]? with
  | none => rw [q] at hp; exact hp.elim
  | some s =>
    rw [q] at hp
    cases s with
    | pu d =>
      obtain ⟨v, h1, h2⟩ := R.pu i d q
      exact ⟨v, h1, hp v c .refl R .refl h2⟩
    | _ => exact hp.elim
theorem mp_const {d : D} {v : V} (h : PE X e (tC v)) (hd : ∀ c, Den X.K c d v) : MP X W e (gC d) :=
  ⟨_, h, fun f S c σ γ Q R hp => hp v c .refl R .refl (hd c)⟩
theorem mp_int {i : Int} {j} : MP X W (.Constant (.int i) j pos) (gC (.int i)) := mp_const pe_int fun _ => rfl
theorem mp_bl {i : Bool} {j} : MP X W (.Constant (.bool i) j pos) (gC (.bl i)) := mp_const pe_bl fun _ => rfl
theorem mp_non {j} : MP X W (.Constant .none j pos) (gC .non) := mp_const pe_non fun _ => rfl
theorem mp_str {i : Str} {j} : MP X W (.Constant (.str i) j pos) (gC (.str i)) := mp_const pe_str fun _ => rfl
theorem mp_glob {x : Str} {d : D} {v : V} {u : Value} (hg : Gl X x) (hm : X.mg x = some u) (r : RelV v u) (hd : ∀ c, Den X.K c d v) (h2 : (x == ("__debug__" : Str)) = false := by decide) : MP X W (.Name x pos) (gC d) :=
  mp_const (pe_glob hg hm r h2) hd

/-! one, two arguments -/
def g1 (p : D → Option D) (ga : Gm → Rs D) : Gm → Rs D := fun γ => (ga γ).bind fun d γ1 => ofO (p d) γ1
def g2 (p : D → D → Option D) (ga gb : Gm → Rs D) : Gm → Rs D := fun γ => (ga γ).bind fun d γ1 => (gb γ1).bind fun e γ2 => ofO (p d e) γ2
/-- a rule by values meets a function of data -/
def Meet1 (K : PySem.W.Frag) (r : V → Hp → VK → Prop) (p : D → Option D) : Prop :=
  ∀ (c : Cf) (d z : D) (v : V) (Q : VK), WF c → p d = some z → Den K c d v → (∀ u c', Ext Nop c c' → WF c' → Den K c' z u → Q u c'.H) → r v c.H Q
def Meet2 (K : PySem.W.Frag) (r : R2) (p : D → D → Option D) : Prop :=
  ∀ (c : Cf) (d e z : D) (v w : V) (Q : VK), WF c → p d e = some z → Den K c d v → Den K c e w → (∀ u c', Ext Nop c c' → WF c' → Den K c' z u → Q u c'.H) → r v w c.H Q
theorem sim1 {ta : TE} {r : V → Hp → VK → Prop} {p : D → Option D} (m : Meet1 X.K r p) (ha : Sim X W (vP X.K) ta ga) : Sim X W (vP X.K) (fun σ H Q => ta σ H fun x H1 => r x H1 Q) (g1 p ga) := by
  intro f S c σ γ Q R hp
  refine ha.bind stab_vP R hp fun d γ1 v c1 _ x1 R1 k1 q1 h1 => ?_
  obtain ⟨z, e1, h2⟩ := h1.fin R1
  exact m c1 d z v Q R1.wf e1 q1 fun u c' x w q => h2 u c' x w q
theorem sim2 {ta tb : TE} {r : R2} {p : D → D → Option D} (m : Meet2 X.K r p) (ha : Sim X W (vP X.K) ta ga) (hb : Sim X W (vP X.K) tb gb) : Sim X W (vP X.K) (tOp r ta tb) (g2 p ga gb) := by
  intro f S c σ γ Q R hp
  refine ha.bind stab_vP R hp fun d γ1 v c1 _ x1 R1 k1 q1 h1 => ?_
  refine hb.bind stab_vP R1 h1 fun e γ2 w c2 _ x2 R2 k2 q2 h2 => ?_
  obtain ⟨z, e1, h3⟩ := h2.fin R2
  exact m c2 d e z v w Q R2.wf e1 (q1.ext R1.wf x2) q2 fun u c' x w q => h3 u c' x w q
theorem mp_op {op : Operator} {r : R2} {p : D → D → Option D} (ho : OpR X (binaryOp op) r) (m : Meet2 X.K r p) (ha : MP X W a ga) (hb : MP X W b gb) : MP X W (.BinOp a op b pos) (g2 p ga gb) := by
  obtain ⟨ta, h1, s1⟩ := ha
  obtain ⟨tb, h2, s2⟩ := hb
  exact ⟨_, pe_op ho h1 h2, sim2 m s1 s2⟩
/-- a comparison: as a value, and as a test -/
def MB (X : Cx) (W : WX) (e : Expr) (g : Gm → Rs D) : Prop := ∃ t, PE X e t ∧ PT X e (tTest t) ∧ Sim X W (vP X.K) t g
theorem mp_b (h : MB X W e ga) : MP X W e ga := let ⟨_, h1, _, h2⟩ := h; ⟨_, h1, h2⟩
theorem mp_cmp {op : CmpOp} {r : R2} {p : D → D → Option D} (ho : OpR X (compareOp op) r) (m : Meet2 X.K r p) (ha : MP X W a ga) (hb : MP X W b gb) (hn : behindInMarks op b = false) : MB X W (.Compare a [op] [b] pos) (g2 p ga gb) := by
  obtain ⟨ta, h1, s1⟩ := ha
  obtain ⟨tb, h2, s2⟩ := hb
  exact ⟨_, pe_cmpR ho h1 h2 hn, pt_cmpR ho h1 h2 hn, sim2 m s1 s2⟩

/-! ints -/
def D.onI (h : Int → Int → Option D) : D → D → Option D
  | .int i, .int j => h i j
  | _, _ => none
theorem onI_some {h : Int → Int → Option D} {d e z : D} (q : D.onI h d e = some z) : ∃ i j, d = .int i ∧ e = .int j ∧ h i j = some z := by
  cases d <;> cases e <;> first
    | exact ⟨_, _, rfl, rfl, q⟩
    | cases q
theorem meetI {K : PySem.W.Frag} {C : Int → Int → Prop} {k : Int → Int → V} {h : Int → Int → Option D} (hh : ∀ i j z, h i j = some z → C i j ∧ ∀ c, Den K c z (k i j)) : Meet2 K (rI C k) (D.onI h) := by
  intro c d e z v w Q wf q1 q2 q3 q4
  obtain ⟨i, j, rfl, rfl, q⟩ := onI_some q1
  have e1 : v = .int i := q2
  have e2 : w = .int j := q3
  obtain ⟨h1, h2⟩ := hh i j z q
  exact ⟨i, j, e1, e2, h1, q4 _ c .refl wf (h2 c)⟩
theorem meetI0 {K : PySem.W.Frag} {k : Int → Int → V} {h : Int → Int → Option D} (hh : ∀ i j z, h i j = some z → ∀ c, Den K c z (k i j)) : Meet2 K (rI0 k) (D.onI h) := by
  intro c d e z v w Q wf q1 q2 q3 q4
  obtain ⟨i, j, rfl, rfl, q⟩ := onI_some q1
  have e1 : v = .int i := q2
  have e2 : w = .int j := q3
  exact ⟨i, j, e1, e2, q4 _ c .refl wf (hh i j z q c)⟩
def dSub : D → D → Option D := D.onI fun i j => some (.int (i - j))
def dMul : D → D → Option D := D.onI fun i j => if Nat.log2 i.natAbs + Nat.log2 j.natAbs < 1000000 then some (.int (i * j)) else none
/-- any divisor that is small, or positive and below nine thousand bits -/
def CDivA : Int → Int → Prop := fun i j => CDivN i j ∨ CDivW i j
theorem op_fdivA : OpR X (binaryOp .FloorDiv) (rI CDivA fun i j => .int (i.fdiv j)) := by
  intro pn s st hp x y v u Q inv rx ry hw
  obtain ⟨i, j, e1, e2, hc, q⟩ := hw
  rcases hc with hc | hc
  · exact op_fdivN pn s st hp x y v u Q inv rx ry ⟨i, j, e1, e2, hc, q⟩
  · refine op_fdivW pn s st hp x y v u Q inv rx ry ⟨i, j, e1, e2, hc, ?_⟩
    have e := Int.fdiv_eq_ediv_of_nonneg i (Int.le_of_lt hc.1)
    show Q (V.int (i / j)) hp
    rw [← e]
    exact q
def dFdiv : D → D → Option D := D.onI fun i j => if (j ≠ 0 ∧ j.natAbs < 1073741824) ∨ (0 < j ∧ j.natAbs.log2 < 9000) then some (.int (i.fdiv j)) else none
def dMod : D → D → Option D := D.onI fun i j => if j ≠ 0 then some (.int (i.fmod j)) else none
def dPow : D → D → Option D := D.onI fun i j => if 0 ≤ j ∧ j ≤ 1000000 ∧ i.natAbs < 2 ^ 64 then some (.int (i ^ j.toNat)) else none
def dLt : D → D → Option D := D.onI fun i j => some (.bl (decide (i < j)))
def dLe : D → D → Option D := D.onI fun i j => some (.bl (decide (i ≤ j)))
def dGt : D → D → Option D := D.onI fun i j => some (.bl (decide (j < i)))
def dGe : D → D → Option D := D.onI fun i j => some (.bl (decide (j ≤ i)))
theorem ite_of {p : Prop} [Decidable p] {α : Type} {x z : α} (h : (if p then some x else none) = some z) : p ∧ x = z := by
  by_cases q : p
  · rw [if_pos q] at h; exact ⟨q, Option.some.inj h⟩
  · rw [if_neg q] at h; cases h

def dI : D → Option Int
  | .int i => some i
  | _ => none
theorem meetU {K : PySem.W.Frag} {k : Int → V} {h : Int → D} (hh : ∀ i c, Den K c (h i) (k i)) : Meet1 K (rU k) (fun d => (dI d).map h) := by
  intro c d z v Q wf q1 q2 q4
  cases d <;> first
    | (have e1 : some (h _) = some z := q1
       cases e1
       exact ⟨_, q2, q4 _ c .refl wf (hh _ c)⟩)
    | cases q1
def dNeg : D → Option D := fun d => (dI d).map fun i => .int (-i)
theorem mp_neg (ha : MP X W a ga) : MP X W (.UnaryOp .USub a pos) (g1 dNeg ga) := by
  obtain ⟨ta, h1, s1⟩ := ha
  refine ⟨_, pe_un un_neg h1, ?_⟩
  exact sim1 (r := rU fun i => V.int (-i)) (p := dNeg) (meetU (h := fun i => .int (-i)) fun _ _ => rfl) s1
theorem mp_sub (ha : MP X W a ga) (hb : MP X W b gb) : MP X W (.BinOp a .Sub b pos) (g2 dSub ga gb) :=
  mp_op op_sub (meetI0 fun i j z e c => by cases e; rfl) ha hb
theorem mp_mulI (ha : MP X W a ga) (hb : MP X W b gb) : MP X W (.BinOp a .Mult b pos) (g2 dMul ga gb) :=
  mp_op op_mulW (meetI fun i j z e => ⟨(ite_of e).1, fun c => by obtain ⟨_, q⟩ := ite_of e; cases q; rfl⟩) ha hb
theorem mp_fdiv (ha : MP X W a ga) (hb : MP X W b gb) : MP X W (.BinOp a .FloorDiv b pos) (g2 dFdiv ga gb) :=
  mp_op op_fdivA (meetI fun i j z e => ⟨(ite_of e).1, fun c => by obtain ⟨_, q⟩ := ite_of e; cases q; rfl⟩) ha hb
theorem mp_mod (ha : MP X W a ga) (hb : MP X W b gb) : MP X W (.BinOp a .Mod b pos) (g2 dMod ga gb) :=
  mp_op op_modN (meetI fun i j z e => ⟨(ite_of e).1, fun c => by obtain ⟨_, q⟩ := ite_of e; cases q; rfl⟩) ha hb
theorem mp_pow (ha : MP X W a ga) (hb : MP X W b gb) : MP X W (.BinOp a .Pow b pos) (g2 dPow ga gb) :=
  mp_op op_pow (meetI fun i j z e => ⟨(ite_of e).1, fun c => by obtain ⟨_, q⟩ := ite_of e; cases q; rfl⟩) ha hb
theorem mp_lt (ha : MP X W a ga) (hb : MP X W b gb) : MB X W (.Compare a [.Lt] [b] pos) (g2 dLt ga gb) :=
  mp_cmp op_lt (meetI0 fun i j z e c => by cases e; rfl) ha hb (nomark _)
theorem mp_le (ha : MP X W a ga) (hb : MP X W b gb) : MB X W (.Compare a [.LtE] [b] pos) (g2 dLe ga gb) :=
  mp_cmp op_le (meetI0 fun i j z e c => by cases e; rfl) ha hb (nomark _)
theorem mp_gt (ha : MP X W a ga) (hb : MP X W b gb) : MB X W (.Compare a [.Gt] [b] pos) (g2 dGt ga gb) :=
  mp_cmp op_gt (meetI0 fun i j z e c => by cases e; rfl) ha hb (nomark _)
theorem mp_ge (ha : MP X W a ga) (hb : MP X W b gb) : MB X W (.Compare a [.GtE] [b] pos) (g2 dGe ga gb) :=
  mp_cmp op_ge (meetI0 fun i j z e c => by cases e; rfl) ha hb (nomark _)
def dIsN : D → Option D
  | .non => some (.bl true)
  | _ => some (.bl false)
def dNotN : D → Option D
  | .non => some (.bl false)
  | _ => some (.bl true)
theorem den_non {K : PySem.W.Frag} {c : Cf} {d : D} {v : V} (h : Den K c d v) : decide (v = V.non) = (match d with | .non => true | _ => false) := by
  cases d with
  | non => cases (show v = .non from h); rfl
  | bl _ => cases (show v = .bl _ from h); rfl
  | int _ => cases (show v = .int _ from h); rfl
  | str _ => cases (show v = .str _ from h); rfl
  | lst _ => obtain ⟨p, _, e, _⟩ := h; cases e; rfl
  | tup _ => obtain ⟨p, _, e, _⟩ := h; cases e; rfl
  | ob _ => obtain ⟨p, e⟩ := ObDen.ref h; cases e; rfl
theorem mp_isN {j p2} (ha : MP X W a ga) : MB X W (.Compare a [.Is] [.Constant .none j p2] pos) (g1 dIsN ga) := by
  obtain ⟨ta, h1, s1⟩ := ha
  refine ⟨_, pe_cmp (pc_isN h1) rfl, pt_cmp (pc_isN h1) rfl, sim1 (r := fun x H Q => Q (.bl (decide (x = .non))) H) (fun c d z v Q wf q1 q2 q4 => ?_) s1⟩
  show Q (V.bl (decide (v = V.non))) c.H
  rw [den_non q2]
  refine q4 _ c .refl wf ?_
  cases d <;> (cases q1; rfl)
theorem mp_notN {j p2} (ha : MP X W a ga) : MB X W (.Compare a [.IsNot] [.Constant .none j p2] pos) (g1 dNotN ga) := by
  obtain ⟨ta, h1, s1⟩ := ha
  refine ⟨_, pe_cmp (pc_notN h1) rfl, pt_cmp (pc_notN h1) rfl, sim1 (r := fun x H Q => Q (.bl (!decide (x = .non))) H) (fun c d z v Q wf q1 q2 q4 => ?_) s1⟩
  show Q (V.bl (!decide (v = V.non))) c.H
  rw [den_non q2]
  refine q4 _ c .refl wf ?_
  cases d <;> (cases q1; rfl)

/-! tests -/
def gTst (ga : Gm → Rs D) : Gm → Rs Bool := fun γ => (ga γ).bind fun d γ1 => match d with
  | .bl k => .ok k γ1
  | _ => .no
theorem mt_b (ha : MB X W e ga) : MT X W e (gTst ga) := by
  obtain ⟨ta, _, h1, s1⟩ := ha
  refine ⟨_, h1, fun f S c σ γ Q R hp => s1.bind stab_vT R hp fun d γ1 v c1 _ x1 R1 k1 q1 h2 => ?_⟩
  cases d with
  | bl k =>
    cases (show v = .bl k from q1)
    exact ⟨k, rfl, h2 k c1 .refl R1 .refl rfl⟩
  | _ => exact h2.elim
theorem mt_val (ha : MP X W e ga) (he : ∀ whole, isTrue e X.env whole = (do let v ← whole; standAt e.pos; holding [v] (truthy v)) := by intro _; rfl) : MT X W e (gTst ga) := by
  obtain ⟨ta, h1, s1⟩ := ha
  refine ⟨_, pt_val h1 he, fun f S c σ γ Q R hp => s1.bind stab_vT R hp fun d γ1 v c1 _ x1 R1 k1 q1 h2 => ?_⟩
  cases d with
  | bl k =>
    cases (show v = .bl k from q1)
    exact ⟨k, rfl, h2 k c1 .refl R1 .refl rfl⟩
  | _ => exact h2.elim
variable {ta tb : Gm → Rs Bool} {rest : List Expr}
def tgAnd (ta tb : Gm → Rs Bool) : Gm → Rs Bool := fun γ => (ta γ).bind fun k γ1 => if k then tb γ1 else .ok false γ1
def tgOr (ta tb : Gm → Rs Bool) : Gm → Rs Bool := fun γ => (ta γ).bind fun k γ1 => if k then .ok true γ1 else tb γ1
def tgNot (ta : Gm → Rs Bool) : Gm → Rs Bool := fun γ => (ta γ).bind fun k γ1 => .ok (!k) γ1
theorem mt_of_w (h : MW X W e ta) : MT X W e ta := let ⟨_, h1, s1⟩ := h; ⟨_, h1.pt, s1⟩
theorem mw_and1 (h : MT X W a ta) : MW X W (.BoolOp .And [a] pos) ta := let ⟨_, h1, s1⟩ := h; ⟨_, pw_and1 h1, s1⟩
theorem mw_or1 (h : MT X W a ta) : MW X W (.BoolOp .Or [a] pos) ta := let ⟨_, h1, s1⟩ := h; ⟨_, pw_or1 h1, s1⟩
theorem mw_and (ha : MT X W a ta) (hb : MW X W (.BoolOp .And (b :: rest) pos) tb) : MW X W (.BoolOp .And (a :: b :: rest) pos) (tgAnd ta tb) := by
  obtain ⟨_, h1, s1⟩ := ha
  obtain ⟨_, h2, s2⟩ := hb
  refine ⟨_, pw_and h1 h2, fun f S c σ γ Q R hp => s1.bind stab_vT R hp fun k γ1 v c1 _ x1 R1 k1 q1 h3 => ?_⟩
  cases (show k = v from q1)
  cases k with
  | true => rw [if_pos rfl]; exact s2 _ _ _ _ _ _ R1 h3
  | false => rw [if_neg Bool.false_ne_true]; exact h3 false c1 .refl R1 .refl rfl
theorem mw_or (ha : MT X W a ta) (hb : MW X W (.BoolOp .Or (b :: rest) pos) tb) : MW X W (.BoolOp .Or (a :: b :: rest) pos) (tgOr ta tb) := by
  obtain ⟨_, h1, s1⟩ := ha
  obtain ⟨_, h2, s2⟩ := hb
  refine ⟨_, pw_or h1 h2, fun f S c σ γ Q R hp => s1.bind stab_vT R hp fun k γ1 v c1 _ x1 R1 k1 q1 h3 => ?_⟩
  cases (show k = v from q1)
  cases k with
  | false => rw [if_neg Bool.false_ne_true]; exact s2 _ _ _ _ _ _ R1 h3
  | true => rw [if_pos rfl]; exact h3 true c1 .refl R1 .refl rfl
theorem mt_not (ha : MT X W a ta) : MT X W (.UnaryOp .Not a pos) (tgNot ta) := by
  obtain ⟨_, h1, s1⟩ := ha
  refine ⟨_, pt_not h1, fun f S c σ γ Q R hp => s1.bind stab_vT R hp fun k γ1 v c1 _ x1 R1 k1 q1 h3 => ?_⟩
  cases (show k = v from q1)
  exact h3 (!k) c1 .refl R1 .refl rfl
/-! .. as values -/
def gAnd (ga gb : Gm → Rs D) : Gm → Rs D := fun γ => (ga γ).bind fun d γ1 => match d with
  | .bl true => gb γ1
  | .bl false => .ok (.bl false) γ1
  | _ => .no
def gOr (ga gb : Gm → Rs D) : Gm → Rs D := fun γ => (ga γ).bind fun d γ1 => match d with
  | .bl true => .ok (.bl true) γ1
  | .bl false => gb γ1
  | _ => .no
def gNot (ga : Gm → Rs D) : Gm → Rs D := fun γ => (ga γ).bind fun d γ1 => match d with
  | .bl k => .ok (.bl (!k)) γ1
  | _ => .no
def gIf (ta : Gm → Rs Bool) (ga gb : Gm → Rs D) : Gm → Rs D := fun γ => (ta γ).bind fun k γ1 => if k then ga γ1 else gb γ1
theorem mp_one {op} (h : MP X W a ga) : MP X W (.BoolOp op [a] pos) ga := let ⟨_, h1, s1⟩ := h; ⟨_, pe_one h1, s1⟩
theorem mp_and (ha : MP X W a ga) (hb : MP X W (.BoolOp .And (b :: rest) pos) gb) : MP X W (.BoolOp .And (a :: b :: rest) pos) (gAnd ga gb) := by
  obtain ⟨_, h1, s1⟩ := ha
  obtain ⟨_, h2, s2⟩ := hb
  refine ⟨_, pe_and h1 h2, fun f S c σ γ Q R hp => s1.bind stab_vP R hp fun d γ1 v c1 _ x1 R1 k1 q1 h3 => ?_⟩
  cases d with
  | bl k =>
    cases (show v = .bl k from q1)
    refine ⟨k, rfl, ?_⟩
    cases k with
    | true => rw [if_pos rfl]; exact s2 _ _ _ _ _ _ R1 h3
    | false => rw [if_neg Bool.false_ne_true]; exact h3 _ c1 .refl R1 .refl rfl
  | _ => exact h3.elim
theorem mp_or (ha : MP X W a ga) (hb : MP X W (.BoolOp .Or (b :: rest) pos) gb) : MP X W (.BoolOp .Or (a :: b :: rest) pos) (gOr ga gb) := by
  obtain ⟨_, h1, s1⟩ := ha
  obtain ⟨_, h2, s2⟩ := hb
  refine ⟨_, pe_or h1 h2, fun f S c σ γ Q R hp => s1.bind stab_vP R hp fun d γ1 v c1 _ x1 R1 k1 q1 h3 => ?_⟩
  cases d with
  | bl k =>
    cases (show v = .bl k from q1)
    refine ⟨k, rfl, ?_⟩
    cases k with
    | false => rw [if_neg Bool.false_ne_true]; exact s2 _ _ _ _ _ _ R1 h3
    | true => rw [if_pos rfl]; exact h3 _ c1 .refl R1 .refl rfl
  | _ => exact h3.elim
theorem mp_not (ha : MP X W a ga) : MP X W (.UnaryOp .Not a pos) (gNot ga) := by
  obtain ⟨_, h1, s1⟩ := ha
  refine ⟨_, pe_not h1, fun f S c σ γ Q R hp => s1.bind stab_vP R hp fun d γ1 v c1 _ x1 R1 k1 q1 h3 => ?_⟩
  cases d with
  | bl k =>
    cases (show v = .bl k from q1)
    exact ⟨k, rfl, h3 _ c1 .refl R1 .refl rfl⟩
  | _ => exact h3.elim
theorem mp_if {t : Expr} (ht : MT X W t ta) (ha : MP X W a ga) (hb : MP X W b gb) : MP X W (.IfExp t a b pos) (gIf ta ga gb) := by
  obtain ⟨_, h0, s0⟩ := ht
  obtain ⟨_, h1, s1⟩ := ha
  obtain ⟨_, h2, s2⟩ := hb
  refine ⟨_, pe_ifExp h0 h1 h2, fun f S c σ γ Q R hp => s0.bind stab_vP R hp fun k γ1 v c1 _ x1 R1 k1 q1 h3 => ?_⟩
  cases (show k = v from q1)
  cases k with
  | true => rw [if_pos rfl]; exact s1 _ _ _ _ _ _ R1 h3
  | false => rw [if_neg Bool.false_ne_true]; exact s2 _ _ _ _ _ _ R1 h3
/-- a < b < c -/
def gChain (p p' : D → D → Option D) (ga gb gc : Gm → Rs D) : Gm → Rs D := fun γ => (ga γ).bind fun d γ1 => (gb γ1).bind fun e γ2 => (ofO (p d e) γ2).bind fun z γ3 => match z with
  | .bl true => (gc γ3).bind fun h γ4 => ofO (p' e h) γ4
  | .bl false => .ok (.bl false) γ3
  | _ => .no
theorem mp_chain {c : Expr} {gc : Gm → Rs D} {op op' : CmpOp} {r r' : R2} {p p' : D → D → Option D} (ho : OpR X (compareOp op) r) (ho' : OpR X (compareOp op') r') (m : Meet2 X.K r p) (m' : Meet2 X.K r' p')
    (ha : MP X W a ga) (hb : MP X W b gb) (hc : MP X W c gc) (hm : lastMarks [op, op'] [b, c] = false := by rfl) : MB X W (.Compare a [op, op'] [b, c] pos) (gChain p p' ga gb gc) := by
  obtain ⟨_, h0, s0⟩ := ha
  obtain ⟨_, h1, s1⟩ := hb
  obtain ⟨_, h2, s2⟩ := hc
  refine ⟨_, pe_chain ho ho' h0 h1 h2 hm, pt_chain ho ho' h0 h1 h2 hm, fun f S cf σ γ Q R hp => s0.bind stab_vP R hp fun d γ1 v c1 _ x1 R1 k1 q1 h3 => s1.bind stab_vP R1 h3 fun e γ2 w c2 _ x2 R2 k2 q2 h4 => ?_⟩
  have q1' := q1.ext R1.wf x2
  cases e1 : p d e with
  | none => rw [e1] at h4; exact h4.elim
  | some z =>
    rw [e1] at h4
    refine m c2 d e z v w _ R2.wf e1 q1' q2 fun u c3 x3 w3 q3 => ?_
    have R3 := R2.step x3 w3
    cases z with
    | bl k =>
      cases (show u = .bl k from q3)
      refine ⟨k, rfl, ?_⟩
      cases k with
      | true =>
        rw [if_pos rfl]
        have h4' : Post X.K X.mg (vP X.K) W f S c2 σ γ2 Q ((gc γ2).bind fun h γ4 => ofO (p' e h) γ4) := h4
        have h5 : Post X.K X.mg (vP X.K) W f S c3 σ γ2 Q ((gc γ2).bind fun h γ4 => ofO (p' e h) γ4) := by
          cases e5 : (gc γ2).bind fun h γ4 => ofO (p' e h) γ4 with
          | no => rw [e5] at h4'; exact h4'
          | ok r g => rw [e5] at h4'; exact fun v' c' xx RR kk qq => h4' v' c' (x3.nop.trans w3 xx) RR kk qq
          | ex n fs g => rw [e5] at h4'; exact fun C d c' hm xx RR kk qq => h4' C d c' hm (x3.nop.trans w3 xx) RR kk qq
        refine s2.bind stab_vP R3 h5 fun h γ4 y c4 _ x4 R4 k4 q4 h6 => ?_
        obtain ⟨z2, e6, h7⟩ := h6.fin R4
        exact m' c4 e h z2 w y Q R4.wf e6 ((q2.ext R2.wf x3).ext w3 x4) q4 fun u' c' xx ww qq => h7 u' c' xx ww qq
      | false => rw [if_neg Bool.false_ne_true]; exact h4 _ c3 x3.nop R3 .refl rfl
    | _ => exact h4.elim
theorem mp_le_le {c : Expr} {gc : Gm → Rs D} (ha : MP X W a ga) (hb : MP X W b gb) (hc : MP X W c gc) (hm : lastMarks [.LtE, .LtE] [b, c] = false := by rfl) : MB X W (.Compare a [.LtE, .LtE] [b, c] pos) (gChain dLe dLe ga gb gc) :=
  mp_chain op_le op_le (meetI0 fun i j z e c => by cases e; rfl) (meetI0 fun i j z e c => by cases e; rfl) ha hb hc hm
theorem mp_lt_lt {c : Expr} {gc : Gm → Rs D} (ha : MP X W a ga) (hb : MP X W b gb) (hc : MP X W c gc) (hm : lastMarks [.Lt, .Lt] [b, c] = false := by rfl) : MB X W (.Compare a [.Lt, .Lt] [b, c] pos) (gChain dLt dLt ga gb gc) :=
  mp_chain op_lt op_lt (meetI0 fun i j z e c => by cases e; rfl) (meetI0 fun i j z e c => by cases e; rfl) ha hb hc hm
theorem mp_le_lt {c : Expr} {gc : Gm → Rs D} (ha : MP X W a ga) (hb : MP X W b gb) (hc : MP X W c gc) (hm : lastMarks [.LtE, .Lt] [b, c] = false := by rfl) : MB X W (.Compare a [.LtE, .Lt] [b, c] pos) (gChain dLe dLt ga gb gc) :=
  mp_chain op_le op_lt (meetI0 fun i j z e c => by cases e; rfl) (meetI0 fun i j z e c => by cases e; rfl) ha hb hc hm
theorem mp_lt_le {c : Expr} {gc : Gm → Rs D} (ha : MP X W a ga) (hb : MP X W b gb) (hc : MP X W c gc) (hm : lastMarks [.Lt, .LtE] [b, c] = false := by rfl) : MB X W (.Compare a [.Lt, .LtE] [b, c] pos) (gChain dLt dLe ga gb gc) :=
  mp_chain op_lt op_le (meetI0 fun i j z e c => by cases e; rfl) (meetI0 fun i j z e c => by cases e; rfl) ha hb hc hm
end
end Fv

namespace Fv
variable [LC : LamC]
open PySem L2

section
variable {X : Cx} {W : WX} {pos : Pos} {a b e : Expr} {es : List Expr} {ga gb : Gm → Rs D} {gs : Gm → Rs (List D)}
/-! written items, arguments -/
def vD (K : PySem.W.Frag) : VR (List D) (List V) := fun _ _ c' l vs => Dens K c' l vs
theorem stab_vD {K : PySem.W.Frag} : Stab (vD K) := fun _ _ _ _ _ _ _ _ _ h => h
structure MD (X : Cx) (W : WX) (es : List Expr) (g : Gm → Rs (List D)) : Prop where
  ex : ∃ t, PA X es t ∧ Sim X W (vD X.K) t g
  len : ∀ γ l γ1, g γ = .ok l γ1 → l.length = es.length
def gNil : Gm → Rs (List D) := fun γ => .ok [] γ
def gCons (ga : Gm → Rs D) (gs : Gm → Rs (List D)) : Gm → Rs (List D) := fun γ => (ga γ).bind fun d γ1 => (gs γ1).bind fun l γ2 => .ok (d :: l) γ2
theorem bind_ok {α β : Type} {r : Rs α} {k : α → Gm → Rs β} {b : β} {g : Gm} (h : r.bind k = .ok b g) : ∃ x g1, r = .ok x g1 ∧ k x g1 = .ok b g := by
  cases r with
  | ok x g1 => exact ⟨x, g1, rfl, h⟩
  | no => cases h
  | ex n fs g1 => cases h
theorem md_nil : MD X W [] gNil := ⟨⟨_, pa_nil, fun f S c σ γ Q R hp => hp [] c .refl R .refl rfl⟩, fun γ l γ1 e => by cases e; rfl⟩
theorem md_cons (ha : MP X W e ga) (hr : MD X W es gs) (hs : starEach (e :: es) X.env = (false, eval e X.env) :: starEach es X.env := by rfl) : MD X W (e :: es) (gCons ga gs) := by
  obtain ⟨ta, h1, s1⟩ := ha
  obtain ⟨⟨ts, h2, s2⟩, hl⟩ := hr
  refine ⟨⟨_, pa_cons h1 h2 hs, fun f S c σ γ Q R hp => s1.bind stab_vD R hp fun d γ1 v c1 _ x1 R1 k1 q1 h3 => s2.bind stab_vD R1 h3 fun l γ2 vs c2 _ x2 R2 k2 q2 h4 => ?_⟩, fun γ l γ1 e => ?_⟩
  · exact h4 (v :: vs) c2 .refl R2 .refl ⟨v, vs, rfl, q1.ext R1.wf x2, q2⟩
  · obtain ⟨d, g1, _, e2⟩ := bind_ok e
    obtain ⟨l', g2, e3, e4⟩ := bind_ok e2
    cases e4
    rw [List.length_cons, List.length_cons, hl _ _ _ e3]
def gTup (gs : Gm → Rs (List D)) : Gm → Rs D := fun γ => (gs γ).bind fun l γ1 => .ok (.tup l) γ1
theorem mp_tup {k} (h : MD X W es gs) (hz : es.length ≤ sizeLine := by decide) : MP X W (.Tuple es k pos) (gTup gs) := by
  obtain ⟨⟨ts, h2, s2⟩, hl⟩ := h
  refine ⟨_, pe_tupF h2, fun f S c σ γ Q R hp => s2.bind stab_vP R hp fun l γ1 vs c1 e0 x1 R1 k1 q1 h3 => ⟨?_, fun p o hd n => ?_⟩⟩
  · rw [q1.length, hl _ _ _ e0]; exact hz
  · exact h3 (.ref p) ⟨c1.M, upd c1.H p (.frz o (.tup vs))⟩ (Ext.new n).nop (R1.step (Ext.new n) (R1.wf.new n)) .refl (Den.tup R1.wf n hd q1)
theorem mf_lst (h : MD X W es gs) (hz : es.length ≤ sizeLine := by decide) : MF X W (.List es pos) gs := by
  obtain ⟨⟨ts, h2, s2⟩, hl⟩ := h
  refine ⟨_, pe_lst h2, fun f S c σ γ Q R hp => ?_⟩
  have hp' : Post X.K X.mg (vF X.K) W f S c σ γ Q ((gs γ).bind fun l γ1 => .ok l γ1) := by
    cases e0 : gs γ with
    | no => rw [e0] at hp; exact hp
    | ok l g => rw [e0] at hp; exact hp
    | ex n fs g => rw [e0] at hp; exact hp
  refine s2.bind stab_vF R hp' fun l γ1 vs c1 e0 x1 R1 k1 q1 h3 => ⟨?_, fun p n => ?_⟩
  · rw [q1.length, hl _ _ _ e0]; exact hz
  · exact h3 (.ref p) (c1.add p vs) (Ext.add n).nop (R1.step (Ext.add n) (R1.wf.add n)) .refl ⟨p, rfl, n, Own.add R1.wf n q1⟩

/-! built-ins by values -/
def gB (p : List D → Option D) (gs : Gm → Rs (List D)) : Gm → Rs D := fun γ => (gs γ).bind fun l γ1 => ofO (p l) γ1
def gBF (p : List D → Option (List D)) (gs : Gm → Rs (List D)) : Gm → Rs (List D) := fun γ => (gs γ).bind fun l γ1 => ofO (p l) γ1
def MeetC (K : PySem.W.Frag) (r : List V → Hp → VK → Prop) (p : List D → Option D) : Prop :=
  ∀ (c : Cf) (l : List D) (z : D) (vs : List V) (Q : VK), WF c → p l = some z → Dens K c l vs → (∀ u c', Ext Nop c c' → WF c' → Den K c' z u → Q u c'.H) → r vs c.H Q
def MeetF (K : PySem.W.Frag) (r : List V → Hp → VK → Prop) (p : List D → Option (List D)) : Prop :=
  ∀ (c : Cf) (l z : List D) (vs : List V) (Q : VK), WF c → p l = some z → Dens K c l vs → (∀ q zs, c.H q = none → Dens K c z zs → Q (.ref q) (upd c.H q (.lst zs))) → r vs c.H Q
theorem simB {t : TA} {r : List V → Hp → VK → Prop} {p : List D → Option D} (m : MeetC X.K r p) (s : Sim X W (vD X.K) t gs) : Sim X W (vP X.K) (tCB r t) (gB p gs) := by
  intro f S c σ γ Q R hp
  refine s.bind stab_vP R hp fun l γ1 vs c1 _ x1 R1 k1 q1 h1 => ?_
  obtain ⟨z, e1, h2⟩ := h1.fin R1
  exact m c1 l z vs Q R1.wf e1 q1 fun u c' x w q => h2 u c' x w q
theorem simBF {t : TA} {r : List V → Hp → VK → Prop} {p : List D → Option (List D)} (m : MeetF X.K r p) (s : Sim X W (vD X.K) t gs) : Sim X W (vF X.K) (tCB r t) (gBF p gs) := by
  intro f S c σ γ Q R hp
  refine s.bind stab_vF R hp fun l γ1 vs c1 _ x1 R1 k1 q1 h1 => ?_
  obtain ⟨z, e1, h2⟩ := h1.fin R1
  refine m c1 l z vs Q R1.wf e1 q1 fun q zs n hz => ?_
  exact h2 (.ref q) (c1.add q zs) (Ext.add n) (R1.wf.add n) ⟨q, rfl, n, Own.add R1.wf n hz⟩
theorem mp_callB {x : Str} {p : Pos} {id : String} {r : List V → Hp → VK → Prop} {h : List D → Option D} (hc : CallR X (.builtin id) r) (m : MeetC X.K r h) (hg : Gl X x) (hm : X.mg x = none) (hv : bootBuiltins x = some (.builtin id)) (ha : MD X W (e :: es) gs)
    (h1 : x ≠ "__name__" := by decide) (h2 : (x == ("__debug__" : Str)) = false := by decide) (h3 : starEach (e :: es) X.env = (false, eval e X.env) :: starEach es X.env := by rfl) (h4 : (backTo pos (starEach es X.env)).any (·.1) = false := by rfl) :
    MP X W (.Call (.Name x p) (e :: es) [] pos) (gB h gs) := by
  obtain ⟨⟨t, ht, s⟩, _⟩ := ha
  exact ⟨_, pe_callB hc hg hm hv ht h1 h2 h3 h4, simB m s⟩
theorem mp_callTy {x : Str} {p : Pos} {T : String} {r : List V → Hp → VK → Prop} {h : List D → Option D} (hc : CallR X (.type T) r) (m : MeetC X.K r h) (hg : Gl X x) (hm : X.mg x = none) (hv : bootBuiltins x = some (.type T)) (ha : MD X W (e :: es) gs)
    (h1 : x ≠ "__name__" := by decide) (h2 : (x == ("__debug__" : Str)) = false := by decide) (h3 : starEach (e :: es) X.env = (false, eval e X.env) :: starEach es X.env := by rfl) (h4 : (backTo pos (starEach es X.env)).any (·.1) = false := by rfl) :
    MP X W (.Call (.Name x p) (e :: es) [] pos) (gB h gs) := by
  obtain ⟨⟨t, ht, s⟩, _⟩ := ha
  exact ⟨_, pe_callTy hc hg hm hv ht h1 h2 h3 h4, simB m s⟩
theorem mf_callTy {x : Str} {p : Pos} {T : String} {r : List V → Hp → VK → Prop} {h : List D → Option (List D)} (hc : CallR X (.type T) r) (m : MeetF X.K r h) (hg : Gl X x) (hm : X.mg x = none) (hv : bootBuiltins x = some (.type T)) (ha : MD X W (e :: es) gs)
    (h1 : x ≠ "__name__" := by decide) (h2 : (x == ("__debug__" : Str)) = false := by decide) (h3 : starEach (e :: es) X.env = (false, eval e X.env) :: starEach es X.env := by rfl) (h4 : (backTo pos (starEach es X.env)).any (·.1) = false := by rfl) :
    MF X W (.Call (.Name x p) (e :: es) [] pos) (gBF h gs) := by
  obtain ⟨⟨t, ht, s⟩, _⟩ := ha
  exact ⟨_, pe_callTy hc hg hm hv ht h1 h2 h3 h4, simBF m s⟩

theorem dens1 {K : PySem.W.Frag} {c : Cf} {d : D} {vs : List V} (h : Dens K c [d] vs) : ∃ v, vs = [v] ∧ Den K c d v := by
  obtain ⟨x, r, e, q, z⟩ := h
  have z' : r = [] := z
  subst z'; exact ⟨x, e, q⟩
theorem dens2 {K : PySem.W.Frag} {c : Cf} {d d' : D} {vs : List V} (h : Dens K c [d, d'] vs) : ∃ v v', vs = [v, v'] ∧ Den K c d v ∧ Den K c d' v' := by
  obtain ⟨x, r, e, q, z⟩ := h
  obtain ⟨v', e', q'⟩ := dens1 z
  subst e'; exact ⟨x, v', e, q, q'⟩
/-! len -/
def dLen : List D → Option D
  | [.lst l] => some (.int l.length)
  | [.tup l] => some (.int l.length)
  | [.str z] => if z.length ≤ sizeLine then some (.int z.length) else none
  | _ => none
theorem len_meets {K : PySem.W.Frag} : MeetC K (fun xs H Q => ∃ x n, xs = [x] ∧ LenV K x H n ∧ Q (.int n) H) dLen := by
  intro c l z vs Q wf h q k
  unfold dLen at h
  split at h
  · obtain ⟨v, rfl, p, xs, rfl, p1, p2⟩ := dens1 q
    cases h
    exact ⟨_, xs.length, rfl, .inl ⟨xs, p1.sq, rfl⟩, k _ c .refl wf (by rw [p2.length]; rfl)⟩
  · obtain ⟨v, rfl, p, xs, rfl, p1, p2⟩ := dens1 q
    cases h
    exact ⟨_, xs.length, rfl, .inr ⟨xs, p1.sq, rfl⟩, k _ c .refl wf (by rw [p2.length]; rfl)⟩
  · obtain ⟨v, rfl, p⟩ := dens1 q
    obtain ⟨hz, e1⟩ := ite_of h
    cases e1
    exact ⟨_, _, rfl, (show v = .str _ from p) ▸ ⟨hz, rfl⟩, k _ c .refl wf rfl⟩
  · cases h
theorem mp_len {p : Pos} (hg : Gl X "len") (hm : X.mg "len" = none) (ha : MP X W a ga) (h3 : starEach [a] X.env = (false, eval a X.env) :: starEach [] X.env := by rfl) : MP X W (.Call (.Name "len" p) [a] [] pos) (gB dLen (gCons ga gNil)) :=
  mp_callB call_len len_meets hg hm PySem.boot_len (md_cons ha md_nil h3) (h3 := h3)
/-! isinstance -/
def dTy : D → String
  | .non => "NoneType"
  | .bl _ => "bool"
  | .int _ => "int"
  | .str _ => "str"
  | .lst _ => "list"
  | .tup _ => "tuple"
  | .ob .emp => "dict"
  | .ob (.rng _ _) => "-"
  | .ob (.exn _ _ _) => "-"
  | .ob (.dct _) => "-"
theorem kitB_none {T : String} (h : T ≠ "-") : kitB "-" T = none := by
  unfold kitB
  have e1 : (Value.type "-" == Value.type T) = false := beq_eq_false_iff_ne.mpr fun z => h (by injection z with z; exact z.symm)
  have e2 : PySem.fastBuiltinMro "-" = none := by decide +kernel
  rw [e1, e2]
  simp
theorem den_ty {K : PySem.W.Frag} {c : Cf} {d : D} {v : V} {T : String} {k : Bool} (h : Den K c d v) (hk : kitB (dTy d) T = some k) (hT : T ≠ "-") : TyX K c.H v (.type (dTy d)) := by
  cases d with
  | non => cases (show v = .non from h); exact .base .non
  | bl k => cases (show v = .bl _ from h); exact .base (.bl _)
  | int k => cases (show v = .int _ from h); exact .base (.int _)
  | str k => cases (show v = .str _ from h); exact .base (.str _)
  | lst l =>
    obtain ⟨p, xs, rfl, q, _⟩ := h
    rcases q.sq with (q | ⟨o, q⟩) | ⟨o, its, n, e1, e2, _⟩
    · exact .base (.lst q)
    · exact .base (.frz q)
    · exact .kList e1 e2
  | tup l =>
    obtain ⟨p, xs, rfl, q, _⟩ := h
    obtain ⟨o, q, _⟩ := q
    exact .fTuple q
  | ob o =>
    cases o with
    | emp =>
      obtain ⟨p, rfl, q⟩ := h
      exact .base (.dK q)
    | rng lo hi =>
      have e : kitB "-" T = some k := hk
      rw [kitB_none hT] at e
      cases e
    | exn a d fs =>
      have e : kitB "-" T = some k := hk
      rw [kitB_none hT] at e
      cases e
    | dct l =>
      have e : kitB "-" T = some k := hk
      rw [kitB_none hT] at e
      cases e
def dIsi (T : String) : D → Option D := fun d => (kitB (dTy d) T).map .bl
theorem mp_isi {p p2 : Pos} {T : Str} {Ts : String} (hg : Gl X "isinstance") (hm : X.mg "isinstance" = none) (hg2 : Gl X T) (hm2 : X.mg T = none) (hv2 : bootBuiltins T = some (.type Ts)) (ha : MP X W a ga)
    (h1 : T ≠ "__name__" := by decide) (h2 : (T == ("__debug__" : Str)) = false := by decide)
    (h3 : starEach [a, .Name T p2] X.env = (false, eval a X.env) :: starEach [.Name T p2] X.env := by rfl) (h4 : (backTo pos (starEach [.Name T p2] X.env)).any (·.1) = false := by rfl)
    (h5 : starEach [.Name T p2] X.env = (false, eval (.Name T p2) X.env) :: starEach [] X.env := by rfl) (hT : Ts ≠ "-" := by decide) : MP X W (.Call (.Name "isinstance" p) [a, .Name T p2] [] pos) (g1 (dIsi Ts) ga) := by
  obtain ⟨ta, t1, s1⟩ := ha
  refine ⟨_, pe_callB call_isi hg hm (by decide +kernel) (pa_cons t1 (pa_cons (pe_bltn (v := .ty Ts) hg2 hm2 hv2 rfl h1 h2) pa_nil h5) h3) (he := h3) (hpl := h4), ?_⟩
  refine sim1 (r := fun x H Q => rIsi X.K [x, .ty Ts] H Q) (fun c d z v Q wf q1 q2 q4 => ?_) s1
  unfold dIsi at q1
  cases e1 : kitB (dTy d) Ts with
  | none => rw [e1] at q1; cases q1
  | some k =>
    rw [e1] at q1
    cases q1
    exact ⟨v, _, _, _, k, rfl, .ty _, den_ty q2 e1 hT, kit_ty e1, q4 _ c .refl wf rfl⟩

/-! places -/
theorem atI_den {K : PySem.W.Frag} {c : Cf} {l : List D} {xs : List V} (q : Dens K c l xs) {i : Int} {d : D} (h : atI l i = some d) : ∃ v, atI xs i = some v ∧ Den K c d v := by
  unfold atI at h ⊢
  rw [q.length]
  cases e : ixN l.length i with
  | none => rw [e] at h; cases h
  | some j =>
    rw [e] at h
    exact q.get (i := j) h
def dIx : D → D → Option D
  | .lst l, .int i => atI l i
  | .tup l, .int i => atI l i
  | _, _ => none
theorem ix_meets {K : PySem.W.Frag} : Meet2 K (rIx K) dIx := by
  intro c d e z v w Q wf q1 q2 q3 q4
  unfold dIx at q1
  split at q1
  · obtain ⟨p, xs, rfl, r1, r2⟩ := q2
    cases (show w = .int _ from q3)
    obtain ⟨u, e2, h2⟩ := atI_den r2 q1
    exact .inl ⟨p, xs, _, u, rfl, rfl, r1.sq, e2, q4 u c .refl wf h2⟩
  · obtain ⟨p, xs, rfl, r1, r2⟩ := q2
    cases (show w = .int _ from q3)
    obtain ⟨u, e2, h2⟩ := atI_den r2 q1
    exact .inr (.inl ⟨p, xs, _, u, rfl, rfl, r1.sq, e2, q4 u c .refl wf h2⟩)
  · cases q1
theorem mp_ix (ha : MP X W a ga) (hb : MP X W b gb) (hp : PlainIx b := by exact fun _ _ => rfl) : MP X W (.Subscript a b pos) (g2 dIx ga gb) := by
  obtain ⟨ta, h1, s1⟩ := ha
  obtain ⟨tb, h2, s2⟩ := hb
  exact ⟨_, pe_ix ix_seq h1 h2 hp, sim2 ix_meets s1 s2⟩
/-- own[i] -/
def gOwn (i : Nat) : Gm → Rs D := fun γ => match γ[i]? with
  | some (.ow l) => .ok (.lst l) γ
  | some (.bo l) => .ok (.lst l) γ
  | _ => .no
def gIxO (i : Nat) (gb : Gm → Rs D) : Gm → Rs D := fun γ => (gOwn i γ).bind fun _ γ0 => (gb γ0).bind fun d γ1 => (gOwn i γ1).bind fun o γ2 => ofO (dIx o d) γ2
theorem gOwn_ok {i : Nat} {γ γ1 : Gm} {d : D} (h : gOwn i γ = .ok d γ1) : ∃ s l, γ[i]? = some s ∧ s.own = true ∧ d = .lst l ∧ γ1 = γ ∧ (s = .ow l ∨ s = .bo l) := by
  unfold gOwn at h
  split at h
  · rename_i l e; cases h; exact ⟨_, l, e, rfl, rfl, rfl, .inl rfl⟩
  · rename_i l e; cases h; exact ⟨_, l, e, rfl, rfl, rfl, .inr rfl⟩
  · cases h
theorem Rel.ownL {K : PySem.W.Frag} {f : Fx} {S : Addr → Prop} {c : Cf} {σ : St} {γ : Gm} (R : Rel K f S c σ γ) {i : Nat} {s : SV} {l : List D} (e : γ[i]? = some s) (h : s = .ow l ∨ s = .bo l) : ∃ p, σ[i]? = some (some (.ref p)) ∧ Own K c p l := by
  rcases h with rfl | rfl
  · obtain ⟨p, h1, _, _, h2⟩ := R.ow i l e
    exact ⟨p, h1, h2⟩
  · obtain ⟨h1, _, _, _, h2⟩ := R.bo i l e
    exact ⟨_, h1, h2⟩
theorem gOwn_no {i : Nat} {γ : Gm} (h : ∀ d g, gOwn i γ ≠ .ok d g) : gOwn i γ = .no := by
  unfold gOwn at h ⊢
  split at h
  · exact (h _ _ rfl).elim
  · exact (h _ _ rfl).elim
  · rfl
theorem gOwn_cases (i : Nat) (γ : Gm) : gOwn i γ = .no ∨ ∃ l, gOwn i γ = .ok (.lst l) γ := by
  unfold gOwn
  split
  · exact .inr ⟨_, rfl⟩
  · exact .inr ⟨_, rfl⟩
  · exact .inl rfl
theorem mp_ixO {x : Str} {p : Pos} {i : Nat} (ho : PE X (.Name x p) (tVar i)) (hb : MP X W b gb) (hp : PlainIx b := by exact fun _ _ => rfl) : MP X W (.Subscript (.Name x p) b pos) (gIxO i gb) := by
  obtain ⟨tb, h2, s2⟩ := hb
  refine ⟨_, pe_ix ix_list ho h2 hp, fun f S c σ γ Q R hp => ?_⟩
  replace hp : Post X.K X.mg (vP X.K) W f S c σ γ Q (gIxO i gb γ) := hp
  unfold gIxO at hp
  rcases gOwn_cases i γ with e0 | ⟨l0, e0⟩
  · rw [e0] at hp; exact hp.elim
  · rw [e0] at hp
    obtain ⟨s, l, e1, _, _, _, e2⟩ := gOwn_ok e0
    obtain ⟨q, f1, _⟩ := R.ownL e1 e2
    refine ⟨.ref q, f1, s2.bind stab_vP R hp fun d γ1 v c1 _ x1 R1 k1 q1 h3 => ?_⟩
    rcases gOwn_cases i γ1 with e3 | ⟨l1, e3⟩
    · rw [e3] at h3; exact h3.elim
    · rw [e3] at h3
      obtain ⟨s', l', e4, _, e5, _, e6⟩ := gOwn_ok e3
      obtain ⟨q', f2, ⟨_, vs, f3, f4⟩⟩ := R1.ownL e4 e6
      rw [f1] at f2
      cases f2
      cases e5
      obtain ⟨z, e7, h4⟩ := h3.fin R1
      cases d with
      | int k =>
        cases (show v = .int _ from q1)
        obtain ⟨u, e8, h5⟩ := atI_den f4 e7
        exact ⟨q, vs, _, u, rfl, rfl, SqL.of f3, e8, h4 u c1 .refl R1.wf h5⟩
      | _ => cases e7
end
end Fv

namespace Fv
variable [LC : LamC]
open PySem L2

/-! == of data -/
def kP : Ky → PyData
  | .none => .none
  | some i => .int i
def kvP (l : DL) : List (PyData × PyData) := l.map fun p => (kP p.1, .int p.2)
theorem kvP_dep : ∀ l : DL, PyData.depthKv (kvP l) = 0
  | [] => rfl
  | (k, v) :: l => by
    have ih := kvP_dep l
    show max (max (PyData.depth (kP k)) (PyData.depth (.int v))) (PyData.depthKv (kvP l)) = 0
    rw [ih]
    cases k <;> rfl
theorem kvP_inj : ∀ l m : DL, kvP l = kvP m → l = m
  | [], [], _ => rfl
  | [], _ :: _, h => by simp [kvP] at h
  | _ :: _, [], h => by simp [kvP] at h
  | (k, v) :: l, (k', v') :: m, h => by
    have h' : (kP k, PyData.int v) :: kvP l = (kP k', PyData.int v') :: kvP m := h
    injection h' with h1 h2
    injection h1 with h3 h4
    injection h4 with h4
    have hk : k = k' := by
      cases k <;> cases k' <;> simp_all [kP]
    rw [kvP_inj l m h2, hk, h4]
mutual
def toP : D → PyData
  | .non => .none
  | .bl b => .bool b
  | .int i => .int i
  | .str x => .str x
  | .lst l => .list (toPs l)
  | .tup l => .tuple (toPs l)
  | .ob .emp => .dict []
  | .ob (.rng lo hi) => .dict [(.int lo, .int hi)]
  | .ob (.exn a d fs) => .dict [(.int a, .none), (match d with | none => .none | some x => .int x, .none), (match fs with | none => .none | some (f, _) => .str f, match fs with | some (_, some i) => .int i | _ => .none)]
  | .ob (.dct l) => .dict ((.none, .none) :: kvP l)
def toPs : List D → List PyData
  | [] => []
  | d :: l => toP d :: toPs l
end
mutual
def eqD : D → D → Bool
  | .non, .non => true
  | .bl a, .bl b => a == b
  | .bl a, .int j => (if a then 1 else 0) == j
  | .int i, .bl b => i == (if b then 1 else 0)
  | .int i, .int j => i == j
  | .str x, .str y => x == y
  | .lst l, .lst m => eqDs l m
  | .tup l, .tup m => eqDs l m
  | .ob a, .ob b => decide (a = b)
  | _, _ => false
def eqDs : List D → List D → Bool
  | [], [] => true
  | x :: l, y :: m => eqD x y && eqDs l m
  | _, _ => false
end
mutual
def dep : D → Nat
  | .lst l => deps l + 1
  | .tup l => deps l + 1
  | .ob _ => 1
  | _ => 0
def deps : List D → Nat
  | [] => 0
  | d :: l => max (dep d) (deps l)
end
mutual
def gds : D → Bool
  | .str x => PyData.strOk x
  | .lst l => gdss l
  | .tup l => gdss l
  | .ob _ => false
  | _ => true
def gdss : List D → Bool
  | [] => true
  | d :: l => gds d && gdss l
end
mutual
theorem den_dp {K : PySem.W.Frag} {c : Cf} : ∀ (d : D) (v : V), gds d = true → Den K c d v → Dp K c.H v (toP d)
  | .non, v, _, h => by cases (show v = .non from h); exact .non
  | .bl b, v, _, h => by cases (show v = .bl b from h); exact .bl b
  | .int i, v, _, h => by cases (show v = .int i from h); exact .int i
  | .str x, v, _, h => by cases (show v = .str x from h); exact .str x
  | .lst l, v, g, h => by
    obtain ⟨p, xs, rfl, q, r⟩ := h
    exact .lst q.sq (dens_dp l xs (by simpa [gds] using g) r)
  | .tup l, v, g, h => by
    obtain ⟨p, xs, rfl, q, r⟩ := h
    exact .tup q.sq (dens_dp l xs (by simpa [gds] using g) r)
  | .ob o, v, g, h => by simp [gds] at g
theorem dens_dp {K : PySem.W.Frag} {c : Cf} : ∀ (l : List D) (vs : List V), gdss l = true → Dens K c l vs → DpAll K c.H vs (toPs l)
  | [], vs, _, h => by
    have e : vs = [] := h
    subst e; exact .nil
  | d :: l, vs, g, h => by
    obtain ⟨x, r, rfl, p, q⟩ := h
    obtain ⟨g1, g2⟩ := Bool.and_eq_true_iff.mp (show (gds d && gdss l) = true by simpa [gdss] using g)
    exact .cons (den_dp d x g1 p) (dens_dp l r g2 q)
end
mutual
theorem eqD_toP : ∀ d e : D, gds d = true → PyData.eqv (toP d) (toP e) = eqD d e
  | .lst l, e, g => by
    have g' : gdss l = true := by simpa [gds] using g
    cases e with
    | lst m => unfold toP eqD PyData.eqv; exact eqDs_toP l m g'
    | ob o => cases o <;> (unfold toP eqD PyData.eqv; rfl)
    | _ => unfold toP eqD PyData.eqv; rfl
  | .tup l, e, g => by
    have g' : gdss l = true := by simpa [gds] using g
    cases e with
    | tup m => unfold toP eqD PyData.eqv; exact eqDs_toP l m g'
    | ob o => cases o <;> (unfold toP eqD PyData.eqv; rfl)
    | _ => unfold toP eqD PyData.eqv; rfl
  | .non, e, _ => by
    cases e with
    | ob o => cases o <;> (unfold toP eqD PyData.eqv; rfl)
    | _ => rfl
  | .bl b, e, _ => by
    cases e with
    | ob o => cases o <;> (unfold toP eqD PyData.eqv; rfl)
    | _ => rfl
  | .int b, e, _ => by
    cases e with
    | ob o => cases o <;> (unfold toP eqD PyData.eqv; rfl)
    | _ => rfl
  | .str b, e, _ => by
    cases e with
    | ob o => cases o <;> (unfold toP eqD PyData.eqv; rfl)
    | _ => rfl
  | .ob _, _, g => by simp [gds] at g
theorem eqDs_toP : ∀ l m : List D, gdss l = true → PyData.eqvAll (toPs l) (toPs m) = eqDs l m
  | [], [], _ => rfl
  | [], _ :: _, _ => rfl
  | _ :: _, [], _ => rfl
  | x :: l, y :: m, g => by
    obtain ⟨g1, g2⟩ := Bool.and_eq_true_iff.mp (show (gds x && gdss l) = true by simpa [gdss] using g)
    unfold toPs eqDs PyData.eqvAll
    rw [eqD_toP x y g1, eqDs_toP l m g2]
end
mutual
theorem dep_toP : ∀ d : D, PyData.depth (toP d) = dep d
  | .lst l => by unfold toP dep PyData.depth; rw [deps_toP l]
  | .tup l => by unfold toP dep PyData.depth; rw [deps_toP l]
  | .non => rfl
  | .bl _ => rfl
  | .int _ => rfl
  | .str _ => rfl
  | .ob .emp => by simp [toP, dep, PyData.depth, PyData.depthKv]
  | .ob (.rng _ _) => by simp [toP, dep, PyData.depth, PyData.depthKv]
  | .ob (.exn a d fs) => by cases d <;> (rcases fs with _ | ⟨f, _ | i⟩) <;> simp [toP, dep, PyData.depth, PyData.depthKv]
  | .ob (.dct l) => by simp [toP, dep, PyData.depth, PyData.depthKv, kvP_dep]
theorem deps_toP : ∀ l : List D, PyData.depthAll (toPs l) = deps l
  | [] => rfl
  | d :: l => by unfold toPs deps PyData.depthAll; rw [dep_toP d, deps_toP l]
end
mutual
theorem gds_toP : ∀ d : D, PyData.canLay0 (toP d) = gds d
  | .lst l => by unfold toP gds PyData.canLay0; exact gdss_toP l
  | .tup l => by unfold toP gds PyData.canLay0; exact gdss_toP l
  | .non => rfl
  | .bl _ => rfl
  | .int _ => rfl
  | .str _ => rfl
  | .ob .emp => by simp [toP, gds, PyData.canLay0]
  | .ob (.rng _ _) => by simp [toP, gds, PyData.canLay0]
  | .ob (.exn a d fs) => by simp [toP, gds, PyData.canLay0]
  | .ob (.dct _) => by simp [toP, gds, PyData.canLay0]
theorem gdss_toP : ∀ l : List D, PyData.canLayAll0 (toPs l) = gdss l
  | [] => rfl
  | d :: l => by unfold toPs gdss PyData.canLayAll0; rw [gds_toP d, gdss_toP l]
end
def eqOk (d : D) : Bool := gds d && decide (dep d ≤ 64)
def dEq : D → D → Option D := fun d e => if eqOk d && eqOk e then some (.bl (eqD d e)) else none
def dNe : D → D → Option D := fun d e => if eqOk d && eqOk e then some (.bl (!eqD d e)) else none
theorem shaped_of {d : D} (h : eqOk d = true) : SeqAt.shaped (toP d) = true := by
  unfold SeqAt.shaped
  rw [gds_toP, dep_toP]
  exact h
theorem eqOk_gds {d : D} (h : eqOk d = true) : gds d = true := (Bool.and_eq_true_iff.mp h).1
theorem eq_meets {K : PySem.W.Frag} : Meet2 K (rEqD K) dEq := by
  intro c d e z v w Q wf q1 q2 q3 q4
  obtain ⟨h1, h2⟩ := ite_of q1
  obtain ⟨h3, h4⟩ := Bool.and_eq_true_iff.mp h1
  cases h2
  refine ⟨toP d, toP e, den_dp d v (eqOk_gds h3) q2, den_dp e w (eqOk_gds h4) q3, shaped_of h3, shaped_of h4, ?_⟩
  rw [eqD_toP _ _ (eqOk_gds h3)]
  exact q4 _ c .refl wf rfl
theorem ne_meets {K : PySem.W.Frag} : Meet2 K (rNeD K) dNe := by
  intro c d e z v w Q wf q1 q2 q3 q4
  obtain ⟨h1, h2⟩ := ite_of q1
  obtain ⟨h3, h4⟩ := Bool.and_eq_true_iff.mp h1
  cases h2
  refine ⟨toP d, toP e, den_dp d v (eqOk_gds h3) q2, den_dp e w (eqOk_gds h4) q3, shaped_of h3, shaped_of h4, ?_⟩
  rw [eqD_toP _ _ (eqOk_gds h3)]
  exact q4 _ c .refl wf rfl
section
variable {X : Cx} {W : WX} {pos : Pos} {a b e : Expr} {es : List Expr} {ga gb : Gm → Rs D} {gs : Gm → Rs (List D)}
theorem mp_eq (hu : X.A.units + 64 < cLine) (ha : MP X W a ga) (hb : MP X W b gb) : MB X W (.Compare a [.Eq] [b] pos) (g2 dEq ga gb) := mp_cmp (op_eqD hu) eq_meets ha hb (nomark _)
theorem mp_ne (hu : X.A.units + 64 < cLine) (ha : MP X W a ga) (hb : MP X W b gb) : MB X W (.Compare a [.NotEq] [b] pos) (g2 dNe ga gb) := mp_cmp (op_neD hu) ne_meets ha hb (nomark _)

/-! x in xs, of scalars -/
def flatD : D → Bool
  | .lst _ => false
  | .tup _ => false
  | .ob _ => false
  | _ => true
def itemsD : D → Option (List D)
  | .lst l => some l
  | .tup l => some l
  | _ => none
def dInB (d e : D) : Option Bool := match itemsD e with
  | some l => if flatD d && l.all flatD then some (l.any fun y => eqD y d) else none
  | none => none
def dIn : D → D → Option D := fun d e => (dInB d e).map .bl
def dNotIn : D → D → Option D := fun d e => (dInB d e).map fun k => .bl (!k)
theorem flat_den {K : PySem.W.Frag} {c : Cf} {d : D} {v : V} (h : Den K c d v) (f : flatD d = true) : flatV v = true := by
  cases d with
  | non => cases (show v = .non from h); rfl
  | bl _ => cases (show v = .bl _ from h); rfl
  | int _ => cases (show v = .int _ from h); rfl
  | str _ => cases (show v = .str _ from h); rfl
  | lst _ => cases f
  | tup _ => cases f
  | ob _ => cases f
theorem flats_den {K : PySem.W.Frag} {c : Cf} : ∀ {l : List D} {vs : List V}, Dens K c l vs → l.all flatD = true → vs.all flatV = true
  | [], vs, h, _ => by
    have e : vs = [] := h
    subst e; rfl
  | d :: l, vs, h, f => by
    obtain ⟨x, r, rfl, p, q⟩ := h
    obtain ⟨f1, f2⟩ := Bool.and_eq_true_iff.mp (show (flatD d && l.all flatD) = true from f)
    show (flatV x && r.all flatV) = true
    rw [flat_den p f1, flats_den q f2]; rfl
theorem eqV_den {K : PySem.W.Frag} {c : Cf} {d e : D} {v w : V} (h : Den K c d v) (h' : Den K c e w) (f : flatD d = true) (f' : flatD e = true) : eqV v w = eqD d e := by
  cases d <;> cases e <;> first
    | (cases f; done)
    | (cases f'; done)
    | (have e1 := (show v = _ from h); have e2 := (show w = _ from h'); subst e1; subst e2; rfl)
theorem any_den {K : PySem.W.Frag} {c : Cf} {d : D} {v : V} (h : Den K c d v) (f : flatD d = true) : ∀ {l : List D} {vs : List V}, Dens K c l vs → l.all flatD = true → (vs.any fun y => eqV y v) = (l.any fun y => eqD y d)
  | [], vs, q, _ => by
    have e : vs = [] := q
    subst e; rfl
  | y :: l, vs, q, fl => by
    obtain ⟨x, r, rfl, p, q⟩ := q
    obtain ⟨f1, f2⟩ := Bool.and_eq_true_iff.mp (show (flatD y && l.all flatD) = true from fl)
    show (eqV x v || r.any fun y => eqV y v) = (eqD y d || l.any fun y => eqD y d)
    rw [eqV_den p h f1 f, any_den h f q f2]
theorem inB_meets {K : PySem.W.Frag} {c : Cf} {d e : D} {k : Bool} {v w : V} (h : dInB d e = some k) (q2 : Den K c d v) (q3 : Den K c e w) :
    ∃ p xs, w = .ref p ∧ (SqL K c.H p xs ∨ SqT K c.H p xs) ∧ flatV v = true ∧ xs.all flatV = true ∧ inV v xs = k := by
  unfold dInB at h
  cases e with
  | lst l =>
    obtain ⟨h1, h2⟩ := ite_of h
    obtain ⟨f1, f2⟩ := Bool.and_eq_true_iff.mp h1
    obtain ⟨p, xs, rfl, r1, r2⟩ := q3
    exact ⟨p, xs, rfl, .inl r1.sq, flat_den q2 f1, flats_den r2 f2, (any_den q2 f1 r2 f2).trans h2⟩
  | tup l =>
    obtain ⟨h1, h2⟩ := ite_of h
    obtain ⟨f1, f2⟩ := Bool.and_eq_true_iff.mp h1
    obtain ⟨p, xs, rfl, r1, r2⟩ := q3
    exact ⟨p, xs, rfl, .inr r1.sq, flat_den q2 f1, flats_den r2 f2, (any_den q2 f1 r2 f2).trans h2⟩
  | _ => cases h
theorem map_some {α β : Type} {o : Option α} {h : α → β} {z : β} (e : o.map h = some z) : ∃ k, o = some k ∧ h k = z := by
  cases o with
  | none => cases e
  | some k => exact ⟨k, rfl, Option.some.inj e⟩
theorem mp_in (ha : MP X W a ga) (hb : MP X W b gb) (hn : behindInMarks .In b = false := by rfl) : MB X W (.Compare a [.In] [b] pos) (g2 dIn ga gb) := mp_cmp op_in_seq (fun c d e z v w Q wf q1 q2 q3 q4 => by
  obtain ⟨k, e1, e2⟩ := map_some q1
  obtain ⟨p, xs, e3, h1, h2, h3, h4⟩ := inB_meets e1 q2 q3
  refine ⟨p, xs, e3, h1, h2, h3, ?_⟩
  rw [h4]
  show Q (V.bl k) c.H
  exact q4 (.bl k) c .refl wf (by rw [← e2]; rfl)) ha hb hn
theorem mp_notIn (ha : MP X W a ga) (hb : MP X W b gb) (hn : behindInMarks .NotIn b = false := by rfl) : MB X W (.Compare a [.NotIn] [b] pos) (g2 dNotIn ga gb) := mp_cmp op_notIn_seq (fun c d e z v w Q wf q1 q2 q3 q4 => by
  obtain ⟨k, e1, e2⟩ := map_some q1
  obtain ⟨p, xs, e3, h1, h2, h3, h4⟩ := inB_meets e1 q2 q3
  refine ⟨p, xs, e3, h1, h2, h3, ?_⟩
  rw [h4]
  show Q (V.bl (!k)) c.H
  exact q4 (.bl (!k)) c .refl wf (by rw [← e2]; rfl)) ha hb hn
end
end Fv

namespace Fv
variable [LC : LamC]
open PySem L2

section
variable {X : Cx} {W : WX} {pos : Pos} {a b e : Expr} {es : List Expr} {ga gb : Gm → Rs D} {gs : Gm → Rs (List D)}
/-! + of intL, texts, lists, tuples -/
def rCatLs (K : PySem.W.Frag) : R2 := fun x y H Q => ∃ l m xs ys, x = .ref l ∧ y = .ref m ∧ SqL K H l xs ∧ SqL K H m ys ∧ xs.length + ys.length ≤ sizeLine ∧ ∀ p, H p = none → Q (.ref p) (upd H p (.lst (xs ++ ys)))
theorem op_catLs : OpR X (binaryOp .Add) (rCatLs X.K) := by
  intro pn s st hp x y v u Q inv rx ry hw
  obtain ⟨l, m, xs, ys, rfl, rfl, h1, h2, hz, q⟩ := hw
  cases rx
  cases ry
  obtain ⟨its, r1, ⟨⟨c1, d1, dt1, sl1⟩, n1, o1, p1, p2, p3⟩, _⟩ := inv.list h1
  obtain ⟨its2, r2, ⟨⟨c2, d2, dt2, sl2⟩, n2, o2, p4, p5, p6⟩, _⟩ := inv.list h2
  simp only at p1 p2 p3 p4 p5 p6
  subst p1 p3 p4 p6
  refine concat_meets ⟨_, o1, rfl⟩ ⟨_, o2, rfl⟩ noFill_list_add seq_list_add PySem.F.slot_list_add PySem.F.entry_list_add (PySem.F.args_list_add_2 _ _)
    (PyProof.Rows.list_addW l m its.toArray its2.toArray n1 n2 d1 d2 sl1 sl2 (by have := r1.length; have := r2.length; rw [List.size_toArray, List.size_toArray]; omega)) ⟨o1, o2, ?_⟩
  have ea : its.toArray ++ its2.toArray = (its ++ its2).toArray := by simp
  rw [ea]
  exact ⟨.ref _, _, inv.lnew (t' := s.toks) (r1.append r2) (by rw [List.length_append]; omega), rfl, q _ inv.fresh⟩
def rAddStr : R2 := fun x y H Q => ∃ i j, x = V.str i ∧ y = V.str j ∧ i.length + j.length ≤ sizeLine ∧ Q (V.str (i ++ j)) H
def rAdd (K : PySem.W.Frag) : R2 := fun x y H Q => rI0 (fun i j => V.int (i + j)) x y H Q ∨ rAddStr x y H Q ∨ rCatLs K x y H Q ∨ rCatF K x y H Q
theorem op_addAll : OpR X (binaryOp .Add) (rAdd X.K) := by
  intro pn s st hp x y v u Q inv rx ry hw
  rcases hw with hw | hw | hw | hw
  · exact op_add pn s st hp x y v u Q inv rx ry hw
  · exact op_add_str pn s st hp x y v u Q inv rx ry hw
  · exact op_catLs pn s st hp x y v u Q inv rx ry hw
  · exact op_catF pn s st hp x y v u Q inv rx ry hw
def dAdd : D → D → Option D
  | .int i, .int j => some (.int (i + j))
  | .str x, .str y => if x.length + y.length ≤ sizeLine then some (.str (x ++ y)) else none
  | .lst l, .lst m => if l.length + m.length ≤ sizeLine then some (.lst (l ++ m)) else none
  | .tup l, .tup m => if l.length + m.length ≤ sizeLine then some (.tup (l ++ m)) else none
  | _, _ => none
theorem add_meets {K : PySem.W.Frag} : Meet2 K (rAdd K) dAdd := by
  intro c d e z v w Q wf q1 q2 q3 q4
  unfold dAdd at q1
  split at q1
  · cases q1
    exact .inl ⟨_, _, q2, q3, q4 _ c .refl wf rfl⟩
  · obtain ⟨h1, h2⟩ := ite_of q1
    cases h2
    exact .inr (.inl ⟨_, _, q2, q3, h1, q4 _ c .refl wf rfl⟩)
  · obtain ⟨h1, h2⟩ := ite_of q1
    cases h2
    obtain ⟨p, xs, rfl, r1, r2⟩ := q2
    obtain ⟨q, ys, rfl, r3, r4⟩ := q3
    refine .inr (.inr (.inl ⟨p, q, xs, ys, rfl, rfl, r1.sq, r3.sq, by rw [r2.length, r4.length]; exact h1, fun k n => ?_⟩))
    exact q4 (.ref k) ⟨c.M, upd c.H k (.lst (xs ++ ys))⟩ (Ext.new n) (wf.new n) (Den.lst wf n (r2.app r4))
  · obtain ⟨h1, h2⟩ := ite_of q1
    cases h2
    obtain ⟨p, xs, rfl, r1, r2⟩ := q2
    obtain ⟨q, ys, rfl, r3, r4⟩ := q3
    refine .inr (.inr (.inr ⟨p, q, xs, ys, rfl, rfl, r1.sq, r3.sq, by rw [r2.length, r4.length]; exact h1, fun h => ?_, fun h h' => ?_, fun h h' k o hd n => ?_⟩))
    · have e2 := r2.app r4
      rw [h] at e2
      exact q4 (.ref q) c .refl wf ⟨q, ys, rfl, r3, e2⟩
    · have e2 := r2.app r4
      rw [h', List.append_nil] at e2
      exact q4 (.ref p) c .refl wf ⟨p, xs, rfl, r1, e2⟩
    · exact q4 (.ref k) ⟨c.M, upd c.H k (.frz o (.tup (xs ++ ys)))⟩ (Ext.new n) (wf.new n) (Den.tup wf n hd (r2.app r4))
  · cases q1
theorem mp_add (ha : MP X W a ga) (hb : MP X W b gb) : MP X W (.BinOp a .Add b pos) (g2 dAdd ga gb) := mp_op op_addAll add_meets ha hb

/-! lists and tuples by their class -/
def dTupOf : List D → Option D
  | [.lst l] => some (.tup l)
  | [.tup l] => some (.tup l)
  | _ => none
theorem mp_tupleOf {p : Pos} (hg : Gl X "tuple") (hm : X.mg "tuple" = none) (ha : MP X W a ga) (h3 : starEach [a] X.env = (false, eval a X.env) :: starEach [] X.env := by rfl) : MP X W (.Call (.Name "tuple" p) [a] [] pos) (gB dTupOf (gCons ga gNil)) := by
  refine mp_callTy call_tuple_ofF (fun c l z vs Q wf h q k => ?_) hg hm (by decide +kernel) (md_cons ha md_nil h3) (h3 := h3)
  unfold dTupOf at h
  split at h
  · obtain ⟨v, rfl, p, xs, rfl, p1, p2⟩ := dens1 q
    cases h
    exact ⟨p, xs, rfl, .inl ⟨p1.sq, fun q o hd n => k (.ref q) ⟨c.M, upd c.H q (.frz o (.tup xs))⟩ (Ext.new n) (wf.new n) (Den.tup wf n hd p2)⟩⟩
  · obtain ⟨v, rfl, p, xs, rfl, p1, p2⟩ := dens1 q
    cases h
    exact ⟨p, xs, rfl, .inr ⟨p1.sq, k (.ref p) c .refl wf ⟨p, xs, rfl, p1, p2⟩⟩⟩
  · cases h
def dLstOf : List D → Option (List D)
  | [.lst l] => some l
  | [.tup l] => some l
  | _ => none
theorem mf_listOf {p : Pos} (hg : Gl X "list") (hm : X.mg "list" = none) (ha : MP X W a ga) (h3 : starEach [a] X.env = (false, eval a X.env) :: starEach [] X.env := by rfl) : MF X W (.Call (.Name "list" p) [a] [] pos) (gBF dLstOf (gCons ga gNil)) := by
  refine mf_callTy call_list_of (fun c l z vs Q wf h q k => ?_) hg hm (by decide +kernel) (md_cons ha md_nil h3) (h3 := h3)
  unfold dLstOf at h
  split at h
  · obtain ⟨v, rfl, p, xs, rfl, p1, p2⟩ := dens1 q
    cases h
    exact ⟨p, xs, rfl, .inl p1.sq, fun q n => k q xs n p2⟩
  · obtain ⟨v, rfl, p, xs, rfl, p1, p2⟩ := dens1 q
    cases h
    exact ⟨p, xs, rfl, .inr p1.sq, fun q n => k q xs n p2⟩
  · cases h

/-! numbers -/
def intL : List D → Option (List Int)
  | [] => some []
  | .int i :: l => (intL l).map (i :: ·)
  | _ :: _ => none
theorem intL_den {K : PySem.W.Frag} {c : Cf} : ∀ {l : List D} {ns : List Int} {vs : List V}, intL l = some ns → Dens K c l vs → vs = ns.map V.int
  | [], ns, vs, e, h => by
    cases e
    exact h
  | d :: l, ns, vs, e, h => by
    obtain ⟨x, r, rfl, p, q⟩ := h
    cases d with
    | int i =>
      obtain ⟨m, e1, e2⟩ := map_some (show (intL l).map (i :: ·) = some ns from e)
      subst e2
      cases (show x = .int i from p)
      rw [intL_den e1 q]; rfl
    | _ => cases e
def dSum : List D → Option D
  | [.lst l] => (intL l).map fun ns => .int ns.sum
  | _ => none
theorem mp_sum (hc : X.calm = true) {p : Pos} (hg : Gl X "sum") (hm : X.mg "sum" = none) (ha : MP X W a ga) (h3 : starEach [a] X.env = (false, eval a X.env) :: starEach [] X.env := by rfl) : MP X W (.Call (.Name "sum" p) [a] [] pos) (gB dSum (gCons ga gNil)) := by
  refine mp_callB (cr_sum hc) (fun c l z vs Q wf h q k => ?_) hg hm (by decide +kernel) (md_cons ha md_nil h3) (h3 := h3)
  unfold dSum at h
  split at h
  · obtain ⟨v, rfl, p, xs, rfl, p1, p2⟩ := dens1 q
    obtain ⟨ns, e1, e2⟩ := map_some h
    cases e2
    have e3 := intL_den e1 p2
    subst e3
    exact ⟨p, ns, rfl, p1.sq, k _ c .refl wf rfl⟩
  · cases h
def minI : Int → List Int → Int
  | m, [] => m
  | m, i :: l => minI (if i < m then i else m) l
def maxI : Int → List Int → Int
  | m, [] => m
  | m, i :: l => maxI (if m < i then i else m) l
theorem maxI_spec : ∀ (l : List Int) (m : Int), (maxI m l = m ∨ maxI m l ∈ l) ∧ m ≤ maxI m l ∧ ∀ y ∈ l, y ≤ maxI m l
  | [], m => ⟨.inl rfl, Int.le_refl _, fun y h => nomatch h⟩
  | i :: l, m => by
    obtain ⟨h1, h2, h3⟩ := maxI_spec l (if m < i then i else m)
    have e : maxI m (i :: l) = maxI (if m < i then i else m) l := rfl
    rw [e]
    refine ⟨?_, ?_, fun y hy => ?_⟩
    · rcases h1 with h1 | h1
      · rw [h1]
        split
        · exact .inr (List.mem_cons_self ..)
        · exact .inl rfl
      · exact .inr (List.mem_cons_of_mem _ h1)
    · exact Int.le_trans (by split <;> omega) h2
    · rcases List.mem_cons.mp hy with rfl | hy
      · exact Int.le_trans (by split <;> omega) h2
      · exact h3 y hy
theorem minI_spec : ∀ (l : List Int) (m : Int), (minI m l = m ∨ minI m l ∈ l) ∧ minI m l ≤ m ∧ ∀ y ∈ l, minI m l ≤ y
  | [], m => ⟨.inl rfl, Int.le_refl _, fun y h => nomatch h⟩
  | i :: l, m => by
    obtain ⟨h1, h2, h3⟩ := minI_spec l (if i < m then i else m)
    have e : minI m (i :: l) = minI (if i < m then i else m) l := rfl
    rw [e]
    refine ⟨?_, ?_, fun y hy => ?_⟩
    · rcases h1 with h1 | h1
      · rw [h1]
        split
        · exact .inr (List.mem_cons_self ..)
        · exact .inl rfl
      · exact .inr (List.mem_cons_of_mem _ h1)
    · exact Int.le_trans h2 (by split <;> omega)
    · rcases List.mem_cons.mp hy with rfl | hy
      · exact Int.le_trans h2 (by split <;> omega)
      · exact h3 y hy
def topI (h : Int → List Int → Int) : List D → Option D
  | [.lst (d :: l)] => match d, intL l with
    | .int i, some ns => some (.int (h i ns))
    | _, _ => none
  | _ => none
theorem topI_some {h : Int → List Int → Int} {l : List D} {z : D} (e : topI h l = some z) : ∃ i l' ns, l = [.lst (.int i :: l')] ∧ intL l' = some ns ∧ z = .int (h i ns) := by
  unfold topI at e
  split at e
  · split at e
    · rename_i i ns e1
      cases e
      exact ⟨i, _, ns, rfl, e1, rfl⟩
    · cases e
  · cases e
def dMax : List D → Option D := topI maxI
def dMin : List D → Option D := topI minI
theorem intL_cons {i : Int} {l : List D} {ns : List Int} (e : intL l = some ns) : intL (.int i :: l) = some (i :: ns) := by
  show (intL l).map (i :: ·) = _
  rw [e]; rfl
theorem mp_maxL (hc : X.calm = true) {p : Pos} (hg : Gl X "max") (hm : X.mg "max" = none) (ha : MP X W a ga) (h3 : starEach [a] X.env = (false, eval a X.env) :: starEach [] X.env := by rfl) : MP X W (.Call (.Name "max" p) [a] [] pos) (gB dMax (gCons ga gNil)) := by
  refine mp_callB (cr_max hc) (fun c l z vs Q wf h q k => ?_) hg hm (by decide +kernel) (md_cons ha md_nil h3) (h3 := h3)
  obtain ⟨i, l', ns, rfl, e1, rfl⟩ := topI_some h
  obtain ⟨v, rfl, p, xs, rfl, p1, p2⟩ := dens1 q
  have e3 := intL_den (intL_cons e1) p2
  subst e3
  refine ⟨p, i :: ns, rfl, p1.sq, Nat.succ_pos _, fun m hm hle => ?_⟩
  obtain ⟨h1, h2, h3⟩ := maxI_spec ns i
  have e4 : m = maxI i ns := by
    have a1 : maxI i ns ≤ m := hle _ (h1.elim (fun e => by rw [e]; exact List.mem_cons_self ..) (List.mem_cons_of_mem _))
    have a2 : m ≤ maxI i ns := (List.mem_cons.mp hm).elim (fun e => by rw [e]; exact h2) (h3 m)
    omega
  rw [e4]
  exact k _ c .refl wf rfl
theorem mp_minL (hc : X.calm = true) {p : Pos} (hg : Gl X "min") (hm : X.mg "min" = none) (ha : MP X W a ga) (h3 : starEach [a] X.env = (false, eval a X.env) :: starEach [] X.env := by rfl) : MP X W (.Call (.Name "min" p) [a] [] pos) (gB dMin (gCons ga gNil)) := by
  refine mp_callB (cr_min hc) (fun c l z vs Q wf h q k => ?_) hg hm (by decide +kernel) (md_cons ha md_nil h3) (h3 := h3)
  obtain ⟨i, l', ns, rfl, e1, rfl⟩ := topI_some h
  obtain ⟨v, rfl, p, xs, rfl, p1, p2⟩ := dens1 q
  have e3 := intL_den (intL_cons e1) p2
  subst e3
  refine ⟨p, i :: ns, rfl, p1.sq, Nat.succ_pos _, fun m hm hle => ?_⟩
  obtain ⟨h1, h2, h3⟩ := minI_spec ns i
  have e4 : m = minI i ns := by
    have a1 : m ≤ minI i ns := hle _ (h1.elim (fun e => by rw [e]; exact List.mem_cons_self ..) (List.mem_cons_of_mem _))
    have a2 : minI i ns ≤ m := (List.mem_cons.mp hm).elim (fun e => by rw [e]; exact h2) (h3 m)
    omega
  rw [e4]
  exact k _ c .refl wf rfl
def dMin2 : List D → Option D
  | [.int i, .int j] => some (.int (if j < i then j else i))
  | _ => none
def dMax2 : List D → Option D
  | [.int i, .int j] => some (.int (if j > i then j else i))
  | _ => none
theorem mp_min2 (hc : X.calm = true) {p : Pos} (hg : Gl X "min") (hm : X.mg "min" = none) (ha : MP X W a ga) (hb : MP X W b gb) (h3 : starEach [a, b] X.env = (false, eval a X.env) :: starEach [b] X.env := by rfl) (h5 : starEach [b] X.env = (false, eval b X.env) :: starEach [] X.env := by rfl) (h4 : (backTo pos (starEach [b] X.env)).any (·.1) = false := by rfl) :
    MP X W (.Call (.Name "min" p) [a, b] [] pos) (gB dMin2 (gCons ga (gCons gb gNil))) := by
  refine mp_callB (call_min2 hc) (fun c l z vs Q wf h q k => ?_) hg hm (by decide +kernel) (md_cons ha (md_cons hb md_nil h5) h3) (h3 := h3) (h4 := h4)
  unfold dMin2 at h
  split at h
  · obtain ⟨v, w, rfl, p1, p2⟩ := dens2 q
    cases h
    cases (show v = .int _ from p1)
    cases (show w = .int _ from p2)
    exact ⟨_, _, rfl, k _ c .refl wf rfl⟩
  · cases h
theorem mp_max2 (hc : X.calm = true) {p : Pos} (hg : Gl X "max") (hm : X.mg "max" = none) (ha : MP X W a ga) (hb : MP X W b gb) (h3 : starEach [a, b] X.env = (false, eval a X.env) :: starEach [b] X.env := by rfl) (h5 : starEach [b] X.env = (false, eval b X.env) :: starEach [] X.env := by rfl) (h4 : (backTo pos (starEach [b] X.env)).any (·.1) = false := by rfl) :
    MP X W (.Call (.Name "max" p) [a, b] [] pos) (gB dMax2 (gCons ga (gCons gb gNil))) := by
  refine mp_callB (call_max2 hc) (fun c l z vs Q wf h q k => ?_) hg hm (by decide +kernel) (md_cons ha (md_cons hb md_nil h5) h3) (h3 := h3) (h4 := h4)
  unfold dMax2 at h
  split at h
  · obtain ⟨v, w, rfl, p1, p2⟩ := dens2 q
    cases h
    cases (show v = .int _ from p1)
    cases (show w = .int _ from p2)
    exact ⟨_, _, rfl, k _ c .refl wf rfl⟩
  · cases h
def dInt1 : List D → Option D
  | [.int i] => some (.int i)
  | [.bl k] => some (.int (if k then 1 else 0))
  | _ => none
theorem mp_int1 {p : Pos} (hg : Gl X "int") (hm : X.mg "int" = none) (ha : MP X W a ga) (h3 : starEach [a] X.env = (false, eval a X.env) :: starEach [] X.env := by rfl) : MP X W (.Call (.Name "int" p) [a] [] pos) (gB dInt1 (gCons ga gNil)) := by
  refine mp_callTy call_int1 (fun c l z vs Q wf h q k => ?_) hg hm (by decide +kernel) (md_cons ha md_nil h3) (h3 := h3)
  unfold dInt1 at h
  split at h
  · obtain ⟨v, rfl, p1⟩ := dens1 q
    cases h
    cases (show v = .int _ from p1)
    exact .inl ⟨_, rfl, k _ c .refl wf rfl⟩
  · obtain ⟨v, rfl, p1⟩ := dens1 q
    cases h
    cases (show v = .bl _ from p1)
    exact .inr ⟨_, rfl, k _ c .refl wf rfl⟩
  · cases h

/-! slices of lists and tuples -/
def cutD (l : List D) (lo hi : Option Int) : List D := (l.drop (HT.sIx l.length 0 lo)).take (HT.sIx l.length l.length hi - HT.sIx l.length 0 lo)
def gPart : Option (Gm → Rs D) → Gm → Rs (Option Int)
  | none, γ => .ok none γ
  | some g, γ => (g γ).bind fun d γ1 => match d with
    | .int i => .ok (some i) γ1
    | _ => .no
def dCut : D → Option Int → Option Int → Option D
  | .lst l, lo, hi => some (.lst (cutD l lo hi))
  | .tup l, lo, hi => some (.tup (cutD l lo hi))
  | _, _, _ => none
def gCut (ga : Gm → Rs D) (gl gh : Option (Gm → Rs D)) : Gm → Rs D := fun γ => (ga γ).bind fun d γ1 => (gPart gl γ1).bind fun lo γ2 => (gPart gh γ2).bind fun hi γ3 => ofO (dCut d lo hi) γ3
def MO (X : Cx) (W : WX) (e : Option Expr) (g : Option (Gm → Rs D)) : Prop := ∃ t, PO X e t ∧ Sim X W (fun _ _ _ (a : Option Int) b => a = b) t (gPart g)
theorem mo_none : MO X W none none := ⟨_, po_none, fun f S c σ γ Q R hp => hp none c .refl R .refl rfl⟩
theorem mo_some (ha : MP X W a ga) : MO X W (some a) (some ga) := by
  obtain ⟨ta, h1, s1⟩ := ha
  refine ⟨_, po_some h1, fun f S c σ γ Q R hp => s1.bind (fun _ _ _ _ _ _ _ _ _ h => h) R hp fun d γ1 v c1 _ x1 R1 k1 q1 h3 => ?_⟩
  cases d with
  | int i =>
    cases (show v = .int i from q1)
    exact ⟨i, rfl, h3 (some i) c1 .refl R1 .refl rfl⟩
  | _ => exact h3.elim
def rCut (K : PySem.W.Frag) : V → Option Int → Option Int → Hp → VK → Prop := fun x lo hi H Q => rSlL K x lo hi H Q ∨ rSlF K x lo hi H Q
theorem cut_den {K : PySem.W.Frag} {c : Cf} {l : List D} {xs : List V} (q : Dens K c l xs) (lo hi : Option Int) : Dens K c (cutD l lo hi) (cutV xs lo hi) := by
  unfold cutD cutV
  rw [q.length]
  exact (q.drop _).take _
theorem mp_cut {lo hi : Option Expr} {gl gh : Option (Gm → Rs D)} {p2 : Pos} (ha : MP X W a ga) (hl : MO X W lo gl) (hh : MO X W hi gh) : MP X W (.Subscript a (.Slice lo hi none p2) pos) (gCut ga gl gh) := by
  obtain ⟨ta, h1, s1⟩ := ha
  obtain ⟨tl, h2, s2⟩ := hl
  obtain ⟨th, h3, s3⟩ := hh
  refine ⟨_, pe_slice (SlR.or sl_list sl_tupF) h1 h2 h3, fun f S c σ γ Q R hp => s1.bind stab_vP R hp fun d γ1 v c1 _ x1 R1 k1 q1 h4 => s2.bind stab_vP R1 h4 fun o γ2 o' c2 _ x2 R2 k2 q2 h5 => s3.bind stab_vP R2 h5 fun u γ3 u' c3 _ x3 R3 k3 q3 h6 => ?_⟩
  cases (show o = o' from q2)
  cases (show u = u' from q3)
  have q1' := (q1.ext R1.wf x2).ext R2.wf x3
  obtain ⟨z, e1, h7⟩ := h6.fin R3
  cases d with
  | lst l =>
    cases e1
    obtain ⟨p, xs, rfl, p1, p2⟩ := q1'
    exact .inl ⟨p, xs, rfl, p1.sq, fun k n => h7 (.ref k) ⟨c3.M, upd c3.H k (.lst (cutV xs o u))⟩ (Ext.new n) (R3.wf.new n) (Den.lst R3.wf n (cut_den p2 o u))⟩
  | tup l =>
    cases e1
    obtain ⟨p, xs, rfl, p1, p2⟩ := q1'
    refine .inr ⟨p, xs, rfl, p1.sq, fun h => ?_, fun _ k ob hd n => h7 (.ref k) ⟨c3.M, upd c3.H k (.frz ob (.tup (cutV xs o u)))⟩ (Ext.new n) (R3.wf.new n) (Den.tup R3.wf n hd (cut_den p2 o u))⟩
    refine h7 (.ref p) c3 .refl R3.wf ⟨p, xs, rfl, p1, ?_⟩
    have e2 : cutV xs o u = xs := by
      unfold cutV
      rw [h.1, h.2]
      exact List.take_length
    have e3 := cut_den p2 o u
    rw [e2] at e3
    exact e3
  | _ => cases e1
end
end Fv

namespace Fv
variable [LC : LamC]
open PySem L2

/-! arguments of an own def: data, or a list of this frame that the def may write -/
inductive Ar where
  | d (x : D) | s (j : Nat)
def ArOk (K : PySem.W.Frag) (c : Cf) (σ : St) : Ar → V → Prop
  | .d x, v => Den K c x v
  | .s j, v => σ[j]? = some (some v)
def ArsOk (K : PySem.W.Frag) (c : Cf) (σ : St) : List Ar → List V → Prop
  | [], vs => vs = []
  | a :: l, vs => ∃ x r, vs = x :: r ∧ ArOk K c σ a x ∧ ArsOk K c σ l r
def vA (K : PySem.W.Frag) : VR (List Ar) (List V) := fun σ _ c' l vs => ArsOk K c' σ l vs
theorem stab_vA {K : PySem.W.Frag} : Stab (vA K) := fun _ _ _ _ _ _ _ _ _ h => h
theorem ArOk.ext {K : PySem.W.Frag} {S : Addr → Prop} {c c' : Cf} {σ : St} (w : WF c) (x : Ext S c c') {a : Ar} {v : V} (h : ArOk K c σ a v) : ArOk K c' σ a v := by
  cases a with
  | d y => exact Den.ext w x h
  | s j => exact h
theorem ArsOk.at {K : PySem.W.Frag} {c : Cf} {σ : St} : ∀ {l : List Ar} {vs : List V}, ArsOk K c σ l vs → vs.length = l.length ∧ ∀ (i : Nat) (a : Ar), l[i]? = some a → ∃ v, vs[i]? = some v ∧ ArOk K c σ a v
  | [], vs, h => by
    have e : vs = [] := h
    subst e
    exact ⟨rfl, fun i a e => by simp at e⟩
  | a :: l, vs, h => by
    obtain ⟨x, r, rfl, p, q⟩ := h
    obtain ⟨h1, h2⟩ := ArsOk.at q
    refine ⟨by rw [List.length_cons, List.length_cons, h1], fun i a' e => ?_⟩
    cases i with
    | zero =>
      have e' : a = a' := by simpa using e
      subst e'
      exact ⟨x, rfl, p⟩
    | succ i =>
      obtain ⟨v, e1, e2⟩ := h2 i a' (by simpa using e)
      exact ⟨v, by simpa using e1, e2⟩
structure MA (X : Cx) (W : WX) (es : List Expr) (g : Gm → Rs (List Ar)) : Prop where
  ex : ∃ t, PA X es t ∧ Sim X W (vA X.K) t g
  len : ∀ γ l γ1, g γ = .ok l γ1 → l.length = es.length
def aNil : Gm → Rs (List Ar) := fun γ => .ok [] γ
def aCons (ga : Gm → Rs D) (gs : Gm → Rs (List Ar)) : Gm → Rs (List Ar) := fun γ => (ga γ).bind fun d γ1 => (gs γ1).bind fun l γ2 => .ok (.d d :: l) γ2
def aSlot (i : Nat) (gs : Gm → Rs (List Ar)) : Gm → Rs (List Ar) := fun γ => (gOwn i γ).bind fun _ γ1 => (gs γ1).bind fun l γ2 => .ok (.s i :: l) γ2
section
variable {X : Cx} {W : WX} {pos : Pos} {a b e : Expr} {es : List Expr} {ga gb : Gm → Rs D} {gs : Gm → Rs (List Ar)}
theorem ma_nil : MA X W [] aNil := ⟨⟨_, pa_nil, fun f S c σ γ Q R hp => hp [] c .refl R .refl rfl⟩, fun γ l γ1 e => by cases e; rfl⟩
theorem ma_cons (ha : MP X W e ga) (hr : MA X W es gs) (hs : starEach (e :: es) X.env = (false, eval e X.env) :: starEach es X.env := by rfl) : MA X W (e :: es) (aCons ga gs) := by
  obtain ⟨ta, h1, s1⟩ := ha
  obtain ⟨⟨ts, h2, s2⟩, hl⟩ := hr
  refine ⟨⟨_, pa_cons h1 h2 hs, fun f S c σ γ Q R hp => s1.bind stab_vA R hp fun d γ1 v c1 _ x1 R1 k1 q1 h3 => s2.bind stab_vA R1 h3 fun l γ2 vs c2 _ x2 R2 k2 q2 h4 => ?_⟩, fun γ l γ1 e => ?_⟩
  · exact h4 (v :: vs) c2 .refl R2 .refl ⟨v, vs, rfl, Den.ext R1.wf x2 q1, q2⟩
  · obtain ⟨d, g1, _, e2⟩ := bind_ok e
    obtain ⟨l', g2, e3, e4⟩ := bind_ok e2
    cases e4
    rw [List.length_cons, List.length_cons, hl _ _ _ e3]
theorem ma_slot {x : Str} {p : Pos} {i : Nat} (ho : PE X (.Name x p) (tVar i)) (hr : MA X W es gs) (hs : starEach (.Name x p :: es) X.env = (false, eval (.Name x p) X.env) :: starEach es X.env := by rfl) : MA X W (.Name x p :: es) (aSlot i gs) := by
  obtain ⟨⟨ts, h2, s2⟩, hl⟩ := hr
  refine ⟨⟨_, pa_cons ho h2 hs, fun f S c σ γ Q R hp => ?_⟩, fun γ l γ1 e => ?_⟩
  · replace hp : Post X.K X.mg (vA X.K) W f S c σ γ Q (aSlot i gs γ) := hp
    unfold aSlot at hp
    rcases gOwn_cases i γ with e0 | ⟨l0, e0⟩
    · rw [e0] at hp; exact hp.elim
    · rw [e0] at hp
      obtain ⟨s, l, e1, _, _, _, e2⟩ := gOwn_ok e0
      obtain ⟨q, f1, _⟩ := R.ownL e1 e2
      refine ⟨.ref q, f1, s2.bind stab_vA R hp fun l γ2 vs c2 _ x2 R2 k2 q2 h4 => ?_⟩
      exact h4 (.ref q :: vs) c2 .refl R2 .refl ⟨.ref q, vs, rfl, f1, q2⟩
  · obtain ⟨d, g1, _, e2⟩ := bind_ok e
    obtain ⟨l', g2, e3, e4⟩ := bind_ok e2
    cases e4
    rw [List.length_cons, List.length_cons, hl _ _ _ e3]
end

/-! the callee's slots, and what comes back -/
def parG (γ : Gm) : List Ar → Option (List SV)
  | [] => some []
  | .d x :: l => (parG γ l).map (.pu x :: ·)
  | .s j :: l => match γ[j]? with
    | some (.ow m) => (parG γ l).map (.bo m :: ·)
    | some (.bo m) => (parG γ l).map (.bo m :: ·)
    | _ => none
def slotsA : List Ar → List Nat
  | [] => []
  | .d _ :: l => slotsA l
  | .s j :: l => j :: slotsA l
def backG : Gm → List Ar → List SV → Option Gm
  | γ, [], _ => some γ
  | γ, .d _ :: l, _ :: q => backG γ l q
  | γ, .s j :: l, .bo m :: q => match γ[j]? with
    | some (.ow _) => backG (γ.set j (.ow m)) l q
    | some (.bo _) => backG (γ.set j (.bo m)) l q
    | _ => none
  | _, _, _ => none
theorem par_at {γ : Gm} : ∀ {l : List Ar} {ps : List SV}, parG γ l = some ps → ps.length = l.length ∧ (∀ (i : Nat) (x : D), l[i]? = some (.d x) → ps[i]? = some (.pu x)) ∧
    ∀ (i j : Nat), l[i]? = some (.s j) → ∃ m s, ps[i]? = some (.bo m) ∧ γ[j]? = some s ∧ (s = .ow m ∨ s = .bo m)
  | [], ps, h => by
    cases h
    exact ⟨rfl, fun i x e => by simp at e, fun i j e => by simp at e⟩
  | .d x :: l, ps, h => by
    obtain ⟨q, e1, e2⟩ := map_some (show (parG γ l).map (.pu x :: ·) = some ps from h)
    subst e2
    obtain ⟨h1, h2, h3⟩ := par_at e1
    refine ⟨by rw [List.length_cons, List.length_cons, h1], fun i y e => ?_, fun i j e => ?_⟩
    · cases i with
      | zero => have e' : x = y := by simpa using e
                subst e'; rfl
      | succ i => simpa using h2 i y (by simpa using e)
    · cases i with
      | zero => simp at e
      | succ i => simpa using h3 i j (by simpa using e)
  | .s j :: l, ps, h => by
    have key : ∃ m s, γ[j]? = some s ∧ (s = .ow m ∨ s = .bo m) ∧ (parG γ l).map (.bo m :: ·) = some ps := by
      unfold parG at h
      split at h
      · rename_i m e; exact ⟨m, _, e, .inl rfl, h⟩
      · rename_i m e; exact ⟨m, _, e, .inr rfl, h⟩
      · cases h
    obtain ⟨m, s, k1, k2, k3⟩ := key
    obtain ⟨q, e1, e2⟩ := map_some k3
    subst e2
    obtain ⟨h1, h2, h3⟩ := par_at e1
    refine ⟨by rw [List.length_cons, List.length_cons, h1], fun i y e => ?_, fun i j' e => ?_⟩
    · cases i with
      | zero => simp at e
      | succ i => simpa using h2 i y (by simpa using e)
    · cases i with
      | zero => have e' : j = j' := by simpa using e
                subst e'; exact ⟨m, s, rfl, k1, k2⟩
      | succ i => simpa using h3 i j' (by simpa using e)
theorem back_at : ∀ {l : List Ar} {γ γ2 : Gm} {q : List SV}, backG γ l q = some γ2 → γ2.length = γ.length ∧ ∀ (i : Nat) (s : SV), γ2[i]? = some s →
    (∃ (k : Nat) (m : List D), l[k]? = some (Ar.s i) ∧ q[k]? = some (SV.bo m) ∧ ((s = .ow m ∧ ∃ m0, γ[i]? = some (.ow m0)) ∨ (s = .bo m ∧ ∃ m0, γ[i]? = some (.bo m0)))) ∨ (γ[i]? = some s ∧ ∀ k : Nat, l[k]? ≠ some (Ar.s i))
  | [], γ, γ2, q, h => by
    have e : γ = γ2 := by
      unfold backG at h
      exact Option.some.inj h
    subst e
    exact ⟨rfl, fun i s e => .inr ⟨e, fun k z => by simp at z⟩⟩
  | .d x :: l, γ, γ2, [], h => by cases h
  | .d x :: l, γ, γ2, y :: q, h => by
    obtain ⟨h1, h2⟩ := back_at (show backG γ l q = some γ2 from h)
    refine ⟨h1, fun i s e => ?_⟩
    rcases h2 i s e with ⟨k, m, e1, e2, e3⟩ | ⟨e1, e2⟩
    · exact .inl ⟨k + 1, m, by simpa using e1, by simpa using e2, e3⟩
    · refine .inr ⟨e1, fun k z => ?_⟩
      cases k with
      | zero => simp at z
      | succ k => exact e2 k (by simpa using z)
  | .s j :: l, γ, γ2, [], h => by cases h
  | .s j :: l, γ, γ2, .un :: q, h => by cases h
  | .s j :: l, γ, γ2, .pu _ :: q, h => by cases h
  | .s j :: l, γ, γ2, .ow _ :: q, h => by cases h
  | .s j :: l, γ, γ2, .bo m :: q, h => by
    have key : ∃ s0 s1, γ[j]? = some s0 ∧ ((s0 = .ow s1 ∧ backG (γ.set j (.ow m)) l q = some γ2) ∨ (s0 = .bo s1 ∧ backG (γ.set j (.bo m)) l q = some γ2)) := by
      unfold backG at h
      split at h
      · rename_i m0 e; exact ⟨_, m0, e, .inl ⟨rfl, h⟩⟩
      · rename_i m0 e; exact ⟨_, m0, e, .inr ⟨rfl, h⟩⟩
      · cases h
    obtain ⟨s0, s1, k1, k2⟩ := key
    have hj : j < γ.length := (List.getElem?_eq_some_iff.mp k1).1
    rcases k2 with ⟨rfl, k2⟩ | ⟨rfl, k2⟩
    · obtain ⟨h1, h2⟩ := back_at k2
      refine ⟨by rw [h1, List.length_set], fun i s e => ?_⟩
      rcases h2 i s e with ⟨k, m', e1, e2, e3⟩ | ⟨e1, e2⟩
      · refine .inl ⟨k + 1, m', by simpa using e1, by simpa using e2, ?_⟩
        by_cases hi : i = j
        · subst hi
          rw [List.getElem?_set_self hj] at e3
          rcases e3 with ⟨a1, a2, a3⟩ | ⟨a1, a2, a3⟩
          · exact .inl ⟨a1, _, k1⟩
          · cases a3
        · rw [List.getElem?_set_ne (Ne.symm hi)] at e3
          exact e3
      · by_cases hi : i = j
        · subst hi
          rw [List.getElem?_set_self hj] at e1
          cases e1
          exact .inl ⟨0, m, rfl, rfl, .inl ⟨rfl, _, k1⟩⟩
        · rw [List.getElem?_set_ne (Ne.symm hi)] at e1
          refine .inr ⟨e1, fun k z => ?_⟩
          cases k with
          | zero => exact hi (by simpa using z.symm)
          | succ k => exact e2 k (by simpa using z)
    · obtain ⟨h1, h2⟩ := back_at k2
      refine ⟨by rw [h1, List.length_set], fun i s e => ?_⟩
      rcases h2 i s e with ⟨k, m', e1, e2, e3⟩ | ⟨e1, e2⟩
      · refine .inl ⟨k + 1, m', by simpa using e1, by simpa using e2, ?_⟩
        by_cases hi : i = j
        · subst hi
          rw [List.getElem?_set_self hj] at e3
          rcases e3 with ⟨a1, a2, a3⟩ | ⟨a1, a2, a3⟩
          · cases a3
          · exact .inr ⟨a1, _, k1⟩
        · rw [List.getElem?_set_ne (Ne.symm hi)] at e3
          exact e3
      · by_cases hi : i = j
        · subst hi
          rw [List.getElem?_set_self hj] at e1
          cases e1
          exact .inl ⟨0, m, rfl, rfl, .inr ⟨rfl, _, k1⟩⟩
        · rw [List.getElem?_set_ne (Ne.symm hi)] at e1
          refine .inr ⟨e1, fun k z => ?_⟩
          cases k with
          | zero => exact hi (by simpa using z.symm)
          | succ k => exact e2 k (by simpa using z)
theorem slots_ne : ∀ {l : List Ar} {i k j : Nat}, (slotsA l).Nodup → l[i]? = some (.s j) → l[k]? = some (.s j) → i = k
  | [], _, _, _, _, h, _ => by simp at h
  | .d x :: l, 0, _, _, _, h, _ => by simp at h
  | .d x :: l, i + 1, 0, _, _, _, h => by simp at h
  | .d x :: l, i + 1, k + 1, j, n, h, h' => by rw [slots_ne (l := l) (i := i) (k := k) (j := j) n (by simpa using h) (by simpa using h')]
  | .s x :: l, 0, 0, _, _, _, _ => rfl
  | .s x :: l, i + 1, k + 1, j, n, h, h' => by rw [slots_ne (l := l) (i := i) (k := k) (j := j) (List.nodup_cons.mp n).2 (by simpa using h) (by simpa using h')]
  | .s x :: l, 0, k + 1, j, n, h, h' => by
    have e : x = j := by simpa using h
    subst e
    exact ((List.nodup_cons.mp n).1 (mem_slots (by simpa using h'))).elim
  | .s x :: l, i + 1, 0, j, n, h, h' => by
    have e : x = j := by simpa using h'
    subst e
    exact ((List.nodup_cons.mp n).1 (mem_slots (by simpa using h))).elim
where mem_slots : ∀ {l : List Ar} {i j : Nat}, l[i]? = some (.s j) → j ∈ slotsA l
  | [], _, _, h => by simp at h
  | .d x :: l, 0, _, h => by simp at h
  | .d x :: l, i + 1, j, h => mem_slots (l := l) (i := i) (by simpa using h)
  | .s x :: l, 0, j, h => by
    have e : x = j := by simpa using h
    subst e; exact List.mem_cons_self ..
  | .s x :: l, i + 1, j, h => List.mem_cons_of_mem _ (mem_slots (l := l) (i := i) (by simpa using h))

theorem Ext.thru {B B' : Addr → Prop} {c0 c1 c2 : Cf} (w0 : WF c0) (w1 : WF c1) (x : Ext B c0 c1) (y : Ext B' c1 c2) (h : ∀ a, c1.M a → B' a → c0.H a = none ∨ B a) : Ext B c0 c2 := by
  refine ⟨fun a z => y.m1 a (x.m1 a z), fun a z => ?_, fun a o e n t => ?_, fun a ps e => ?_, fun P q z => y.tb P q (x.tb P q z)⟩
  · rcases y.m2 a z with q | q
    · exact x.m2 a q
    · exact .inr (x.noneS w1 q)
  · refine y.h a o (x.h a o e n t) (fun z => n ?_) t
    rcases h a z.1 z.2 with q | q
    · rw [e] at q; cases q
    · refine ⟨?_, q⟩
      rcases x.m2 a z.1 with q' | q'
      · exact q'
      · rw [e] at q'; cases q'
  · obtain ⟨ps', q⟩ := x.ht a ps e
    exact y.ht a ps' q
def atRef (vs : List V) (i : Nat) : Addr := match vs[i]? with
  | some (.ref a) => a
  | _ => (0 : Nat)
theorem call_core {K : PySem.W.Frag} {f : Fx} {S : Addr → Prop} {c : Cf} {σ : St} {γ : Gm} {l : List Ar} {vs : List V} {ps : List SV} (R : Rel K f S c σ γ) (ha : ArsOk K c σ l vs) (nd : (slotsA l).Nodup) (hp : parG γ l = some ps) :
    ∃ g : Fx, g.c0 = c ∧ Rel K g g.S c (vs.map some) ps ∧ ∀ c2 qs γ2, Rel K g g.S c2 (vs.map some) qs → backG γ l qs = some γ2 → Ext S c c2 ∧ Rel K f S c2 σ γ2 ∧ Kx γ γ2 := by
  obtain ⟨hl, hv⟩ := ha.at
  obtain ⟨pl, pd, pslot⟩ := par_at hp
  let B : Addr → Prop := fun a => ∃ (i j : Nat), l[i]? = some (Ar.s j) ∧ vs[i]? = some (V.ref a)
  -- a slot that is handed over
  have own : ∀ (i j : Nat), l[i]? = some (Ar.s j) → ∃ (a : Addr) (s : SV) (m : List D), vs[i]? = some (V.ref a) ∧ σ[j]? = some (some (V.ref a)) ∧ γ[j]? = some s ∧ s.own = true ∧ ps[i]? = some (SV.bo m) ∧ Own K c a m ∧ S a ∧ (f.c0.H a = none ∨ f.B a) := by
    intro i j e
    obtain ⟨m, s, e1, e2, e3⟩ := pslot i j e
    obtain ⟨v, e4, e5⟩ := hv i _ e
    have so : s.own = true := by rcases e3 with rfl | rfl <;> rfl
    obtain ⟨a, m', h1, h2, h3, h4⟩ := R.ownA e2 so
    have e6 : σ[j]? = some (some v) := e5
    rw [h1] at e6
    cases e6
    have em : m' = m := by
      rcases h4 with ⟨z, _⟩ | ⟨z, _⟩
      · rw [z] at e3; rcases e3 with q | q
        · exact SV.ow.inj q
        · cases q
      · rw [z] at e3; rcases e3 with q | q
        · cases q
        · exact SV.bo.inj q
    subst em
    exact ⟨a, s, m', e4, h1, e2, so, e1, h3, h2, h4.elim (fun z => .inl z.2) fun z => .inr z.2.2.2⟩
  have vat : ∀ i : Nat, (vs.map some)[i]? = (vs[i]?).map some := fun i => List.getElem?_map ..
  refine ⟨⟨c, atRef vs, B, Kp.nil⟩, rfl, ⟨R.wf0.ext R.ext R.wf, R.wf, .refl, by rw [List.length_map, hl, pl], fun i d e => ?_, fun i m e => ?_, fun i m e => ?_, fun i j s t a hij e1 e2 o1 o2 e3 e4 => ?_, trivial, fun _ _ z => z⟩, fun c2 qs γ2 R2 hb => ?_⟩
  · -- data
    have hi : i < l.length := by rw [← pl]; exact (List.getElem?_eq_some_iff.mp e).1
    have e1 : l[i]? = some l[i] := List.getElem?_eq_getElem hi
    cases q : l[i] with
    | d x =>
      rw [q] at e1
      have e2 := pd i x e1
      rw [e] at e2
      cases e2
      obtain ⟨v, e3, e4⟩ := hv i _ e1
      exact ⟨v, by rw [vat, e3]; rfl, e4⟩
    | s j =>
      rw [q] at e1
      obtain ⟨m, s, e2, _⟩ := pslot i j e1
      rw [e] at e2; cases e2
  · have hi : i < l.length := by rw [← pl]; exact (List.getElem?_eq_some_iff.mp e).1
    have e1 : l[i]? = some l[i] := List.getElem?_eq_getElem hi
    cases q : l[i] with
    | d x => rw [q] at e1; have e2 := pd i x e1; rw [e] at e2; cases e2
    | s j => rw [q] at e1; obtain ⟨m', s, e2, _⟩ := pslot i j e1; rw [e] at e2; cases e2
  · have hi : i < l.length := by rw [← pl]; exact (List.getElem?_eq_some_iff.mp e).1
    have e1 : l[i]? = some l[i] := List.getElem?_eq_getElem hi
    cases q : l[i] with
    | d x => rw [q] at e1; have e2 := pd i x e1; rw [e] at e2; cases e2
    | s j =>
      rw [q] at e1
      obtain ⟨a, s, m', h1, h2, h3, h4, h5, h6, h7, h8⟩ := own i j e1
      rw [e] at h5
      cases h5
      have ea : atRef vs i = a := by unfold atRef; rw [h1]
      show (vs.map some)[i]? = some (some (.ref (atRef vs i))) ∧ c.M (atRef vs i) ∧ B (atRef vs i) ∧ ((c.H (atRef vs i) = none ∨ B (atRef vs i)) ∧ ¬ False) ∧ Own K c (atRef vs i) m
      rw [ea]
      exact ⟨by rw [vat, h1]; rfl, h6.1, ⟨i, j, e1, h1⟩, ⟨.inr ⟨i, j, e1, h1⟩, id⟩, h6⟩
  · -- two slots
    have slot : ∀ (i : Nat) (s : SV), ps[i]? = some s → s.own = true → ∃ j : Nat, l[i]? = some (Ar.s j) := fun i s e o => by
      have hi : i < l.length := by rw [← pl]; exact (List.getElem?_eq_some_iff.mp e).1
      have e1 : l[i]? = some l[i] := List.getElem?_eq_getElem hi
      cases q : l[i] with
      | d x => rw [q] at e1; have e2 := pd i x e1; rw [e] at e2; cases e2; cases o
      | s j => rw [q] at e1; exact ⟨j, e1⟩
    obtain ⟨j1, f1⟩ := slot i s e1 o1
    obtain ⟨j2, f2⟩ := slot j t e2 o2
    obtain ⟨a1, s1, m1, h1, h2, h3, h4, _⟩ := own i j1 f1
    obtain ⟨a2, s2, m2, g1, g2, g3, g4, _⟩ := own j j2 f2
    rw [vat, h1] at e3
    rw [vat, g1] at e4
    have ea : a1 = a := by have := Option.some.inj (Option.some.inj e3); cases this; rfl
    have eb : a2 = a := by have := Option.some.inj (Option.some.inj e4); cases this; rfl
    subst ea
    subst eb
    have nj : j1 ≠ j2 := fun z => by
      subst z
      exact hij (slots_ne nd f1 f2)
    exact R.ne j1 j2 s1 s2 _ nj h3 g3 h4 g4 h2 g2
  · -- behind the call
    obtain ⟨bl, bat⟩ := back_at hb
    have x2 : Ext B c c2 := R2.ext
    have xS : Ext S c c2 := x2.mono fun a _ ⟨i, j, e1, e2⟩ => by
      obtain ⟨a', s, m, h1, _, _, _, _, _, h7, _⟩ := own i j e1
      rw [e2] at h1; cases h1; exact h7
    have x0 : Ext f.B f.c0 c2 := R.ext.thru R.wf0.wf R.wf x2 fun a _ ⟨i, j, e1, e2⟩ => by
      obtain ⟨a', s, m, h1, _, _, _, _, _, _, h8⟩ := own i j e1
      rw [e2] at h1; cases h1; exact h8
    -- a list that came back
    have came : ∀ (k i : Nat) (m : List D) (a : Addr), l[k]? = some (Ar.s i) → qs[k]? = some (SV.bo m) → σ[i]? = some (some (V.ref a)) → Own K c2 a m := fun k i m a e1 e2 e3 => by
      obtain ⟨a', s, m', h1, h2, _⟩ := own k i e1
      rw [e3] at h2
      cases h2
      obtain ⟨_, _, _, _, o⟩ := R2.bo k m e2
      have ea : atRef vs k = a := by unfold atRef; rw [h1]
      rw [← ea]; exact o
    have stays : ∀ (i : Nat) (s : SV) (m : List D) (a : Addr), γ[i]? = some s → s.own = true → σ[i]? = some (some (V.ref a)) → (∀ k : Nat, l[k]? ≠ some (Ar.s i)) → Own K c a m → Own K c2 a m := fun i s m a e1 o e2 n h => by
      refine h.step R.wf x2 fun ⟨k, j, f1, f2⟩ => ?_
      obtain ⟨a', s', m', h1, h2, h3, h4, _⟩ := own k j f1
      rw [f2] at h1
      cases h1
      have nj : i ≠ j := fun z => n k (z ▸ f1)
      exact R.ne i j s s' a nj e1 h3 o h4 e2 h2
    have kd : ∀ (i : Nat) (s : SV), γ2[i]? = some s → s.own = true → ∃ s0, γ[i]? = some s0 ∧ s0.own = true := fun i s e o => by
      rcases bat i s e with ⟨k, m, e1, e2, ⟨_, m0, e3⟩ | ⟨_, m0, e3⟩⟩ | ⟨e1, _⟩
      · exact ⟨_, e3, rfl⟩
      · exact ⟨_, e3, rfl⟩
      · exact ⟨s, e1, o⟩
    refine ⟨xS, ⟨R.wf0, R2.wf, x0, by rw [bl, R.len], fun i d e => ?_, fun i m e => ?_, fun i m e => ?_, fun i j s t a hij e1 e2 o1 o2 e3 => ?_, f.kp.stab S _ _ R.sub R.wf xS R.inv, R.sub⟩, fun i o => ?_, fun i d e => ?_⟩
    · rcases bat i _ e with ⟨k, m, e1, e2, ⟨z, _⟩ | ⟨z, _⟩⟩ | ⟨e1, _⟩
      · cases z
      · cases z
      · obtain ⟨v, h1, h2⟩ := R.pu i d e1
        exact ⟨v, h1, Den.ext R.wf x2 h2⟩
    · rcases bat i _ e with ⟨k, m', e1, e2, ⟨z, m0, e3⟩ | ⟨z, _⟩⟩ | ⟨e1, n⟩
      · cases z
        obtain ⟨a, h1, h2, h3, h4⟩ := R.ow i m0 e3
        exact ⟨a, h1, h2, h3, came k i m a e1 e2 h1⟩
      · cases z
      · obtain ⟨a, h1, h2, h3, h4⟩ := R.ow i m e1
        exact ⟨a, h1, h2, h3, stays i _ m a e1 rfl h1 n h4⟩
    · rcases bat i _ e with ⟨k, m', e1, e2, ⟨z, _⟩ | ⟨z, m0, e3⟩⟩ | ⟨e1, n⟩
      · cases z
      · cases z
        obtain ⟨h1, h2, h3, h4, h5⟩ := R.bo i m0 e3
        exact ⟨h1, h2, h3, h4, came k i m _ e1 e2 h1⟩
      · obtain ⟨h1, h2, h3, h4, h5⟩ := R.bo i m e1
        exact ⟨h1, h2, h3, h4, stays i _ m _ e1 rfl h1 n h5⟩
    · obtain ⟨s0, f1, f2⟩ := kd i s e1 o1
      obtain ⟨t0, f3, f4⟩ := kd j t e2 o2
      exact R.ne i j s0 t0 a hij f1 f3 f2 f4 e3
    · obtain ⟨s, e, o'⟩ := ownAt_some o
      obtain ⟨s0, e0, o0⟩ := kd i s e o'
      unfold ownAt
      rw [e0]; exact o0
    · rcases bat i _ e with ⟨k, m, e1, e2, ⟨z, _⟩ | ⟨z, _⟩⟩ | ⟨e1, _⟩
      · cases z
      · cases z
      · exact e1
end Fv

namespace Fv
variable [LC : LamC]
open PySem L2

/-! a def's promise, its call -/
def SpPost (K : PySem.W.Frag) (mg : Str → Option Value) (g : Fx) (σ : St) (Q : VK) (E : XK) : Rs D → Prop
  | .ok d γ => ∀ v c', Rel K g g.S c' σ γ → Den K c' d v → Q v c'.H
  | .ex n fs γ => ∀ C d c', mg n = some (.ref C) → Rel K g g.S c' σ γ → ExF K c' d fs → E (.ref C) d c'.H
  | .no => False
def spF (K : PySem.W.Frag) (mg : Str → Option Value) (n : Nat) (F : List SV → Rs D) : Sp := fun vs H Q E =>
  vs.length = n ∧ ∃ (g : Fx) (γ : Gm), g.c0.H = H ∧ Rel K g g.S g.c0 (vs.map some) γ ∧ SpPost K mg g (vs.map some) Q E (F γ)
def gCall (F : List SV → Rs D) (gs : Gm → Rs (List Ar)) : Gm → Rs D := fun γ => (gs γ).bind fun ars γ1 =>
  if (slotsA ars).Nodup then match parG γ1 ars with
    | none => .no
    | some ps => match F ps with
      | .ok d qs => match backG γ1 ars qs with
        | some γ2 => .ok d γ2
        | none => .no
      | .ex n fs qs => match backG γ1 ars qs with
        | some γ2 => .ex n fs γ2
        | none => .no
      | .no => .no
  else .no
section
variable {X : Cx} {W : WX} {pos : Pos} {a b e : Expr} {es : List Expr} {ga gb : Gm → Rs D} {gs : Gm → Rs (List Ar)} {CX : CXT} {k : Nat} {f : Addr} {fd : FuncData} {ps : List Str} {x : Str} {p : Pos}
theorem sim_call {t : TA} {F : List SV → Rs D} {n : Nat} (s : Sim X W (vA X.K) t gs) (hl : ∀ γ l γ1, gs γ = .ok l γ1 → l.length = n) : Sim X W (vP X.K) (tCallS (spF X.K X.mg n F) (WE W) t) (gCall F gs) := by
  intro f S c σ γ Q R hp
  refine s.bind stab_vP R hp fun l γ1 vs c1 e0 x1 R1 k1 q1 h1 => ?_
  by_cases nd : (slotsA l).Nodup
  · rw [if_pos nd] at h1
    cases e1 : parG γ1 l with
    | none => rw [e1] at h1; exact h1.elim
    | some pz =>
      rw [e1] at h1
      simp only at h1
      obtain ⟨g, g0, Rg, back⟩ := call_core R1 q1 nd e1
      refine ⟨by rw [ArsOk.at q1 |>.1, hl _ _ _ e0], g, pz, by rw [g0], by rw [g0]; exact Rg, ?_⟩
      cases e2 : F pz with
      | no => rw [e2] at h1; exact h1.elim
      | ok d qs =>
        rw [e2] at h1
        simp only at h1
        cases e3 : backG γ1 l qs with
        | none => rw [e3] at h1; exact h1.elim
        | some γ2 =>
          rw [e3] at h1
          intro v c2 R2 hd
          obtain ⟨xS, R3, kd⟩ := back c2 qs γ2 R2 e3
          exact h1 v c2 xS R3 kd hd
      | ex n fs qs =>
        rw [e2] at h1
        simp only at h1
        cases e3 : backG γ1 l qs with
        | none => rw [e3] at h1; exact h1.elim
        | some γ2 =>
          rw [e3] at h1
          intro C d c2 hm R2 hx
          obtain ⟨xS, R3, kd⟩ := back c2 qs γ2 R2 e3
          exact h1 C d c2 hm xS R3 kd hx
  · rw [if_neg nd] at h1; exact h1.elim
theorem mp_call {F : List SV → Rs D} (hF : FnOk X.prog X.w X.K X.mg X.base CX k f fd ps (spF X.K X.mg ps.length F)) (hr : Room k X.A) (hg : Gl X x) (hm : X.mg x = some (.ref f)) (hk : PySem.W.keepIn X.K (.ref f) = true) (hb : Binds X.K fd ps []) (hx : ∀ σ, PassesAt CX X σ (WE W σ))
    (ha : MA X W (e :: es) gs) (hl : (e :: es).length = ps.length := by rfl) (h2 : (x == ("__debug__" : Str)) = false := by decide) (h3 : starEach (e :: es) X.env = (false, eval e X.env) :: starEach es X.env := by rfl) (h4 : (backTo pos (starEach es X.env)).any (·.1) = false := by rfl) :
    MP X W (.Call (.Name x p) (e :: es) [] pos) (gCall F gs) := by
  obtain ⟨⟨t, ht, s⟩, hn⟩ := ha
  exact ⟨_, pe_callS hF hr hg hm hk hb hx ht h2 h3 h4, sim_call s fun γ l γ1 e => (hn γ l γ1 e).trans hl⟩
end
theorem at0 {X : Cx} {W : WX} : ∀ σ, PassesAt CX0 X σ (WE W σ) := fun _ _ _ _ _ _ _ h => h.elim

/-! statements -/
inductive Out where
  | nx (g : Gm) | rt (d : D) (g : Gm) | bk (g : Gm) | ct (g : Gm) | ex (n : Str) (fs : List (Str × D)) (g : Gm) | no
def PExt (K : PySem.W.Frag) (c c' : Cf) : Prop := ∀ d v, Den K c d v → Den K c' d v
theorem PExt.refl {K : PySem.W.Frag} {c : Cf} : PExt K c c := fun _ _ h => h
theorem PExt.trans {K : PySem.W.Frag} {c c1 c2 : Cf} (x : PExt K c c1) (y : PExt K c1 c2) : PExt K c c2 := fun d v h => y d v (x d v h)
theorem Ext.p {K : PySem.W.Frag} {S : Addr → Prop} {c c' : Cf} (w : WF c) (x : Ext S c c') : PExt K c c' := fun _ _ h => Den.ext w x h
def SPost (K : PySem.W.Frag) (mg : Str → Option Value) (W : WX) (f : Fx) (c : Cf) (T : Ends) : Out → Prop
  | .nx g => ∀ σ c', PExt K c c' → Rel K f f.S c' σ g → T.nx σ c'.H
  | .rt d g => ∀ v σ c', PExt K c c' → Rel K f f.S c' σ g → Den K c' d v → T.rt v c'.H
  | .bk g => ∀ σ c', PExt K c c' → Rel K f f.S c' σ g → T.bk σ c'.H
  | .ct g => ∀ σ c', PExt K c c' → Rel K f f.S c' σ g → T.ct σ c'.H
  | .ex n fs g => ∀ C d σ c', mg n = some (.ref C) → PExt K c c' → Rel K f f.S c' σ g → ExF K c' d fs → W (.ref C) d σ c'.H
  | .no => False
theorem SPost.pre {K : PySem.W.Frag} {mg : Str → Option Value} {W : WX} {f : Fx} {c c1 : Cf} {T : Ends} {o : Out} (x : PExt K c c1) (h : SPost K mg W f c T o) : SPost K mg W f c1 T o := by
  cases o with
  | nx g => exact fun σ c' y => h σ c' (x.trans y)
  | rt d g => exact fun v σ c' y => h v σ c' (x.trans y)
  | bk g => exact fun σ c' y => h σ c' (x.trans y)
  | ct g => exact fun σ c' y => h σ c' (x.trans y)
  | ex n fs g => exact fun C d σ c' hm y => h C d σ c' hm (x.trans y)
  | no => exact h
def SimS (X : Cx) (W : WX) (t : TS) (h : Gm → Out) : Prop := ∀ f c σ γ T, Rel X.K f f.S c σ γ → SPost X.K X.mg W f c T (h γ) → t T σ c.H
def MS (X : Cx) (W : WX) (st : Stmt) (h : Gm → Out) : Prop := ∃ t, PS X st t ∧ SimS X W t h
def MSs (X : Cx) (W : WX) (st : List Stmt) (h : Gm → Out) : Prop := ∃ t, PSs X st t ∧ SimS X W t h
def Out.bind (o : Out) (k : Gm → Out) : Out := match o with
  | .nx g => k g
  | o => o
def Rs.out {α : Type} (r : Rs α) (k : α → Gm → Out) : Out := match r with
  | .ok a g => k a g
  | .ex n fs g => .ex n fs g
  | .no => .no
@[simp] theorem Out.bind_nx (g : Gm) (k : Gm → Out) : (Out.nx g).bind k = k g := hide rfl
@[simp] theorem Out.bind_rt (d : D) (g : Gm) (k : Gm → Out) : (Out.rt d g).bind k = .rt d g := hide rfl
@[simp] theorem Out.bind_bk (g : Gm) (k : Gm → Out) : (Out.bk g).bind k = .bk g := hide rfl
@[simp] theorem Out.bind_ct (g : Gm) (k : Gm → Out) : (Out.ct g).bind k = .ct g := hide rfl
@[simp] theorem Out.bind_ex (n : Str) (fs : List (Str × D)) (g : Gm) (k : Gm → Out) : (Out.ex n fs g).bind k = .ex n fs g := hide rfl
@[simp] theorem Out.bind_no (k : Gm → Out) : Out.no.bind k = .no := hide rfl
@[simp] theorem Rs.out_ok {α : Type} (a : α) (g : Gm) (k : α → Gm → Out) : (Rs.ok a g).out k = k a g := hide rfl
@[simp] theorem Rs.out_no {α : Type} (k : α → Gm → Out) : (Rs.no : Rs α).out k = .no := hide rfl
@[simp] theorem Rs.out_ex {α : Type} (n : Str) (fs : List (Str × D)) (g : Gm) (k : α → Gm → Out) : (Rs.ex n fs g : Rs α).out k = .ex n fs g := hide rfl

/-- an expression's result goes into a statement -/
theorem Sim.out {α β : Type} {X : Cx} {W : WX} {v1 : VR α β} {t : St → Hp → (β → Hp → Prop) → Prop} {g : Gm → Rs α} (s : Sim X W v1 t g)
    {f : Fx} {c : Cf} {σ : St} {γ : Gm} {k : α → Gm → Out} {T : Ends} {Q1 : β → Hp → Prop} (R : Rel X.K f f.S c σ γ) (h : SPost X.K X.mg W f c T ((g γ).out k))
    (step : ∀ a γ1 v c1, g γ = .ok a γ1 → Ext f.S c c1 → Rel X.K f f.S c1 σ γ1 → Kx γ γ1 → v1 σ c c1 a v → SPost X.K X.mg W f c1 T (k a γ1) → Q1 v c1.H) : t σ c.H Q1 := by
  refine s f f.S c σ γ Q1 R ?_
  cases e : g γ with
  | no => rw [e] at h; exact h
  | ex n fs g1 =>
    rw [e] at h
    exact fun C d c1 hm x1 R1 k1 hx => h C d σ c1 hm (x1.p R.wf) R1 hx
  | ok a g1 =>
    rw [e] at h
    exact fun v c1 x1 R1 k1 h1 => step a g1 v c1 e x1 R1 k1 h1 (SPost.pre (x1.p R.wf) h)

theorem Rel.setP {K : PySem.W.Frag} {f : Fx} {S : Addr → Prop} {c : Cf} {σ : St} {γ : Gm} (R : Rel K f S c σ γ) {d : D} {v : V} (h : Den K c d v) (i : Nat) : Rel K f S c (σ.set i (some v)) (γ.set i (.pu d)) := by
  have at_ne : ∀ {j : Nat}, j ≠ i → (σ.set i (some v))[j]? = σ[j]? ∧ (γ.set i (.pu d))[j]? = γ[j]? := fun hj => ⟨List.getElem?_set_ne (Ne.symm hj), List.getElem?_set_ne (Ne.symm hj)⟩
  have own_ne : ∀ {j : Nat} {s : SV}, (γ.set i (.pu d))[j]? = some s → s.own = true → j ≠ i := fun {j s} e o z => by
    subst z
    have hj : j < γ.length := by
      have := (List.getElem?_eq_some_iff.mp e).1
      rw [List.length_set] at this; exact this
    rw [List.getElem?_set_self hj] at e
    cases e; cases o
  refine ⟨R.wf0, R.wf, R.ext, by rw [List.length_set, List.length_set, R.len], fun j d' e => ?_, fun j l e => ?_, fun j l e => ?_, fun j k s t a hjk e1 e2 o1 o2 e3 => ?_, R.inv, R.sub⟩
  · by_cases hj : j = i
    · subst hj
      have hj : j < γ.length := by
        have := (List.getElem?_eq_some_iff.mp e).1
        rw [List.length_set] at this; exact this
      rw [List.getElem?_set_self hj] at e
      cases e
      exact ⟨v, List.getElem?_set_self (by rw [R.len]; exact hj), h⟩
    · rw [(at_ne hj).2] at e
      rw [(at_ne hj).1]
      exact R.pu j d' e
  · have hj := own_ne e rfl
    rw [(at_ne hj).2] at e
    rw [(at_ne hj).1]
    exact R.ow j l e
  · have hj := own_ne e rfl
    rw [(at_ne hj).2] at e
    rw [(at_ne hj).1]
    exact R.bo j l e
  · have hj := own_ne e1 o1
    have hk := own_ne e2 o2
    rw [(at_ne hj).2] at e1
    rw [(at_ne hk).2] at e2
    rw [(at_ne hj).1] at e3
    rw [(at_ne hk).1]
    exact R.ne j k s t a hjk e1 e2 o1 o2 e3
/-- a new list goes into a slot -/
theorem Rel.setO {K : PySem.W.Frag} {f : Fx} {c : Cf} {σ : St} {γ : Gm} (R : Rel K f f.S c σ γ) {p : Addr} {l : List D} (h0 : f.c0.H p = none) (hX : ¬ f.kp.X p) (h : Own K c p l) (hn : ∀ j, ownAt γ j = true → σ[j]? ≠ some (some (.ref p))) (i : Nat) : Rel K f f.S c (σ.set i (some (.ref p))) (γ.set i (.ow l)) := by
  have at_ne : ∀ {j : Nat}, j ≠ i → (σ.set i (some (V.ref p)))[j]? = σ[j]? ∧ (γ.set i (.ow l))[j]? = γ[j]? := fun hj => ⟨List.getElem?_set_ne (Ne.symm hj), List.getElem?_set_ne (Ne.symm hj)⟩
  have at_i : ∀ {s : SV}, (γ.set i (.ow l))[i]? = some s → s = .ow l ∧ (σ.set i (some (V.ref p)))[i]? = some (some (.ref p)) := fun {s} e => by
    have hj : i < γ.length := by
      have := (List.getElem?_eq_some_iff.mp e).1
      rw [List.length_set] at this; exact this
    rw [List.getElem?_set_self hj] at e
    exact ⟨(Option.some.inj e).symm, List.getElem?_set_self (by rw [R.len]; exact hj)⟩
  have oa : ∀ {j : Nat} {s : SV}, γ[j]? = some s → s.own = true → ownAt γ j = true := fun e o => by unfold ownAt; rw [e]; exact o
  refine ⟨R.wf0, R.wf, R.ext, by rw [List.length_set, List.length_set, R.len], fun j d' e => ?_, fun j m e => ?_, fun j m e => ?_, fun j k s t a hjk e1 e2 o1 o2 e3 => ?_, R.inv, R.sub⟩
  · by_cases hj : j = i
    · subst hj; obtain ⟨z, _⟩ := at_i e; cases z
    · rw [(at_ne hj).2] at e
      rw [(at_ne hj).1]
      exact R.pu j d' e
  · by_cases hj : j = i
    · subst hj
      obtain ⟨z, e2⟩ := at_i e
      cases z
      exact ⟨p, e2, h0, ⟨.inl h0, hX⟩, h⟩
    · rw [(at_ne hj).2] at e
      rw [(at_ne hj).1]
      exact R.ow j m e
  · by_cases hj : j = i
    · subst hj; obtain ⟨z, _⟩ := at_i e; cases z
    · rw [(at_ne hj).2] at e
      rw [(at_ne hj).1]
      exact R.bo j m e
  · by_cases hj : j = i
    · subst hj
      obtain ⟨_, e4⟩ := at_i e1
      rw [e4] at e3
      cases e3
      have hk : k ≠ j := Ne.symm hjk
      rw [(at_ne hk).2] at e2
      rw [(at_ne hk).1]
      exact hn k (oa e2 o2)
    · rw [(at_ne hj).2] at e1
      rw [(at_ne hj).1] at e3
      by_cases hk : k = i
      · subst hk
        obtain ⟨_, e4⟩ := at_i e2
        rw [e4]
        intro z
        cases z
        exact hn j (oa e1 o1) e3
      · rw [(at_ne hk).2] at e2
        rw [(at_ne hk).1]
        exact R.ne j k s t a hjk e1 e2 o1 o2 e3
/-- what was not there before lies in no slot that may be written -/
theorem fresh_slot {K : PySem.W.Frag} {f : Fx} {S : Addr → Prop} {c : Cf} {σ : St} {γ g : Gm} (R : Rel K f S c σ γ) (kd : Kd γ g) {p : Addr} (n : c.H p = none) : ∀ j, ownAt g j = true → σ[j]? ≠ some (some (.ref p)) := fun i z e3 => by
  obtain ⟨s, e4, e5⟩ := ownAt_some (kd i z)
  obtain ⟨a, l', h1, h2, ⟨_, vs, h3, _⟩, _⟩ := R.ownA e4 e5
  rw [e3] at h1
  cases h1
  rw [n] at h3; cases h3

section
variable {X : Cx} {W : WX} {pos p2 : Pos} {st : Stmt} {rest : List Stmt} {e : Expr} {ga : Gm → Rs D} {h h' : Gm → Out} {ta : Gm → Rs Bool} {x : Str}
def hNx : Gm → Out := fun γ => .nx γ
def hSeq (h h' : Gm → Out) : Gm → Out := fun γ => (h γ).bind h'
theorem mss_nil : MSs X W [] hNx := ⟨_, pss_nil, fun f c σ γ T R hp => hp σ c .refl R⟩
theorem sim_seq {t t' : TS} (s : SimS X W t h) (s' : SimS X W t' h') : SimS X W (tSeq t t') (hSeq h h') := by
  intro f c σ γ T R hp
  refine s f c σ γ _ R ?_
  replace hp : SPost X.K X.mg W f c T ((h γ).bind h') := hp
  cases e : h γ with
  | nx g =>
    rw [e] at hp
    exact fun σ1 c1 x1 R1 => s' f c1 σ1 g T R1 (SPost.pre x1 hp)
  | rt d g => rw [e] at hp; exact hp
  | bk g => rw [e] at hp; exact hp
  | ct g => rw [e] at hp; exact hp
  | ex n fs g => rw [e] at hp; exact hp
  | no => rw [e] at hp; exact hp
theorem mss_cons (h1 : MS X W st h) (h2 : MSs X W rest h') : MSs X W (st :: rest) (hSeq h h') := by
  obtain ⟨t, p1, s1⟩ := h1
  obtain ⟨t', p2, s2⟩ := h2
  exact ⟨_, pss_cons p1 p2, sim_seq s1 s2⟩
theorem mss_one (h1 : MS X W st h) : MSs X W [st] h := by
  obtain ⟨t, p1, s1⟩ := h1
  exact ⟨_, pss_one p1, s1⟩
theorem ms_pass : MS X W (.Pass pos) hNx := ⟨_, ps_pass, fun f c σ γ T R hp => hp σ c .refl R⟩
theorem ms_break : MS X W (.Break pos) (fun γ => .bk γ) := ⟨_, ps_break, fun f c σ γ T R hp => hp σ c .refl R⟩
theorem ms_continue : MS X W (.Continue pos) (fun γ => .ct γ) := ⟨_, ps_continue, fun f c σ γ T R hp => hp σ c .refl R⟩
def hNever : Gm → Out := fun _ => .no
theorem ms_never : MS X W st hNever := ⟨_, ps_never, fun f c σ γ T R hp => hp.elim⟩
def hRet (ga : Gm → Rs D) : Gm → Out := fun γ => (ga γ).out fun d γ1 => .rt d γ1
theorem ms_ret (ha : MP X W e ga) : MS X W (.Return (some e) pos) (hRet ga) := by
  obtain ⟨t, h1, s1⟩ := ha
  exact ⟨_, ps_ret h1, fun f c σ γ T R hp => s1.out R hp fun d γ1 v c1 _ x1 R1 k1 q1 h2 => h2 v σ c1 .refl R1 q1⟩
def hRetN : Gm → Out := fun γ => .rt .non γ
theorem ms_retN : MS X W (.Return none pos) hRetN := ⟨_, ps_retN, fun f c σ γ T R hp => hp .non σ c .refl R rfl⟩
def hDrop (ga : Gm → Rs D) : Gm → Out := fun γ => (ga γ).out fun _ γ1 => .nx γ1
theorem ms_expr (ha : MP X W e ga) (hs : swapsWith e none pos.line X.env = pure false := by rfl) : MS X W (.Expr e pos) (hDrop ga) := by
  obtain ⟨t, h1, s1⟩ := ha
  exact ⟨_, ps_expr h1 hs, fun f c σ γ T R hp => s1.out R hp fun d γ1 v c1 _ x1 R1 k1 q1 h2 => h2 σ c1 .refl R1⟩
def hIf (ta : Gm → Rs Bool) (h h' : Gm → Out) : Gm → Out := fun γ => (ta γ).out fun k γ1 => if k then h γ1 else h' γ1
theorem ms_if {b b' : List Stmt} (ht : MT X W e ta) (h1 : MSs X W b h) (h2 : MSs X W b' h') : MS X W (.If e b b' pos) (hIf ta h h') := by
  obtain ⟨t0, p0, s0⟩ := ht
  obtain ⟨t1, p1, s1⟩ := h1
  obtain ⟨t2, p2, s2⟩ := h2
  refine ⟨_, ps_if p0 p1 p2, fun f c σ γ T R hp => s0.out R hp fun k γ1 v c1 _ x1 R1 k1 q1 h3 => ?_⟩
  cases (show k = v from q1)
  cases k with
  | true => rw [if_pos rfl]; exact s1 _ _ _ _ _ R1 h3
  | false => rw [if_neg Bool.false_ne_true]; exact s2 _ _ _ _ _ R1 h3
def hSet (i : Nat) (ga : Gm → Rs D) : Gm → Out := fun γ => (ga γ).out fun d γ1 => .nx (γ1.set i (.pu d))
def hSetF (i : Nat) (ga : Gm → Rs (List D)) : Gm → Out := fun γ => (ga γ).out fun l γ1 => .nx (γ1.set i (.ow l))
theorem sim_set {t : TE} (i : Nat) (s1 : Sim X W (vP X.K) t ga) : SimS X W (tAsg t (gName i)) (hSet i ga) := fun f c σ γ T R hp =>
  s1.out R hp fun d γ1 v c1 _ x1 R1 k1 q1 h2 => h2 _ c1 .refl (R1.setP q1 i)
theorem sim_setF {t : TE} (i : Nat) {gl : Gm → Rs (List D)} (s1 : Sim X W (vF X.K) t gl) : SimS X W (tAsg t (gName i)) (hSetF i gl) := fun f c σ γ T R hp =>
  s1.out R hp fun l γ1 v c1 _ x1 R1 k1 q1 h2 => by
    obtain ⟨p, rfl, n, o⟩ := q1
    exact h2 _ c1 .refl (R1.setO (R.ext.noneS R.wf n) (R.notX n) o (fresh_slot R k1.own n) i)
theorem ms_set {i : Nat} (hN : X.N.Nodup) (hi : X.N[i]? = some x) (hx : Loc X.env.scope x) (ha : MP X W e ga) (hs : swapsWith e (some (.Name x p2)) pos.line X.env = pure false := by rfl) (hf : X.fn x = true ∨ X.env.scope.names.lookup x = some .local := by first | exact .inl rfl | exact .inr rfl | assumption) :
    MS X W (.Assign [.Name x p2] e pos) (hSet i ga) := by
  obtain ⟨t, h1, s1⟩ := ha
  exact ⟨_, ps_set hN hi hx h1 hs hf, sim_set i s1⟩
theorem ms_setF {i : Nat} {gl : Gm → Rs (List D)} (hN : X.N.Nodup) (hi : X.N[i]? = some x) (hx : Loc X.env.scope x) (ha : MF X W e gl) (hs : swapsWith e (some (.Name x p2)) pos.line X.env = pure false := by rfl) (hf : X.fn x = true ∨ X.env.scope.names.lookup x = some .local := by first | exact .inl rfl | exact .inr rfl | assumption) :
    MS X W (.Assign [.Name x p2] e pos) (hSetF i gl) := by
  obtain ⟨t, h1, s1⟩ := ha
  exact ⟨_, ps_set hN hi hx h1 hs hf, sim_setF i s1⟩
end
end Fv

namespace Fv
variable [LC : LamC]
open PySem L2
open PyProof.Rows (boot_range boot_enumerate Call_)
open AutoSeq1 (wpAny_loadPart')

/-! enumerate of a tuple -/
set_option maxHeartbeats 2000000 in
theorem en_new (l : Addr) (its : Array Value) :
    Meets (Builtin.«enumerate.__new__» ⟨[.type "enumerate", .ref l], []⟩) (fun _ Rz sh => sh.heap.IsTuple l its ∧
      Rz (.ok (.ret (.ref (sh.heap.push { cls := .type "tuple_iterator", data := .fields #[.ref l, .int 0 0] }).objs.size)))
        { sh with heap := (sh.heap.push { cls := .type "tuple_iterator", data := .fields #[.ref l, .int 0 0] }).push { cls := .type "enumerate", data := .fields #[.none, .bool false, .ref sh.heap.objs.size, rawInt 0, .none, .none] } }) :=
  .of_wp fun prog w A Rz sh hz => by
    obtain ⟨hp, gs, dr, tk, os⟩ := sh
    obtain ⟨hl, hz⟩ := hz
    have hsub := sub_enumerate
    have hit : ∀ {A' : Around} {E : Value → Shared → Prop} {Q : Value → Shared → Prop}, Q (.ref hp.objs.size) ⟨hp.push { cls := .type "tuple_iterator", data := .fields #[.ref l, .int 0 0] }, gs, dr, tk, os⟩ → wpAny (model prog w) A' (pyIter (.ref l)) Q E ⟨hp, gs, dr, tk, os⟩ :=
      fun q => wpAny_pyIter_tuple (show Heap.IsTuple (Shared.heap ⟨hp, gs, dr, tk, os⟩) l its from hl) q
    wp_walk using hit
    refine wpAny_stack_any fun stk => wpAny_pure ?_
    split
    · rename_i cz _ _ _ _ _
      cases (cz == Value.type "enumerate")
      · wp_walk using hit
        exact ⟨_, rfl, hz⟩
      · wp_walk using hit
        exact ⟨_, rfl, hz⟩
    · wp_walk using hit
      exact ⟨_, rfl, hz⟩
theorem en_call {prog : Program} {w : World} {A : Around} {E : Value → Shared → Prop} {s : Shared} {l : Addr} {its : Array Value} {Q : Value → Shared → Prop} (hL : s.heap.IsTuple l its)
    (hq : ∀ h', IsEnum h' (s.heap.objs.size + 1) s.heap.objs.size 0 .none → h'.IsTupleIter s.heap.objs.size l 0 → h'.objs.size = s.heap.objs.size + 2 →
      (∀ b ob, s.heap.get? b = some ob → h'.get? b = some ob) → Q (.ref (s.heap.objs.size + 1)) { s with heap := h' }) :
    wpAny (model prog w) A (call (.type "enumerate") [.ref l]) Q E s := by
  refine callType_new F.called_enumerate (by decide) (F.typeCall_enumerate_1 _) (F.newCall_enumerate_1 _) (fun ob => F.args_object_init_2 ob _) F.entry_enumerate_new (en_new l its) ⟨hL, ?_⟩
  have z1 : (s.heap.push { cls := .type "tuple_iterator", data := .fields #[.ref l, .int 0 0] }).objs.size = s.heap.objs.size + 1 := Heap.size_push ..
  have e1 := Heap.get?_push_size (s.heap.push { cls := .type "tuple_iterator", data := .fields #[.ref l, .int 0 0] })
    (o := { cls := .type "enumerate", data := .fields #[.none, .bool false, .ref s.heap.objs.size, rawInt 0, .none, .none] }) rfl
  rw [z1] at e1
  show _ ∧ _
  rw [z1]
  exact ⟨⟨_, e1, rfl⟩, hq _ e1 ⟨_, Heap.get?_push_of_some _ (Heap.get?_push_size _ rfl), rfl, rfl⟩ (by rw [Heap.size_push, z1]) fun b ob q => Heap.get?_push_of_some _ (Heap.get?_push_of_some _ q)⟩
/-- the tuple at a, each item in a new pair -/
def Iet (K : PySem.W.Frag) (a : Addr) : It :=
  ⟨fun i H => ∃ (xs : List V) (x : V), SqT K H a xs ∧ xs[i]? = some x, fun i H v H' => ∃ q x, v = .ref q ∧ H q = none ∧ H' = upd H q (.tup [.int (i : Nat), x]) ∧ ∀ xs, SqT K H a xs → xs[i]? = some x, fun i H => ∃ xs : List V, SqT K H a xs ∧ xs.length = i⟩
theorem turn_et {P : Program} {w : World} {K : PySem.W.Frag} {elts : List Expr} {kk : Nat} {tpos : Pos} (a e it : Addr) :
    Turn P w K (.Tuple elts kk tpos) (Iet K a) [e, it] e (fun i h => (∃ old, IsEnum h e it ((i : Nat) : Int) old) ∧ h.IsTupleIter it a i ∧ e ≠ it) where
  mem := by simp
  obj := fun i h st b hb => by
    obtain ⟨⟨old, he⟩, ⟨o, ho, hc, hd⟩, _⟩ := st
    rcases (show b = e ∨ b = it by simpa using hb) with z | z
    · rw [z]
      exact ⟨_, he, fun v q => nomatch q⟩
    · rw [z]
      exact ⟨o, ho, fun v q => by rw [hd] at q; cases q⟩
  keep := fun i h h' st k => by
    obtain ⟨⟨old, he⟩, hi, hne⟩ := st
    exact ⟨⟨old, k e (by simp) _ he⟩, hi.at fun o q => k it (by simp) o q, hne⟩
  item := by
    intro X hP hw hK hc i pn s st H E inv hf tn hg
    subst hP hw hK
    obtain ⟨⟨old, he⟩, hit, hne⟩ := tn
    obtain ⟨xs, x, hq, hx⟩ := hg
    obtain ⟨its, rv, tp, hz⟩ := inv.tuple hq
    obtain ⟨u, hu, ru⟩ := rv.get hx
    have hel : e < s.heap.objs.size := Heap.lt_size he
    have hil : it < s.heap.objs.size := by obtain ⟨_, q, _⟩ := hit; exact Heap.lt_size q
    have tp' : s.heap.IsTuple a its.toArray := tp
    have ane : a ≠ it := fun z => by
      obtain ⟨o1, h1, c1, _⟩ := tp'
      obtain ⟨o2, h2, c2, _⟩ := hit
      rw [z, h2] at h1
      cases h1
      rw [c2] at c1
      exact absurd c1 (by decide)
    have aes : e ≠ a := fun z => by
      obtain ⟨o1, h1, c1, _⟩ := tp'
      rw [← z, he] at h1
      cases h1
      have c2 : Value.type "enumerate" = Value.type "tuple" := c1
      exact absurd c2 (by decide)
    refine wpAny_pyNext_enum_itemD (Draws.tuple (A := X.A.in1) (by exact inv.ok.hd hc) it a ane its.toArray) he ⟨hit, tp'⟩ (by have := (List.getElem?_eq_some_iff.mp hu).1; simpa using this) hne (fun z => by
      rcases (show e = it ∨ e = a by simpa using z) with q | q
      · exact hne q
      · exact aes q) fun y h' tk hy ho hs' hT hsz hk => ?_
    have ey : y = u := by
      have h1 : its.toArray[i]? = some y := hy
      have h2 : its.toArray[i]? = some u := by simpa using hu
      rw [h1] at h2; exact Option.some.inj h2
    subst ey
    refine ⟨_, rfl, wpAny_letOwnedTupleGo_enum (s := { s with heap := h', toks := tk + 1 }) ho fun h'' he' sb => ?_⟩
    have hT2 := (sb.2 _ (Nat.ne_of_gt hel)).trans hT
    have new : ObjOk X.prog X.w (upd H s.heap.objs.size (.tup [.int (i : Nat), x])) h'' s.heap.objs.size (.tup [.int (i : Nat), x]) :=
      ⟨by show 2 ≤ sizeLine; decide, [.int i tk, y], .cons ⟨_, rfl⟩ (.cons ru .nil), ⟨_, hT2, rfl, _, rfl⟩⟩
    have I1 : Inv X pn st (upd H s.heap.objs.size (.tup [.int (i : Nat), x])) { s with heap := h'', toks := tk + 1 } :=
      inv.turnedNew (ch := [e, it]) (fun b ob hb q => (sb.2 b (fun z => hb (by simp [z]))).trans (hk b ob (fun z => hb (by simp [z])) (fun z => hb (by simp [z])) q)) hf (Nat.le_refl _) new
    refine ⟨.ref s.heap.objs.size, _, I1, rfl, ⟨_, x, rfl, inv.hok.fresh (Nat.le_refl _), rfl, fun ys hy => by rw [inv.tuple_inj hy hq]; exact hx⟩, ⟨⟨y, ?_⟩, hs'.1.at fun o q => (sb.2 it (Ne.symm hne)).trans q, hne⟩, fun b hb => ?_⟩
    · have e1 : ((i + 1 : Nat) : Int) = (i : Int) + 1 := by omega
      rw [e1]; exact he'
    · have hb' : b < s.heap.objs.size := by
        rcases (show b = e ∨ b = it by simpa using hb) with z | z
        · rw [z]; exact hel
        · rw [z]; exact hil
      rw [upd_ne (Nat.ne_of_lt hb')]
      exact (hf b hb).1
  done := by
    intro X hP hw hK hc i pn s st H E inv hf tn hg
    subst hP hw hK
    obtain ⟨⟨old, he⟩, hit, hne⟩ := tn
    obtain ⟨xs, hq, hx⟩ := hg
    obtain ⟨its, rv, tp, hz⟩ := inv.tuple hq
    obtain ⟨f0, f1, f2, f3, f4, f5⟩ := hf it (by simp)
    have tp' : s.heap.IsTuple a its.toArray := tp
    have hl := rv.length
    have ane : a ≠ it := fun z => by
      obtain ⟨o1, h1, c1, _⟩ := tp'
      obtain ⟨o2, h2, c2, _⟩ := hit
      rw [z, h2] at h1
      cases h1
      rw [c2] at c1
      exact absurd c1 (by decide)
    have hsz : its.toArray.size = i := by rw [List.size_toArray, ← hl]; exact hx
    exact wpAny_pyNext_enum_endD (Draws.tuple (A := X.A.in1) (by exact inv.ok.hd hc) it a ane its.toArray) he ⟨by rw [hsz]; exact hit, tp'⟩ fun h' eb => ⟨rfl, inv.turned (t' := s.toks) (fun b o hb q => eb b o hb q) f0 f1 f3 f4 f5⟩
  self := fun A i s Q E tn hq => wpAny_pyIter_enum tn.1.choose_spec hq

/-! what is walked, as data; a pair that is unpacked at once may be a tuple of unknown object -/
def isTupE : Expr → Bool
  | .Tuple .. => true
  | _ => false
def DW (b : Bool) (K : PySem.W.Frag) (c : Cf) (d : D) (v : V) : Prop := Den K c d v ∨ (b = true ∧ ∃ l a xs, d = .tup l ∧ v = .ref a ∧ SqT K c.H a xs ∧ Dens K c l xs)
theorem DW.tup {K : PySem.W.Frag} {c : Cf} {p : Addr} {vs : List V} {l : List D} (w : WF c) (n : c.H p = none) (h : Dens K c l vs) : DW true K ⟨c.M, upd c.H p (.tup vs)⟩ (.tup l) (.ref p) :=
  .inr ⟨rfl, l, p, vs, rfl, rfl, .inl (.inl upd_same), h.ext w (Ext.new n)⟩
def IterOk (tb : Bool) (K : PySem.W.Frag) (c0 : Cf) (J : It) (l : List D) : Prop := ∀ c, WF c → PExt K c0 c →
  (∀ i d, l[i]? = some d → J.go i c.H ∧ ∀ x H', J.yld i c.H x H' → ∃ c', c'.H = H' ∧ Ext Nop c c' ∧ WF c' ∧ DW tb K c' d x) ∧ J.stop l.length c.H
theorem IterOk.list {tb : Bool} {K : PySem.W.Frag} {c : Cf} {l : List D} {a : Addr} (h : Den K c (.lst l) (.ref a)) : IterOk tb K c (Itl K a) l := by
  intro c1 wf x
  obtain ⟨p, xs, e, q, r⟩ := x _ _ h
  cases e
  refine ⟨fun i d hi => ?_, ⟨xs, q.sq, by rw [r.length]; exact Nat.le_refl _⟩⟩
  obtain ⟨v, hv, hd⟩ := r.get hi
  refine ⟨⟨xs, v, q.sq, hv⟩, fun y H' hy => ?_⟩
  obtain ⟨rfl, hy⟩ := hy
  have e2 := hy xs q.sq
  rw [hv] at e2
  cases e2
  exact ⟨c1, rfl, .refl, wf, .inl hd⟩
theorem IterOk.tup {tb : Bool} {K : PySem.W.Frag} {c : Cf} {l : List D} {a : Addr} (h : Den K c (.tup l) (.ref a)) : IterOk tb K c (Itt K a) l := by
  intro c1 wf x
  obtain ⟨p, xs, e, q, r⟩ := x _ _ h
  cases e
  refine ⟨fun i d hi => ?_, ⟨xs, q.sq, by rw [r.length]; exact Nat.le_refl _⟩⟩
  obtain ⟨v, hv, hd⟩ := r.get hi
  refine ⟨⟨xs, v, q.sq, hv⟩, fun y H' hy => ?_⟩
  obtain ⟨rfl, hy⟩ := hy
  have e2 := hy xs q.sq
  rw [hv] at e2
  cases e2
  exact ⟨c1, rfl, .refl, wf, .inl hd⟩
def rangeD (lo : Int) (n : Nat) : List D := (List.range n).map fun i => .int (lo + (i : Nat))
theorem rangeD_get {lo : Int} {n i : Nat} {d : D} (h : (rangeD lo n)[i]? = some d) : i < n ∧ d = .int (lo + i) := by
  unfold rangeD at h
  rw [List.getElem?_map] at h
  obtain ⟨k, e1, e2⟩ := map_some h
  obtain ⟨h1, h2⟩ := List.getElem?_eq_some_iff.mp e1
  rw [List.length_range] at h1
  rw [List.getElem_range] at h2
  exact ⟨h1, by rw [← e2, h2]⟩
theorem rangeD_len {lo : Int} {n : Nat} : (rangeD lo n).length = n := by unfold rangeD; rw [List.length_map, List.length_range]
theorem IterOk.range {tb : Bool} {K : PySem.W.Frag} {c : Cf} {lo : Int} {n : Nat} : IterOk tb K c (Itr lo n) (rangeD lo n) := by
  intro c1 wf x
  refine ⟨fun i d hi => ?_, by rw [rangeD_len]; exact Nat.le_refl _⟩
  obtain ⟨h1, rfl⟩ := rangeD_get hi
  refine ⟨h1, fun y H' hy => ?_⟩
  obtain ⟨rfl, rfl⟩ := hy
  exact ⟨c1, rfl, .refl, wf, .inl rfl⟩
def enumD : Nat → List D → List D
  | _, [] => []
  | i, d :: l => .tup [.int i, d] :: enumD (i + 1) l
theorem enumD_get : ∀ {l : List D} {k i : Nat} {d : D}, (enumD k l)[i]? = some d → ∃ x, l[i]? = some x ∧ d = .tup [.int ((k + i : Nat) : Int), x]
  | [], _, _, _, h => by simp [enumD] at h
  | y :: l, k, 0, d, h => by
    have e : .tup [.int (k : Nat), y] = d := by simpa [enumD] using h
    exact ⟨y, rfl, e.symm⟩
  | y :: l, k, i + 1, d, h => by
    obtain ⟨x, e1, e2⟩ := enumD_get (l := l) (k := k + 1) (i := i) (by simpa [enumD] using h)
    refine ⟨x, by simpa using e1, ?_⟩
    rw [e2]
    have e3 : k + 1 + i = k + (i + 1) := by omega
    rw [e3]
theorem enumD_len : ∀ {l : List D} {k : Nat}, (enumD k l).length = l.length
  | [], _ => rfl
  | y :: l, k => by
    show (enumD (k + 1) l).length + 1 = l.length + 1
    rw [enumD_len]
theorem IterOk.enumT {K : PySem.W.Frag} {c : Cf} {l : List D} {a : Addr} (h : Den K c (.tup l) (.ref a)) : IterOk true K c (Iet K a) (enumD 0 l) := by
  intro c1 wf x
  obtain ⟨p, xs, e, q, r⟩ := x _ _ h
  cases e
  refine ⟨fun i d hi => ?_, ⟨xs, q.sq, by rw [r.length, enumD_len]⟩⟩
  obtain ⟨z, h1, rfl⟩ := enumD_get hi
  obtain ⟨v, hv, hd⟩ := r.get h1
  refine ⟨⟨xs, v, q.sq, hv⟩, fun y H' hy => ?_⟩
  obtain ⟨k, u, rfl, n, rfl, hy⟩ := hy
  have e2 := hy xs q.sq
  rw [hv] at e2
  cases e2
  refine ⟨⟨c1.M, upd c1.H k (.tup [.int (i : Nat), v])⟩, rfl, Ext.new n, wf.new n, ?_⟩
  rw [Nat.zero_add]
  exact DW.tup wf n ⟨_, _, rfl, rfl, ⟨_, _, rfl, hd, rfl⟩⟩
theorem IterOk.enumL {K : PySem.W.Frag} {c : Cf} {l : List D} {a : Addr} (h : Den K c (.lst l) (.ref a)) : IterOk true K c (Ite K a) (enumD 0 l) := by
  intro c1 wf x
  obtain ⟨p, xs, e, q, r⟩ := x _ _ h
  cases e
  refine ⟨fun i d hi => ?_, ⟨xs, q.sq, by rw [r.length, enumD_len]; exact Nat.le_refl _⟩⟩
  obtain ⟨z, h1, rfl⟩ := enumD_get hi
  obtain ⟨v, hv, hd⟩ := r.get h1
  refine ⟨⟨xs, v, q.sq, hv⟩, fun y H' hy => ?_⟩
  obtain ⟨k, u, rfl, n, rfl, hy⟩ := hy
  have e2 := hy xs q.sq
  rw [hv] at e2
  cases e2
  refine ⟨⟨c1.M, upd c1.H k (.tup [.int (i : Nat), v])⟩, rfl, Ext.new n, wf.new n, ?_⟩
  rw [Nat.zero_add]
  exact DW.tup wf n ⟨_, _, rfl, rfl, ⟨_, _, rfl, hd, rfl⟩⟩
def vI (tb : Bool) (K : PySem.W.Frag) : VR (List D) It := fun _ _ c' l J => IterOk tb K c' J l
theorem stab_vI {tb : Bool} {K : PySem.W.Frag} : Stab (vI tb K) := fun _ _ _ _ _ _ _ _ _ h => h
def MI (X : Cx) (W : WX) (tg e : Expr) (g : Gm → Rs (List D)) : Prop := ∃ t, PI X tg e t ∧ Sim X W (vI (isTupE tg) X.K) t g
section
variable {X : Cx} {W : WX} {pos p tpos : Pos} {tg a b : Expr} {ga gb : Gm → Rs D}
/-- a list or a tuple -/
def iSeq (K : PySem.W.Frag) (tl : TE) : TI := fun σ H R => tl σ H fun x H1 => ∃ a, x = .ref a ∧ (((∃ xs, SqL K H1 a xs) ∧ R (Itl K a) H1) ∨ ((∃ xs, SqT K H1 a xs) ∧ R (Itt K a) H1))
theorem pi_seq {tl : TE} (hl : PE X a tl) : PI X tg a (iSeq X.K tl) := by
  refine ⟨fun pn s st H Rz inv hw => ?_⟩
  refine thn (hl.run pn s st H _ inv hw) fun v s1 ⟨x, H1, I1, r1, q1⟩ => ?_
  obtain ⟨k, e, q⟩ := q1
  subst e
  cases r1
  have fo : ∀ b ∈ [s1.heap.objs.size], FpOk X pn H1 b := fun b hb => by
    rw [List.mem_singleton.mp hb]
    exact I1.fpOk (Nat.le_refl _) (I1.hok.fresh (Nat.le_refl _))
  rcases q with ⟨⟨xs, hq⟩, q⟩ | ⟨⟨xs, hq⟩, q⟩
  · obtain ⟨its, rv, pl, hz⟩ := I1.list hq
    exact wpAny_pyIter_list pl.isList ⟨_, _, _, _, H1, rfl, I1.kept (t' := s1.toks) fun b ob z => Heap.get?_push_of_some _ z, turn_list k _, ⟨_, Heap.get?_push_size _ rfl, rfl, rfl⟩, fo, q⟩
  · obtain ⟨its, rv, pl, hz⟩ := I1.tuple hq
    exact wpAny_pyIter_tuple (show s1.heap.IsTuple k its.toArray from pl) ⟨_, _, _, _, H1, rfl, I1.kept (t' := s1.toks) fun b ob z => Heap.get?_push_of_some _ z, turn_tuple k _, ⟨_, Heap.get?_push_size _ rfl, rfl, rfl⟩, fo, q⟩
def gItems (ga : Gm → Rs D) : Gm → Rs (List D) := fun γ => (ga γ).bind fun d γ1 => ofO (itemsD d) γ1
theorem mi_seq (ha : MP X W a ga) : MI X W tg a (gItems ga) := by
  obtain ⟨ta, h1, s1⟩ := ha
  refine ⟨_, pi_seq h1, fun f S c σ γ Q R hp => s1.bind stab_vI R hp fun d γ1 v c1 _ x1 R1 k1 q1 h2 => ?_⟩
  cases d with
  | lst l =>
    have q1' := q1
    obtain ⟨k, xs, rfl, q, r⟩ := q1
    exact ⟨k, rfl, .inl ⟨⟨xs, q.sq⟩, h2 _ c1 .refl R1 .refl (IterOk.list q1')⟩⟩
  | tup l =>
    have q1' := q1
    obtain ⟨k, xs, rfl, q, r⟩ := q1
    exact ⟨k, rfl, .inr ⟨⟨xs, q.sq⟩, h2 _ c1 .refl R1 .refl (IterOk.tup q1')⟩⟩
  | _ => exact h2.elim
def iEn (K : PySem.W.Frag) (ta : TA) : TI := fun σ H R => ta σ H fun vs H1 => ∃ a, vs = [.ref a] ∧ (((∃ xs, SqL K H1 a xs) ∧ R (Ite K a) H1) ∨ ((∃ xs, SqT K H1 a xs) ∧ R (Iet K a) H1))
theorem pi_en {ta : TA} {elts : List Expr} {kk : Nat} (hg : Gl X "enumerate") (hm : X.mg "enumerate" = none) (ha : PA X [a] ta) (hs : starEach [a] X.env = [(false, eval a X.env)] := by rfl) : PI X (.Tuple elts kk tpos) (.Call (.Name "enumerate" p) [a] [] pos) (iEn X.K ta) := by
  refine ⟨fun pn s st H Rz inv hw => ?_⟩
  refine Call_ (ld_blt inv hg hm boot_enumerate (PyProof.Rows.callWith_type1 (thn (ha.run pos pn s st H _ inv hw) fun us s1 ⟨vs, H1, I1, r1, q1⟩ => ?_) hs rfl))
  obtain ⟨k, ex, q⟩ := q1
  subst ex
  cases r1 with
  | cons r rr =>
    cases rr
    cases r
    have fo : ∀ b ∈ [s1.heap.objs.size + 1, s1.heap.objs.size], FpOk X pn H1 b := fun b hb => by
      have hle : s1.heap.objs.size ≤ b := by
        rcases (show b = s1.heap.objs.size + 1 ∨ b = s1.heap.objs.size by simpa using hb) with z | z
        · rw [z]; exact Nat.le_add_right _ _
        · rw [z]; exact Nat.le_refl _
      exact I1.fpOk hle (I1.hok.fresh hle)
    rcases q with ⟨⟨xs, hq⟩, q⟩ | ⟨⟨xs, hq⟩, q⟩
    · obtain ⟨its, rv, pl, hz⟩ := I1.list hq
      exact call_enumerate_list pl.isList fun h' he hit hsz hk => wpAny_pyIter_enum he ⟨_, _, _, _, H1, rfl, I1.kept (t' := s1.toks) hk, turn_enum k _ _, ⟨⟨.none, he⟩, hit, Nat.succ_ne_self _⟩, fo, q⟩
    · obtain ⟨its, rv, pl, hz⟩ := I1.tuple hq
      exact en_call (show s1.heap.IsTuple k its.toArray from pl) fun h' he hit hsz hk => wpAny_pyIter_enum he ⟨_, _, _, _, H1, rfl, I1.kept (t' := s1.toks) hk, turn_et k _ _, ⟨⟨.none, he⟩, hit, Nat.succ_ne_self _⟩, fo, q⟩
def gEnum (ga : Gm → Rs D) : Gm → Rs (List D) := fun γ => (ga γ).bind fun d γ1 => ofO ((itemsD d).map (enumD 0)) γ1
theorem mi_enum {elts : List Expr} {kk : Nat} (hg : Gl X "enumerate") (hm : X.mg "enumerate" = none) (ha : MP X W a ga) (hs : starEach [a] X.env = [(false, eval a X.env)] := by rfl) (hs2 : starEach [a] X.env = (false, eval a X.env) :: starEach [] X.env := by rfl) :
    MI X W (.Tuple elts kk tpos) (.Call (.Name "enumerate" p) [a] [] pos) (gEnum ga) := by
  obtain ⟨ta, h1, s1⟩ := ha
  refine ⟨_, pi_en hg hm (pa_cons h1 pa_nil hs2) hs, fun f S c σ γ Q R hp => s1.bind stab_vI R hp fun d γ1 v c1 _ x1 R1 k1 q1 h2 => ?_⟩
  cases d with
  | lst l =>
    have q1' := q1
    obtain ⟨k, xs, rfl, q, r⟩ := q1
    exact ⟨k, rfl, .inl ⟨⟨xs, q.sq⟩, h2 _ c1 .refl R1 .refl (IterOk.enumL q1')⟩⟩
  | tup l =>
    have q1' := q1
    obtain ⟨k, xs, rfl, q, r⟩ := q1
    exact ⟨k, rfl, .inr ⟨⟨xs, q.sq⟩, h2 _ c1 .refl R1 .refl (IterOk.enumT q1')⟩⟩
  | _ => exact h2.elim
def dRng1 : D → Option (List D)
  | .int j => if -(2 ^ 62) ≤ j ∧ j < 2 ^ 62 then some (rangeD 0 j.toNat) else none
  | _ => none
def dRng2 : D → D → Option (List D)
  | .int i, .int j => if -(2 ^ 62) ≤ i ∧ i < 2 ^ 62 ∧ -(2 ^ 62) ≤ j ∧ j < 2 ^ 62 then some (rangeD i (j - i).toNat) else none
  | _, _ => none
def gRng1 (ga : Gm → Rs D) : Gm → Rs (List D) := fun γ => (ga γ).bind fun d γ1 => ofO (dRng1 d) γ1
def gRng2 (ga gb : Gm → Rs D) : Gm → Rs (List D) := fun γ => (ga γ).bind fun d γ1 => (gb γ1).bind fun e γ2 => ofO (dRng2 d e) γ2
theorem mi_range1 (hg : Gl X "range") (hm : X.mg "range" = none) (ha : MP X W a ga) (hs : starEach [a] X.env = [(false, eval a X.env)] := by rfl) (hs2 : starEach [a] X.env = (false, eval a X.env) :: starEach [] X.env := by rfl) :
    MI X W tg (.Call (.Name "range" p) [a] [] pos) (gRng1 ga) := by
  obtain ⟨ta, h1, s1⟩ := ha
  refine ⟨_, pi_range1 hg hm (pa_cons h1 pa_nil hs2) hs, fun f S c σ γ Q R hp => s1.bind stab_vI R hp fun d γ1 v c1 _ x1 R1 k1 q1 h2 => ?_⟩
  obtain ⟨z, e1, h3⟩ := h2.fin R1
  cases d with
  | int j =>
    cases (show v = .int j from q1)
    obtain ⟨⟨h4, h5⟩, rfl⟩ := ite_of e1
    exact ⟨j, rfl, h4, h5, h3 _ c1 .refl R1.wf IterOk.range⟩
  | _ => cases e1
theorem mi_range2 (hg : Gl X "range") (hm : X.mg "range" = none) (ha : MP X W a ga) (hb : MP X W b gb) (hs : starEach [a, b] X.env = [(false, eval a X.env), (false, eval b X.env)] := by rfl) (hs2 : starEach [b] X.env = [(false, eval b X.env)] := by rfl) (hs3 : starEach [a, b] X.env = (false, eval a X.env) :: starEach [b] X.env := by rfl) (hs4 : starEach [b] X.env = (false, eval b X.env) :: starEach [] X.env := by rfl) :
    MI X W tg (.Call (.Name "range" p) [a, b] [] pos) (gRng2 ga gb) := by
  obtain ⟨ta, h1, s1⟩ := ha
  obtain ⟨tb, h2, s2⟩ := hb
  refine ⟨_, pi_range2 hg hm (pa_cons h1 (pa_cons h2 pa_nil hs4) hs3) hs hs2, fun f S c σ γ Q R hp => s1.bind stab_vI R hp fun d γ1 v c1 _ x1 R1 k1 q1 h3 => s2.bind stab_vI R1 h3 fun e γ2 w c2 _ x2 R2 k2 q2 h4 => ?_⟩
  obtain ⟨z, e1, h5⟩ := h4.fin R2
  cases d with
  | int i =>
    cases e with
    | int j =>
      cases (show v = .int i from q1)
      cases (show w = .int j from q2)
      obtain ⟨h6, rfl⟩ := ite_of e1
      exact ⟨i, j, rfl, h6, h5 _ c2 .refl R2.wf IterOk.range⟩
    | _ => cases e1
  | _ => cases e1
end
end Fv

namespace Fv
variable [LC : LamC]
open PySem L2

/-! targets -/
abbrev Kt := D → Gm → Option Gm
structure TgOk (tb : Bool) (K : PySem.W.Frag) (ts : List Nat) (g : TG) (k : Kt) : Prop where
  run : ∀ (f : Fx) (S : Addr → Prop) (c : Cf) (σ : St) (γ γ' : Gm) (d : D) (v : V) (Q : St → Hp → Prop), Rel K f S c σ γ → DW tb K c d v → k d γ = some γ' →
    (∀ σ', Rel K f S c σ' γ' → Kd γ γ' → σ'.length = σ.length → (∀ j : Nat, j ∉ ts → σ'[j]? = σ[j]?) → Q σ' c.H) → g v σ c.H Q
  keep : ∀ (d : D) (γ γ' : Gm), k d γ = some γ' → ∀ j : Nat, j ∉ ts → γ'[j]? = γ[j]?
structure TgsOk (K : PySem.W.Frag) (ts : List Nat) (g : TGs) (k : List D → Gm → Option Gm) : Prop where
  run : ∀ (f : Fx) (S : Addr → Prop) (c : Cf) (σ : St) (γ γ' : Gm) (d : List D) (v : List V) (Q : St → Hp → Prop), Rel K f S c σ γ → Dens K c d v → k d γ = some γ' →
    (∀ σ', Rel K f S c σ' γ' → Kd γ γ' → σ'.length = σ.length → (∀ j : Nat, j ∉ ts → σ'[j]? = σ[j]?) → Q σ' c.H) → g v σ c.H Q
  keep : ∀ (d : List D) (γ γ' : Gm), k d γ = some γ' → ∀ j : Nat, j ∉ ts → γ'[j]? = γ[j]?
def MG (X : Cx) (tg : Expr) (ts : List Nat) (k : Kt) : Prop := ∃ g, PG X tg g ∧ TgOk (isTupE tg) X.K ts g k
def MGs (X : Cx) (tg : List Expr) (ts : List Nat) (k : List D → Gm → Option Gm) : Prop := ∃ g, PGs X tg g ∧ TgsOk X.K ts g k
def kSet (i : Nat) : Kt := fun d γ => some (γ.set i (.pu d))
def kNil : List D → Gm → Option Gm
  | [], γ => some γ
  | _ :: _, _ => none
def kCons (k : Kt) (ks : List D → Gm → Option Gm) : List D → Gm → Option Gm
  | [], _ => none
  | d :: l, γ => (k d γ).bind fun γ1 => ks l γ1
def kTup (n : Nat) (ks : List D → Gm → Option Gm) : Kt := fun d γ => match d with
  | .tup l => if l.length = n then ks l γ else none
  | _ => none
theorem Kd.set {γ : Gm} {i : Nat} {d : D} : Kd γ (γ.set i (.pu d)) := fun j h => by
  obtain ⟨s, e, o⟩ := ownAt_some h
  by_cases hj : j = i
  · subst hj
    have hl : j < γ.length := by
      have := (List.getElem?_eq_some_iff.mp e).1
      rw [List.length_set] at this; exact this
    rw [List.getElem?_set_self hl] at e
    cases e; cases o
  · rw [List.getElem?_set_ne (Ne.symm hj)] at e
    unfold ownAt; rw [e]; exact o
section
variable {X : Cx} {pos : Pos}
theorem mg_name {x : Str} {i : Nat} (hN : X.N.Nodup) (hi : X.N[i]? = some x) (hx : Loc X.env.scope x) (hf : X.fn x = true ∨ X.env.scope.names.lookup x = some .local := by first | exact .inl rfl | exact .inr rfl | assumption) : MG X (.Name x pos) [i] (kSet i) :=
  ⟨_, pg_name hN hi hx hf, ⟨fun f S c σ γ γ' d v Q R h e q => by
    have e' : γ.set i (.pu d) = γ' := Option.some.inj e
    subst e'
    have h : Den X.K c d v := h.elim id fun z => by cases z.1
    exact q _ (R.setP h i) .set (List.length_set ..) fun j hj => List.getElem?_set_ne (fun z => hj (by simp [z])), fun d γ γ' e j hj => by
    have e' : γ.set i (.pu d) = γ' := Option.some.inj e
    subst e'
    exact List.getElem?_set_ne (fun z => hj (by simp [z]))⟩⟩
theorem mgs_nil : MGs X [] [] kNil := by
  refine ⟨_, pgs_nil, ⟨fun f S c σ γ γ' d v Q R h e q => ?_, fun d γ γ' e j hj => ?_⟩⟩
  · cases d with
    | nil =>
      have e' : γ = γ' := Option.some.inj e
      subst e'
      have ev : v = [] := h
      exact ⟨ev, q σ R .refl rfl fun _ _ => rfl⟩
    | cons _ _ => cases e
  · cases d with
    | nil =>
      have e' : γ = γ' := Option.some.inj e
      rw [e']
    | cons _ _ => cases e
theorem mgs_cons {e : Expr} {es : List Expr} {t1 t2 : List Nat} {k : Kt} {ks : List D → Gm → Option Gm} (h1 : MG X e t1 k) (h2 : MGs X es t2 ks) (hs : (assignEach (e :: es) X.env).map (·.2) = assign e X.env :: (assignEach es X.env).map (·.2) := by rfl) : MGs X (e :: es) (t1 ++ t2) (kCons k ks) := by
  obtain ⟨g1, p1, s1⟩ := h1
  obtain ⟨g2, p2, s2⟩ := h2
  refine ⟨_, pgs_cons p1 p2 hs, ⟨fun f S c σ γ γ' d v Q R h e q => ?_, fun d γ γ' e j hj => ?_⟩⟩
  rotate_left
  · cases d with
    | nil => cases e
    | cons y l =>
      cases z : k y γ with
      | none =>
        have e' : (k y γ).bind (fun γ1 => ks l γ1) = some γ' := e
        rw [z] at e'; cases e'
      | some γ1 =>
        have e' : (k y γ).bind (fun γ1 => ks l γ1) = some γ' := e
        rw [z] at e'
        exact (s2.keep l γ1 γ' e' j fun z => hj (List.mem_append_right _ z)).trans (s1.keep y γ γ1 z j fun z => hj (List.mem_append_left _ z))
  cases d with
  | nil => cases e
  | cons y l =>
    obtain ⟨γ1, e1, e2⟩ : ∃ γ1, k y γ = some γ1 ∧ ks l γ1 = some γ' := by
      cases z : k y γ with
      | none =>
        have e' : (k y γ).bind (fun γ1 => ks l γ1) = some γ' := e
        rw [z] at e'; cases e'
      | some γ1 =>
        have e' : (k y γ).bind (fun γ1 => ks l γ1) = some γ' := e
        rw [z] at e'; exact ⟨γ1, rfl, e'⟩
    obtain ⟨x, r, rfl, hx, hr⟩ := h
    refine ⟨x, r, rfl, s1.run f S c σ γ γ1 y x _ R (.inl hx) e1 fun σ1 R1 k1 l1 n1 => ?_⟩
    refine s2.run f S c σ1 γ1 γ' l r _ R1 hr e2 fun σ2 R2 k2 l2 n2 => ?_
    exact q σ2 R2 (k1.trans k2) (l2.trans l1) fun j hj => (n2 j fun z => hj (List.mem_append_right _ z)).trans (n1 j fun z => hj (List.mem_append_left _ z))
theorem mg_tup {es : List Expr} {kk n : Nat} {ts : List Nat} {ks : List D → Gm → Option Gm} (hc : X.calm = true) (h : MGs X es ts ks) (hn : (assignEach es X.env).length = n := by rfl) (hst : (assignEach es X.env).findIdx? (·.1) = none := by rfl) : MG X (.Tuple es kk pos) ts (kTup n ks) := by
  obtain ⟨g, p, s⟩ := h
  refine ⟨_, pg_tup hc p hn hst, ⟨fun f S c σ γ γ' d v Q R h e q => ?_, fun d γ γ' e j hj => ?_⟩⟩
  rotate_left
  · cases d with
    | tup l =>
      have e' : (if l.length = n then ks l γ else none) = some γ' := e
      by_cases hz : l.length = n
      · rw [if_pos hz] at e'
        exact s.keep l γ γ' e' j hj
      · rw [if_neg hz] at e'; cases e'
    | _ => cases e
  cases d with
  | tup l =>
    obtain ⟨k, xs, rfl, h1, h2⟩ : ∃ k xs, v = .ref k ∧ SqT X.K c.H k xs ∧ Dens X.K c l xs := by
      rcases h with ⟨k, xs, e1, e2, e3⟩ | ⟨_, l', a, xs, e1, e2, e3, e4⟩
      · exact ⟨k, xs, e1, e2.sq, e3⟩
      · cases e1
        exact ⟨a, xs, e2, e3, e4⟩
    have e' : (if l.length = n then ks l γ else none) = some γ' := e
    by_cases hz : l.length = n
    · rw [if_pos hz] at e'
      exact ⟨k, xs, rfl, h1, by rw [h2.length]; exact hz, s.run f S c σ γ γ' l xs Q R h2 e' q⟩
    · rw [if_neg hz] at e'; cases e'
  | _ => cases e
end

/-! for, while -/
def forL (k : Kt) (h : Gm → Out) : List D → Gm → Out
  | [], γ => .nx γ
  | d :: l, γ => match k d γ with
    | none => .no
    | some γ1 => match h γ1 with
      | .nx γ2 => forL k h l γ2
      | .ct γ2 => forL k h l γ2
      | .bk γ2 => .nx γ2
      | .rt d g => .rt d g
      | .ex n fs g => .ex n fs g
      | .no => .no
def hFor (gs : Gm → Rs (List D)) (k : Kt) (h : Gm → Out) : Gm → Out := fun γ => (gs γ).out fun l γ1 => forL k h l γ1
def whileN (tc : Gm → Rs Bool) (h : Gm → Out) (n : Nat) : Gm → Out := Nat.rec (fun _ => .no) (fun _ again γ => (tc γ).out fun b γ1 => if b then (match h γ1 with
      | .nx γ2 => again γ2
      | .ct γ2 => again γ2
      | .bk γ2 => .nx γ2
      | .rt d g => .rt d g
      | .ex n fs g => .ex n fs g
      | .no => .no) else .nx γ1) n
theorem whileN_succ (tc : Gm → Rs Bool) (h : Gm → Out) (n : Nat) (γ : Gm) : whileN tc h (n + 1) γ = (tc γ).out fun b γ1 => if b then (match h γ1 with
      | .nx γ2 => whileN tc h n γ2
      | .ct γ2 => whileN tc h n γ2
      | .bk γ2 => .nx γ2
      | .rt d g => .rt d g
      | .ex n fs g => .ex n fs g
      | .no => .no) else .nx γ1 := rfl
section
variable {X : Cx} {W : WX} {pos : Pos} {tg e : Expr} {body : List Stmt} {gs : Gm → Rs (List D)} {k : Kt} {h : Gm → Out} {ts : List Nat} {tc : Gm → Rs Bool}
theorem ms_for (hp : PassesOwn (model X.prog X.w) X.A X.env X.xe) (hc : X.calm = true) (hi : MI X W tg e gs) (hg : MG X tg ts k) (hb : MSs X W body h) (hs : ∀ x, foldedSetIterable e X.env x = pure x := by intro _; rfl) : MS X W (.For tg e body [] pos) (hFor gs k h) := by
  obtain ⟨ti, p1, s1⟩ := hi
  obtain ⟨g, p2, s2⟩ := hg
  obtain ⟨tb, p3, s3⟩ := hb
  refine ⟨_, ps_for hp hc p1 p2 p3 hs, fun f c σ γ T R hq => s1.out R hq fun l γ1 J c1 _ x1 R1 k1 q1 hq1 => ?_⟩
  refine ⟨fun i m σ H => ∃ c2 γ2, c2.H = H ∧ m + i = l.length ∧ PExt X.K c1 c2 ∧ Rel X.K f f.S c2 σ γ2 ∧ SPost X.K X.mg W f c2 T (forL k h (l.drop i) γ2), ⟨l.length, c1, γ1, rfl, rfl, .refl, R1, hq1⟩, ?_⟩
  rintro i m σ2 H ⟨c2, γ2, rfl, em, px, R2, hq2⟩
  obtain ⟨it, stop⟩ := q1 c2 R2.wf px
  cases ed : l[i]? with
  | none =>
    have hi : l.length ≤ i := List.getElem?_eq_none_iff.mp ed
    have ei : i = l.length := by omega
    rw [List.drop_eq_nil_of_le hi] at hq2
    rw [ei]
    exact .inl ⟨stop, hq2 σ2 c2 .refl R2⟩
  | some d =>
    obtain ⟨hil, ed'⟩ := List.getElem?_eq_some_iff.mp ed
    have edrop : l.drop i = d :: l.drop (i + 1) := by rw [← ed']; exact List.drop_eq_getElem_cons hil
    rw [edrop] at hq2
    obtain ⟨go, yl⟩ := it i d ed
    refine .inr ⟨go, fun σ' H' => ∃ c3 γ3, c3.H = H' ∧ PExt X.K c1 c3 ∧ Rel X.K f f.S c3 σ' γ3 ∧ SPost X.K X.mg W f c3 T (forL k h (l.drop (i + 1)) γ3), fun σ' H' ⟨c3, γ3, e3, px3, R3, hq3⟩ => ⟨m - 1, by omega, c3, γ3, e3, by omega, px3, R3, hq3⟩, fun x H' hy => ?_⟩
    obtain ⟨c3, rfl, x3, w3, hd⟩ := yl x H' hy
    have R3 := R2.step x3 w3
    have hq3 := SPost.pre (x3.p R2.wf) hq2
    unfold forL at hq3
    cases ek : k d γ2 with
    | none => rw [ek] at hq3; exact hq3.elim
    | some γ3 =>
      rw [ek] at hq3
      refine s2.run f f.S c3 σ2 γ2 γ3 d x _ R3 hd ek fun σ4 R4 _ _ _ => ?_
      refine s3 f c3 σ4 γ3 _ R4 ?_
      simp only at hq3
      cases eh : h γ3 with
      | nx γ4 => rw [eh] at hq3; exact fun σ5 c5 x5 R5 => ⟨c5, γ4, rfl, (px.trans (x3.p R2.wf)).trans x5, R5, SPost.pre x5 hq3⟩
      | ct γ4 => rw [eh] at hq3; exact fun σ5 c5 x5 R5 => ⟨c5, γ4, rfl, (px.trans (x3.p R2.wf)).trans x5, R5, SPost.pre x5 hq3⟩
      | bk γ4 => rw [eh] at hq3; exact hq3
      | rt d g => rw [eh] at hq3; exact hq3
      | ex n fs g => rw [eh] at hq3; exact hq3
      | no => rw [eh] at hq3; exact hq3.elim
theorem ms_while (n : Nat) (hp : PassesOwn (model X.prog X.w) X.A X.env X.xe) (ht : MT X W e tc) (hb : MSs X W body h) : MS X W (.While e body [] pos) (whileN tc h n) := by
  obtain ⟨t0, p1, s1⟩ := ht
  obtain ⟨tb, p3, s3⟩ := hb
  refine ⟨_, ps_while hp p1 p3, fun f c σ γ T R hq => ⟨fun m σ H => ∃ c2 γ2, c2.H = H ∧ Rel X.K f f.S c2 σ γ2 ∧ SPost X.K X.mg W f c2 T (whileN tc h m γ2), ⟨n, c, γ, rfl, R, hq⟩, ?_⟩⟩
  rintro m σ2 H ⟨c2, γ2, rfl, R2, hq2⟩
  cases m with
  | zero => exact hq2.elim
  | succ m =>
    rw [whileN_succ] at hq2
    refine s1.out R2 hq2 fun b γ3 v c3 _ x3 R3 _ q3 hq3 => ?_
    cases (show b = v from q3)
    cases b with
    | false => rw [if_neg Bool.false_ne_true]; exact hq3 σ2 c3 .refl R3
    | true =>
      rw [if_pos rfl]
      refine ⟨fun σ' H' => ∃ c4 γ4, c4.H = H' ∧ Rel X.K f f.S c4 σ' γ4 ∧ SPost X.K X.mg W f c4 T (whileN tc h m γ4), fun σ' H' ⟨c4, γ4, e4, R4, q4⟩ => ⟨m, Nat.lt_succ_self m, c4, γ4, e4, R4, q4⟩, ?_⟩
      refine s3 f c3 σ2 γ3 _ R3 ?_
      rw [if_pos rfl] at hq3
      cases eh : h γ3 with
      | nx γ4 => rw [eh] at hq3; exact fun σ5 c5 x5 R5 => ⟨c5, γ4, rfl, R5, SPost.pre x5 hq3⟩
      | ct γ4 => rw [eh] at hq3; exact fun σ5 c5 x5 R5 => ⟨c5, γ4, rfl, R5, SPost.pre x5 hq3⟩
      | bk γ4 => rw [eh] at hq3; exact hq3
      | rt d g => rw [eh] at hq3; exact hq3
      | ex n fs g => rw [eh] at hq3; exact hq3
      | no => rw [eh] at hq3; exact hq3.elim
end

/-! a list of a slot is written -/
def SV.put : SV → List D → SV
  | .ow _, l => .ow l
  | .bo _, l => .bo l
  | s, _ => s
theorem Rel.updO {K : PySem.W.Frag} {f : Fx} {S : Addr → Prop} {c : Cf} {σ : St} {γ : Gm} (R : Rel K f S c σ γ) {j : Nat} {s : SV} {p : Addr} {l : List D} {vs : List V} (e : γ[j]? = some s) (o : s.own = true) (hp : σ[j]? = some (some (.ref p))) (hd : Dens K c l vs) :
    Ext S c ⟨c.M, upd c.H p (.lst vs)⟩ ∧ Rel K f S ⟨c.M, upd c.H p (.lst vs)⟩ σ (γ.set j (s.put l)) ∧ Kx γ (γ.set j (s.put l)) := by
  obtain ⟨a, l0, h1, hS, ⟨hM, vs0, h2, _⟩, h4⟩ := R.ownA e o
  rw [hp] at h1
  cases h1
  have x1 : Ext (fun a => a = p) c ⟨c.M, upd c.H p (.lst vs)⟩ := Ext.put (fun _ z => z) (fun _ z => .inl z) h2 ⟨hM, rfl⟩ fun b u nb q => by
    show upd c.H p _ b = some u
    rw [upd_ne nb]; exact q
  have w1 : WF ⟨c.M, upd c.H p (.lst vs)⟩ := fun b m => by
    by_cases hb : b = p
    · exact ⟨vs, by rw [hb]; exact upd_same⟩
    · obtain ⟨xs, q⟩ := R.wf b m
      exact ⟨xs, by
        show upd c.H p _ b = _
        rw [upd_ne hb]; exact q⟩
  have hj : j < γ.length := (List.getElem?_eq_some_iff.mp e).1
  have so : (s.put l).own = true := by cases s <;> first | rfl | cases o
  have ex0 : Ext f.B f.c0 ⟨c.M, upd c.H p (.lst vs)⟩ := R.ext.thru R.wf0.wf R.wf x1 fun b _ q => by
    have eb : b = p := q
    rw [eb]
    exact h4.elim (fun z => .inl z.2) fun z => .inr z.2.2.2
  have here : Own K ⟨c.M, upd c.H p (.lst vs)⟩ p l := ⟨hM, vs, upd_same, Dens.ext R.wf x1 hd⟩
  have stay : ∀ {i : Nat} {t : SV} {b : Addr} {m : List D}, i ≠ j → γ[i]? = some t → t.own = true → σ[i]? = some (some (.ref b)) → Own K c b m → Own K ⟨c.M, upd c.H p (.lst vs)⟩ b m := fun {i t b m} hi et ot eb h =>
    h.step R.wf x1 fun z => by
      have z' : b = p := z
      rw [z'] at eb
      exact R.ne i j t s p hi et e ot o eb hp
  refine ⟨x1.mono fun b _ q => by rw [show b = p from q]; exact hS, ⟨R.wf0, w1, ex0, by rw [List.length_set]; exact R.len, fun i d q => ?_, fun i m q => ?_, fun i m q => ?_, fun i i' t t' b hii q q' o1 o2 q3 => ?_, f.kp.stab (fun a => a = p) _ _ (fun a q => by rw [show a = p from q]; exact R.sub p hS) R.wf x1 R.inv, R.sub⟩, fun i q => ?_, fun i d q => ?_⟩
  · by_cases hi : i = j
    · subst hi
      rw [List.getElem?_set_self hj] at q
      rw [Option.some.inj q] at so
      cases so
    · rw [List.getElem?_set_ne (Ne.symm hi)] at q
      obtain ⟨v, h5, h6⟩ := R.pu i d q
      exact ⟨v, h5, Den.ext R.wf x1 h6⟩
  · by_cases hi : i = j
    · subst hi
      rw [List.getElem?_set_self hj] at q
      rcases h4 with ⟨z, z2⟩ | ⟨z, _⟩
      · rw [z] at q
        cases q
        exact ⟨p, hp, z2, hS, here⟩
      · rw [z] at q; cases q
    · rw [List.getElem?_set_ne (Ne.symm hi)] at q
      obtain ⟨b, h5, h6, h7, h8⟩ := R.ow i m q
      exact ⟨b, h5, h6, h7, stay hi q rfl h5 h8⟩
  · by_cases hi : i = j
    · subst hi
      rw [List.getElem?_set_self hj] at q
      rcases h4 with ⟨z, _⟩ | ⟨z, z2, z3, z4⟩
      · rw [z] at q; cases q
      · rw [z] at q
        cases q
        subst z2
        exact ⟨hp, z3, z4, hS, here⟩
    · rw [List.getElem?_set_ne (Ne.symm hi)] at q
      obtain ⟨h5, h6, h7, h8, h9⟩ := R.bo i m q
      exact ⟨h5, h6, h7, h8, stay hi q rfl h5 h9⟩
  · have back : ∀ {i : Nat} {t : SV}, (γ.set j (s.put l))[i]? = some t → t.own = true → ∃ t0, γ[i]? = some t0 ∧ t0.own = true := fun {i t} q ot => by
      by_cases hi : i = j
      · subst hi; exact ⟨s, e, o⟩
      · rw [List.getElem?_set_ne (Ne.symm hi)] at q; exact ⟨t, q, ot⟩
    obtain ⟨t0, f1, f2⟩ := back q o1
    obtain ⟨t1, f3, f4⟩ := back q' o2
    exact R.ne i i' t0 t1 b hii f1 f3 f2 f4 q3
  · by_cases hi : i = j
    · subst hi
      unfold ownAt; rw [e]; exact o
    · obtain ⟨t, f1, f2⟩ := ownAt_some q
      rw [List.getElem?_set_ne (Ne.symm hi)] at f1
      unfold ownAt; rw [f1]; exact f2
  · by_cases hi : i = j
    · subst hi
      rw [List.getElem?_set_self hj] at q
      rw [Option.some.inj q] at so
      cases so
    · rw [List.getElem?_set_ne (Ne.symm hi)] at q
      exact q
def putO (j : Nat) (h : List D → Option (List D)) (γ : Gm) : Option Gm := match γ[j]? with
  | some (.ow l) => (h l).map fun m => γ.set j (.ow m)
  | some (.bo l) => (h l).map fun m => γ.set j (.bo m)
  | _ => none
theorem putO_some {j : Nat} {h : List D → Option (List D)} {γ γ' : Gm} (e : putO j h γ = some γ') : ∃ s l m, γ[j]? = some s ∧ s.own = true ∧ (s = .ow l ∨ s = .bo l) ∧ h l = some m ∧ γ' = γ.set j (s.put m) := by
  unfold putO at e
  split at e
  · rename_i l q
    obtain ⟨m, e1, e2⟩ := map_some e
    exact ⟨_, l, m, q, rfl, .inl rfl, e1, e2.symm⟩
  · rename_i l q
    obtain ⟨m, e1, e2⟩ := map_some e
    exact ⟨_, l, m, q, rfl, .inr rfl, e1, e2.symm⟩
  · cases e
section
variable {X : Cx} {W : WX} {pos p p1 p2 : Pos} {a b e : Expr} {ga gb : Gm → Rs D} {x : Str} {j : Nat}
/-- x.append(e) -/
def gApp (j : Nat) (ga : Gm → Rs D) : Gm → Rs D := fun γ => (gOwn j γ).bind fun _ γ0 => (ga γ0).bind fun d γ1 => match putO j (fun l => if l.length < sizeLine then some (l ++ [d]) else none) γ1 with
  | some γ2 => .ok .non γ2
  | none => .no
theorem own_ty {K : PySem.W.Frag} {H : Hp} {q : Addr} {vs : List V} (h : H q = some (.lst vs)) : tyV K "list" (.ref q) H := .inl ⟨rfl, vs, SqL.of h⟩
theorem mp_app (ho : PE X (.Name x p) (tVar j)) (ha : MP X W e ga) (hbase : attributeBase (.Name x p) "append" X.env (eval (.Name x p) X.env) = eval (.Name x p) X.env := by rfl)
    (hfew : ((backTo p2 (starEach [e] X.env)).all (fun x => !x.1) && (backToKw p2 (keywordEach [] X.env)).all (fun x => x.1.isSome) && decide ([e].length + ([] : List Keyword).length + (if ([] : List Keyword).isEmpty then 0 else 1) < 30)) = true := by rfl)
    (hline : (p1.endLine == p2.line) = true := by rfl) (hs : starEach [e] X.env = (false, eval e X.env) :: starEach [] X.env := by rfl) (hpl : (backTo p2 (starEach [] X.env)).any (·.1) = false := by rfl) :
    MP X W (.Call (.Attribute (.Name x p) "append" p1) [e] [] p2) (gApp j ga) := by
  obtain ⟨ta, h1, s1⟩ := ha
  refine ⟨_, pe_bm PySem.F.plainAttrs_list PySem.F.slot_list_append PySem.F.type_list_append mt_append ho (pa_cons h1 pa_nil hs) hbase hfew hline hs hpl, fun f S c σ γ Q R hp => ?_⟩
  replace hp : Post X.K X.mg (vP X.K) W f S c σ γ Q (gApp j ga γ) := hp
  unfold gApp at hp
  rcases gOwn_cases j γ with e0 | ⟨l0, e0⟩
  · rw [e0] at hp; exact hp.elim
  · rw [e0] at hp
    obtain ⟨s, l, e1, _, _, _, e2⟩ := gOwn_ok e0
    obtain ⟨q, f1, _, vs0, f2, _⟩ := R.ownL e1 e2
    refine ⟨.ref q, f1, own_ty f2, s1.bind stab_vP R hp fun d γ1 v c1 _ x1 R1 k1 q1 h3 => ?_⟩
    cases ep : putO j (fun l => if l.length < sizeLine then some (l ++ [d]) else none) γ1 with
    | none => rw [ep] at h3; exact h3.elim
    | some γ2 =>
      rw [ep] at h3
      obtain ⟨s', l', m, g1, g2, g3, g4, rfl⟩ := putO_some ep
      obtain ⟨q', f3, _, vs, f4, f5⟩ := R1.ownL g1 g3
      rw [f1] at f3
      cases f3
      obtain ⟨hz, rfl⟩ := ite_of g4
      obtain ⟨y1, y2, y3⟩ := R1.updO g1 g2 f1 (Dens.app f5 (Dens.cons q1 Dens.nil))
      exact ⟨q, vs, v, rfl, rfl, f4, by rw [f5.length]; exact hz, h3 .non _ y1 y2 y3 rfl⟩
/-- x[i] = e -/
def hPut (j : Nat) (ga gb : Gm → Rs D) : Gm → Out := fun γ => (ga γ).out fun d γ1 => (gOwn j γ1).out fun _ γ2 => (gb γ2).out fun i γ3 => match i with
  | .int k => match putO j (fun l => (ixN l.length k).map fun n => l.set n d) γ3 with
    | some γ4 => .nx γ4
    | none => .no
  | _ => .no
theorem ms_put (ho : PE X (.Name x p) (tVar j)) (hb : MP X W b gb) (ha : MP X W e ga)
    (hsa : ∀ v, assign (.Subscript (.Name x p) b p1) X.env v = (do
      let ov ← holding [v] (eval (.Name x p) X.env)
      let iv ← holding [v, ov] (eval b X.env)
      standAt p1
      holding [v, ov, iv] (setItem ov iv v)
      release [v, ov, iv] []) := by intro _; rfl)
    (hs : swapsWithSole [.Subscript (.Name x p) b p1] e pos.line X.env = pure false := by rfl) (hw : swappedStores [.Subscript (.Name x p) b p1] e X.env = pure none := by rfl)
    (h1 : (assignEach [.Subscript (.Name x p) b p1] X.env).map (·.2) = [assign (.Subscript (.Name x p) b p1) X.env] := by rfl) : MS X W (.Assign [.Subscript (.Name x p) b p1] e pos) (hPut j ga gb) := by
  obtain ⟨ta, t1, s1⟩ := ha
  obtain ⟨tb, t2, s2⟩ := hb
  refine ⟨_, ps_asg t1 (pg_sub ho t2 set_list hsa) hs hw h1, fun f c σ γ T R hp => s1.out R hp fun d γ1 v c1 _ x1 R1 k1 q1 h3 => ?_⟩
  rcases gOwn_cases j γ1 with e0 | ⟨l0, e0⟩
  · rw [e0] at h3; exact h3.elim
  · rw [e0] at h3
    obtain ⟨s, l, e1, _, _, _, e2⟩ := gOwn_ok e0
    obtain ⟨q, f1, _⟩ := R1.ownL e1 e2
    refine ⟨.ref q, f1, s2.out R1 h3 fun i γ3 w c3 _ x3 R3 k3 q3 h4 => ?_⟩
    cases i with
    | int k =>
      cases (show w = .int k from q3)
      simp only at h4
      cases ep : putO j (fun l => (ixN l.length k).map fun n => l.set n d) γ3 with
      | none => rw [ep] at h4; exact h4.elim
      | some γ4 =>
        rw [ep] at h4
        obtain ⟨s', l', m, g1, g2, g3, g4, rfl⟩ := putO_some ep
        obtain ⟨q', f3, _, vs, f4, f5⟩ := R3.ownL g1 g3
        rw [f1] at f3
        cases f3
        obtain ⟨n, g5, rfl⟩ := map_some g4
        obtain ⟨y1, y2, y3⟩ := R3.updO g1 g2 f1 (Dens.set (Den.ext R1.wf x3 q1) n f5)
        exact ⟨q, vs, k, n, rfl, rfl, f4, by rw [f5.length]; exact g5, h4 σ _ (y1.p R3.wf) y2⟩
    | _ => exact h4.elim
end
end Fv

namespace Fv
variable [LC : LamC]
open PySem L2

/-! list comprehensions -/
def wipeG (γ : Gm) : List Nat → Gm
  | [] => γ
  | v :: vs => (wipeG γ vs).set v .un
def restG (γ1 γ : Gm) : List Nat → Gm
  | [] => γ
  | v :: vs => (restG γ1 γ vs).set v (γ1.getD v .un)
def lcL (k : Kt) (gt : Gm → Rs Bool) (ge : Gm → Rs D) (vs : List Nat) : List D → Gm → Rs (List D)
  | [], γ => .ok [] γ
  | d :: l, γ => match k d γ with
    | none => .no
    | some γ1 => (gt γ1).bind fun b γ2 => if b then (ge γ2).bind fun y γ3 => (lcL k gt ge vs l (wipeG γ3 vs)).bind fun ys γ4 => .ok (y :: ys) γ4 else lcL k gt ge vs l (wipeG γ2 vs)
def gLc (gs : Gm → Rs (List D)) (k : Kt) (gt : Gm → Rs Bool) (ge : Gm → Rs D) (vs : List Nat) : Gm → Rs (List D) := fun γ => (gs γ).bind fun l γ1 =>
  if l.length ≤ sizeLine ∧ vs.all (fun i => !ownAt γ1 i) = true then match lcL k gt ge vs l (wipeG γ1 vs) with
    | .ok ys γ2 => .ok ys (restG γ1 γ2 vs)
    | _ => .no
  else .no
abbrev Wn : WX := fun _ _ _ _ => False
theorem wipeG_len (γ : Gm) : ∀ vs : List Nat, (wipeG γ vs).length = γ.length
  | [] => rfl
  | v :: vs => by unfold wipeG; rw [List.length_set, wipeG_len γ vs]
theorem wipe_ne {σ : St} {j : Nat} : ∀ {vs : List Nat}, j ∉ vs → (wipe σ vs)[j]? = σ[j]?
  | [], _ => rfl
  | v :: vs, h => by
    unfold wipe
    rw [List.getElem?_set_ne (fun z => h (by simp [z]))]
    exact wipe_ne fun z => h (List.mem_cons_of_mem _ z)
theorem wipeG_ne {γ : Gm} {j : Nat} : ∀ {vs : List Nat}, j ∉ vs → (wipeG γ vs)[j]? = γ[j]?
  | [], _ => rfl
  | v :: vs, h => by
    unfold wipeG
    rw [List.getElem?_set_ne (fun z => h (by simp [z]))]
    exact wipeG_ne fun z => h (List.mem_cons_of_mem _ z)
theorem wipe_in {σ : St} {j : Nat} (hj : j < σ.length) : ∀ {vs : List Nat}, j ∈ vs → (wipe σ vs)[j]? = some none
  | v :: vs, h => by
    unfold wipe
    by_cases e : v = j
    · subst e
      rw [List.getElem?_set_self (by rw [wipe_length]; exact hj)]
    · rw [List.getElem?_set_ne e]
      exact wipe_in hj ((List.mem_cons.mp h).elim (fun z => (e z.symm).elim) id)
theorem wipeG_in {γ : Gm} {j : Nat} (hj : j < γ.length) : ∀ {vs : List Nat}, j ∈ vs → (wipeG γ vs)[j]? = some .un
  | v :: vs, h => by
    unfold wipeG
    by_cases e : v = j
    · subst e
      rw [List.getElem?_set_self (by rw [wipeG_len]; exact hj)]
    · rw [List.getElem?_set_ne e]
      exact wipeG_in hj ((List.mem_cons.mp h).elim (fun z => (e z.symm).elim) id)
theorem wipe_same {σ σ' : St} {vs : List Nat} (hl : σ'.length = σ.length) (h : ∀ j : Nat, j ∉ vs → σ'[j]? = σ[j]?) : wipe σ' vs = wipe σ vs := by
  refine List.ext_getElem? fun j => ?_
  by_cases hj : j ∈ vs
  · by_cases hz : j < σ.length
    · rw [wipe_in hz hj, wipe_in (by rw [hl]; exact hz) hj]
    · rw [List.getElem?_eq_none (by rw [wipe_length, hl]; omega), List.getElem?_eq_none (by rw [wipe_length]; omega)]
  · rw [wipe_ne hj, wipe_ne hj]; exact h j hj
theorem wipe_wipe {σ : St} {vs : List Nat} : wipe (wipe σ vs) vs = wipe σ vs := wipe_same (wipe_length _ _) fun j hj => wipe_ne hj
theorem wipeG_slot {γ : Gm} {vs : List Nat} {j : Nat} {s : SV} (e : (wipeG γ vs)[j]? = some s) : s = .un ∨ (j ∉ vs ∧ γ[j]? = some s) := by
  by_cases hj : j ∈ vs
  · have hz : j < γ.length := by
      have := (List.getElem?_eq_some_iff.mp e).1
      rw [wipeG_len] at this; exact this
    rw [wipeG_in hz hj] at e
    exact .inl (Option.some.inj e).symm
  · rw [wipeG_ne hj] at e
    exact .inr ⟨hj, e⟩
theorem Rel.wipe {K : PySem.W.Frag} {f : Fx} {S : Addr → Prop} {c : Cf} {σ : St} {γ : Gm} (R : Rel K f S c σ γ) (vs : List Nat) : Rel K f S c (wipe σ vs) (wipeG γ vs) := by
  refine ⟨R.wf0, R.wf, R.ext, by rw [wipe_length, wipeG_len, R.len], fun i d e => ?_, fun i l e => ?_, fun i l e => ?_, fun i j s t a hij e1 e2 o1 o2 e3 => ?_, R.inv, R.sub⟩
  · rcases wipeG_slot e with z | ⟨h, z⟩
    · cases z
    · rw [wipe_ne h]; exact R.pu i d z
  · rcases wipeG_slot e with z | ⟨h, z⟩
    · cases z
    · rw [wipe_ne h]; exact R.ow i l z
  · rcases wipeG_slot e with z | ⟨h, z⟩
    · cases z
    · rw [wipe_ne h]; exact R.bo i l z
  · rcases wipeG_slot e1 with z | ⟨h, z⟩
    · rw [z] at o1; cases o1
    · rcases wipeG_slot e2 with z' | ⟨h', z'⟩
      · rw [z'] at o2; cases o2
      · rw [wipe_ne h] at e3
        rw [wipe_ne h']
        exact R.ne i j s t a hij z z' o1 o2 e3
theorem Kd.wipe {γ : Gm} {vs : List Nat} : Kd γ (wipeG γ vs) := fun i h => by
  obtain ⟨s, e, o⟩ := ownAt_some h
  rcases wipeG_slot e with z | ⟨_, z⟩
  · rw [z] at o; cases o
  · unfold ownAt; rw [z]; exact o
/-- fewer lists may be written -/
theorem Rel.lessS {K : PySem.W.Frag} {f : Fx} {S S' : Addr → Prop} {c : Cf} {σ : St} {γ : Gm} (R : Rel K f S c σ γ) (h : ∀ (i : Nat) (s : SV) (a : Addr), γ[i]? = some s → s.own = true → σ[i]? = some (some (V.ref a)) → S a → S' a) (hs : ∀ a, S' a → ¬ f.kp.X a) : Rel K f S' c σ γ :=
  ⟨R.wf0, R.wf, R.ext, R.len, R.pu, fun i l e => by
    obtain ⟨a, h1, h2, h3, h4⟩ := R.ow i l e
    exact ⟨a, h1, h2, h i _ a e rfl h1 h3, h4⟩, fun i l e => by
    obtain ⟨h1, h2, h3, h4, h5⟩ := R.bo i l e
    exact ⟨h1, h2, h3, h i _ _ e rfl h1 h4, h5⟩, R.ne, R.inv, hs⟩
/-- a list that is in no slot is written -/
theorem Rel.touch {K : PySem.W.Frag} {f : Fx} {S : Addr → Prop} {c : Cf} {σ : St} {γ : Gm} {p : Addr} {vs : List V} (R : Rel K f S c σ γ) (hS : ¬ S p) (h0 : f.c0.H p = none) (hX : ¬ f.kp.X p) (hM : c.M p) :
    Ext (fun a => a = p) c ⟨c.M, upd c.H p (.lst vs)⟩ ∧ Rel K f S ⟨c.M, upd c.H p (.lst vs)⟩ σ γ := by
  obtain ⟨xs0, hx0⟩ := R.wf p hM
  have x1 : Ext (fun a => a = p) c ⟨c.M, upd c.H p (.lst vs)⟩ := Ext.put (fun _ z => z) (fun _ z => .inl z) hx0 ⟨hM, rfl⟩ fun b u nb q => by
    show upd c.H p _ b = some u
    rw [upd_ne nb]; exact q
  have w1 : WF ⟨c.M, upd c.H p (.lst vs)⟩ := fun b m => by
    by_cases hb : b = p
    · exact ⟨vs, by rw [hb]; exact upd_same⟩
    · obtain ⟨xs, q⟩ := R.wf b m
      exact ⟨xs, by
        show upd c.H p _ b = _
        rw [upd_ne hb]; exact q⟩
  refine ⟨x1, R.wf0, w1, R.ext.thru R.wf0.wf R.wf x1 fun b _ q => ?_, R.len, fun i d e => ?_, fun i l e => ?_, fun i l e => ?_, R.ne, f.kp.stab (fun a => a = p) _ _ (fun a q => by rw [show a = p from q]; exact hX) R.wf x1 R.inv, R.sub⟩
  · rw [show b = p from q]; exact .inl h0
  · obtain ⟨v, h1, h2⟩ := R.pu i d e
    exact ⟨v, h1, Den.ext R.wf x1 h2⟩
  · obtain ⟨a, h1, h2, h3, h4⟩ := R.ow i l e
    exact ⟨a, h1, h2, h3, h4.step R.wf x1 fun z => hS (by rw [← show a = p from z]; exact h3)⟩
  · obtain ⟨h1, h2, h3, h4, h5⟩ := R.bo i l e
    exact ⟨h1, h2, h3, h4, h5.step R.wf x1 fun z => hS (by rw [← show f.rho i = p from z]; exact h4)⟩
theorem restG_ne {γ1 γ : Gm} {j : Nat} : ∀ {vs : List Nat}, j ∉ vs → (restG γ1 γ vs)[j]? = γ[j]?
  | [], _ => rfl
  | v :: vs, h => by
    unfold restG
    rw [List.getElem?_set_ne (fun z => h (by simp [z]))]
    exact restG_ne fun z => h (List.mem_cons_of_mem _ z)
theorem restG_len (γ1 γ : Gm) : ∀ vs : List Nat, (restG γ1 γ vs).length = γ.length
  | [] => rfl
  | v :: vs => by unfold restG; rw [List.length_set, restG_len γ1 γ vs]
theorem restG_in {γ1 γ : Gm} {j : Nat} (hj : j < γ.length) : ∀ {vs : List Nat}, j ∈ vs → (restG γ1 γ vs)[j]? = some (γ1.getD j .un)
  | v :: vs, h => by
    unfold restG
    by_cases e : v = j
    · subst e
      rw [List.getElem?_set_self (by rw [restG_len]; exact hj)]
    · rw [List.getElem?_set_ne e]
      exact restG_in hj ((List.mem_cons.mp h).elim (fun z => (e z.symm).elim) id)
/-- behind the block -/
theorem Rel.rest {K : PySem.W.Frag} {f : Fx} {S S' : Addr → Prop} {c1 c : Cf} {σ : St} {γ1 γ : Gm} {vs : List Nat} (R1 : Rel K f S c1 σ γ1) (no : vs.all (fun i => !ownAt γ1 i) = true) (px : PExt K c1 c) (R : Rel K f S' c (L2.wipe σ vs) γ) (hS : ∀ a, S' a → S a) : Rel K f S c σ (restG γ1 γ vs) := by
  have hl : γ.length = γ1.length := by rw [← R.len, wipe_length, R1.len]
  have slot : ∀ {i : Nat} {s : SV}, (restG γ1 γ vs)[i]? = some s → (i ∉ vs ∧ γ[i]? = some s) ∨ (i ∈ vs ∧ γ1[i]? = some s ∧ s.own = false) := fun {i s} e => by
    by_cases hi : i ∈ vs
    · have hz : i < γ.length := by
        have := (List.getElem?_eq_some_iff.mp e).1
        rw [restG_len] at this; exact this
      rw [restG_in hz hi] at e
      have e1 : γ1[i]? = some s := by
        have h1 : γ1[i]? = some γ1[i] := List.getElem?_eq_getElem (by omega)
        have h2 : γ1.getD i .un = γ1[i] := by rw [List.getD_eq_getElem?_getD, h1]; rfl
        rw [h2] at e
        rw [h1]; exact e
      refine .inr ⟨hi, e1, ?_⟩
      have h3 := List.all_eq_true.mp no i hi
      unfold ownAt at h3
      rw [e1] at h3
      simpa using h3
    · rw [restG_ne hi] at e
      exact .inl ⟨hi, e⟩
  refine ⟨R.wf0, R.wf, R.ext, by rw [restG_len, hl, R1.len], fun i d e => ?_, fun i l e => ?_, fun i l e => ?_, fun i j s t a hij e1 e2 o1 o2 e3 => ?_, R.inv, R1.sub⟩
  · rcases slot e with ⟨h, z⟩ | ⟨h, z, _⟩
    · have := R.pu i d z
      rw [wipe_ne h] at this; exact this
    · obtain ⟨v, h1, h2⟩ := R1.pu i d z
      exact ⟨v, h1, px _ _ h2⟩
  · rcases slot e with ⟨h, z⟩ | ⟨_, _, z⟩
    · obtain ⟨a, h1, h2, h3, h4⟩ := R.ow i l z
      rw [wipe_ne h] at h1
      exact ⟨a, h1, h2, hS a h3, h4⟩
    · cases z
  · rcases slot e with ⟨h, z⟩ | ⟨_, _, z⟩
    · obtain ⟨h1, h2, h3, h4, h5⟩ := R.bo i l z
      rw [wipe_ne h] at h1
      exact ⟨h1, h2, h3, hS _ h4, h5⟩
    · cases z
  · rcases slot e1 with ⟨h, z⟩ | ⟨_, _, z⟩
    · rcases slot e2 with ⟨h', z'⟩ | ⟨_, _, z'⟩
      · have e4 : (L2.wipe σ vs)[i]? = some (some (.ref a)) := by rw [wipe_ne h]; exact e3
        have := R.ne i j s t a hij z z' o1 o2 e4
        rw [wipe_ne h'] at this; exact this
      · rw [z'] at o2; cases o2
    · rw [z] at o1; cases o1
/-- within a block: the slots outside vs keep their kinds and data -/
structure Kw (vs : List Nat) (γ g : Gm) : Prop where
  own : Kd γ g
  pu : ∀ (i : Nat) (d : D), i ∉ vs → g[i]? = some (SV.pu d) → γ[i]? = some (SV.pu d)
theorem Kw.trans {vs : List Nat} {a b c : Gm} (x : Kw vs a b) (y : Kw vs b c) : Kw vs a c := ⟨x.own.trans y.own, fun i d h z => x.pu i d h (y.pu i d h z)⟩
theorem Kx.w {vs : List Nat} {a b : Gm} (x : Kx a b) : Kw vs a b := ⟨x.own, fun i d _ z => x.pu i d z⟩
theorem Kw.wipe {vs : List Nat} {γ : Gm} : Kw vs γ (wipeG γ vs) := ⟨Kd.wipe, fun i d h z => by rw [wipeG_ne h] at z; exact z⟩
theorem sim_lc {tb : Bool} {X : Cx} {W : WX} {wi : TI} {g : TG} {tt : TT} {te : TE} {gs : Gm → Rs (List D)} {k : Kt} {gt : Gm → Rs Bool} {ge : Gm → Rs D} {ts vs : List Nat} (si : Sim X W (vI tb X.K) wi gs) (tg : TgOk tb X.K ts g k) (hts : ∀ j ∈ ts, j ∈ vs) (st : Sim X Wn vT tt gt) (se : Sim X Wn (vP X.K) te ge) :
    Sim X W (vF X.K) (tLc wi g tt te vs) (gLc gs k gt ge vs) := by
  intro f S c σ γ Q R hp
  refine si.bind stab_vF R hp fun l γ1 J c1 _ x1 R1 k1 q1 h1 => fun p n => ?_
  by_cases hno : l.length ≤ sizeLine ∧ vs.all (fun i => !ownAt γ1 i) = true
  · rw [if_pos hno] at h1
    obtain ⟨hz, hno⟩ := hno
    cases eT : lcL k gt ge vs l (wipeG γ1 vs) with
    | no => rw [eT] at h1; exact h1.elim
    | ex _ _ _ => rw [eT] at h1; exact h1.elim
    | ok yT γE =>
      rw [eT] at h1
      have h0 : f.c0.H p = none := R1.ext.noneS R1.wf n
      have RD : Rel X.K f (fun a => S a ∧ a ≠ p) (c1.add p []) (wipe σ vs) (wipeG γ1 vs) := by
        refine ((R1.wipe vs).step (Ext.add n) (R1.wf.add n)).lessS (fun i s a e o ea hs => ⟨hs, fun z => ?_⟩) fun a z => R1.sub a z.1
        obtain ⟨a', l', z1, _, ⟨_, vs', z2, _⟩, _⟩ := (R1.wipe vs).ownA e o
        rw [ea] at z1
        cases z1
        rw [z, n] at z2; cases z2
      have pD : PExt X.K c1 (c1.add p []) := (Ext.add (vs := []) n).p R1.wf
      refine ⟨fun i m H => ∃ c2 γ2 acc ys zs, c2.H = H ∧ m + i = l.length ∧ Ext (fun a => S a ∨ a = p) (c1.add p []) c2 ∧ PExt X.K c1 c2 ∧ Rel X.K f (fun a => S a ∧ a ≠ p) c2 (wipe σ vs) γ2 ∧ Kw vs γ1 γ2 ∧ c2.M p ∧ c2.H p = some (.lst acc) ∧ acc.length ≤ i ∧ Dens X.K c2 ys acc ∧
          lcL k gt ge vs (l.drop i) γ2 = .ok zs γE ∧ ys ++ zs = yT, ⟨l.length, c1.add p [], wipeG γ1 vs, [], [], yT, rfl, rfl, .refl, pD, RD, .wipe, .inr rfl, upd_same, Nat.le_refl _, Dens.nil, eT, rfl⟩, ?_⟩
      rintro i m H ⟨c2, γ2, acc, ys, zs, rfl, em, xD, p2, R2, kd2, hM, hA, hAi, hD, eL, eY⟩
      obtain ⟨it, stop⟩ := q1 c2 R2.wf p2
      cases ed : l[i]? with
      | none =>
        have hi : l.length ≤ i := List.getElem?_eq_none_iff.mp ed
        have ei : i = l.length := by omega
        rw [List.drop_eq_nil_of_le hi] at eL
        cases eL
        rw [List.append_nil] at eY
        subst eY
        rw [ei]
        refine .inl ⟨stop, h1 (.ref p) c2 ?_ (R1.rest hno p2 R2 fun a z => z.1) ⟨fun j hj => ?_, fun j d e => ?_⟩ ⟨p, rfl, n, hM, acc, hA, hD⟩⟩
        · refine ⟨fun a z => xD.m1 a (.inl z), fun a z => ?_, fun a o e ne nt => ?_, fun a ps e => xD.ht a ps (by show upd c1.H p _ a = _; rw [upd_ne (ne_of_none e n)]; exact e), fun P q z => xD.tb P q ((Ext.add (vs := []) n : Ext Nop c1 _).tb P q z)⟩
          · rcases xD.m2 a z with (q | q) | q
            · exact .inl q
            · rw [q]; exact .inr n
            · exact .inr ((Ext.add (vs := []) n : Ext Nop c1 _).noneS (R1.wf.add n) q)
          · have ap : a ≠ p := ne_of_none e n
            refine xD.h a o (by show upd c1.H p _ a = some o; rw [upd_ne ap]; exact e) (fun z => ?_) nt
            rcases z.2 with z2 | z2
            · rcases z.1 with z1 | z1
              · exact ne ⟨z1, z2⟩
              · exact ap z1
            · exact ap z2
        · obtain ⟨s, e, o⟩ := ownAt_some hj
          by_cases hv : j ∈ vs
          · have hz : j < γE.length := by
              have := (List.getElem?_eq_some_iff.mp e).1
              rw [restG_len] at this; exact this
            rw [restG_in hz hv] at e
            have hl : j < γ1.length := by rw [← R1.len, ← wipe_length σ vs, R2.len]; exact hz
            have h2 : γ1.getD j .un = γ1[j] := by rw [List.getD_eq_getElem?_getD, List.getElem?_eq_getElem hl]; rfl
            rw [h2] at e
            unfold ownAt
            rw [List.getElem?_eq_getElem hl, Option.some.inj e]; exact o
          · rw [restG_ne hv] at e
            exact kd2.own j (by unfold ownAt; rw [e]; exact o)
        · by_cases hv : j ∈ vs
          · have hz : j < γE.length := by
              have := (List.getElem?_eq_some_iff.mp e).1
              rw [restG_len] at this; exact this
            rw [restG_in hz hv] at e
            have hl : j < γ1.length := by rw [← R1.len, ← wipe_length σ vs, R2.len]; exact hz
            have h2 : γ1.getD j .un = γ1[j] := by rw [List.getD_eq_getElem?_getD, List.getElem?_eq_getElem hl]; rfl
            rw [h2] at e
            rw [List.getElem?_eq_getElem hl]; exact e
          · rw [restG_ne hv] at e
            exact kd2.pu j d hv e
      | some d =>
        obtain ⟨hil, ed'⟩ := List.getElem?_eq_some_iff.mp ed
        have edrop : l.drop i = d :: l.drop (i + 1) := by rw [← ed']; exact List.drop_eq_getElem_cons hil
        rw [edrop] at eL
        unfold lcL at eL
        obtain ⟨go, yl⟩ := it i d ed
        refine .inr ⟨go, fun H' => ∃ c2 γ2 acc ys zs, c2.H = H' ∧ Ext (fun a => S a ∨ a = p) (c1.add p []) c2 ∧ PExt X.K c1 c2 ∧ Rel X.K f (fun a => S a ∧ a ≠ p) c2 (wipe σ vs) γ2 ∧ Kw vs γ1 γ2 ∧ c2.M p ∧ c2.H p = some (.lst acc) ∧ acc.length ≤ i + 1 ∧ Dens X.K c2 ys acc ∧
          lcL k gt ge vs (l.drop (i + 1)) γ2 = .ok zs γE ∧ ys ++ zs = yT, fun H' ⟨c2, γ2, acc, ys, zs, a1, a2, a3, a4, a5, a6, a7, a8, a9, b1, b2⟩ => ⟨m - 1, by omega, c2, γ2, acc, ys, zs, a1, by omega, a2, a3, a4, a5, a6, a7, a8, a9, b1, b2⟩, fun x H' hy => ?_⟩
        obtain ⟨c3, rfl, x3, w3, hd⟩ := yl x H' hy
        have R3 := R2.step x3 w3
        cases ek : k d γ2 with
        | none => rw [ek] at eL; cases eL
        | some γ3 =>
          rw [ek] at eL
          simp only at eL
          refine tg.run f _ c3 (wipe σ vs) γ2 γ3 d x _ R3 hd ek fun σ4 R4 k4 l4 n4 => ?_
          have ew : wipe σ4 vs = wipe σ vs := by
            rw [wipe_same (σ := wipe σ vs) l4 fun j hj => n4 j fun z => hj (hts j z), wipe_wipe]
          refine ⟨ew, ?_⟩
          have k4w : Kw vs γ2 γ3 := ⟨k4, fun i d' hi z => by
            rw [tg.keep d γ2 γ3 ek i fun zz => hi (hts i zz)] at z; exact z⟩
          obtain ⟨b, γ5, e5, eL5⟩ := bind_ok eL
          refine st f _ c3 σ4 γ3 _ R4 ?_
          rw [e5]
          intro v c5 x5 R5 k5 (ev : b = v)
          subst ev
          cases b with
          | true =>
            rw [if_pos rfl] at eL5 ⊢
            obtain ⟨y, γ6, e6, eL6⟩ := bind_ok eL5
            refine se f _ c5 σ4 γ5 _ R5 ?_
            rw [e6]
            intro v c6 x6 R6 k6 hv
            have x26 : Ext (fun a => S a ∧ a ≠ p) c2 c6 := ((x3.nop (S := fun a => S a ∧ a ≠ p)).trans w3 x5).trans R5.wf x6
            have hA6 : c6.H p = some (.lst acc) := x26.h p _ hA (fun z => z.2.2 rfl) (fun _ z => by cases z)
            have hM6 : c6.M p := x26.m1 p hM
            have hv' : Den X.K c6 y v := hv
            obtain ⟨γ7, zs', e7, e8⟩ : ∃ γ7 zs', lcL k gt ge vs (l.drop (i + 1)) (wipeG γ6 vs) = .ok zs' γ7 ∧ Rs.ok (y :: zs') γ7 = .ok zs γE := by
              obtain ⟨zs', γ7, e7, e8⟩ := bind_ok eL6
              exact ⟨γ7, zs', e7, e8⟩
            cases e8
            obtain ⟨x7, R7⟩ := Rel.touch (vs := acc ++ [v]) R6 (fun z => z.2 rfl) h0 (R1.notX n) hM6
            have hD6 : Dens X.K c6 ys acc := Dens.ext R2.wf x26 hD
            refine ⟨acc, hA6, by omega, ⟨c6.M, upd c6.H p (.lst (acc ++ [v]))⟩, wipeG γ6 vs, acc ++ [v], ys ++ [y], zs', rfl, ?_, (p2.trans (x26.p R2.wf)).trans (x7.p R6.wf), ?_, ((kd2.trans k4w).trans (k5.trans k6).w).trans .wipe, hM6, upd_same, by rw [List.length_append]; exact Nat.succ_le_succ hAi, Dens.app (Dens.ext R6.wf x7 hD6) (Dens.cons (Den.ext R6.wf x7 hv') Dens.nil), e7, by rw [List.append_assoc]; exact eY⟩
            · refine (xD.trans R2.wf (x26.mono fun a _ z => .inl z.1)).trans R6.wf (x7.mono fun a _ z => .inr z)
            · have R8 := R7.wipe vs
              rw [ew] at R8
              exact R8
          | false =>
            rw [if_neg Bool.false_ne_true] at eL5 ⊢
            have x25 : Ext (fun a => S a ∧ a ≠ p) c2 c5 := (x3.nop (S := fun a => S a ∧ a ≠ p)).trans w3 x5
            refine ⟨c5, wipeG γ5 vs, acc, ys, zs, rfl, xD.trans R2.wf (x25.mono fun a _ z => .inl z.1), p2.trans (x25.p R2.wf), ?_, ((kd2.trans k4w).trans k5.w).trans .wipe, x25.m1 p hM, x25.h p _ hA (fun z => z.2.2 rfl) (fun _ z => by cases z), Nat.le_succ_of_le hAi, Dens.ext R2.wf x25 hD, eL5, eY⟩
            have R8 := R5.wipe vs
            rw [ew] at R8
            exact R8
  · rw [if_neg hno] at h1; exact h1.elim
/-- the block's parts, in whichever context it starts -/
abbrev Blk (X : Cx) (scope : Scope) (J : Cx → Prop) : Prop := ∀ (s : Shared) (H : Hp) (C : Addr) (cl : List (Str × Addr)) (fp : List Addr), J (X.blk s H scope (compEnvC scope cl C X.env) fp)
def gYes : Gm → Rs Bool := fun γ => .ok true γ
def MTs (X : Cx) (W : WX) (ifs : List Expr) (g : Gm → Rs Bool) : Prop := ∃ t, PTs X ifs t ∧ Sim X W vT t g
theorem mts_nil {X : Cx} {W : WX} : MTs X W [] gYes := ⟨_, pts_nil, fun f S c σ γ Q R hp => hp true c .refl R .refl rfl⟩
theorem mts_one {X : Cx} {W : WX} {e : Expr} {g : Gm → Rs Bool} (h : MT X W e g) : MTs X W [e] g := let ⟨_, h1, s1⟩ := h; ⟨_, pts_one h1, s1⟩
theorem blk_pe {X : Cx} {scope : Scope} {e : Expr} {g : Gm → Rs D} (h : Blk X scope fun Y => MP Y Wn e g) : ∃ t, (Blk X scope fun Y => PE Y e t) ∧ Sim X Wn (vP X.K) t g :=
  ⟨fun σ H Q => ∀ t, (∃ s H C cl fp, PE (X.blk s H scope (compEnvC scope cl C X.env) fp) e t) → Sim X Wn (vP X.K) t g → t σ H Q,
    fun s H C cl fp => let ⟨t, h1, s1⟩ := h s H C cl fp; ⟨fun pn sh σ Hh Q inv hw => h1.run pn sh σ Hh Q inv (hw t ⟨s, H, C, cl, fp, h1⟩ s1)⟩,
    fun f S c σ γ Q R hp t _ s1 => s1 f S c σ γ Q R hp⟩
theorem blk_pt {X : Cx} {scope : Scope} {ifs : List Expr} {g : Gm → Rs Bool} (h : Blk X scope fun Y => MTs Y Wn ifs g) : ∃ t, (Blk X scope fun Y => PTs Y ifs t) ∧ Sim X Wn vT t g :=
  ⟨fun σ H Q => ∀ t, (∃ s H C cl fp, PTs (X.blk s H scope (compEnvC scope cl C X.env) fp) ifs t) → Sim X Wn vT t g → t σ H Q,
    fun s H C cl fp => let ⟨t, h1, s1⟩ := h s H C cl fp; ⟨fun pn sh σ Hh Q inv hw => h1.run pn sh σ Hh Q inv (hw t ⟨s, H, C, cl, fp, h1⟩ s1)⟩,
    fun f S c σ γ Q R hp t _ s1 => s1 f S c σ γ Q R hp⟩
theorem blk_pg {X : Cx} {scope : Scope} {tg : Expr} {ts : List Nat} {k : Kt} (h : Blk X scope fun Y => MG Y tg ts k) : ∃ g, (Blk X scope fun Y => PG Y tg g) ∧ TgOk (isTupE tg) X.K ts g k :=
  ⟨fun v σ H Q => ∀ g, (∃ s H C cl fp, PG (X.blk s H scope (compEnvC scope cl C X.env) fp) tg g) → TgOk (isTupE tg) X.K ts g k → g v σ H Q,
    fun s H C cl fp => let ⟨g, h1, s1⟩ := h s H C cl fp; ⟨fun pn sh σ Hh v u Q inv r hw => h1.run pn sh σ Hh v u Q inv r (hw g ⟨s, H, C, cl, fp, h1⟩ s1)⟩,
    ⟨fun f S c σ γ γ' d v Q R hd e hq g _ s1 => s1.run f S c σ γ γ' d v Q R hd e hq, (h X.s_0 X.H_0 (0 : Nat) [] []).choose_spec.2.keep⟩⟩
section
variable {X : Cx} {W : WX} {pos p2 : Pos} {elt tg iter : Expr} {ifs : List Expr} {scope : Scope} {own : List (Str × Nat)} {gs : Gm → Rs (List D)} {k : Kt} {gt : Gm → Rs Bool} {ge : Gm → Rs D} {ts : List Nat}
theorem mf_lc (hc : X.calm = true) (hN : X.N.Nodup) (hi : MI X W tg iter gs) (hb : BlkOk X.N X.env.scope scope own) (hg : Blk X scope fun Y => MG Y tg ts k) (ht : Blk X scope fun Y => MTs Y Wn ifs gt) (he : Blk X scope fun Y => MP Y Wn elt ge)
    (hts : ∀ j ∈ ts, j ∈ own.map (·.2)) (hs : ∀ x, foldedSetIterable iter X.env x = pure x := by intro _; rfl) : MF X W (.ListComp elt [{ target := tg, iter := iter, ifs := ifs, is_async := 0 }] scope pos) (gLc gs k gt ge (own.map (·.2))) := by
  obtain ⟨wi, h1, s1⟩ := hi
  obtain ⟨g, h2, s2⟩ := blk_pg hg
  obtain ⟨tt, h3, s3⟩ := blk_pt ht
  obtain ⟨te, h4, s4⟩ := blk_pe he
  exact ⟨_, pe_lc hc hN h1 hb h2 h3 h4 hs, sim_lc s1 s2 hts s3 s4⟩
/-- y = [..] -/
theorem ms_lc {i : Nat} {y : Str} (hc : X.calm = true) (hN : X.N.Nodup) (hy : X.N[i]? = some y) (hl : X.env.scope.names.lookup y = some .local)
    (hsw : swapsWith (.ListComp elt [{ target := tg, iter := iter, ifs := ifs, is_async := 0 }] scope pos) (some (.Name y p2)) sp.line X.env = pure true) (hi : MI X W tg iter gs) (hb : BlkOk X.N X.env.scope scope own) (hg : Blk X scope fun Y => MG Y tg ts k) (ht : Blk X scope fun Y => MTs Y Wn ifs gt) (he : Blk X scope fun Y => MP Y Wn elt ge)
    (hts : ∀ j ∈ ts, j ∈ own.map (·.2)) (hs : ∀ x, foldedSetIterable iter X.env x = pure x := by intro _; rfl) : MS X W (.Assign [.Name y p2] (.ListComp elt [{ target := tg, iter := iter, ifs := ifs, is_async := 0 }] scope pos) sp) (hSetF i (gLc gs k gt ge (own.map (·.2)))) := by
  obtain ⟨wi, h1, s1⟩ := hi
  obtain ⟨g, h2, s2⟩ := blk_pg hg
  obtain ⟨tt, h3, s3⟩ := blk_pt ht
  obtain ⟨te, h4, s4⟩ := blk_pe he
  exact ⟨_, ps_setLc hc hN hy hl hsw h1 hb h2 h3 h4 hs, sim_setF i (sim_lc s1 s2 hts s3 s4)⟩
end
end Fv

namespace Fv
variable [LC : LamC]
open PySem L2
open PyProof.Rows (envOfC)

/-! a def by its body -/
def finR : List SV → Gm → Option (List SV)
  | [], _ => some []
  | .bo _ :: l, .bo m :: g => (finR l g).map (.bo m :: ·)
  | .pu d :: l, _ :: g => (finR l g).map (.pu d :: ·)
  | _ :: _, _ => none
def runN (n : Nat) (h : Gm → Out) : List SV → Rs D := fun ps => match h (ps ++ List.replicate (n - ps.length) .un) with
  | .rt d g => match finR ps g with
    | some qs => .ok d qs
    | none => .no
  | .nx g => match finR ps g with
    | some qs => .ok .non qs
    | none => .no
  | _ => .no
theorem finR_at : ∀ {ps : List SV} {g : Gm} {qs : List SV}, finR ps g = some qs → qs.length = ps.length ∧ ∀ (i : Nat) (s : SV), qs[i]? = some s → (∃ d, s = .pu d ∧ ps[i]? = some (.pu d)) ∨ (∃ l m, s = .bo m ∧ ps[i]? = some (.bo l) ∧ g[i]? = some (.bo m))
  | [], g, qs, h => by
    unfold finR at h
    cases h
    exact ⟨rfl, fun i s e => by simp at e⟩
  | .bo l :: ps, .bo m :: g, qs, h => by
    obtain ⟨r, e1, rfl⟩ := map_some (show (finR ps g).map (.bo m :: ·) = some qs from h)
    obtain ⟨h1, h2⟩ := finR_at e1
    refine ⟨by rw [List.length_cons, List.length_cons, h1], fun i s e => ?_⟩
    cases i with
    | zero =>
      have e' : SV.bo m = s := by simpa using e
      exact .inr ⟨l, m, e'.symm, rfl, rfl⟩
    | succ i => simpa using h2 i s (by simpa using e)
  | .pu d :: ps, y :: g, qs, h => by
    obtain ⟨r, e1, rfl⟩ := map_some (show (finR ps g).map (.pu d :: ·) = some qs from h)
    obtain ⟨h1, h2⟩ := finR_at e1
    refine ⟨by rw [List.length_cons, List.length_cons, h1], fun i s e => ?_⟩
    cases i with
    | zero =>
      have e' : SV.pu d = s := by simpa using e
      exact .inl ⟨d, e'.symm, rfl⟩
    | succ i => simpa using h2 i s (by simpa using e)
  | .un :: _, _, _, h => by cases h
  | .ow _ :: _, _, _, h => by cases h
  | .pu _ :: _, [], _, h => by cases h
  | .bo _ :: _, [], _, h => by cases h
  | .bo _ :: _, .un :: _, _, h => by cases h
  | .bo _ :: _, .pu _ :: _, _, h => by cases h
  | .bo _ :: _, .ow _ :: _, _, h => by cases h
theorem fin_rel {K : PySem.W.Frag} {g : Fx} {c' : Cf} {vs : List V} {σ' : St} {ps : List SV} {γ' : Gm} {qs : List SV} (R0 : Rel K g g.S g.c0 (vs.map some) ps) (px : PExt K g.c0 c') (R : Rel K g g.S c' σ' γ') (h : finR ps γ' = some qs) : Rel K g g.S c' (vs.map some) qs := by
  obtain ⟨h1, h2⟩ := finR_at h
  refine ⟨R.wf0, R.wf, R.ext, by rw [h1, R0.len], fun i d e => ?_, fun i l e => ?_, fun i l e => ?_, fun i j s t a hij e1 e2 o1 o2 e3 => ?_, R.inv, R.sub⟩
  · rcases h2 i _ e with ⟨d', z, e1⟩ | ⟨l, m, z, _⟩
    · cases z
      obtain ⟨v, h3, h4⟩ := R0.pu i d e1
      exact ⟨v, h3, px _ _ h4⟩
    · cases z
  · rcases h2 i _ e with ⟨d', z, e1⟩ | ⟨l, m, z, _⟩
    · cases z
    · cases z
  · rcases h2 i _ e with ⟨d', z, e1⟩ | ⟨l', m, z, e1, e2⟩
    · cases z
    · cases z
      obtain ⟨h3, h4, h5, h6, _⟩ := R0.bo i l' e1
      exact ⟨h3, h4, h5, h6, (R.bo i l e2).2.2.2.2⟩
  · have back : ∀ {i : Nat} {s : SV}, qs[i]? = some s → s.own = true → ∃ s0, ps[i]? = some s0 ∧ s0.own = true := fun {i s} e o => by
      rcases h2 i s e with ⟨d, rfl, _⟩ | ⟨l, m, _, e1, _⟩
      · cases o
      · exact ⟨_, e1, rfl⟩
    obtain ⟨s0, f1, f2⟩ := back e1 o1
    obtain ⟨t0, f3, f4⟩ := back e2 o2
    exact R0.ne i j s0 t0 a hij f1 f3 f2 f4 e3
theorem start_rel {K : PySem.W.Frag} {f : Fx} {S : Addr → Prop} {c : Cf} {σ : St} {γ : Gm} (R : Rel K f S c σ γ) (k : Nat) : Rel K f S c (σ ++ List.replicate k none) (γ ++ List.replicate k .un) := by
  have slot : ∀ {i : Nat} {s : SV}, (γ ++ List.replicate k .un)[i]? = some s → s = .un ∨ (i < γ.length ∧ γ[i]? = some s) := fun {i s} e => by
    by_cases hi : i < γ.length
    · rw [List.getElem?_append_left hi] at e
      exact .inr ⟨hi, e⟩
    · rw [List.getElem?_append_right (by omega), List.getElem?_replicate] at e
      split at e
      · exact .inl (Option.some.inj e).symm
      · cases e
  have same : ∀ {i : Nat}, i < γ.length → (σ ++ List.replicate k none)[i]? = σ[i]? := fun hi => List.getElem?_append_left (by rw [R.len]; exact hi)
  refine ⟨R.wf0, R.wf, R.ext, by rw [List.length_append, List.length_append, List.length_replicate, List.length_replicate, R.len], fun i d e => ?_, fun i l e => ?_, fun i l e => ?_, fun i j s t a hij e1 e2 o1 o2 e3 => ?_, R.inv, R.sub⟩
  · rcases slot e with z | ⟨h, z⟩
    · cases z
    · rw [same h]; exact R.pu i d z
  · rcases slot e with z | ⟨h, z⟩
    · cases z
    · rw [same h]; exact R.ow i l z
  · rcases slot e with z | ⟨h, z⟩
    · cases z
    · rw [same h]; exact R.bo i l z
  · rcases slot e1 with z | ⟨h, z⟩
    · rw [z] at o1; cases o1
    · rcases slot e2 with z' | ⟨h', z'⟩
      · rw [z'] at o2; cases o2
      · rw [same h] at e3
        rw [same h']
        exact R.ne i j s t a hij z z' o1 o2 e3
/-- a def of the text, as callers know it -/
structure Def (P : Program) (w : World) (K : PySem.W.Frag) (mg : Str → Option Value) (base : Heap) (CX : CXT) (k : Nat) (x : Str) (ps : List Str) (F : List SV → Rs D) : Prop where
  ex : ∃ f fd, FnOk P w K mg base CX k f fd ps (spF K mg ps.length F) ∧ mg x = some (.ref f) ∧ PySem.W.keepIn K (.ref f) = true ∧ Binds K fd ps []
section
variable {P : Program} {w : World} {K : PySem.W.Frag} {mg : Str → Option Value} {base : Heap}
theorem fok {x qual : Str} {params : Arguments} {body : List Stmt} {scope : Scope} {f : Addr} {fd : FuncData} {N ps : List Str} {k : Nat} {h : Gm → Out} (F : FunD K x qual params body scope [] [] f fd) (S : FnScope N ps scope)
    (hb : ∀ (cdv : Value) (A : Around) (outer : List Env) (s : Shared) (H : Hp) (E : XK), Room k (A.deeper (envOfC qual scope s.heap.objs.size f cdv)) → MSs (cxOf CX0 P w K mg base N qual scope f cdv A outer s H E).nox Wn body h) :
    FnOk P w K mg base CX0 (k + 1) f fd ps (spF K mg ps.length (runN N.length h)) := by
  refine F.ok S (fun vs H Q E z => z.1) fun cdv A outer s H vs Q E hr z => ?_
  obtain ⟨t, h1, s1⟩ := hb cdv A outer s H E hr
  refine ⟨t, h1.nox, ?_⟩
  obtain ⟨hl, g, γ, rfl, R, hp⟩ := z
  have hlen : γ.length = vs.length := by rw [← R.len, List.length_map]
  have R' := start_rel R (N.length - vs.length)
  refine s1 g g.c0 (start N vs) (γ ++ List.replicate (N.length - vs.length) SV.un) _ (show Rel K g g.S g.c0 (start N vs) (γ ++ List.replicate (N.length - vs.length) SV.un) from R') ?_
  unfold runN at hp
  rw [hlen] at hp
  cases e : h (γ ++ List.replicate (N.length - vs.length) .un) with
  | rt d g' =>
    rw [e] at hp
    simp only at hp
    cases e2 : finR γ g' with
    | none => rw [e2] at hp; exact hp.elim
    | some qs =>
      rw [e2] at hp
      exact fun v σ' c' px R2 hd => hp v c' (fin_rel R px R2 e2) hd
  | nx g' =>
    rw [e] at hp
    simp only at hp
    cases e2 : finR γ g' with
    | none => rw [e2] at hp; exact hp.elim
    | some qs =>
      rw [e2] at hp
      exact fun σ' c' px R2 => hp .non c' (fin_rel R px R2 e2) rfl
  | _ => rw [e] at hp; exact hp.elim
theorem def_mk {x : Str} {params : Arguments} {body : List Stmt} {scope : Scope} {f : Addr} {fd : FuncData} {ps : List Str} {k : Nat} {F : List SV → Rs D} (FD : FunD K x x params body scope [] [] f fd) (hF : FnOk P w K mg base CX0 k f fd ps (spF K mg ps.length F)) (hm : mg x = some (.ref f))
    (hb : ∀ (kV doc pm : Value) (an : Option Addr) (cdv ct : Value) (us : List Value), us.length = ps.length → bindArgs (PySem.W.fnOf x x params body scope .none kV doc pm an cdv ct) ⟨us, []⟩ = pure (ps.zip us)) : Def P w K mg base CX0 k x ps F :=
  ⟨f, fd, hF, hm, FD.kp, FD.bindsN hb⟩
end
section
variable {X : Cx} {W : WX} {pos p : Pos} {a b e : Expr} {es : List Expr} {ga gb : Gm → Rs D} {gs : Gm → Rs (List Ar)} {CX : CXT} {k j : Nat} {ps : List Str} {x : Str}
theorem mp_def {F : List SV → Rs D} (hF : Def X.prog X.w X.K X.mg X.base CX k x ps F) (hr : Room j X.A) (hk : k ≤ j) (hg : Gl X x) (hx : ∀ σ, PassesAt CX X σ (WE W σ))
    (ha : MA X W (e :: es) gs) (hl : (e :: es).length = ps.length := by rfl) (h2 : (x == ("__debug__" : Str)) = false := by decide) (h3 : starEach (e :: es) X.env = (false, eval e X.env) :: starEach es X.env := by rfl) (h4 : (backTo pos (starEach es X.env)).any (·.1) = false := by rfl) :
    MP X W (.Call (.Name x p) (e :: es) [] pos) (gCall F gs) := by
  obtain ⟨f, fd, h5, h6, h7, h8⟩ := hF.ex
  exact mp_call h5 (hr.mono hk) hg h6 h7 h8 hx ha hl h2 h3 h4
end

/-! a written list that is only read: it is looked at as data -/
mutual
def noLst : D → Bool
  | .lst _ => false
  | .tup l => noLsts l
  | .ob _ => false
  | _ => true
def noLsts : List D → Bool
  | [] => true
  | d :: l => noLst d && noLsts l
end
mutual
theorem den_flat {K : PySem.W.Frag} {c c' : Cf} (hh : ∀ a xs, TpN c.H a xs → TpN c'.H a xs) : ∀ (d : D) (v : V), noLst d = true → Den K c d v → Den K c' d v
  | .non, _, _, h => h
  | .bl _, _, _, h => h
  | .int _, _, _, h => h
  | .str _, _, _, h => h
  | .lst _, _, n, _ => by cases n
  | .ob _, _, n, _ => by cases n
  | .tup l, v, n, h => by
    obtain ⟨a, xs, e, q, r⟩ := h
    exact ⟨a, xs, e, hh a xs q, dens_flat hh l xs n r⟩
theorem dens_flat {K : PySem.W.Frag} {c c' : Cf} (hh : ∀ a xs, TpN c.H a xs → TpN c'.H a xs) : ∀ (l : List D) (vs : List V), noLsts l = true → Dens K c l vs → Dens K c' l vs
  | [], _, _, h => h
  | d :: l, vs, n, h => by
    obtain ⟨x, r, e, p, q⟩ := h
    obtain ⟨n1, n2⟩ := Bool.and_eq_true_iff.mp (show (noLst d && noLsts l) = true from n)
    exact ⟨x, r, e, den_flat hh d x n1 p, dens_flat hh l r n2 q⟩
end
/-- slot j is no more written -/
def seeG (j : Nat) (γ : Gm) : Option (List D × Bool × Gm) := match γ[j]? with
  | some (.ow l) => some (l, true, γ.set j (.pu (.lst l)))
  | some (.bo l) => some (l, false, γ.set j (.pu (.lst l)))
  | _ => none
def gSee (j : Nat) (g : Gm → Rs D) : Gm → Rs D := fun γ => match seeG j γ with
  | none => .no
  | some (l, b, γ1) => match g γ1 with
    | .ok d γ2 => if noLst d = true ∧ γ2.length = γ.length ∧ ownAt γ2 j = false then .ok d (γ2.set j (if b then .ow l else .bo l)) else .no
    | _ => .no
theorem Rel.see {K : PySem.W.Frag} {f : Fx} {S : Addr → Prop} {c : Cf} {σ : St} {γ : Gm} (R : Rel K f S c σ γ) {j : Nat} {l : List D} {p : Addr} (ho : ownAt γ j = true) (hp : σ[j]? = some (some (.ref p))) (hO : Own K c p l) (h0 : f.c0.H p = none) : Rel K f S (c.del p) σ (γ.set j (.pu (.lst l))) := by
  have R1 : Rel K f S c σ (γ.set j .un) := by
    have sl : ∀ {i : Nat} {s : SV}, (γ.set j .un)[i]? = some s → s = .un ∨ (i ≠ j ∧ γ[i]? = some s) := fun {i s} e => by
      by_cases hi : i = j
      · subst hi
        have hz : i < γ.length := by
          have := (List.getElem?_eq_some_iff.mp e).1
          rw [List.length_set] at this; exact this
        rw [List.getElem?_set_self hz] at e
        exact .inl (Option.some.inj e).symm
      · rw [List.getElem?_set_ne (Ne.symm hi)] at e
        exact .inr ⟨hi, e⟩
    refine ⟨R.wf0, R.wf, R.ext, by rw [List.length_set, R.len], fun i d e => ?_, fun i l e => ?_, fun i l e => ?_, fun i i' s t a hij e1 e2 o1 o2 e3 => ?_, R.inv, R.sub⟩
    · rcases sl e with z | ⟨_, z⟩
      · cases z
      · exact R.pu i d z
    · rcases sl e with z | ⟨_, z⟩
      · cases z
      · exact R.ow i l z
    · rcases sl e with z | ⟨_, z⟩
      · cases z
      · exact R.bo i l z
    · rcases sl e1 with z | ⟨_, z⟩
      · rw [z] at o1; cases o1
      · rcases sl e2 with z' | ⟨_, z'⟩
        · rw [z'] at o2; cases o2
        · exact R.ne i i' s t a hij z z' o1 o2 e3
  have hn : ∀ i, ownAt (γ.set j .un) i = true → σ[i]? ≠ some (some (.ref p)) := fun i hi => by
    obtain ⟨s, e, o⟩ := ownAt_some hi
    have hij : j ≠ i := fun z => by
      subst z
      have hz : j < γ.length := by
        have := (List.getElem?_eq_some_iff.mp e).1
        rw [List.length_set] at this; exact this
      rw [List.getElem?_set_self hz] at e
      cases e; cases o
    rw [List.getElem?_set_ne hij] at e
    obtain ⟨s', e', o'⟩ := ownAt_some ho
    exact R.ne j i s' s p hij e' e o' o hp
  have hX : ¬ f.kp.X p := by
    obtain ⟨s', e', o'⟩ := ownAt_some ho
    obtain ⟨a, l', q1, q2, _⟩ := R.ownA e' o'
    rw [hp] at q1
    cases q1
    exact R.sub _ q2
  have R2 := R1.del h0 hX hn
  have R3 := R2.setP hO.den j
  rw [List.set_set] at R3
  have hσ : σ.set j (some (.ref p)) = σ := by
    refine List.ext_getElem? fun i => ?_
    by_cases hi : i = j
    · subst hi
      have hz : i < σ.length := (List.getElem?_eq_some_iff.mp hp).1
      rw [List.getElem?_set_self hz, hp]
    · rw [List.getElem?_set_ne (Ne.symm hi)]
  rw [hσ] at R3
  exact R3
end Fv

namespace Fv
variable [LC : LamC]
open PySem L2

/-! a list of this frame's, looked at as data for one expression -/
def flatOwn (j : Nat) (γ : Gm) : Bool := (List.range γ.length).all fun i => i == j || match γ[i]? with
  | some (.ow l) => noLsts l
  | some (.bo l) => noLsts l
  | _ => true
def gSeeO (j : Nat) (g : Gm → Rs D) : Gm → Rs D := fun γ => match γ[j]? with
  | some (.ow l) => match g (γ.set j (.pu (.lst l))) with
    | .ok d γ2 => if noLst d = true ∧ γ2.length = γ.length ∧ flatOwn j γ2 = true then .ok d (γ2.set j (.ow l)) else .no
    | _ => .no
  | _ => .no
theorem sim_see {X : Cx} {W : WX} {t : TE} {g : Gm → Rs D} (j : Nat) (s : Sim X W (vP X.K) t g) : Sim X W (vP X.K) t (gSeeO j g) := by
  intro f S c σ γ Q R hp
  replace hp : Post X.K X.mg (vP X.K) W f S c σ γ Q (gSeeO j g γ) := hp
  unfold gSeeO at hp
  split at hp
  · rename_i l ej
    obtain ⟨p, h1, h2, h3, hO⟩ := R.ow j l ej
    have hown : ownAt γ j = true := by unfold ownAt; rw [ej]; rfl
    have hj : j < γ.length := (List.getElem?_eq_some_iff.mp ej).1
    have R3 := R.see hown h1 hO h2
    have hO' := hO
    obtain ⟨hM, vs, hV, hD⟩ := hO'
    refine s f S (c.del p) σ (γ.set j (.pu (.lst l))) Q R3 ?_
    cases eg : g (γ.set j (.pu (.lst l))) with
    | no => rw [eg] at hp; exact hp.elim
    | ex _ _ _ => rw [eg] at hp; exact hp.elim
    | ok d γ2 =>
      rw [eg] at hp
      simp only at hp
      by_cases hc : noLst d = true ∧ γ2.length = γ.length ∧ flatOwn j γ2 = true
      · rw [if_pos hc] at hp
        obtain ⟨c1, c2, c3⟩ := hc
        intro v c2' x2 R2 k2 hd
        have hV2 : c2'.H p = some (.lst vs) := x2.h p _ hV (fun z => z.1.2 rfl) (fun _ z => by cases z)
        have g1 : ∀ (i : Nat) (s : SV), i ≠ j → (γ.set j (.pu (.lst l)))[i]? = some s → γ[i]? = some s := fun i s hi q => by rw [List.getElem?_set_ne (Ne.symm hi)] at q; exact q
        have oj : ∀ (i : Nat) (s : SV), γ2[i]? = some s → s.own = true → i ≠ j := fun i s q o z => by
          subst z
          obtain ⟨s', e', o'⟩ := ownAt_some (k2.own i (by unfold ownAt; rw [q]; exact o))
          rw [List.getElem?_set_self hj] at e'
          cases e'; cases o'
        have x3 : Ext S c ⟨fun a => c2'.M a ∨ a = p, c2'.H⟩ := by
          refine ⟨fun a z => ?_, fun a z => ?_, fun a o e n nt => ?_, x2.ht, x2.tb⟩
          · by_cases ha : a = p
            · exact .inr ha
            · exact .inl (x2.m1 a ⟨z, ha⟩)
          · rcases z with z | z
            · rcases x2.m2 a z with q | q
              · exact .inl q.1
              · exact .inr q
            · exact .inl (by rw [z]; exact hM)
          · exact x2.h a o e (fun z => n ⟨z.1.1, z.2⟩) nt
        have w3 : WF ⟨fun a => c2'.M a ∨ a = p, c2'.H⟩ := fun a z => by
          rcases z with z | z
          · exact R2.wf a z
          · exact ⟨vs, by rw [z]; exact hV2⟩
        have flat : ∀ (i : Nat) (s : SV) (m : List D), i ≠ j → γ2[i]? = some s → (s = .ow m ∨ s = .bo m) → noLsts m = true := fun i s m hi q hs => by
          have hz := (List.getElem?_eq_some_iff.mp q).1
          have := List.all_eq_true.mp c3 i (List.mem_range.mpr hz)
          rw [q] at this
          rcases hs with rfl | rfl <;> simpa [hi] using this
        have own3 : ∀ (i : Nat) (s : SV) (m : List D) (a : Addr), i ≠ j → γ2[i]? = some s → (s = .ow m ∨ s = .bo m) → Own X.K c2' a m → Own X.K ⟨fun a => c2'.M a ∨ a = p, c2'.H⟩ a m := fun i s m a hi q hs ⟨m1, ws, m2, m3⟩ =>
          ⟨.inl m1, ws, m2, dens_flat (c := c2') (c' := ⟨fun a => c2'.M a ∨ a = p, c2'.H⟩) (fun _ _ z => z) m ws (flat i s m hi q hs) m3⟩
        have atj : (γ2.set j (.ow l))[j]? = some (.ow l) := List.getElem?_set_self (by rw [c2]; exact hj)
        have nej : ∀ (i : Nat) (s : SV), i ≠ j → (γ2.set j (.ow l))[i]? = some s → γ2[i]? = some s := fun i s hi q => by rw [List.getElem?_set_ne (Ne.symm hi)] at q; exact q
        have kx : Kx γ (γ2.set j (.ow l)) := by
          refine ⟨fun i q => ?_, fun i d' q => ?_⟩
          · by_cases hi : i = j
            · rw [hi]; exact hown
            · obtain ⟨s', e', o'⟩ := ownAt_some q
              obtain ⟨s2, e2, o2⟩ := ownAt_some (k2.own i (by unfold ownAt; rw [nej i s' hi e']; exact o'))
              unfold ownAt; rw [g1 i s2 hi e2]; exact o2
          · by_cases hi : i = j
            · subst hi; rw [atj] at q; cases q
            · exact g1 i _ hi (k2.pu i d' (nej i _ hi q))
        refine hp v ⟨fun a => c2'.M a ∨ a = p, c2'.H⟩ x3 ⟨R.wf0, w3, ⟨fun a z => .inl (R2.ext.m1 a z), fun a z => ?_, R2.ext.h, R2.ext.ht, R2.ext.tb⟩, by rw [List.length_set]; exact R2.len, fun i d' q => ?_, fun i m q => ?_, fun i m q => ?_, fun i i' t t' a hii q q' o1 o2 q3 => ?_, f.kp.stab S _ _ R.sub R.wf x3 R.inv, R.sub⟩ kx (den_flat (c := c2') (c' := ⟨fun a => c2'.M a ∨ a = p, c2'.H⟩) (fun _ _ z => z) d v c1 hd)
        · rcases z with z | z
          · exact R2.ext.m2 a z
          · exact .inr (by rw [z]; exact h2)
        · have hi : i ≠ j := fun z => by subst z; rw [atj] at q; cases q
          obtain ⟨u, h5, h6⟩ := R.pu i d' (kx.pu i d' q)
          exact ⟨u, h5, Den.ext R.wf x3 h6⟩
        · by_cases hi : i = j
          · subst hi
            rw [atj] at q
            cases q
            exact ⟨p, h1, h2, h3, .inr rfl, vs, hV2, Dens.ext R.wf x3 hD⟩
          · have q' := nej i _ hi q
            obtain ⟨a, h5, h6, h7, h8⟩ := R2.ow i m q'
            exact ⟨a, h5, h6, h7, own3 i _ m a hi q' (.inl rfl) h8⟩
        · have hi : i ≠ j := fun z => by subst z; rw [atj] at q; cases q
          have q' := nej i _ hi q
          obtain ⟨h5, h6, h7, h8, h9⟩ := R2.bo i m q'
          exact ⟨h5, h6, h7, h8, own3 i _ m _ hi q' (.inr rfl) h9⟩
        · have was : ∀ {i : Nat} {t : SV}, (γ2.set j (.ow l))[i]? = some t → t.own = true → ∃ t0, γ[i]? = some t0 ∧ t0.own = true := fun {i t} q o => ownAt_some (kx.own i (by unfold ownAt; rw [q]; exact o))
          obtain ⟨t0, f1, f2⟩ := was q o1
          obtain ⟨t1, f3, f4⟩ := was q' o2
          exact R.ne i i' t0 t1 a hii f1 f3 f2 f4 q3
      · rw [if_neg hc] at hp; exact hp.elim
  · exact hp.elim

theorem mp_see {X : Cx} {W : WX} {e : Expr} {g : Gm → Rs D} (j : Nat) (h : MP X W e g) : MP X W e (gSeeO j g) := let ⟨t, ht, s⟩ := h; ⟨t, ht, sim_see j s⟩
theorem mb_see {X : Cx} {W : WX} {e : Expr} {g : Gm → Rs D} (j : Nat) (h : MB X W e g) : MB X W e (gSeeO j g) := let ⟨t, ht, h2, s⟩ := h; ⟨t, ht, h2, sim_see j s⟩
/-! several names at once -/
inductive RV where
  | p (d : D) | f (l : List D)
def frs : List RV → List V → List Addr
  | .p _ :: l, _ :: vs => frs l vs
  | .f _ :: l, .ref a :: vs => a :: frs l vs
  | _, _ => []
def RvsOk (K : PySem.W.Frag) (c c' : Cf) : List RV → List V → Prop
  | [], vs => vs = []
  | .p d :: l, vs => ∃ x r, vs = x :: r ∧ Den K c' d x ∧ RvsOk K c c' l r
  | .f m :: l, vs => ∃ a r, vs = .ref a :: r ∧ c.H a = none ∧ Own K c' a m ∧ a ∉ frs l r ∧ RvsOk K c c' l r
def vX (K : PySem.W.Frag) : VR (List RV) (List V) := fun _ c c' l vs => RvsOk K c c' l vs
theorem RvsOk.pre {K : PySem.W.Frag} {S : Addr → Prop} {c c1 c' : Cf} (w : WF c1) (x : Ext S c c1) : ∀ {l : List RV} {vs : List V}, RvsOk K c1 c' l vs → RvsOk K c c' l vs
  | [], _, h => h
  | .p d :: l, vs, h => by
    obtain ⟨y, r, e, h1, h2⟩ := h
    exact ⟨y, r, e, h1, RvsOk.pre w x h2⟩
  | .f m :: l, vs, h => by
    obtain ⟨a, r, e, h1, h2, h3, h4⟩ := h
    exact ⟨a, r, e, x.noneS w h1, h2, h3, RvsOk.pre w x h4⟩
theorem stab_vX {K : PySem.W.Frag} : Stab (vX K) := fun _ _ _ _ _ _ _ w x h => RvsOk.pre w x h
theorem RvsOk.fresh {K : PySem.W.Frag} {c c' : Cf} : ∀ {l : List RV} {vs : List V}, RvsOk K c c' l vs → ∀ a ∈ frs l vs, c.H a = none
  | [], vs, h, a, q => by
    have e : vs = [] := h
    subst e; simp [frs] at q
  | .p d :: l, vs, h, a, q => by
    obtain ⟨y, r, rfl, h1, h2⟩ := h
    exact RvsOk.fresh h2 a q
  | .f m :: l, vs, h, a, q => by
    obtain ⟨b, r, rfl, h1, h2, h3, h4⟩ := h
    rcases List.mem_cons.mp (show a ∈ b :: frs l r from q) with z | z
    · rw [z]; exact h1
    · exact RvsOk.fresh h4 a z
theorem RvsOk.len {K : PySem.W.Frag} {c c' : Cf} : ∀ {l : List RV} {vs : List V}, RvsOk K c c' l vs → vs.length = l.length
  | [], vs, h => by
    have e : vs = [] := h
    subst e; rfl
  | .p d :: l, vs, h => by
    obtain ⟨y, r, rfl, h1, h2⟩ := h
    rw [List.length_cons, List.length_cons, RvsOk.len h2]
  | .f m :: l, vs, h => by
    obtain ⟨b, r, rfl, h1, h2, h3, h4⟩ := h
    rw [List.length_cons, List.length_cons, RvsOk.len h4]
theorem RvsOk.ext {K : PySem.W.Frag} {c0 c c' : Cf} (w : WF c) (x : Ext Nop c c') : ∀ {l : List RV} {vs : List V}, RvsOk K c0 c l vs → RvsOk K c0 c' l vs
  | [], _, h => h
  | .p d :: l, vs, h => by
    obtain ⟨y, r, e, h1, h2⟩ := h
    exact ⟨y, r, e, Den.ext w x h1, RvsOk.ext w x h2⟩
  | .f m :: l, vs, h => by
    obtain ⟨a, r, e, h1, h2, h3, h4⟩ := h
    exact ⟨a, r, e, h1, h2.step w x id, h3, RvsOk.ext w x h4⟩
structure MX (X : Cx) (W : WX) (es : List Expr) (g : Gm → Rs (List RV)) : Prop where
  ex : ∃ t, PA X es t ∧ Sim X W (vX X.K) t g
  len : ∀ γ l γ1, g γ = .ok l γ1 → l.length = es.length
def xNil : Gm → Rs (List RV) := fun γ => .ok [] γ
def xP (ga : Gm → Rs D) (gs : Gm → Rs (List RV)) : Gm → Rs (List RV) := fun γ => (ga γ).bind fun d γ1 => (gs γ1).bind fun l γ2 => .ok (.p d :: l) γ2
def xF (ga : Gm → Rs (List D)) (gs : Gm → Rs (List RV)) : Gm → Rs (List RV) := fun γ => (ga γ).bind fun d γ1 => (gs γ1).bind fun l γ2 => .ok (.f d :: l) γ2
section
variable {X : Cx} {W : WX} {pos : Pos} {e : Expr} {es : List Expr} {ga : Gm → Rs D} {gf : Gm → Rs (List D)} {gs : Gm → Rs (List RV)}
theorem mx_nil : MX X W [] xNil := ⟨⟨_, pa_nil, fun f S c σ γ Q R hp => hp [] c .refl R .refl rfl⟩, fun γ l γ1 e => by cases e; rfl⟩
theorem mx_p (ha : MP X W e ga) (hr : MX X W es gs) (hs : starEach (e :: es) X.env = (false, eval e X.env) :: starEach es X.env := by rfl) : MX X W (e :: es) (xP ga gs) := by
  obtain ⟨ta, h1, s1⟩ := ha
  obtain ⟨⟨ts, h2, s2⟩, hl⟩ := hr
  refine ⟨⟨_, pa_cons h1 h2 hs, fun f S c σ γ Q R hp => s1.bind stab_vX R hp fun d γ1 v c1 _ x1 R1 k1 q1 h3 => s2 f S c1 σ γ1 _ R1 ?_⟩, fun γ l γ1 e => ?_⟩
  · cases e3 : gs γ1 with
    | no => rw [e3] at h3; exact h3
    | ex n fs g => rw [e3] at h3; exact h3
    | ok l γ2 =>
      rw [e3] at h3
      exact fun vs c2 x2 R2 k2 q2 => h3 (v :: vs) c2 x2 R2 k2 ⟨v, vs, rfl, Den.ext R1.wf x2 q1, q2⟩
  · obtain ⟨d, g1, _, e2⟩ := bind_ok e
    obtain ⟨l', g2, e3, e4⟩ := bind_ok e2
    cases e4
    rw [List.length_cons, List.length_cons, hl _ _ _ e3]
theorem mx_f (ha : MF X W e gf) (hr : MX X W es gs) (hs : starEach (e :: es) X.env = (false, eval e X.env) :: starEach es X.env := by rfl) : MX X W (e :: es) (xF gf gs) := by
  obtain ⟨ta, h1, s1⟩ := ha
  obtain ⟨⟨ts, h2, s2⟩, hl⟩ := hr
  refine ⟨⟨_, pa_cons h1 h2 hs, fun f S c σ γ Q R hp => s1 f S c σ γ _ R ?_⟩, fun γ l γ1 e => ?_⟩
  · replace hp : Post X.K X.mg (vX X.K) W f S c σ γ Q ((gf γ).bind fun d γ1 => (gs γ1).bind fun l γ2 => .ok (.f d :: l) γ2) := hp
    cases e1 : gf γ with
    | no => rw [e1] at hp; exact hp
    | ex n fs g => rw [e1] at hp; exact hp
    | ok m γ1 =>
      rw [e1] at hp
      intro v c1 x1 R1 k1 q1
      obtain ⟨p, rfl, n, o⟩ := q1
      have hsl : ∀ (i : Nat) (s : SV) (a : Addr), γ1[i]? = some s → s.own = true → σ[i]? = some (some (V.ref a)) → S a → S a ∧ a ≠ p := fun i s a e o ea hz => ⟨hz, fun z => by
        rw [z] at ea
        exact fresh_slot R k1.own n i (by unfold ownAt; rw [e]; exact o) ea⟩
      refine s2 f (fun a => S a ∧ a ≠ p) c1 σ γ1 _ (R1.lessS hsl fun a z => R1.sub a z.1) ?_
      have hp' : Post X.K X.mg (vX X.K) W f S c σ γ Q ((gs γ1).bind fun l γ2 => .ok (.f m :: l) γ2) := hp
      have up : ∀ {c2 : Cf} {g : Gm}, Rel X.K f (fun a => S a ∧ a ≠ p) c2 σ g → Rel X.K f S c2 σ g := fun h => h.lessS (fun _ _ _ _ _ _ z => z.1) R1.sub
      cases e3 : gs γ1 with
      | no => rw [e3] at hp'; exact hp'
      | ex nm fs g =>
        rw [e3] at hp'
        exact fun C d c2 hm x2 R2 k2 hx => hp' C d c2 hm (x1.trans R1.wf (x2.mono fun _ _ z => z.1)) (up R2) (k1.trans k2) hx
      | ok l γ2 =>
        rw [e3] at hp'
        intro vs c2 x2 R2 k2 q2
        have q2' : RvsOk X.K c1 c2 l vs := q2
        obtain ⟨hM, ws, hV, hD⟩ := o
        have o2 : Own X.K c2 p m := ⟨x2.m1 p hM, ws, x2.h p _ hV (fun z => z.2.2 rfl) (fun _ z => by cases z), Dens.ext R1.wf x2 hD⟩
        refine hp' (.ref p :: vs) c2 (x1.trans R1.wf (x2.mono fun _ _ z => z.1)) (up R2) (k1.trans k2) ⟨p, vs, rfl, n, o2, fun z => ?_, q2'.pre R1.wf x1⟩
        have := q2'.fresh p z
        rw [hV] at this; cases this
  · obtain ⟨d, g1, _, e2⟩ := bind_ok e
    obtain ⟨l', g2, e3, e4⟩ := bind_ok e2
    cases e4
    rw [List.length_cons, List.length_cons, hl _ _ _ e3]
def setsG : List Nat → List RV → Gm → Option Gm
  | [], [], γ => some γ
  | i :: is, .p d :: r, γ => setsG is r (γ.set i (.pu d))
  | i :: is, .f l :: r, γ => setsG is r (γ.set i (.ow l))
  | _, _, _ => none
def setsS : List Nat → List V → St → St
  | i :: is, v :: vs, σ => setsS is vs (σ.set i (some v))
  | _, _, σ => σ
theorem sets_rel {K : PySem.W.Frag} {f : Fx} {c : Cf} : ∀ {is : List Nat} {l : List RV} {vs : List V} {c0 : Cf} {σ : St} {γ γ' : Gm}, Rel K f f.S c σ γ → RvsOk K c0 c l vs → (∀ a ∈ frs l vs, (f.c0.H a = none ∧ ¬ f.kp.X a) ∧ ∀ j, ownAt γ j = true → σ[j]? ≠ some (some (.ref a))) → setsG is l γ = some γ' → Rel K f f.S c (setsS is vs σ) γ'
  | [], [], vs, c0, σ, γ, γ', R, h, hn, e => by
    have ev : vs = [] := h
    subst ev
    cases e; exact R
  | i :: is, .p d :: l, vs, c0, σ, γ, γ', R, h, hn, e => by
    obtain ⟨x, r, rfl, h1, h2⟩ := h
    refine sets_rel (is := is) (R.setP h1 i) h2 (fun a ha => ⟨(hn a ha).1, fun j hj => ?_⟩) e
    have hji : j ≠ i := fun z => by
      subst z
      obtain ⟨s, e1, o⟩ := ownAt_some hj
      have hz : j < γ.length := by
        have := (List.getElem?_eq_some_iff.mp e1).1
        rw [List.length_set] at this; exact this
      rw [List.getElem?_set_self hz] at e1
      cases e1; cases o
    rw [List.getElem?_set_ne (Ne.symm hji)]
    exact (hn a ha).2 j (Kd.set j hj)
  | i :: is, .f m :: l, vs, c0, σ, γ, γ', R, h, hn, e => by
    obtain ⟨p, r, rfl, h1, h2, h3, h4⟩ := h
    obtain ⟨n1, n2⟩ := hn p (List.mem_cons_self ..)
    refine sets_rel (is := is) (R.setO n1.1 n1.2 h2 n2 i) h4 (fun a ha => ?_) e
    obtain ⟨m1, m2⟩ := hn a (List.mem_cons_of_mem _ ha)
    refine ⟨m1, fun j hj => ?_⟩
    by_cases hji : j = i
    · subst hji
      have hz : j < σ.length := by
        obtain ⟨s, e1, o⟩ := ownAt_some hj
        have := (List.getElem?_eq_some_iff.mp e1).1
        rw [List.length_set] at this; rw [R.len]; exact this
      rw [List.getElem?_set_self hz]
      intro z
      cases z
      exact h3 ha
    · rw [List.getElem?_set_ne (Ne.symm hji)]
      obtain ⟨s, e1, o⟩ := ownAt_some hj
      rw [List.getElem?_set_ne (Ne.symm hji)] at e1
      exact m2 j (by unfold ownAt; rw [e1]; exact o)
  | [], _ :: _, _, _, _, _, _, _, _, _, e => by cases e
  | _ :: _, [], _, _, _, _, _, _, _, _, e => by cases e
def hMulti (is : List Nat) (gs : Gm → Rs (List RV)) : Gm → Out := fun γ => (gs γ).out fun l γ1 => match setsG is l γ1 with
  | some γ2 => .nx γ2
  | none => .no
theorem multi_end {f : Fx} {c c1 : Cf} {σ : St} {γ γ1 : Gm} {is : List Nat} {l : List RV} {vs : List V} {T : Ends} (R : Rel X.K f f.S c σ γ) (R1 : Rel X.K f f.S c1 σ γ1) (k1 : Kx γ γ1) (q1 : RvsOk X.K c c1 l vs)
    (h : SPost X.K X.mg W f c1 T (match setsG is l γ1 with | some γ2 => .nx γ2 | none => .no)) : T.nx (setsS is vs σ) c1.H := by
  cases e : setsG is l γ1 with
  | none => rw [e] at h; exact h.elim
  | some γ2 =>
    rw [e] at h
    exact h _ c1 .refl (sets_rel R1 q1 (fun a ha => ⟨⟨R.ext.noneS R.wf (q1.fresh a ha), R.notX (q1.fresh a ha)⟩, fresh_slot R k1.own (q1.fresh a ha)⟩) e)
/-- a, b = e1, e2: two local names -/
theorem ms_par2 {i j : Nat} {x y : Str} {a b : Expr} {px py pt pt2 : Pos} {kt k2} (hc : X.calm = true) (hN : X.N.Nodup) (hi : X.N[i]? = some x) (hj : X.N[j]? = some y) (hij : i ≠ j) (hx : X.env.scope.names.lookup x = some .local) (hy : X.env.scope.names.lookup y = some .local) (ha : MX X W [a, b] gs)
    (hw : swappedStores [.Tuple [.Name x px, .Name y py] kt pt] (.Tuple [a, b] k2 pt2) X.env = pure (some [x, y])) (hs : swapsWithSole [.Tuple [.Name x px, .Name y py] kt pt] (.Tuple [a, b] k2 pt2) pos.line X.env = pure false := by rfl) :
    MS X W (.Assign [.Tuple [.Name x px, .Name y py] kt pt] (.Tuple [a, b] k2 pt2) pos) (hMulti [i, j] gs) := by
  obtain ⟨⟨t, h1, s1⟩, hl⟩ := ha
  refine ⟨_, ps_par hc hN hi hj hij hx hy h1 hw hs, fun f c σ γ T R hp => s1.out R hp fun l γ1 vs c1 e0 x1 R1 k1 q1 h2 => ?_⟩
  have q1' : RvsOk X.K c c1 l vs := q1
  have hlen : vs.length = 2 := q1'.len.trans (hl _ _ _ e0)
  match vs, hlen with
  | [v, w], _ => exact ⟨v, w, rfl, multi_end R R1 k1 q1' h2⟩
/-- any number of names, by the pair itself -/
def gNames : List Nat → TGs
  | [] => L2.gNil
  | i :: is => L2.gCons (gName i) (gNames is)
theorem gNames_to {is : List Nat} : ∀ {vs : List V} {σ : St} {H : Hp} {Q : St → Hp → Prop}, vs.length = is.length → Q (setsS is vs σ) H → gNames is vs σ H Q := by
  induction is with
  | nil =>
    intro vs σ H Q hl h
    match vs, hl with
    | [], _ => exact ⟨rfl, h⟩
  | cons i is ih =>
    intro vs σ H Q hl h
    match vs, hl with
    | v :: vs, hl => exact ⟨v, vs, rfl, ih (by simpa using hl) h⟩
theorem ms_names {is : List Nat} {ts es : List Expr} {k k2} {pt pt2 : Pos} (hc : X.calm = true) (hg : PGs X ts (gNames is)) (ha : MX X W es gs) (hl : es.length = is.length) (hz : es.length ≤ sizeLine := by decide) (hn : (assignEach ts X.env).length = is.length := by rfl) (hst : (assignEach ts X.env).findIdx? (·.1) = none := by rfl)
    (hs : swapsWithSole [.Tuple ts k pt] (.Tuple es k2 pt2) pos.line X.env = pure false := by rfl) (hw : swappedStores [.Tuple ts k pt] (.Tuple es k2 pt2) X.env = pure none := by rfl)
    (h1 : (assignEach [.Tuple ts k pt] X.env).map (·.2) = [assign (.Tuple ts k pt) X.env] := by rfl) : MS X W (.Assign [.Tuple ts k pt] (.Tuple es k2 pt2) pos) (hMulti is gs) := by
  obtain ⟨⟨t, h2, s1⟩, hl2⟩ := ha
  refine ⟨_, ps_asg (pe_tup h2) (pg_tup hc hg hn hst) hs hw h1, fun f c σ γ T R hp => s1.out R hp fun l γ1 vs c1 e0 x1 R1 k1 q1 h3 => ?_⟩
  have q1' : RvsOk X.K c c1 l vs := q1
  have hlen : vs.length = es.length := q1'.len.trans (hl2 _ _ _ e0)
  refine ⟨by rw [hlen]; exact hz, fun p n => ⟨p, vs, rfl, .inl (.inl upd_same), hlen.trans hl, gNames_to (hlen.trans hl) ?_⟩⟩
  have x2 : Ext Nop c1 ⟨c1.M, upd c1.H p (.tup vs)⟩ := Ext.new n
  have R2 := R1.step x2 (R1.wf.new n)
  have q2 := q1'.ext R1.wf x2
  exact multi_end R R2 k1 q2 (SPost.pre (x2.p R1.wf) h3)
end
end Fv

namespace Fv
variable [LC : LamC]
open PySem L2
open PyProof.Rows (seqObj sortedHeap list_sort_tree sortedHeap_at sortedHeap_old kind_sorted plain_sorted entry_sorted args_sorted1 slot_list_sort entry_list_sort args_list_sort)

section
variable {X : Cx} {W : WX} {pos p p1 p2 : Pos} {a b e tg : Expr} {ga gb : Gm → Rs D} {x : Str} {j : Nat}
/-! len(own) -/
def gLenO (j : Nat) : Gm → Rs D := fun γ => (gOwn j γ).bind fun d γ1 => ofO (dLen [d]) γ1
theorem mp_lenO (hg : Gl X "len") (hm : X.mg "len" = none) (ho : PE X (.Name x p) (tVar j)) (h3 : starEach [.Name x p] X.env = (false, eval (.Name x p) X.env) :: starEach [] X.env := by rfl) : MP X W (.Call (.Name "len" p1) [.Name x p] [] pos) (gLenO j) := by
  refine ⟨_, pe_callB call_len hg hm PySem.boot_len (pa_cons ho pa_nil h3) (he := h3), fun f S c σ γ Q R hp => ?_⟩
  replace hp : Post X.K X.mg (vP X.K) W f S c σ γ Q (gLenO j γ) := hp
  unfold gLenO at hp
  rcases gOwn_cases j γ with e0 | ⟨l0, e0⟩
  · rw [e0] at hp; exact hp.elim
  · rw [e0] at hp
    obtain ⟨s, l, e1, _, e5, _, e2⟩ := gOwn_ok e0
    cases e5
    obtain ⟨q, f1, _, vs, f2, f3⟩ := R.ownL e1 e2
    refine ⟨.ref q, f1, .ref q, vs.length, rfl, .inl ⟨vs, SqL.of f2, rfl⟩, ?_⟩
    rw [f3.length]
    exact hp (.int l0.length) c .refl R .refl rfl
/-! a target of any form -/
def hAsg (ga : Gm → Rs D) (k : Kt) : Gm → Out := fun γ => (ga γ).out fun d γ1 => match k d γ1 with
  | some γ2 => .nx γ2
  | none => .no
theorem ms_asg {ts : List Nat} {k : Kt} (ha : MP X W e ga) (hg : MG X tg ts k) (hs : swapsWithSole [tg] e pos.line X.env = pure false := by rfl) (hw : swappedStores [tg] e X.env = pure none := by rfl) (h1 : (assignEach [tg] X.env).map (·.2) = [assign tg X.env] := by rfl) : MS X W (.Assign [tg] e pos) (hAsg ga k) := by
  obtain ⟨t, h2, s1⟩ := ha
  obtain ⟨g, h3, s2⟩ := hg
  refine ⟨_, ps_asg h2 h3 hs hw h1, fun f c σ γ T R hp => s1.out R hp fun d γ1 v c1 _ x1 R1 k1 q1 h4 => ?_⟩
  cases ek : k d γ1 with
  | none => rw [ek] at h4; exact h4.elim
  | some γ2 =>
    rw [ek] at h4
    exact s2.run f f.S c1 σ γ1 γ2 d v _ R1 (.inl q1) ek fun σ' R2 _ _ _ => h4 σ' c1 .refl R2
/-- x += e, x -= e (ints) -/
def hAug (i : Nat) (h : Int → Int → Int) (ga : Gm → Rs D) : Gm → Out := fun γ => (gVar i γ).out fun d γ0 => (ga γ0).out fun e γ1 => match d, e with
  | .int m, .int n => .nx (γ1.set i (.pu (.int (h m n))))
  | _, _ => .no
theorem ms_aug {i : Nat} {op : Operator} {h : Int → Int → Int} (hN : X.N.Nodup) (hi : X.N[i]? = some x) (hx : Loc X.env.scope x) (ho : PIp X op (ipI h)) (ha : MP X W e ga) (hf : X.fn x = true ∨ X.env.scope.names.lookup x = some .local := by first | exact .inl rfl | exact .inr rfl | assumption) :
    MS X W (.AugAssign (.Name x p) op e pos) (hAug i h ga) := by
  obtain ⟨t, h2, s1⟩ := ha
  refine ⟨_, ps_aug hN hi hx h2 ho hf, fun f c σ γ T R hp => ?_⟩
  replace hp : SPost X.K X.mg W f c T (hAug i h ga γ) := hp
  unfold hAug gVar at hp
  cases q : γ[i]? with
  | none => rw [q] at hp; exact hp.elim
  | some s =>
    rw [q] at hp
    cases s with
    | pu d =>
      obtain ⟨v, h3, h4⟩ := R.pu i d q
      refine ⟨v, h3, s1.out R hp fun d2 γ1 w c1 _ x1 R1 k1 q1 h5 => ?_⟩
      cases d with
      | int m =>
        cases d2 with
        | int n =>
          cases (show v = .int m from h4)
          cases (show w = .int n from q1)
          exact ⟨m, n, rfl, rfl, h5 _ c1 .refl (R1.setP (show Den X.K c1 (.int (h m n)) (.int (h m n)) from rfl) i)⟩
        | _ => exact h5.elim
      | _ => cases d2 <;> exact h5.elim
    | _ => exact hp.elim
/-- from here on the list of slot j is data -/
def hFrz (j : Nat) (h : Gm → Out) : Gm → Out := fun γ => match γ[j]? with
  | some (.ow l) => h (γ.set j (.pu (.lst l)))
  | _ => h γ
theorem mss_frz (j : Nat) {sts : List Stmt} {h : Gm → Out} (hs : MSs X W sts h) : MSs X W sts (hFrz j h) := by
  obtain ⟨t, h1, s1⟩ := hs
  refine ⟨t, h1, fun f c σ γ T R hp => ?_⟩
  replace hp : SPost X.K X.mg W f c T (hFrz j h γ) := hp
  unfold hFrz at hp
  split at hp
  · rename_i l ej
    obtain ⟨q, h2, h3, h4, hO⟩ := R.ow j l ej
    have R2 := R.see (by unfold ownAt; rw [ej]; rfl) h2 hO h3
    have s3 := (Rel.lessS R2 (S' := f.S) (fun _ _ _ _ _ _ z => z) fun _ z => z.2)
    exact s1 f (c.del q) σ _ T s3 (SPost.pre (fun d v hd => hd.less fun _ z => z.1) hp)
  · exact s1 f c σ γ T R hp
/-! sorted, of ints, fewer than 64 -/
def insI (i : Int) : List Int → List Int
  | [] => [i]
  | j :: l => if i ≤ j then i :: j :: l else j :: insI i l
def sortI : List Int → List Int
  | [] => []
  | i :: l => insI i (sortI l)
theorem insI_perm (i : Int) : ∀ l : List Int, (insI i l).Perm (i :: l)
  | [] => .refl _
  | j :: l => by
    unfold insI
    split
    · exact .refl _
    · exact ((insI_perm i l).cons j).trans (.swap i j l)
theorem sortI_perm : ∀ l : List Int, (sortI l).Perm l
  | [] => .refl _
  | i :: l => (insI_perm i (sortI l)).trans ((sortI_perm l).cons i)
theorem insI_sorted (i : Int) : ∀ {l : List Int}, l.Pairwise (· ≤ ·) → (insI i l).Pairwise (· ≤ ·)
  | [], _ => List.pairwise_singleton ..
  | j :: l, h => by
    unfold insI
    obtain ⟨h1, h2⟩ := List.pairwise_cons.mp h
    by_cases hij : i ≤ j
    · rw [if_pos hij]
      refine List.pairwise_cons.mpr ⟨fun y hy => ?_, h⟩
      rcases List.mem_cons.mp hy with rfl | hy
      · exact hij
      · exact Int.le_trans hij (h1 y hy)
    · rw [if_neg hij]
      refine List.pairwise_cons.mpr ⟨fun y hy => ?_, insI_sorted i h2⟩
      rcases List.mem_cons.mp ((insI_perm i l).mem_iff.mp hy) with rfl | hy
      · omega
      · exact h1 y hy
theorem sortI_sorted : ∀ l : List Int, (sortI l).Pairwise (· ≤ ·)
  | [] => .nil
  | i :: l => insI_sorted i (sortI_sorted l)
theorem sort_one {l m : List Int} (h : m.Perm l) (s : m.Pairwise (· ≤ ·)) : m = sortI l :=
  (h.trans (sortI_perm l).symm).eq_of_pairwise (fun a b _ _ h1 h2 => Int.le_antisymm h1 h2) s (sortI_sorted l)
def dSorted : List D → Option (List D)
  | [d] => match itemsD d with
    | some l => match intL l with
      | some ns => if ns.length < 64 then some ((sortI ns).map .int) else none
      | none => none
    | none => none
  | _ => none
theorem ok_some {P : Program} {w : World} {H : Hp} {h : Heap} {a : Addr} {o : HO} (x : ObjOk P w H h a o) : ∃ u, h.get? a = some u := by
  cases o with
  | lst xs => obtain ⟨_, _, _, _, e⟩ := x; exact ⟨_, e⟩
  | tup xs => obtain ⟨_, _, _, u, e, _⟩ := x; exact ⟨u, e⟩
  | dK kvs => obtain ⟨_, _, _, _, u, _, _, e, _⟩ := x; exact ⟨u, e⟩
  | dT kvs => obtain ⟨_, _, _, _, u, _, _, e, _⟩ := x; exact ⟨u, e⟩
  | set S n => obtain ⟨u, _, _, _, e, _⟩ := x; exact ⟨u, e⟩
  | ins C dx fs => obtain ⟨_, _, _, e, _⟩ := x; exact ⟨_, e⟩
  | own y => exact x
  | xd fs => obtain ⟨_, ⟨u, _, _, e, _⟩, _⟩ := x; exact ⟨u, e⟩
  | rng lo hi => obtain ⟨_, _, _, e⟩ := x; exact ⟨_, e⟩
  | frz ob u => exact ⟨_, x.1⟩
  | tbl ps => exact ⟨_, x⟩
  | met f y => exact ⟨_, x⟩
  | ext φ => exact x.2.1
theorem laid_at {X : Cx} {pn : List (Addr × Obj)} {st : St} {hh : Hp} {s : Shared} {h' : Heap} {t' : Nat} {p : Addr} {o : HO} (inv : L2.Inv X pn st hh s) (keep : ∀ b u, s.heap.get? b = some u → h'.get? b = some u) (ne : ∀ b u, s.heap.get? b = some u → b ≠ p) (nn : hh p = none)
    (new : ObjOk X.prog X.w (upd hh p o) h' p o) : L2.Inv X pn st (upd hh p o) { s with heap := h', toks := t' } := by
  have at_ne : ∀ b u, hh b = some u → upd hh p o b = some u := fun b u e => by rw [upd_ne (ne_of_none e nn)]; exact e
  refine inv.un ⟨fun b u q _ _ _ => keep b u q, fun b u q _ _ _ => ⟨u.slots, keep b u q⟩, fun b u q n _ => by rw [upd_ne (ne b u q)]; exact n, fun b u q _ => ⟨u, keep b u q⟩, fun b xs q => at_ne b _ q, fun b u xs q => at_ne b _ q, fun b ps q => ⟨#[], by rw [at_ne b _ q]; simp⟩⟩ fun b u e => ?_
  by_cases hb : b = p
  · subst hb
    rw [upd_same] at e
    cases e; exact new
  · rw [upd_ne hb] at e
    exact (inv.hok b u e).stay (fun c v _ q => keep c v q) (fun c q => at_ne c _ q) fun c xs q => at_ne c _ q
def rSortSeq (K : PySem.W.Frag) : List V → Hp → VK → Prop := fun vs H Q => ∃ (k : Addr) (ns : List Int), vs = [V.ref k] ∧ (SqL K H k (ns.map V.int) ∨ SqT K H k (ns.map V.int)) ∧ ns.length < 64 ∧ ∀ q, H q = none → Q (.ref q) (upd H q (.lst ((sortI ns).map V.int)))
theorem cr_sortSeq : CallR X (.builtin "sorted") (rSortSeq X.K) := by
  intro pn s st hh vs us Q inv rv hw
  obtain ⟨k, ns, rfl, hs, h64, q⟩ := hw
  rw [Vals.ref1 rv]
  obtain ⟨its, T, o, n, ri, hT, ho, hc, hd⟩ : ∃ (its : List Value) (T : String) (o : Obj) (n : Nat), Vals (ns.map V.int) its ∧ (T = "list" ∨ T = "tuple") ∧ s.heap.get? k = some o ∧ o.cls = .type T ∧ o.data = .seq its.toArray n := by
    rcases hs with hs | hs
    · obtain ⟨its, ri, ⟨o, n, h1, h2, _, h3⟩, _⟩ := inv.list hs
      exact ⟨its, "list", o, n, ri, .inl rfl, h1, h2, h3⟩
    · obtain ⟨its, ri, ⟨o, h1, h2, n, h3⟩, _⟩ := inv.tuple hs
      exact ⟨its, "tuple", o, n, ri, .inr rfl, h1, h2, h3⟩
  have hi := ri.ints
  have hl : its.length = ns.length := hi.length
  have hz : its.length ≤ sizeLine := by rw [hl]; exact small64 h64
  refine Calls.call_function_entry kind_sorted plain_sorted entry_sorted (args_sorted1 _) ?_
  unfold Builtin.«sorted»
  refine wpAny_bind (m := checkCount "sorted" 1 1 _) (wpAny_pure ?_)
  refine wpAny_bind (wpAny_collect_seq k hT ho hc hd (fun h' hk => ?_) (by rw [List.size_toArray]; exact hz))
  refine wpAny_bind (wpAny_newList ?_ hz)
  have hoL : (h'.push (seqObj "list" its.toArray 0)).get? h'.objs.size = some (seqObj "list" its.toArray 0) := Heap.get?_push_size _ rfl
  refine wpAny_bind (wpAny_holding (wpAny_call_entry slot_list_sort ⟨_, hoL, rfl⟩ entry_list_sort (list_sort_tree hoL hi (by rw [hl]; exact h64) fun out ns' a1 a2 a3 => ⟨_, rfl, ?_⟩) (args_list_sort _)))
  refine wpAny_pure ?_
  obtain ⟨ep, he⟩ := sortedHeap_at (vs := its) (out := out) hoL
  have e3 : ns' = sortI ns := sort_one a2 a3
  subst e3
  have hlen : ((sortI ns).map V.int).length ≤ sizeLine := by rw [List.length_map, a2.length_eq]; exact small64 h64
  have keep : ∀ b ob, s.heap.get? b = some ob → (sortedHeap (h'.push (seqObj "list" its.toArray 0)) h'.objs.size its out).get? b = some ob := fun b ob hb => by
    have h1 := hk b ob hb
    have hlt : b < h'.objs.size := Heap.lt_size h1
    rw [sortedHeap_old (Nat.ne_of_lt hlt) (by rw [PyProof.Rows.size_push']; exact Nat.lt_succ_of_lt hlt)]
    exact Heap.get?_push_of_some _ h1
  have nn : hh h'.objs.size = none := by
    cases z : hh h'.objs.size with
    | none => rfl
    | some u =>
      obtain ⟨ob, h1⟩ := ok_some (inv.hok _ u z)
      exact absurd (Heap.lt_size (hk _ ob h1)) (Nat.lt_irrefl _)
  exact ⟨_, rfl, .ref _, upd hh h'.objs.size (.lst ((sortI ns).map V.int)), laid_at (s := s) (h' := sortedHeap (h'.push (seqObj "list" its.toArray 0)) h'.objs.size its out) (t' := s.toks) inv keep (fun b ob hb => Nat.ne_of_lt (Heap.lt_size (hk b ob hb))) nn ⟨hlen, out.toList, ep, vals_of_ints a1, he⟩, rfl, q _ nn⟩
end
end Fv

namespace Fv
variable [LC : LamC]
open PySem L2
open PyProof.Rows (boot_range Call_)

section
variable {X : Cx} {W : WX} {pos p p1 p2 : Pos} {a b c e tg : Expr} {es : List Expr} {ga gb gc : Gm → Rs D} {x : Str} {j : Nat} {gs : Gm → Rs (List D)}
theorem mf_callB {x : Str} {p : Pos} {id : String} {r : List V → Hp → VK → Prop} {h : List D → Option (List D)} (hc : CallR X (.builtin id) r) (m : MeetF X.K r h) (hg : Gl X x) (hm : X.mg x = none) (hv : bootBuiltins x = some (.builtin id)) (ha : MD X W (e :: es) gs)
    (h1 : x ≠ "__name__" := by decide) (h2 : (x == ("__debug__" : Str)) = false := by decide) (h3 : starEach (e :: es) X.env = (false, eval e X.env) :: starEach es X.env := by rfl) (h4 : (backTo pos (starEach es X.env)).any (·.1) = false := by rfl) :
    MF X W (.Call (.Name x p) (e :: es) [] pos) (gBF h gs) := by
  obtain ⟨⟨t, ht, s⟩, _⟩ := ha
  exact ⟨_, pe_callB hc hg hm hv ht h1 h2 h3 h4, simBF m s⟩
theorem dens_ints {K : PySem.W.Frag} {c : Cf} : ∀ {ns : List Int}, Dens K c (ns.map .int) (ns.map V.int)
  | [] => Dens.nil
  | n :: ns => Dens.cons rfl dens_ints
theorem mf_sorted (hg : Gl X "sorted") (hm : X.mg "sorted" = none) (ha : MP X W a ga) (h3 : starEach [a] X.env = (false, eval a X.env) :: starEach [] X.env := by rfl) : MF X W (.Call (.Name "sorted" p) [a] [] pos) (gBF dSorted (gCons ga gNil)) := by
  refine mf_callB cr_sortSeq (fun c l z vs Q wf h q k => ?_) hg hm (by decide +kernel) (md_cons ha md_nil h3) (h3 := h3)
  unfold dSorted at h
  split at h
  · rename_i d
    obtain ⟨v, rfl, p1⟩ := dens1 q
    cases e1 : itemsD d with
    | none => rw [e1] at h; cases h
    | some l =>
      rw [e1] at h
      simp only at h
      cases e2 : intL l with
      | none => rw [e2] at h; cases h
      | some ns =>
        rw [e2] at h
        obtain ⟨h64, rfl⟩ := ite_of h
        cases d with
        | lst l' =>
          cases e1
          obtain ⟨pp, xs, rfl, q1, q2⟩ := p1
          have e3 := intL_den e2 q2
          subst e3
          exact ⟨pp, ns, rfl, .inl q1.sq, h64, fun q n => k q _ n dens_ints⟩
        | tup l' =>
          cases e1
          obtain ⟨pp, xs, rfl, q1, q2⟩ := p1
          have e3 := intL_den e2 q2
          subst e3
          exact ⟨pp, ns, rfl, .inr q1.sq, h64, fun q n => k q _ n dens_ints⟩
        | _ => cases e1
  · cases h
/-! list(range(..)), tuple(range(..)) of ranges by ones -/
theorem cr_rg1 : CallR X (.type "range") (fun vs H Q => ∃ i, vs = [V.int i] ∧ ∀ q, H q = none → Q (.ref q) (upd H q (.rng 0 i))) := by
  intro pn s st hh vs us Q inv rv hw
  obtain ⟨i, rfl, q⟩ := hw
  obtain ⟨u, rfl, ru⟩ : ∃ u, us = [u] ∧ RelV (.int i) u := by
    cases rv with
    | cons r t => cases t; exact ⟨_, rfl, r⟩
  obtain ⟨t, rfl⟩ := ru
  exact call_range_1 ⟨.ref s.heap.objs.size, upd hh s.heap.objs.size (.rng 0 i), inv.laid (t' := s.toks + 2) (fun b o e => Heap.get?_push_of_some _ e) (Nat.le_refl _) ⟨_, _, _, Heap.get?_push_size _ rfl⟩, rfl, q _ (inv.hok.fresh (Nat.le_refl _))⟩
def rRgL : List V → Hp → VK → Prop := fun vs H Q => ∃ (k : Addr) (lo hi : Int), vs = [V.ref k] ∧ H k = some (.rng lo hi) ∧ -(2 ^ 62) ≤ lo ∧ lo < 2 ^ 62 ∧ -(2 ^ 62) ≤ hi ∧ hi < 2 ^ 62 ∧ hi - lo ≤ 10000000 ∧ ∀ q, H q = none → Q (.ref q) (upd H q (.lst ((List.range (hi - lo).toNat).map fun i => V.int (lo + (i : Nat)))))
theorem items_rel {lo : Int} {n : Nat} {acc : Array Value} (h : ItemsOf (fun i v => ∃ t, v = .int (lo + i * 1) t) acc n) : Vals ((List.range n).map fun i => V.int (lo + (i : Nat))) acc.toList := by
  obtain ⟨h1, h2⟩ := h
  have key : ∀ (m : Nat), m ≤ n → Vals ((List.range' (n - m) m).map fun i => V.int (lo + (i : Nat))) (acc.toList.drop (n - m)) := by
    intro m
    induction m with
    | zero => intro _; rw [List.drop_eq_nil_of_le (by rw [Array.length_toList]; omega)]; exact .nil
    | succ m ih =>
      intro hm
      have hlt : n - (m + 1) < acc.toList.length := by rw [Array.length_toList]; omega
      rw [List.drop_eq_getElem_cons hlt, List.range'_succ, List.map_cons]
      have e1 : n - (m + 1) + 1 = n - m := by omega
      rw [e1]
      refine .cons ?_ (ih (by omega))
      obtain ⟨t, e2⟩ := h2 (n - (m + 1)) acc.toList[n - (m + 1)] (by rw [← Array.getElem?_toList, List.getElem?_eq_getElem hlt])
      exact ⟨t, by rw [e2, Int.mul_one]⟩
  have := key n (Nat.le_refl _)
  rw [Nat.sub_self] at this
  rw [List.range_eq_range']
  exact this
theorem cr_rgL (hc : X.calm = true) : CallR X (.type "list") rRgL := by
  intro pn s st hh vs us Q inv rv hw
  obtain ⟨k, lo, hi, rfl, hk, b1, b2, b3, b4, b5, q⟩ := hw
  rw [Vals.ref1 rv]
  obtain ⟨t, u, v, ho⟩ := inv.hok k _ hk
  have hz : (hi - lo).toNat ≤ 10000000 := by omega
  refine call_list_range (n := (hi - lo).toNat) (inv.ok.hd hc) ho (small_one b1 b2 b3 b4) (by rw [rangeSize_one]; split <;> omega) (Nat.le_trans hz (by decide)) fun h' tk acc c' keep hS hacc => ?_
  exact ⟨.ref _, upd hh s.heap.objs.size (.lst _), inv.laid (t' := tk) keep (Nat.le_refl _) ⟨by rw [List.length_map, List.length_range]; exact Nat.le_trans hz (by decide), acc.toList, c', items_rel hacc, hS⟩, rfl, q _ (inv.hok.fresh (Nat.le_refl _))⟩
def dRgL (lo hi : Int) : Option (List D) := if -(2 ^ 62) ≤ lo ∧ lo < 2 ^ 62 ∧ -(2 ^ 62) ≤ hi ∧ hi < 2 ^ 62 ∧ hi - lo ≤ 10000000 then some (rangeD lo (hi - lo).toNat) else none
theorem dens_range {K : PySem.W.Frag} {c : Cf} {lo : Int} : ∀ {l : List Nat}, Dens K c (l.map fun i => .int (lo + (i : Nat))) (l.map fun i => V.int (lo + (i : Nat)))
  | [] => Dens.nil
  | n :: l => Dens.cons rfl dens_range
def gRgL1 (ga : Gm → Rs D) : Gm → Rs (List D) := fun γ => (ga γ).bind fun d γ1 => match d with
  | .int j => ofO (dRgL 0 j) γ1
  | _ => .no
theorem mf_listRange {pr : Pos} (hc : X.calm = true) (hg : Gl X "list") (hm : X.mg "list" = none) (hg2 : Gl X "range") (hm2 : X.mg "range" = none) (ha : MP X W a ga)
    (h3 : starEach [a] X.env = (false, eval a X.env) :: starEach [] X.env := by rfl) (h4 : starEach [.Call (.Name "range" p2) [a] [] pr] X.env = (false, eval (.Call (.Name "range" p2) [a] [] pr) X.env) :: starEach [] X.env := by rfl) :
    MF X W (.Call (.Name "list" p) [.Call (.Name "range" p2) [a] [] pr] [] pos) (gRgL1 ga) := by
  obtain ⟨ta, h1, s1⟩ := ha
  refine ⟨_, pe_callTy (cr_rgL hc) hg hm (by decide +kernel) (pa_cons (pe_callTy cr_rg1 hg2 hm2 boot_range (pa_cons h1 pa_nil h3) (he := h3)) pa_nil h4) (he := h4), fun f S c σ γ Q R hp => s1.bind stab_vF R hp fun d γ1 v c1 _ x1 R1 k1 q1 h2 => ?_⟩
  cases d with
  | int i =>
    cases (show v = .int i from q1)
    obtain ⟨z, e1, h5⟩ := h2.fin R1
    obtain ⟨⟨b1, b2, b3, b4, b5⟩, rfl⟩ := ite_of e1
    refine ⟨i, rfl, fun q n => ⟨q, 0, i, rfl, upd_same, b1, b2, b3, b4, b5, fun q' n' => ?_⟩⟩
    have x2 : Ext Nop c1 ⟨c1.M, upd c1.H q (.rng 0 i)⟩ := Ext.new n
    have w2 : WF ⟨c1.M, upd c1.H q (.rng 0 i)⟩ := R1.wf.new n
    have n2 : c1.H q' = none := x2.noneS w2 n'
    exact h5 (.ref q') (Cf.add ⟨c1.M, upd c1.H q (.rng 0 i)⟩ q' _) (x2.trans w2 (Ext.add n')) (w2.add n') ⟨q', rfl, n2, Own.add w2 n' dens_range⟩
  | _ => exact h2.elim

/-! gcd, lcm -/
def dGcd : List D → Option D
  | [.int i, .int j] => some (.int (Nat.gcd i.natAbs j.natAbs : Nat))
  | _ => none
theorem mp_gcd (hg : Gl X "gcd") (hm : X.mg "gcd" = some (.builtin "math.gcd")) (ha : MP X W a ga) (hb : MP X W b gb) (h3 : starEach [a, b] X.env = (false, eval a X.env) :: starEach [b] X.env := by rfl) (h5 : starEach [b] X.env = (false, eval b X.env) :: starEach [] X.env := by rfl) (h4 : (backTo pos (starEach [b] X.env)).any (·.1) = false := by rfl) :
    MP X W (.Call (.Name "gcd" p) [a, b] [] pos) (gB dGcd (gCons ga (gCons gb gNil))) := by
  obtain ⟨⟨t, ht, s⟩, _⟩ := md_cons ha (md_cons hb md_nil h5) h3
  refine ⟨_, pe_callBfun cr_gcd hg hm ht (he := h3) (hpl := h4), simB (r := rGcd) (fun c l z vs Q wf h q k => ?_) s⟩
  unfold dGcd at h
  split at h
  · obtain ⟨v, w, rfl, p1, p2⟩ := dens2 q
    cases h
    exact ⟨_, _, by rw [show v = .int _ from p1, show w = .int _ from p2], k _ c .refl wf rfl⟩
  · cases h
def dLcm : List D → Option D
  | [.int i, .int j] => if i.natAbs < 2 ^ 31 ∧ j.natAbs < 2 ^ 31 then some (.int (Nat.lcm i.natAbs j.natAbs : Nat)) else none
  | _ => none
def rLcm : List V → Hp → VK → Prop := fun vs H Q => ∃ i j : Int, vs = [.int i, .int j] ∧ i.natAbs < 2 ^ 31 ∧ j.natAbs < 2 ^ 31 ∧ Q (.int ((Nat.lcm i.natAbs j.natAbs : Nat) : Int)) H
theorem cr_lcm : CallR X (.builtin "math.lcm") rLcm := by
  intro pn s st hh vs us Q inv rv hw
  obtain ⟨i, j, rfl, b1, b2, q⟩ := hw
  obtain ⟨t, u, rfl⟩ := Vals.int2 rv
  have e1 : (Nat.lcm 1 i.natAbs).lcm j.natAbs = Nat.lcm i.natAbs j.natAbs := by rw [Nat.lcm_one_left]
  have hle : Nat.lcm i.natAbs j.natAbs < 2 ^ 62 := by
    have h1 : Nat.lcm i.natAbs j.natAbs ≤ i.natAbs * j.natAbs := Nat.div_le_self ..
    have h2 : i.natAbs * j.natAbs ≤ 2 ^ 31 * j.natAbs := Nat.mul_le_mul_right _ (Nat.le_of_lt b1)
    omega
  refine PySem.W.mg_lcm (by omega) (by omega) (by rw [e1, Int.natAbs_natCast]; exact Nat.lt_of_le_of_lt (PySem.W.mg_log (by omega)) (by decide)) ⟨.int _, hh, inv.tok _, ⟨_, rfl⟩, ?_⟩
  rw [e1]; exact q
theorem mp_lcm (hg : Gl X "lcm") (hm : X.mg "lcm" = some (.builtin "math.lcm")) (ha : MP X W a ga) (hb : MP X W b gb) (h3 : starEach [a, b] X.env = (false, eval a X.env) :: starEach [b] X.env := by rfl) (h5 : starEach [b] X.env = (false, eval b X.env) :: starEach [] X.env := by rfl) (h4 : (backTo pos (starEach [b] X.env)).any (·.1) = false := by rfl) :
    MP X W (.Call (.Name "lcm" p) [a, b] [] pos) (gB dLcm (gCons ga (gCons gb gNil))) := by
  obtain ⟨⟨t, ht, s⟩, _⟩ := md_cons ha (md_cons hb md_nil h5) h3
  refine ⟨_, pe_callBfun cr_lcm hg hm ht (he := h3) (hpl := h4), simB (r := rLcm) (fun c l z vs Q wf h q k => ?_) s⟩
  unfold dLcm at h
  split at h
  · obtain ⟨v, w, rfl, p1, p2⟩ := dens2 q
    obtain ⟨⟨b1, b2⟩, h2⟩ := ite_of h
    cases h2
    exact ⟨_, _, by rw [show v = .int _ from p1, show w = .int _ from p2], b1, b2, k _ c .refl wf rfl⟩
  · cases h
end

/-! the law's end -/
theorem law_sp {K : PySem.W.Frag} {mg : Str → Option Value} {F : List SV → Rs D} {H : Hp} {a : Addr} {ns : List Int} (hT : LamX.Tabs LC.tabs H) (hS : SqL K H a (ns.map V.int)) {γ : Gm} (h : F [.pu (.lst (ns.map .int))] = .ok (.bl true) γ) : spF K mg 1 F [.ref a] H (fun v _ => v = .bl true) (fun _ _ _ => False) := by
  refine ⟨rfl, ⟨⟨fun _ => False, H⟩, fun _ => (0 : Nat), fun _ => False, Kp.nil⟩, [.pu (.lst (ns.map .int))], rfl, ?_, ?_⟩
  · refine ⟨⟨fun _ z => z.elim, hT⟩, fun _ z => z.elim, .refl, rfl, fun i d e => ?_, fun i l e => ?_, fun i l e => ?_, fun i j s t a hij e1 e2 o1 o2 e3 => ?_, trivial, fun _ _ z => z⟩
    · match i, e with
      | 0, e =>
        have e' : SV.pu (.lst (ns.map .int)) = .pu d := by simpa using e
        cases e'
        refine ⟨.ref a, rfl, a, ns.map V.int, rfl, ?_, dens_ints⟩
        rcases hS with hS | hS
        · exact .inl ⟨hS, fun z => z⟩
        · exact .inr (.inr hS)
    · match i, e with
      | 0, e => simp at e
    · match i, e with
      | 0, e => simp at e
    · match i, e1 with
      | 0, e1 =>
        have e' : SV.pu (.lst (ns.map .int)) = s := by simpa using e1
        rw [← e'] at o1; cases o1
  · rw [h]
    exact fun v c' _ hd => hd
end Fv

namespace Fv
variable [LC : LamC]
open PySem L2
def hBk : Gm → Out := fun γ => .bk γ
def hCt : Gm → Out := fun γ => .ct γ
section
variable {X : Cx} {W : WX} {pos : Pos}
theorem mp_cst {x : Str} {i : Int} (hg : Gl X x) (hm : ∃ t, X.mg x = some (.int i t)) (h2 : (x == ("__debug__" : Str)) = false := by decide) : MP X W (.Name x pos) (gC (.int i)) := by
  obtain ⟨t, e⟩ := hm
  exact mp_glob hg e (show RelV (.int i) (.int i t) from ⟨t, rfl⟩) (fun c => rfl) h2
end
end Fv

/-! ### the head: facts of names, and names that stand for builtins -/
namespace Fv
variable [LC : LamC]
open PySem L2
abbrev AlB : Type := He.AlD × Bool
/-- what a name from the library stands for: a function or a class -/
def bvOf (z : String) : Value := if (z == "itertools.combinations" || z == "itertools.permutations") = true then .type z else .builtin z
def bxB (bx : List (Str × String)) (K : PySem.W.Frag) : Bool := bx.all fun p => He.eqO (PySem.W.nsIn K mainGlobals p.1) (some (some (bvOf p.2)))
def obsB (n : Nat) (fa : List He.Fa) (fn : List He.DefD) (bx : List (Str × String)) (g : Addr → Option Obj) : AlB :=
  let K := He.frG g (He.asD g n)
  (He.obsD fa fn K, bxB bx K)
def SaysB (fa : List He.Fa) (fn : List He.DefD) (bx : List (Str × String)) (K : PySem.W.Frag) : Prop := He.SaysD fa fn K ∧ bxB bx K = true
theorem obsB_eq {n : Nat} {fa : List He.Fa} {fn : List He.DefD} {bx : List (Str × String)} {g : Addr → Option Obj} {s : Shared} (h : ∀ a, g a = s.heap.get? a) : obsB n fa fn bx g = obsB n fa fn bx s.heap.get? := by
  have e : g = s.heap.get? := funext h
  rw [e]
def hookB (n : Nat) (fa : List He.Fa) (fn : List He.DefD) (bx : List (Str × String)) : PySem.W.Hook where
  α := AlB
  obs := fun s => obsB n fa fn bx s.heap.get?
  val := fun _ => (He.valD fn, true)
  says := fun _ h => ∃ K, PySem.W.Frag.In K h ∧ SaysB fa fn bx K
  of := fun _ s e => ⟨_, He.frG_in, (Prod.mk.inj e).1, (Prod.mk.inj e).2⟩
  keeps := fun _ _ _ ⟨K, h1, h2⟩ k => ⟨K, fun a o e => k a o (h1 a o e), h2⟩
theorem bx_ok {fa : List He.Fa} {fn : List He.DefD} {bx : List (Str × String)} {K : PySem.W.Frag} {h : Heap} {mg : Str → Option Value} (X : K.In h) (G : h.Ns mainGlobals mg) (c : SaysB fa fn bx K) (i : Nat) {x : Str} {z : String} (e : bx[i]? = some (x, z)) : mg x = some (bvOf z) := by
  have h1 := List.all_eq_true.mp c.2 (x, z) (List.mem_of_getElem? e)
  exact PySem.W.mg_of X G (He.eqO_ok h1)
end Fv

/-! ### evaluating denotations -/
namespace Fv
variable [LC : LamC]
open PySem L2
section
variable {γ : Gm} {i j : Nat} {h h' : Gm → Out} {ga gb gc : Gm → Rs D} {ta tb : Gm → Rs Bool} {gs : Gm → Rs (List D)} {k : Kt} {d e : D}
@[simp] theorem e_gVar : gVar i γ = (match γ[i]? with | some (.pu d) => .ok d γ | _ => .no) := hide rfl
@[simp] theorem e_gC : gC d γ = .ok d γ := hide rfl
@[simp] theorem e_g1 {p : D → Option D} : g1 p ga γ = (ga γ).bind fun d γ1 => ofO (p d) γ1 := hide rfl
@[simp] theorem e_g2 {p : D → D → Option D} : g2 p ga gb γ = (ga γ).bind fun d γ1 => (gb γ1).bind fun e γ2 => ofO (p d e) γ2 := hide rfl
@[simp] theorem e_gTst : gTst ga γ = (ga γ).bind fun d γ1 => (match d with | .bl k => .ok k γ1 | _ => .no) := hide rfl
@[simp] theorem e_tgAnd : tgAnd ta tb γ = (ta γ).bind fun k γ1 => if k then tb γ1 else .ok false γ1 := hide rfl
@[simp] theorem e_tgOr : tgOr ta tb γ = (ta γ).bind fun k γ1 => if k then .ok true γ1 else tb γ1 := hide rfl
@[simp] theorem e_tgNot : tgNot ta γ = (ta γ).bind fun k γ1 => .ok (!k) γ1 := hide rfl
@[simp] theorem e_gAnd : gAnd ga gb γ = (ga γ).bind fun d γ1 => (match d with | .bl true => gb γ1 | .bl false => .ok (.bl false) γ1 | _ => .no) := hide rfl
@[simp] theorem e_gOr : gOr ga gb γ = (ga γ).bind fun d γ1 => (match d with | .bl true => .ok (.bl true) γ1 | .bl false => gb γ1 | _ => .no) := hide rfl
@[simp] theorem e_gIf : gIf ta ga gb γ = (ta γ).bind fun k γ1 => if k then ga γ1 else gb γ1 := hide rfl
@[simp] theorem e_gNil : gNil γ = .ok [] γ := hide rfl
@[simp] theorem e_gCons : gCons ga gs γ = (ga γ).bind fun d γ1 => (gs γ1).bind fun l γ2 => .ok (d :: l) γ2 := hide rfl
@[simp] theorem e_gTup : gTup gs γ = (gs γ).bind fun l γ1 => .ok (.tup l) γ1 := hide rfl
@[simp] theorem e_gB {p : List D → Option D} : gB p gs γ = (gs γ).bind fun l γ1 => ofO (p l) γ1 := hide rfl
@[simp] theorem e_gBF {p : List D → Option (List D)} : gBF p gs γ = (gs γ).bind fun l γ1 => ofO (p l) γ1 := hide rfl
@[simp] theorem e_gPu : gPu gs γ = (gs γ).bind fun l γ1 => .ok (.lst l) γ1 := hide rfl
@[simp] theorem e_gOwn : gOwn i γ = (match γ[i]? with | some (.ow l) => .ok (.lst l) γ | some (.bo l) => .ok (.lst l) γ | _ => .no) := hide rfl
@[simp] theorem e_gIxO : gIxO i gb γ = (gOwn i γ).bind fun _ γ0 => (gb γ0).bind fun d γ1 => (gOwn i γ1).bind fun o γ2 => ofO (dIx o d) γ2 := hide rfl
@[simp] theorem e_gLenO : gLenO j γ = (gOwn j γ).bind fun d γ1 => ofO (dLen [d]) γ1 := hide rfl
@[simp] theorem e_gItems : gItems ga γ = (ga γ).bind fun d γ1 => ofO (itemsD d) γ1 := hide rfl
@[simp] theorem e_gEnum : gEnum ga γ = (ga γ).bind fun d γ1 => ofO ((itemsD d).map (enumD 0)) γ1 := hide rfl
@[simp] theorem e_gRng1 : gRng1 ga γ = (ga γ).bind fun d γ1 => ofO (dRng1 d) γ1 := hide rfl
@[simp] theorem e_gRng2 : gRng2 ga gb γ = (ga γ).bind fun d γ1 => (gb γ1).bind fun e γ2 => ofO (dRng2 d e) γ2 := hide rfl
@[simp] theorem e_hNx : hNx γ = .nx γ := hide rfl
@[simp] theorem e_hBk : hBk γ = .bk γ := hide rfl
@[simp] theorem e_hCt : hCt γ = .ct γ := hide rfl
@[simp] theorem e_hSeq : hSeq h h' γ = (h γ).bind h' := hide rfl
@[simp] theorem e_hRet : hRet ga γ = (ga γ).out fun d γ1 => .rt d γ1 := hide rfl
@[simp] theorem e_hRetN : hRetN γ = .rt .non γ := hide rfl
@[simp] theorem e_hDrop : hDrop ga γ = (ga γ).out fun _ γ1 => .nx γ1 := hide rfl
@[simp] theorem e_hIf : hIf ta h h' γ = (ta γ).out fun k γ1 => if k then h γ1 else h' γ1 := hide rfl
@[simp] theorem e_hSet : hSet i ga γ = (ga γ).out fun d γ1 => .nx (γ1.set i (.pu d)) := hide rfl
@[simp] theorem e_hSetF : hSetF i gs γ = (gs γ).out fun l γ1 => .nx (γ1.set i (.ow l)) := hide rfl
@[simp] theorem e_hFor : hFor gs k h γ = (gs γ).out fun l γ1 => forL k h l γ1 := hide rfl
@[simp] theorem e_hAsg : hAsg ga k γ = (ga γ).out fun d γ1 => (match k d γ1 with | some γ2 => .nx γ2 | none => .no) := hide rfl
@[simp] theorem e_hAug {f : Int → Int → Int} : hAug i f ga γ = (gVar i γ).out fun d γ0 => (ga γ0).out fun e γ1 => (match d, e with | .int m, .int n => .nx (γ1.set i (.pu (.int (f m n)))) | _, _ => .no) := hide rfl
@[simp] theorem e_hFrz : hFrz j h γ = (match γ[j]? with | some (.ow l) => h (γ.set j (.pu (.lst l))) | _ => h γ) := hide rfl
@[simp] theorem e_hPut : hPut j ga gb γ = (ga γ).out fun d γ1 => (gOwn j γ1).out fun _ γ2 => (gb γ2).out fun i γ3 => (match i with
  | .int k => (match putO j (fun l => (ixN l.length k).map fun n => l.set n d) γ3 with
    | some γ4 => .nx γ4
    | none => .no)
  | _ => .no) := hide rfl
@[simp] theorem e_gApp : gApp j ga γ = (gOwn j γ).bind fun _ γ0 => (ga γ0).bind fun d γ1 => (match putO j (fun l => if l.length < sizeLine then some (l ++ [d]) else none) γ1 with
  | some γ2 => .ok .non γ2
  | none => .no) := hide rfl
@[simp] theorem e_putO {f : List D → Option (List D)} : putO j f γ = (match γ[j]? with
  | some (.ow l) => (f l).map fun m => γ.set j (.ow m)
  | some (.bo l) => (f l).map fun m => γ.set j (.bo m)
  | _ => none) := hide rfl
@[simp] theorem e_aNil : aNil γ = .ok [] γ := hide rfl
@[simp] theorem e_aCons {gs : Gm → Rs (List Ar)} : aCons ga gs γ = (ga γ).bind fun d γ1 => (gs γ1).bind fun l γ2 => .ok (.d d :: l) γ2 := hide rfl
@[simp] theorem e_aSlot {gs : Gm → Rs (List Ar)} : aSlot i gs γ = (gOwn i γ).bind fun _ γ1 => (gs γ1).bind fun l γ2 => .ok (.s i :: l) γ2 := hide rfl
@[simp] theorem e_kSet : kSet i d γ = some (γ.set i (.pu d)) := hide rfl
@[simp] theorem e_kNil : kNil [] γ = some γ := hide rfl
@[simp] theorem e_kCons {ks : List D → Gm → Option Gm} {l : List D} : kCons k ks (d :: l) γ = (k d γ).bind fun γ1 => ks l γ1 := hide rfl
@[simp] theorem e_kTup {n : Nat} {ks : List D → Gm → Option Gm} {l : List D} : kTup n ks (.tup l) γ = if l.length = n then ks l γ else none := hide rfl
@[simp] theorem ofO_none {α : Type} (g : Gm) : ofO (none : Option α) g = .no := hide rfl
@[simp] theorem Rs.map_ok {α β : Type} (a : α) (g : Gm) (f : α → β) : (Rs.ok a g).map f = .ok (f a) g := hide rfl
/-! data -/
variable {x y : Int}
@[simp] theorem d_add : dAdd (.int x) (.int y) = some (.int (x + y)) := hide rfl
@[simp] theorem d_sub : dSub (.int x) (.int y) = some (.int (x - y)) := hide rfl
@[simp] theorem d_lt : dLt (.int x) (.int y) = some (.bl (decide (x < y))) := hide rfl
@[simp] theorem d_le : dLe (.int x) (.int y) = some (.bl (decide (x ≤ y))) := hide rfl
@[simp] theorem d_gt : dGt (.int x) (.int y) = some (.bl (decide (y < x))) := hide rfl
@[simp] theorem d_ge : dGe (.int x) (.int y) = some (.bl (decide (y ≤ x))) := hide rfl
@[simp] theorem d_neg : dNeg (.int x) = some (.int (-x)) := hide rfl
theorem d_mulS (h : Nat.log2 x.natAbs + Nat.log2 y.natAbs < 1000000) : dMul (.int x) (.int y) = some (.int (x * y)) := if_pos h
theorem log2_le {n k : Nat} (h : n < 2 ^ k) : Nat.log2 n ≤ k := by
  by_cases h0 : n = 0
  · subst h0; have : Nat.log2 0 = 0 := by decide
    omega
  · exact Nat.le_of_lt ((Nat.log2_lt h0).mpr h)
theorem d_mul (hx : x.natAbs < 2 ^ 64) (hy : y.natAbs < 2 ^ 64) : dMul (.int x) (.int y) = some (.int (x * y)) := d_mulS (by have := log2_le hx; have := log2_le hy; omega)
theorem d_fdiv (h : y ≠ 0 ∧ y.natAbs < 1073741824) : dFdiv (.int x) (.int y) = some (.int (x.fdiv y)) := if_pos (.inl h)
theorem d_fdivW (h : 0 < y) (h2 : y.natAbs < 2 ^ 64) : dFdiv (.int x) (.int y) = some (.int (x.fdiv y)) := if_pos (.inr ⟨h, by have := log2_le h2; omega⟩)
theorem d_mod (h : y ≠ 0) : dMod (.int x) (.int y) = some (.int (x.fmod y)) := if_pos h
theorem d_pow (h : 0 ≤ y ∧ y ≤ 1000000 ∧ x.natAbs < 2 ^ 64) : dPow (.int x) (.int y) = some (.int (x ^ y.toNat)) := if_pos h
@[simp] theorem d_lenL {l : List D} : dLen [.lst l] = some (.int l.length) := hide rfl
@[simp] theorem d_lenT {l : List D} : dLen [.tup l] = some (.int l.length) := hide rfl
@[simp] theorem d_int1 : dInt1 [.int x] = some (.int x) := hide rfl
@[simp] theorem d_itL {l : List D} : itemsD (.lst l) = some l := hide rfl
@[simp] theorem d_itT {l : List D} : itemsD (.tup l) = some l := hide rfl
@[simp] theorem d_ixT {l : List D} : dIx (.tup l) (.int x) = atI l x := hide rfl
@[simp] theorem d_ixL {l : List D} : dIx (.lst l) (.int x) = atI l x := hide rfl
theorem at_ofNat {l : List D} {n : Nat} (h : n < l.length) : atI l (n : Int) = l[n]? := by
  unfold atI ixN
  rw [if_pos (Int.natCast_nonneg n), if_pos (by omega)]
  simp
@[simp] theorem at_0 {a : D} {l : List D} : atI (a :: l) 0 = some a := at_ofNat (l := a :: l) (n := 0) (by simp)
@[simp] theorem at_1 {a b : D} {l : List D} : atI (a :: b :: l) 1 = some b := at_ofNat (l := a :: b :: l) (n := 1) (by simp)
@[simp] theorem at_2 {a b c : D} {l : List D} : atI (a :: b :: c :: l) 2 = some c := at_ofNat (l := a :: b :: c :: l) (n := 2) (by simp)
@[simp] theorem at_3 {a b c d : D} {l : List D} : atI (a :: b :: c :: d :: l) 3 = some d := at_ofNat (l := a :: b :: c :: d :: l) (n := 3) (by simp)
theorem ixN_of {n k : Nat} (h : k < n) : ixN n (k : Int) = some k := by
  unfold ixN
  rw [if_pos (Int.natCast_nonneg k), if_pos (by omega)]
  simp
@[simp] theorem ix4_0 : ixN 4 0 = some 0 := ixN_of (n := 4) (k := 0) (by omega)
@[simp] theorem ix4_1 : ixN 4 1 = some 1 := ixN_of (n := 4) (k := 1) (by omega)
@[simp] theorem ix4_2 : ixN 4 2 = some 2 := ixN_of (n := 4) (k := 2) (by omega)
@[simp] theorem ix4_3 : ixN 4 3 = some 3 := ixN_of (n := 4) (k := 3) (by omega)
theorem runN_rt {n : Nat} {h : Gm → Out} {ps qs : List SV} {d : D} {g : Gm} (e : h (ps ++ List.replicate (n - ps.length) .un) = .rt d g) (q : finR ps g = some qs) : runN n h ps = .ok d qs := by
  unfold runN
  rw [e]
  show (match finR ps g with | some qs => Rs.ok d qs | none => .no) = _
  rw [q]
/-! calls -/
@[simp] theorem e_gCall {F : List SV → Rs D} {gs : Gm → Rs (List Ar)} : gCall F gs γ = (gs γ).bind fun ars γ1 =>
  if (slotsA ars).Nodup then (match parG γ1 ars with
    | none => .no
    | some ps => (match F ps with
      | .ok d qs => (match backG γ1 ars qs with
        | some γ2 => .ok d γ2
        | none => .no)
      | .ex n fs qs => (match backG γ1 ars qs with
        | some γ2 => .ex n fs γ2
        | none => .no)
      | .no => .no))
  else .no := hide rfl
@[simp] theorem parG_nil : parG γ [] = some [] := hide rfl
@[simp] theorem parG_d {l : List Ar} : parG γ (.d d :: l) = (parG γ l).map (.pu d :: ·) := hide rfl
@[simp] theorem parG_s {l : List Ar} : parG γ (.s j :: l) = (match γ[j]? with
    | some (.ow m) => (parG γ l).map (.bo m :: ·)
    | some (.bo m) => (parG γ l).map (.bo m :: ·)
    | _ => none) := hide rfl
@[simp] theorem slotsA_nil : slotsA [] = [] := hide rfl
@[simp] theorem slotsA_d {l : List Ar} : slotsA (.d d :: l) = slotsA l := hide rfl
@[simp] theorem slotsA_s {l : List Ar} : slotsA (.s j :: l) = j :: slotsA l := hide rfl
@[simp] theorem backG_nil {qs : List SV} : backG γ [] qs = some γ := by cases qs <;> rfl
@[simp] theorem backG_d {l : List Ar} {s : SV} {qs : List SV} : backG γ (.d d :: l) (s :: qs) = backG γ l qs := hide rfl
@[simp] theorem backG_s {l : List Ar} {m : List D} {qs : List SV} : backG γ (.s j :: l) (.bo m :: qs) = (match γ[j]? with
    | some (.ow _) => backG (γ.set j (.ow m)) l qs
    | some (.bo _) => backG (γ.set j (.bo m)) l qs
    | _ => none) := hide rfl
@[simp] theorem finR_nil : finR [] γ = some [] := hide rfl
@[simp] theorem finR_bo {l m : List D} {ps : List SV} : finR (.bo l :: ps) (.bo m :: γ) = (finR ps γ).map (.bo m :: ·) := hide rfl
@[simp] theorem finR_pu {s : SV} {ps : List SV} : finR (.pu d :: ps) (s :: γ) = (finR ps γ).map (.pu d :: ·) := hide rfl
/-! loops -/
theorem forL_run {l : List D} (I : Nat → Gm → Prop) (B : Gm → Prop) (R : D → Gm → Prop)
    (step : ∀ i d γ, l[i]? = some d → I i γ → ∃ γ1, k d γ = some γ1 ∧ ((∃ γ2, h γ1 = .nx γ2 ∧ I (i + 1) γ2) ∨ (∃ γ2, h γ1 = .ct γ2 ∧ I (i + 1) γ2) ∨ (∃ γ2, h γ1 = .bk γ2 ∧ B γ2) ∨ ∃ d g, h γ1 = .rt d g ∧ R d g)) (h0 : I 0 γ) :
    (∃ γ2, forL k h l γ = .nx γ2 ∧ (I l.length γ2 ∨ B γ2)) ∨ ∃ d g, forL k h l γ = .rt d g ∧ R d g := by
  have key : ∀ (r : List D) (i : Nat) (γ : Gm), l.drop i = r → i ≤ l.length → I i γ → (∃ γ2, forL k h r γ = .nx γ2 ∧ (I l.length γ2 ∨ B γ2)) ∨ ∃ d g, forL k h r γ = .rt d g ∧ R d g := by
    intro r
    induction r with
    | nil =>
      intro i γ e hi hI
      have : l.length ≤ i := List.drop_eq_nil_iff.mp e
      have : i = l.length := by omega
      subst this
      exact .inl ⟨γ, rfl, .inl hI⟩
    | cons d r ih =>
      intro i γ e hi hI
      have hd : l[i]? = some d := by rw [← List.head?_drop, e]; rfl
      have hr : l.drop (i + 1) = r := by rw [← List.tail_drop, e]; rfl
      have hlt : i < l.length := (List.getElem?_eq_some_iff.mp hd).1
      obtain ⟨γ1, e1, q⟩ := step i d γ hd hI
      rcases q with ⟨γ2, e2, q⟩ | ⟨γ2, e2, q⟩ | ⟨γ2, e2, q⟩ | ⟨d', g, e2, q⟩
      · have := ih (i + 1) γ2 hr hlt q
        simpa [forL, e1, e2] using this
      · have := ih (i + 1) γ2 hr hlt q
        simpa [forL, e1, e2] using this
      · exact .inl ⟨γ2, by simp [forL, e1, e2], .inr q⟩
      · exact .inr ⟨d', g, by simp [forL, e1, e2], q⟩
  exact key l 0 γ rfl (Nat.zero_le _) h0
theorem forL_nx {l : List D} (I : Nat → Gm → Prop)
    (step : ∀ i d γ, l[i]? = some d → I i γ → ∃ γ1, k d γ = some γ1 ∧ ∃ γ2, h γ1 = .nx γ2 ∧ I (i + 1) γ2) (h0 : I 0 γ) : ∃ γ2, forL k h l γ = .nx γ2 ∧ I l.length γ2 := by
  rcases forL_run (l := l) (k := k) (h := h) I (fun _ => False) (fun _ _ => False) (fun i d γ e q => let ⟨γ1, e1, q⟩ := step i d γ e q; ⟨γ1, e1, .inl q⟩) h0 with ⟨γ2, e, q | q⟩ | ⟨_, _, _, q⟩
  · exact ⟨γ2, e, q⟩
  · exact q.elim
  · exact q.elim
theorem lcL_map {gt : Gm → Rs Bool} {ge : Gm → Rs D} {vs : List Nat} {l : List D} {f : D → D} (hs : ∀ d, d ∈ l → ∃ γ1, k d γ = some γ1 ∧ gt γ1 = .ok true γ1 ∧ ge γ1 = .ok (f d) γ1 ∧ wipeG γ1 vs = γ) : lcL k gt ge vs l γ = .ok (l.map f) γ := by
  induction l with
  | nil => rfl
  | cons d l ih =>
    obtain ⟨γ1, e1, e2, e3, e4⟩ := hs d (List.mem_cons_self)
    have := ih fun d hd => hs d (List.mem_cons_of_mem _ hd)
    simp [lcL, e1, e2, e3, e4, this]
theorem lcL_filter {gt : Gm → Rs Bool} {ge : Gm → Rs D} {vs : List Nat} {l : List D} {p : D → Bool} {f : D → D} (hs : ∀ d, d ∈ l → ∃ γ1, k d γ = some γ1 ∧ gt γ1 = .ok (p d) γ1 ∧ (p d = true → ge γ1 = .ok (f d) γ1) ∧ wipeG γ1 vs = γ) : lcL k gt ge vs l γ = .ok ((l.filter p).map f) γ := by
  induction l with
  | nil => rfl
  | cons d l ih =>
    obtain ⟨γ1, e1, e2, e3, e4⟩ := hs d (List.mem_cons_self)
    have := ih fun d hd => hs d (List.mem_cons_of_mem _ hd)
    cases hp : p d with
    | true => simp [lcL, e1, e2, e3 hp, e4, this, hp, List.filter]
    | false => simp [lcL, e1, e2, e4, this, hp, List.filter]
theorem e_gLc {gs : Gm → Rs (List D)} {gt : Gm → Rs Bool} {ge : Gm → Rs D} {vs : List Nat} {l ys : List D} {γ1 γ2 : Gm} (h1 : gs γ = .ok l γ1) (hl : l.length ≤ sizeLine) (hv : vs.all (fun i => !ownAt γ1 i) = true) (h2 : lcL k gt ge vs l (wipeG γ1 vs) = .ok ys γ2) : gLc gs k gt ge vs γ = .ok ys (restG γ1 γ2 vs) := by
  unfold gLc
  simp only [h1, Rs.bind_ok]
  rw [if_pos ⟨hl, hv⟩, h2]
@[simp] theorem i_int {T : String} {x : Int} : dIsi T (.int x) = (kitB "int" T).map .bl := hide rfl
@[simp] theorem i_tup {T : String} {l : List D} : dIsi T (.tup l) = (kitB "tuple" T).map .bl := hide rfl
@[simp] theorem k_ib : kitB "int" "bool" = some false := by decide
@[simp] theorem k_ii : kitB "int" "int" = some true := by decide
@[simp] theorem k_tt : kitB "tuple" "tuple" = some true := by decide
end
/-! tasks -/
structure Tk where
  c : Int
  d : Int
  g : Int
def Tk.D (t : Tk) : D := .tup [.int t.c, .int t.d, .int t.g]
def ofI (l : List Int) : List D := l.map .int
theorem size_ok {α : Type} {l : List α} (h : l.length ≤ 1000) : l.length ≤ sizeLine := Nat.le_trans h (by decide)
end Fv
namespace Fv
variable [LC : LamC]
open PySem L2
def Tk.ok (t : Tk) : Prop := 1 ≤ t.c ∧ t.c ≤ 20 ∧ 1 ≤ t.d ∧ t.d ≤ 60 ∧ 1 ≤ t.g ∧ t.g ≤ 60
@[simp] theorem itT {ts : List Tk} : itemsD (.tup (ts.map Tk.D)) = some (ts.map Tk.D) := hide rfl
@[simp] theorem enumD_nil {n : Nat} : enumD n [] = [] := hide rfl
theorem map_at {ts : List Tk} {i : Nat} {d : D} (h : (ts.map Tk.D)[i]? = some d) : ∃ t, ts[i]? = some t ∧ d = t.D := by
  rw [List.getElem?_map] at h
  cases e : ts[i]? with
  | none => rw [e] at h; cases h
  | some t => rw [e] at h; exact ⟨t, rfl, (Option.some.inj h).symm⟩
theorem d_rng1 {x : Int} (h : -(2 ^ 62) ≤ x ∧ x < 2 ^ 62) : dRng1 (.int x) = some (rangeD 0 x.toNat) := if_pos h
theorem d_rng2 {x y : Int} (h : -(2 ^ 62) ≤ x ∧ x < 2 ^ 62 ∧ -(2 ^ 62) ≤ y ∧ y < 2 ^ 62) : dRng2 (.int x) (.int y) = some (rangeD x (y - x).toNat) := if_pos h
theorem intL_map {l : List Int} : intL (l.map D.int) = some l := by
  induction l with
  | nil => rfl
  | cons i l ih => simp [intL, ih]
theorem d_sumI {l : List Int} : dSum [.lst (l.map D.int)] = some (.int l.sum) := by
  unfold dSum
  simp [intL_map]
theorem lcL_of {α : Type} {k : Kt} {γ : Gm} {gt : Gm → Rs Bool} {ge : Gm → Rs D} {vs : List Nat} {xs : List α} {D0 f : α → D} (hs : ∀ x, x ∈ xs → ∃ γ1, k (D0 x) γ = some γ1 ∧ gt γ1 = .ok true γ1 ∧ ge γ1 = .ok (f x) γ1 ∧ wipeG γ1 vs = γ) : lcL k gt ge vs (xs.map D0) γ = .ok (xs.map f) γ := by
  induction xs with
  | nil => rfl
  | cons d l ih =>
    obtain ⟨γ1, e1, e2, e3, e4⟩ := hs d (List.mem_cons_self)
    have := ih fun d hd => hs d (List.mem_cons_of_mem _ hd)
    simp [lcL, e1, e2, e3, e4, this]
theorem d_sumF {α : Type} {xs : List α} {f : α → Int} : dSum [.lst (xs.map fun x => .int (f x))] = some (.int (xs.map f).sum) := by
  have : (xs.map fun x => D.int (f x)) = (xs.map f).map D.int := by simp
  rw [this, d_sumI]
@[simp] theorem e_gYes {γ : Gm} : gYes γ = .ok true γ := hide rfl
@[simp] theorem e_gSeeO {γ : Gm} {j : Nat} {g : Gm → Rs D} : gSeeO j g γ = (match γ[j]? with
  | some (.ow l) => (match g (γ.set j (.pu (.lst l))) with
    | .ok d γ2 => if noLst d = true ∧ γ2.length = γ.length ∧ flatOwn j γ2 = true then .ok d (γ2.set j (.ow l)) else .no
    | _ => .no)
  | _ => .no) := hide rfl
@[simp] theorem noLst_int {x : Int} : noLst (.int x) = true := hide rfl
@[simp] theorem noLst_bl {x : Bool} : noLst (.bl x) = true := hide rfl
@[simp] theorem noLst_non : noLst .non = true := hide rfl
@[simp] theorem noLst_tup {l : List D} : noLst (.tup l) = noLsts l := by simp [noLst]
@[simp] theorem noLsts_nil : noLsts [] = true := by simp [noLsts]
@[simp] theorem noLsts_cons {d : D} {l : List D} : noLsts (d :: l) = (noLst d && noLsts l) := by simp [noLsts]
theorem noLsts_of {l : List D} (h : ∀ d, d ∈ l → noLst d = true) : noLsts l = true := by
  induction l with
  | nil => simp
  | cons d l ih => simp [h d List.mem_cons_self, ih fun d hd => h d (List.mem_cons_of_mem _ hd)]
/-- the work of all jobs that arrive in a length -/
def up (n g : Int) : Int := -((-n).fdiv g)
def wk (ts : List Tk) (n : Int) : Int := (ts.map fun t => t.c * up n t.g).sum
@[simp] theorem tk_0 {t : Tk} : dIx t.D (.int 0) = some (.int t.c) := at_0
@[simp] theorem tk_1 {t : Tk} : dIx t.D (.int 1) = some (.int t.d) := at_1
@[simp] theorem tk_2 {t : Tk} : dIx t.D (.int 2) = some (.int t.g) := at_2
@[simp] theorem tk_noLst {t : Tk} : noLst t.D = true := by simp [Tk.D]
@[simp] theorem e_xNil {γ : Gm} : xNil γ = .ok [] γ := hide rfl
@[simp] theorem e_xP {γ : Gm} {ga : Gm → Rs D} {gs : Gm → Rs (List RV)} : xP ga gs γ = (ga γ).bind fun d γ1 => (gs γ1).bind fun l γ2 => .ok (.p d :: l) γ2 := hide rfl
@[simp] theorem e_xF {γ : Gm} {ga : Gm → Rs (List D)} {gs : Gm → Rs (List RV)} : xF ga gs γ = (ga γ).bind fun d γ1 => (gs γ1).bind fun l γ2 => .ok (.f d :: l) γ2 := hide rfl
@[simp] theorem e_hMulti {γ : Gm} {is : List Nat} {gs : Gm → Rs (List RV)} : hMulti is gs γ = (gs γ).out fun l γ1 => (match setsG is l γ1 with | some γ2 => .nx γ2 | none => .no) := hide rfl
@[simp] theorem setsG_nil {γ : Gm} : setsG [] [] γ = some γ := hide rfl
@[simp] theorem setsG_p {γ : Gm} {i : Nat} {is : List Nat} {d : D} {r : List RV} : setsG (i :: is) (.p d :: r) γ = setsG is r (γ.set i (.pu d)) := hide rfl
@[simp] theorem setsG_f {γ : Gm} {i : Nat} {is : List Nat} {l : List D} {r : List RV} : setsG (i :: is) (.f l :: r) γ = setsG is r (γ.set i (.ow l)) := hide rfl
@[simp] theorem e_part0 {γ : Gm} : gPart none γ = .ok none γ := hide rfl
@[simp] theorem e_part1 {γ : Gm} {g : Gm → Rs D} : gPart (some g) γ = (g γ).bind fun d γ1 => (match d with | .int i => .ok (some i) γ1 | _ => .no) := hide rfl
@[simp] theorem e_gCut {γ : Gm} {ga : Gm → Rs D} {gl gh : Option (Gm → Rs D)} : gCut ga gl gh γ = (ga γ).bind fun d γ1 => (gPart gl γ1).bind fun lo γ2 => (gPart gh γ2).bind fun hi γ3 => ofO (dCut d lo hi) γ3 := hide rfl
@[simp] theorem d_cutL {l : List D} {a b : Option Int} : dCut (.lst l) a b = some (.lst (cutD l a b)) := hide rfl
@[simp] theorem d_cutT {l : List D} {a b : Option Int} : dCut (.tup l) a b = some (.tup (cutD l a b)) := hide rfl
theorem cut_init {ys : List D} {z : D} : cutD (ys ++ [z]) none (some (-1)) = ys := by
  unfold cutD HT.sIx
  simp
  rw [show (-1 + ((ys.length : Int) + 1)).toNat = ys.length by omega]
  simp
theorem cut_to {l : List D} {k : Nat} (h : k ≤ l.length) : cutD l none (some (k : Int)) = l.take k := by
  unfold cutD HT.sIx
  have z : ¬ ((k : Int) < 0) := by omega
  simp [z, Nat.min_eq_left h]
theorem cut_from {l : List D} {k : Nat} (h : k ≤ l.length) : cutD l (some (k : Int)) none = l.drop k := by
  unfold cutD HT.sIx
  have z : ¬ ((k : Int) < 0) := by omega
  simp [z, Nat.min_eq_left h]
  exact List.take_of_length_le (by rw [List.length_drop]; exact Nat.le_refl _)
theorem at_last {ys : List D} {z : D} : atI (ys ++ [z]) (-1) = some z := by
  unfold atI ixN
  simp
  rw [if_pos (by omega), show (-1 + ((ys.length : Int) + 1)).toNat = ys.length by omega]
  simp
theorem eqD_int {x y : Int} : eqD (.int x) (.int y) = decide (x = y) := by
  by_cases h : x = y <;> simp [eqD, h]
@[simp] theorem d_eqI {x y : Int} : dEq (.int x) (.int y) = some (.bl (decide (x = y))) := by
  have : dEq (.int x) (.int y) = some (.bl (eqD (.int x) (.int y))) := hide rfl
  rw [this, eqD_int]
@[simp] theorem d_neI {x y : Int} : dNe (.int x) (.int y) = some (.bl (!decide (x = y))) := by
  have : dNe (.int x) (.int y) = some (.bl (!eqD (.int x) (.int y))) := hide rfl
  rw [this, eqD_int]
end Fv

namespace Fv
variable [LC : LamC]
open PySem L2
/-! ### dead slots are forgotten -/
theorem Rel.forget {K : PySem.W.Frag} {f : Fx} {S : Addr → Prop} {c : Cf} {σ : St} {γ : Gm} (R : Rel K f S c σ γ) (vs : List Nat) : Rel K f S c σ (wipeG γ vs) := by
  refine ⟨R.wf0, R.wf, R.ext, by rw [wipeG_len, R.len], fun i d e => ?_, fun i l e => ?_, fun i l e => ?_, fun i j s t a hij e1 e2 o1 o2 e3 => ?_, R.inv, R.sub⟩
  · rcases wipeG_slot e with z | ⟨h, z⟩
    · cases z
    · exact R.pu i d z
  · rcases wipeG_slot e with z | ⟨h, z⟩
    · cases z
    · exact R.ow i l z
  · rcases wipeG_slot e with z | ⟨h, z⟩
    · cases z
    · exact R.bo i l z
  · rcases wipeG_slot e1 with z | ⟨h, z⟩
    · rw [z] at o1; cases o1
    · rcases wipeG_slot e2 with z' | ⟨h', z'⟩
      · rw [z'] at o2; cases o2
      · exact R.ne i j s t a hij z z' o1 o2 e3
def Out.fgt (vs : List Nat) : Out → Out
  | .nx g => .nx (wipeG g vs)
  | .bk g => .bk (wipeG g vs)
  | .ct g => .ct (wipeG g vs)
  | o => o
@[simp] theorem fgt_nx {vs : List Nat} {g : Gm} : (Out.nx g).fgt vs = .nx (wipeG g vs) := hide rfl
@[simp] theorem fgt_bk {vs : List Nat} {g : Gm} : (Out.bk g).fgt vs = .bk (wipeG g vs) := hide rfl
@[simp] theorem fgt_ct {vs : List Nat} {g : Gm} : (Out.ct g).fgt vs = .ct (wipeG g vs) := hide rfl
@[simp] theorem fgt_rt {vs : List Nat} {g : Gm} {d : D} : (Out.rt d g).fgt vs = .rt d g := hide rfl
@[simp] theorem fgt_ex {vs : List Nat} {g : Gm} {n : Str} {fs : List (Str × D)} : (Out.ex n fs g).fgt vs = .ex n fs g := hide rfl
@[simp] theorem fgt_no {vs : List Nat} : Out.no.fgt vs = .no := hide rfl
def hFgt (vs : List Nat) (h : Gm → Out) : Gm → Out := fun γ => (h γ).fgt vs
@[simp] theorem e_hFgt {vs : List Nat} {h : Gm → Out} {γ : Gm} : hFgt vs h γ = (h γ).fgt vs := hide rfl
theorem sim_fgt {X : Cx} {W : WX} {t : TS} {h : Gm → Out} (vs : List Nat) (s : SimS X W t h) : SimS X W t (hFgt vs h) := by
  intro f c σ γ T R hp
  refine s f c σ γ T R ?_
  replace hp : SPost X.K X.mg W f c T ((h γ).fgt vs) := hp
  cases e : h γ with
  | nx g => rw [e] at hp; exact fun σ' c' x R' => hp σ' c' x (R'.forget vs)
  | bk g => rw [e] at hp; exact fun σ' c' x R' => hp σ' c' x (R'.forget vs)
  | ct g => rw [e] at hp; exact fun σ' c' x R' => hp σ' c' x (R'.forget vs)
  | rt d g => rw [e] at hp; exact hp
  | ex n fs g => rw [e] at hp; exact hp
  | no => rw [e] at hp; exact hp
theorem ms_fgt {X : Cx} {W : WX} {st : Stmt} {h : Gm → Out} (vs : List Nat) (hs : MS X W st h) : MS X W st (hFgt vs h) := let ⟨t, h1, s1⟩ := hs; ⟨t, h1, sim_fgt vs s1⟩
theorem mss_fgt {X : Cx} {W : WX} {st : List Stmt} {h : Gm → Out} (vs : List Nat) (hs : MSs X W st h) : MSs X W st (hFgt vs h) := let ⟨t, h1, s1⟩ := hs; ⟨t, h1, sim_fgt vs s1⟩
/-- of what is left at a return only the lists of the caller matter -/
def deadG : Gm → List Nat → Nat → List Nat
  | [], acc, _ => acc
  | .bo _ :: g, acc, i => deadG g acc (i + 1)
  | _ :: g, acc, i => deadG g (i :: acc) (i + 1)
def retG (γ : Gm) : Gm := γ.map fun s => match s with
  | .bo l => .bo l
  | _ => .un
theorem Rel.retG {K : PySem.W.Frag} {f : Fx} {S : Addr → Prop} {c : Cf} {σ : St} {γ : Gm} (R : Rel K f S c σ γ) : Rel K f S c σ (retG γ) := by
  have slot : ∀ {i : Nat} {s : SV}, (Fv.retG γ)[i]? = some s → s = .un ∨ ((∃ l, s = .bo l) ∧ γ[i]? = some s) := fun {i s} e => by
    unfold Fv.retG at e
    rw [List.getElem?_map] at e
    obtain ⟨u, e1, e2⟩ := map_some e
    cases u with
    | bo l => exact .inr ⟨⟨l, e2.symm⟩, by rw [e1, ← e2]⟩
    | _ => exact .inl e2.symm
  refine ⟨R.wf0, R.wf, R.ext, by unfold Fv.retG; rw [List.length_map, R.len], fun i d e => ?_, fun i l e => ?_, fun i l e => ?_, fun i j s t a hij e1 e2 o1 o2 e3 => ?_, R.inv, R.sub⟩
  · rcases slot e with z | ⟨_, z⟩
    · cases z
    · exact R.pu i d z
  · rcases slot e with z | ⟨_, z⟩
    · cases z
    · exact R.ow i l z
  · rcases slot e with z | ⟨_, z⟩
    · cases z
    · exact R.bo i l z
  · rcases slot e1 with z | ⟨_, z⟩
    · rw [z] at o1; cases o1
    · rcases slot e2 with z' | ⟨_, z'⟩
      · rw [z'] at o2; cases o2
      · exact R.ne i j s t a hij z z' o1 o2 e3
def hRetC (ga : Gm → Rs D) : Gm → Out := fun γ => (ga γ).out fun d γ1 => .rt d (retG γ1)
@[simp] theorem e_hRetC {ga : Gm → Rs D} {γ : Gm} : hRetC ga γ = (ga γ).out fun d γ1 => .rt d (retG γ1) := hide rfl
@[simp] theorem retG_nil : retG [] = [] := hide rfl
@[simp] theorem retG_bo {l : List D} {g : Gm} : retG (.bo l :: g) = .bo l :: retG g := hide rfl
@[simp] theorem retG_pu {d : D} {g : Gm} : retG (.pu d :: g) = .un :: retG g := hide rfl
@[simp] theorem retG_ow {l : List D} {g : Gm} : retG (.ow l :: g) = .un :: retG g := hide rfl
@[simp] theorem retG_un {g : Gm} : retG (.un :: g) = .un :: retG g := hide rfl
theorem ms_retC {X : Cx} {W : WX} {pos : Pos} {e : Expr} {ga : Gm → Rs D} (ha : MP X W e ga) : MS X W (.Return (some e) pos) (hRetC ga) := by
  obtain ⟨t, h1, s1⟩ := ha
  exact ⟨_, ps_ret h1, fun f c σ γ T R hp => s1.out R hp fun d γ1 v c1 _ x1 R1 k1 q1 h2 => h2 v σ c1 .refl R1.retG q1⟩
def hRetNC : Gm → Out := fun γ => .rt .non (retG γ)
@[simp] theorem e_hRetNC {γ : Gm} : hRetNC γ = .rt .non (retG γ) := hide rfl
theorem ms_retNC {X : Cx} {W : WX} {pos : Pos} : MS X W (.Return none pos) hRetNC := ⟨_, ps_retN, fun f c σ γ T R hp => hp .non σ c .refl R.retG rfl⟩

/-! ### ranges with a step -/
def stepD (i c : Int) (n : Nat) : List D := (List.range n).map fun k => .int (i + (k : Nat) * c)
def dRng3 : D → D → D → Option (List D)
  | .int i, .int j, .int c => if c ≠ 0 ∧ c.natAbs < 1073741824 ∧ Builtin.Range.small i j c = true ∧ Builtin.Range.rangeSize i j c = ((Builtin.Range.rangeSize i j c).toNat : Int) then some (stepD i c (Builtin.Range.rangeSize i j c).toNat) else none
  | _, _, _ => none
def gRng3 (ga gb gc : Gm → Rs D) : Gm → Rs (List D) := fun γ => (ga γ).bind fun d γ1 => (gb γ1).bind fun e γ2 => (gc γ2).bind fun h γ3 => ofO (dRng3 d e h) γ3
@[simp] theorem e_gRng3 {ga gb gc : Gm → Rs D} {γ : Gm} : gRng3 ga gb gc γ = (ga γ).bind fun d γ1 => (gb γ1).bind fun e γ2 => (gc γ2).bind fun h γ3 => ofO (dRng3 d e h) γ3 := hide rfl
theorem IterOk.step {tb : Bool} {K : PySem.W.Frag} {c : Cf} {i k : Int} {n : Nat} : IterOk tb K c (Itc i k n) (stepD i k n) := by
  intro c1 wf x
  refine ⟨fun m d hm => ?_, by unfold stepD; rw [List.length_map, List.length_range]; exact Nat.le_refl _⟩
  unfold stepD at hm
  rw [List.getElem?_map] at hm
  obtain ⟨u, e1, e2⟩ := map_some hm
  obtain ⟨h1, h2⟩ := List.getElem?_eq_some_iff.mp e1
  rw [List.length_range] at h1
  rw [List.getElem_range] at h2
  refine ⟨h1, fun y H' hy => ?_⟩
  obtain ⟨rfl, rfl⟩ := hy
  exact ⟨c1, rfl, .refl, wf, .inl <| by rw [← e2, ← h2]; rfl⟩
section
variable {X : Cx} {W : WX} {pos p p1 p2 tpos : Pos} {tg a b e : Expr} {es : List Expr} {ga gb gc : Gm → Rs D} {gs : Gm → Rs (List D)}
theorem mi_range3 {c : Expr} (hg : Gl X "range") (hm : X.mg "range" = none) (ha : MP X W a ga) (hb : MP X W b gb) (hc : MP X W c gc)
    (hs : starEach [a, b, c] X.env = (false, eval a X.env) :: starEach [b, c] X.env := by rfl) (hs2 : starEach [b, c] X.env = (false, eval b X.env) :: starEach [c] X.env := by rfl) (hs3 : starEach [c] X.env = (false, eval c X.env) :: starEach [] X.env := by rfl) (hpl : (backTo pos (starEach [b, c] X.env)).any (·.1) = false := by rfl) :
    MI X W tg (.Call (.Name "range" p) [a, b, c] [] pos) (gRng3 ga gb gc) := by
  obtain ⟨ta, h1, s1⟩ := ha
  obtain ⟨tb, h2, s2⟩ := hb
  obtain ⟨tc, h3, s3⟩ := hc
  refine ⟨_, pi_range3 hg hm (pa_cons h1 (pa_cons h2 (pa_cons h3 pa_nil hs3) hs2) hs) hs hpl, fun f S c σ γ Q R hp => s1.bind stab_vI R hp fun d γ1 v c1 _ x1 R1 k1 q1 h4 => s2.bind stab_vI R1 h4 fun e γ2 w c2 _ x2 R2 k2 q2 h5 => s3.bind stab_vI R2 h5 fun z γ3 u c3 _ x3 R3 k3 q3 h6 => ?_⟩
  obtain ⟨l, e1, h7⟩ := h6.fin R3
  cases d with
  | int i =>
    cases e with
    | int j =>
      cases z with
      | int k =>
        cases (show v = .int i from q1)
        cases (show w = .int j from q2)
        cases (show u = .int k from q3)
        obtain ⟨⟨b1, b2, b3, b4⟩, rfl⟩ := ite_of e1
        exact ⟨i, j, k, _, rfl, ⟨b1, b2, b3, b4⟩, h7 _ c3 .refl R3.wf IterOk.step⟩
      | _ => cases e1
    | _ => cases e1
  | _ => cases e1

/-! ### zip of two lists, of two tuples -/
def zipD (l m : List D) : List D := (l.zip m).map fun p => .tup [p.1, p.2]
def dZip : D → D → Option (List D)
  | .lst l, .lst m => some (zipD l m)
  | .tup l, .tup m => some (zipD l m)
  | _, _ => none
def gZip (ga gb : Gm → Rs D) : Gm → Rs (List D) := fun γ => (ga γ).bind fun d γ1 => (gb γ1).bind fun e γ2 => ofO (dZip d e) γ2
@[simp] theorem e_gZip {γ : Gm} : gZip ga gb γ = (ga γ).bind fun d γ1 => (gb γ1).bind fun e γ2 => ofO (dZip d e) γ2 := hide rfl
theorem zipD_get {l m : List D} {i : Nat} {d : D} (h : (zipD l m)[i]? = some d) : ∃ x y, l[i]? = some x ∧ m[i]? = some y ∧ d = .tup [x, y] := by
  unfold zipD at h
  rw [List.getElem?_map] at h
  obtain ⟨⟨x, y⟩, e1, e2⟩ := map_some h
  rw [List.getElem?_zip_eq_some] at e1
  exact ⟨x, y, e1.1, e1.2, e2.symm⟩
theorem zipD_len {l m : List D} : (zipD l m).length = min l.length m.length := by
  unfold zipD; rw [List.length_map, List.length_zip]
theorem IterOk.zipL {K : PySem.W.Frag} {c : Cf} {l m : List D} {a b : Addr} (h : Den K c (.lst l) (.ref a)) (h' : Den K c (.lst m) (.ref b)) : IterOk true K c (Itz K a b) (zipD l m) := by
  intro c1 wf x
  obtain ⟨p, xs, e, q, r⟩ := x _ _ h
  cases e
  obtain ⟨p', ys, e', q', r'⟩ := x _ _ h'
  cases e'
  refine ⟨fun i d hi => ?_, ⟨xs, ys, q.sq, q'.sq, by rw [r.length, r'.length, zipD_len]; omega⟩⟩
  obtain ⟨z, y, h1, h2, rfl⟩ := zipD_get hi
  obtain ⟨v, hv, hd⟩ := r.get h1
  obtain ⟨w, hw, hd'⟩ := r'.get h2
  refine ⟨⟨xs, ys, v, w, q.sq, q'.sq, hv, hw⟩, fun u H' hy => ?_⟩
  obtain ⟨k, v', w', rfl, n, rfl, hy1, hy2⟩ := hy
  have e2 := hy1 xs q.sq
  rw [hv] at e2
  cases e2
  have e3 := hy2 ys q'.sq
  rw [hw] at e3
  cases e3
  exact ⟨⟨c1.M, upd c1.H k (.tup [v, w])⟩, rfl, Ext.new n, wf.new n, DW.tup wf n ⟨_, _, rfl, hd, ⟨_, _, rfl, hd', rfl⟩⟩⟩
theorem IterOk.zipT {K : PySem.W.Frag} {c : Cf} {l m : List D} {a b : Addr} (h : Den K c (.tup l) (.ref a)) (h' : Den K c (.tup m) (.ref b)) : IterOk true K c (RZ.ItzT K a b) (zipD l m) := by
  intro c1 wf x
  obtain ⟨p, xs, e, q, r⟩ := x _ _ h
  cases e
  obtain ⟨p', ys, e', q', r'⟩ := x _ _ h'
  cases e'
  refine ⟨fun i d hi => ?_, ⟨xs, ys, q.sq, q'.sq, by rw [r.length, r'.length, zipD_len]; omega⟩⟩
  obtain ⟨z, y, h1, h2, rfl⟩ := zipD_get hi
  obtain ⟨v, hv, hd⟩ := r.get h1
  obtain ⟨w, hw, hd'⟩ := r'.get h2
  refine ⟨⟨xs, ys, v, w, q.sq, q'.sq, hv, hw⟩, fun u H' hy => ?_⟩
  obtain ⟨k, v', w', rfl, n, rfl, hy1, hy2⟩ := hy
  have e2 := hy1 xs q.sq
  rw [hv] at e2
  cases e2
  have e3 := hy2 ys q'.sq
  rw [hw] at e3
  cases e3
  exact ⟨⟨c1.M, upd c1.H k (.tup [v, w])⟩, rfl, Ext.new n, wf.new n, DW.tup wf n ⟨_, _, rfl, hd, ⟨_, _, rfl, hd', rfl⟩⟩⟩
theorem mi_zip {elts : List Expr} {kk : Nat} (hg : Gl X "zip") (hm : X.mg "zip" = none) (ha : MP X W a ga) (hb : MP X W b gb)
    (hs : starEach [a, b] X.env = (false, eval a X.env) :: starEach [b] X.env := by rfl) (hs2 : starEach [b] X.env = (false, eval b X.env) :: starEach [] X.env := by rfl) (hpl : (backTo pos (starEach [b] X.env)).any (·.1) = false := by rfl) :
    MI X W (.Tuple elts kk tpos) (.Call (.Name "zip" p) [a, b] [] pos) (gZip ga gb) := by
  obtain ⟨ta, h1, s1⟩ := ha
  obtain ⟨tb, h2, s2⟩ := hb
  refine ⟨_, RZ.pi_zipA hg hm (pa_cons h1 (pa_cons h2 pa_nil hs2) hs) hs hpl, fun f S c σ γ Q R hp => s1.bind stab_vI R hp fun d γ1 v c1 _ x1 R1 k1 q1 h4 => s2.bind stab_vI R1 h4 fun e γ2 w c2 _ x2 R2 k2 q2 h5 => ?_⟩
  obtain ⟨z, e1, h7⟩ := h5.fin R2
  have q1' := Den.ext R1.wf x2 q1
  cases d with
  | lst l =>
    cases e with
    | lst m =>
      cases e1
      have qa := q1'
      have qb := q2
      obtain ⟨k, xs, rfl, q, r⟩ := q1'
      obtain ⟨k', ys, rfl, q', r'⟩ := q2
      exact ⟨k, k', xs, ys, rfl, .inl ⟨q.sq, q'.sq, h7 _ c2 .refl R2.wf (IterOk.zipL qa qb)⟩⟩
    | _ => cases e1
  | tup l =>
    cases e with
    | tup m =>
      cases e1
      have qa := q1'
      have qb := q2
      obtain ⟨k, xs, rfl, q, r⟩ := q1'
      obtain ⟨k', ys, rfl, q', r'⟩ := q2
      exact ⟨k, k', xs, ys, rfl, .inr ⟨q.sq, q'.sq, h7 _ c2 .refl R2.wf (IterOk.zipT qa qb)⟩⟩
    | _ => cases e1
  | _ => cases e1

/-! ### all, any of a list of truth values -/
def boolL : List D → Option (List Bool)
  | [] => some []
  | .bl b :: l => (boolL l).map (b :: ·)
  | _ :: _ => none
theorem boolL_den {K : PySem.W.Frag} {c : Cf} : ∀ {l : List D} {bs : List Bool} {vs : List V}, boolL l = some bs → Dens K c l vs → vs = bs.map V.bl
  | [], bs, vs, e, h => by
    cases e
    exact h
  | d :: l, bs, vs, e, h => by
    obtain ⟨x, r, rfl, p, q⟩ := h
    cases d with
    | bl i =>
      obtain ⟨m, e1, e2⟩ := map_some (show (boolL l).map (i :: ·) = some bs from e)
      subst e2
      cases (show x = .bl i from p)
      rw [boolL_den e1 q]; rfl
    | _ => cases e
@[simp] theorem boolL_map {α : Type} {f : α → Bool} {l : List α} : boolL (l.map fun x => .bl (f x)) = some (l.map f) := by
  induction l with
  | nil => rfl
  | cons x l ih => simp [boolL, ih]
def dAll : List D → Option D
  | [.lst l] => (boolL l).map fun bs => .bl (bs.all id)
  | _ => none
def dAny : List D → Option D
  | [.lst l] => (boolL l).map fun bs => .bl (bs.any id)
  | _ => none
@[simp] theorem d_all {α : Type} {f : α → Bool} {l : List α} : dAll [.lst (l.map fun x => .bl (f x))] = some (.bl (l.all f)) := by
  simp only [dAll, boolL_map, Option.map_some, List.all_map]; rfl
@[simp] theorem d_any {α : Type} {f : α → Bool} {l : List α} : dAny [.lst (l.map fun x => .bl (f x))] = some (.bl (l.any f)) := by
  simp only [dAny, boolL_map, Option.map_some, List.any_map]; rfl
theorem mp_all (hc : X.calm = true) (hg : Gl X "all") (hm : X.mg "all" = none) (ha : MP X W a ga) (h3 : starEach [a] X.env = (false, eval a X.env) :: starEach [] X.env := by rfl) : MP X W (.Call (.Name "all" p) [a] [] pos) (gB dAll (gCons ga gNil)) := by
  refine mp_callB (cr_all hc) (fun c l z vs Q wf h q k => ?_) hg hm (by decide +kernel) (md_cons ha md_nil h3) (h3 := h3)
  unfold dAll at h
  split at h
  · obtain ⟨v, rfl, p, xs, rfl, p1, p2⟩ := dens1 q
    obtain ⟨ns, e1, e2⟩ := map_some h
    cases e2
    have e3 := boolL_den e1 p2
    subst e3
    exact ⟨p, ns, rfl, p1.sq, k _ c .refl wf rfl⟩
  · cases h
theorem mp_any (hc : X.calm = true) (hg : Gl X "any") (hm : X.mg "any" = none) (ha : MP X W a ga) (h3 : starEach [a] X.env = (false, eval a X.env) :: starEach [] X.env := by rfl) : MP X W (.Call (.Name "any" p) [a] [] pos) (gB dAny (gCons ga gNil)) := by
  refine mp_callB (cr_any hc) (fun c l z vs Q wf h q k => ?_) hg hm (by decide +kernel) (md_cons ha md_nil h3) (h3 := h3)
  unfold dAny at h
  split at h
  · obtain ⟨v, rfl, p, xs, rfl, p1, p2⟩ := dens1 q
    obtain ⟨ns, e1, e2⟩ := map_some h
    cases e2
    have e3 := boolL_den e1 p2
    subst e3
    exact ⟨p, ns, rfl, p1.sq, k _ c .refl wf rfl⟩
  · cases h

/-! ### displays with stars -/
structure MDS (X : Cx) (W : WX) (es : List Expr) (g : Gm → Rs (List D)) : Prop where
  ex : ∃ t, PA X es t ∧ Sim X W (vD X.K) t g
theorem mds_nil : MDS X W [] gNil := ⟨⟨_, pa_nil, fun f S c σ γ Q R hp => hp [] c .refl R .refl rfl⟩⟩
theorem mds_cons (ha : MP X W e ga) (hr : MDS X W es gs) (hs : starEach (e :: es) X.env = (false, eval e X.env) :: starEach es X.env := by rfl) : MDS X W (e :: es) (gCons ga gs) := by
  obtain ⟨ta, h1, s1⟩ := ha
  obtain ⟨⟨ts, h2, s2⟩⟩ := hr
  exact ⟨⟨_, pa_cons h1 h2 hs, fun f S c σ γ Q R hp => s1.bind stab_vD R hp fun d γ1 v c1 _ x1 R1 k1 q1 h3 => s2.bind stab_vD R1 h3 fun l γ2 vs c2 _ x2 R2 k2 q2 h4 => h4 (v :: vs) c2 .refl R2 .refl ⟨v, vs, rfl, q1.ext R1.wf x2, q2⟩⟩⟩
def gStar (ga : Gm → Rs D) (gs : Gm → Rs (List D)) : Gm → Rs (List D) := fun γ => (ga γ).bind fun d γ1 => (ofO (itemsD d) γ1).bind fun m γ2 => (gs γ2).bind fun l γ3 => .ok (m ++ l) γ3
@[simp] theorem e_gStar {γ : Gm} : gStar ga gs γ = (ga γ).bind fun d γ1 => (ofO (itemsD d) γ1).bind fun m γ2 => (gs γ2).bind fun l γ3 => .ok (m ++ l) γ3 := hide rfl
theorem mds_star (ha : MP X W e ga) (hr : MDS X W es gs) (hs : starEach (.Starred e p :: es) X.env = (true, eval e X.env) :: starEach es X.env := by rfl) : MDS X W (.Starred e p :: es) (gStar ga gs) := by
  obtain ⟨ta, h1, s1⟩ := ha
  obtain ⟨⟨ts, h2, s2⟩⟩ := hr
  refine ⟨⟨_, StX.pa_star h1 h2 hs, fun f S c σ γ Q R hp => s1.bind stab_vD R hp fun d γ1 v c1 _ x1 R1 k1 q1 h3 => ?_⟩⟩
  cases e1 : itemsD d with
  | none => rw [e1] at h3; exact h3.elim
  | some m =>
    rw [e1] at h3
    have h3' : Post X.K X.mg (vD X.K) W f S c1 σ γ1 Q ((gs γ1).bind fun l γ3 => .ok (m ++ l) γ3) := h3
    cases d with
    | lst l' =>
      cases e1
      obtain ⟨k, xs, rfl, q, r⟩ := q1
      refine ⟨k, xs, rfl, .inr q.sq, s2.bind stab_vD R1 h3' fun l γ2 vs c2 _ x2 R2 k2 q2 h4 => ?_⟩
      exact h4 (xs ++ vs) c2 .refl R2 .refl (Dens.app (r.ext R1.wf x2) q2)
    | tup l' =>
      cases e1
      obtain ⟨k, xs, rfl, q, r⟩ := q1
      refine ⟨k, xs, rfl, .inl q.sq, s2.bind stab_vD R1 h3' fun l γ2 vs c2 _ x2 R2 k2 q2 h4 => ?_⟩
      exact h4 (xs ++ vs) c2 .refl R2 .refl (Dens.app (r.ext R1.wf x2) q2)
    | _ => cases e1
def gTupS (gs : Gm → Rs (List D)) : Gm → Rs D := fun γ => (gs γ).bind fun l γ1 => if l.length ≤ sizeLine then .ok (.tup l) γ1 else .no
@[simp] theorem e_gTupS {γ : Gm} : gTupS gs γ = (gs γ).bind fun l γ1 => if l.length ≤ sizeLine then .ok (.tup l) γ1 else .no := hide rfl
theorem mp_tupS {k} (h : MDS X W es gs) : MP X W (.Tuple es k pos) (gTupS gs) := by
  obtain ⟨⟨ts, h2, s2⟩⟩ := h
  refine ⟨_, pe_tupF h2, fun f S c σ γ Q R hp => s2.bind stab_vP R hp fun l γ1 vs c1 e0 x1 R1 k1 q1 h3 => ?_⟩
  by_cases hz : l.length ≤ sizeLine
  · rw [if_pos hz] at h3
    refine ⟨by rw [q1.length]; exact hz, fun p o hd n => ?_⟩
    exact h3 (.ref p) ⟨c1.M, upd c1.H p (.frz o (.tup vs))⟩ (Ext.new n).nop (R1.step (Ext.new n) (R1.wf.new n)) .refl (Den.tup R1.wf n hd q1)
  · rw [if_neg hz] at h3; exact h3.elim
def gLstS (gs : Gm → Rs (List D)) : Gm → Rs (List D) := fun γ => (gs γ).bind fun l γ1 => if l.length ≤ sizeLine then .ok l γ1 else .no
@[simp] theorem e_gLstS {γ : Gm} : gLstS gs γ = (gs γ).bind fun l γ1 => if l.length ≤ sizeLine then .ok l γ1 else .no := hide rfl
theorem mf_lstS (h : MDS X W es gs) : MF X W (.List es pos) (gLstS gs) := by
  obtain ⟨⟨ts, h2, s2⟩⟩ := h
  refine ⟨_, pe_lst h2, fun f S c σ γ Q R hp => s2.bind stab_vF R hp fun l γ1 vs c1 e0 x1 R1 k1 q1 h3 => ?_⟩
  by_cases hz : l.length ≤ sizeLine
  · rw [if_pos hz] at h3
    refine ⟨by rw [q1.length]; exact hz, fun p n => ?_⟩
    exact h3 (.ref p) (c1.add p vs) (Ext.add n).nop (R1.step (Ext.add n) (R1.wf.add n)) .refl ⟨p, rfl, n, Own.add R1.wf n q1⟩
  · rw [if_neg hz] at h3; exact h3.elim
end
end Fv

namespace Fv
variable [LC : LamC]
open PySem L2
section
variable {X : Cx} {W : WX} {pos p p1 p2 p3 tpos : Pos} {tg a b e : Expr} {es : List Expr} {ga gb gc : Gm → Rs D} {gs : Gm → Rs (List D)} {x : Str} {j : Nat}
/-! ### isinstance(x, (T, U)) -/
theorem den_ty2 {K : PySem.W.Frag} {c : Cf} {d : D} {v : V} {p : Addr} {o : HO} (wf : WF c) (n : c.H p = none) (h : Den K c d v) {T : String} {k : Bool} (hk : kitB (dTy d) T = some k) (hT : T ≠ "-") : TyX K (upd c.H p o) v (.type (dTy d)) :=
  den_ty (c := ⟨c.M, upd c.H p o⟩) (h.ext wf (Ext.new n)) hk hT
def dIsi2 (T U : String) : D → Option D := fun d => match kitB (dTy d) T, kitB (dTy d) U with
  | some a, some b => some (.bl (a || b))
  | _, _ => none
theorem mp_isi2 {T U : Str} {Ts Us : String} {k} (hg : Gl X "isinstance") (hm : X.mg "isinstance" = none) (hg1 : Gl X T) (hm1 : X.mg T = none) (hv1 : bootBuiltins T = some (.type Ts)) (hg2 : Gl X U) (hm2 : X.mg U = none) (hv2 : bootBuiltins U = some (.type Us)) (ha : MP X W a ga)
    (h1 : T ≠ "__name__" := by decide) (h2 : (T == ("__debug__" : Str)) = false := by decide) (h1' : U ≠ "__name__" := by decide) (h2' : (U == ("__debug__" : Str)) = false := by decide)
    (h3 : starEach [a, .Tuple [.Name T p1, .Name U p2] k p3] X.env = (false, eval a X.env) :: starEach [.Tuple [.Name T p1, .Name U p2] k p3] X.env := by rfl) (h4 : (backTo pos (starEach [.Tuple [.Name T p1, .Name U p2] k p3] X.env)).any (·.1) = false := by rfl)
    (h5 : starEach [.Tuple [.Name T p1, .Name U p2] k p3] X.env = (false, eval (.Tuple [.Name T p1, .Name U p2] k p3) X.env) :: starEach [] X.env := by rfl)
    (h6 : starEach [.Name T p1, .Name U p2] X.env = (false, eval (.Name T p1) X.env) :: starEach [.Name U p2] X.env := by rfl) (h7 : starEach [.Name U p2] X.env = (false, eval (.Name U p2) X.env) :: starEach [] X.env := by rfl) (hT : Ts ≠ "-" := by decide) :
    MP X W (.Call (.Name "isinstance" p) [a, .Tuple [.Name T p1, .Name U p2] k p3] [] pos) (g1 (dIsi2 Ts Us) ga) := by
  obtain ⟨ta, t1, s1⟩ := ha
  refine ⟨_, pe_callB call_isiT hg hm (by decide +kernel) (pa_cons t1 (pa_cons (pe_tup (pa_cons (pe_bltn (v := .ty Ts) hg1 hm1 hv1 rfl h1 h2) (pa_cons (pe_bltn (v := .ty Us) hg2 hm2 hv2 rfl h1' h2') pa_nil h7) h6)) pa_nil h5) h3) (he := h3) (hpl := h4), ?_⟩
  refine sim1 (r := fun x H Q => (2 : Nat) ≤ sizeLine ∧ ∀ p, H p = none → rIsiT X.K [x, .ref p] (upd H p (.tup [.ty Ts, .ty Us])) Q) (p := dIsi2 Ts Us) (fun c d z v Q wf q1 q2 q4 => ?_) s1
  unfold dIsi2 at q1
  cases e1 : kitB (dTy d) Ts with
  | none => rw [e1] at q1; cases q1
  | some b1 =>
    cases e2 : kitB (dTy d) Us with
    | none => rw [e1, e2] at q1; cases q1
    | some b2 =>
      rw [e1, e2] at q1
      cases q1
      refine ⟨by decide, fun pp n => ⟨v, pp, _, _, [.type Ts, .type Us], (b1 || b2), rfl, upd_same, ?_, den_ty2 wf n q2 e1 hT, ?_, ?_⟩⟩
      · exact .cons (.ty _) (.cons (.ty _) .nil)
      · have k1 := kit_ty (K := X.K) e1
        have k2 := kit_ty (K := X.K) e2
        simp only [PySem.W.kitAny, k1, k2]
        cases b1 <;> cases b2 <;> rfl
      · exact q4 (.bl (b1 || b2)) ⟨c.M, upd c.H pp _⟩ (Ext.new n) (wf.new n) rfl
/-! ### x in xs, a list of any data -/
theorem dens_toPs {l : List D} : toPs l = l.map toP := by
  induction l with
  | nil => rfl
  | cons d l ih => simp [toPs, ih]
def dInD (d e : D) : Option Bool := match e with
  | .lst l => if eqOk d && eqOk (.lst l) then some (l.any fun y => eqD y d) else none
  | .tup l => match dInB d (.tup l) with
    | some b => some b
    | none => if eqOk d && eqOk (.tup l) then some (l.any fun y => eqD y d) else none
  | _ => none
def dInX : D → D → Option D := fun d e => (dInD d e).map .bl
def dNotInX : D → D → Option D := fun d e => (dInD d e).map fun k => .bl (!k)
theorem any_toP {d : D} : ∀ {l : List D}, gdss l = true → ((toPs l).any fun z => PyData.eqv z (toP d)) = l.any fun y => eqD y d
  | [], _ => rfl
  | y :: l, g => by
    obtain ⟨g1, g2⟩ := Bool.and_eq_true_iff.mp (show (gds y && gdss l) = true by simpa [gdss] using g)
    unfold toPs
    rw [List.any_cons, List.any_cons, any_toP g2, eqD_toP y d g1]
def rInX (K : PySem.W.Frag) (k : Bool → Bool) : R2 := fun x y H Q =>
  (∃ d ds, Dp K H x d ∧ Dp K H y (.list ds) ∧ SeqAt.shaped d = true ∧ SeqAt.shaped (.list ds) = true ∧ Q (.bl (k (ds.any fun z => PyData.eqv z d))) H) ∨
  (∃ p xs, y = .ref p ∧ (SqL K H p xs ∨ SqT K H p xs) ∧ flatV x = true ∧ xs.all flatV = true ∧ Q (.bl (k (inV x xs))) H) ∨
  (∃ d ds, Dp K H x d ∧ Dp K H y (.tuple ds) ∧ SeqAt.shaped d = true ∧ SeqAt.shaped (.tuple ds) = true ∧ Q (.bl (k (ds.any fun z => PyData.eqv z d))) H)
theorem op_inX (hu : X.A.units + 65 < cLine) : OpR X (compareOp .In) (rInX X.K id) := by
  intro pn s st hp x y v u Q inv rx ry hw
  rcases hw with hw | hw | hw
  · exact op_inD hu pn s st hp x y v u Q inv rx ry hw
  · exact op_in_seq pn s st hp x y v u Q inv rx ry hw
  · obtain ⟨d, ds, hd, he, sd, se, q⟩ := hw
    obtain ⟨as, r1⟩ := Dp.reads inv d x v hd rx
    obtain ⟨bs, r2⟩ := Dp.reads inv (.tuple ds) y u he ry
    exact SeqAt.in_tuple_reads r2 r1 (SeqAt.canLay_of_shaped se) (SeqAt.canLay_of_shaped sd) (PyProof.Rows.room_in_shaped sd hu) ⟨.bl _, hp, inv, rfl, q⟩
theorem op_notInX (hu : X.A.units + 65 < cLine) : OpR X (compareOp .NotIn) (rInX X.K not) := by
  intro pn s st hp x y v u Q inv rx ry hw
  rcases hw with hw | hw | hw
  · exact op_notInD hu pn s st hp x y v u Q inv rx ry hw
  · exact op_notIn_seq pn s st hp x y v u Q inv rx ry hw
  · obtain ⟨d, ds, hd, he, sd, se, q⟩ := hw
    obtain ⟨as, r1⟩ := Dp.reads inv d x v hd rx
    obtain ⟨bs, r2⟩ := Dp.reads inv (.tuple ds) y u he ry
    exact SeqAt.notIn_tuple_reads r2 r1 (SeqAt.canLay_of_shaped se) (SeqAt.canLay_of_shaped sd) (PyProof.Rows.room_in_shaped sd hu) ⟨.bl _, hp, inv, rfl, q⟩
theorem inX_meets {K : PySem.W.Frag} {k : Bool → Bool} : Meet2 K (rInX K k) (fun d e => (dInD d e).map fun b => .bl (k b)) := by
  intro c d e z v w Q wf q1 q2 q3 q4
  obtain ⟨b, e1, e2⟩ := map_some q1
  cases e2
  unfold dInD at e1
  cases e with
  | lst l =>
    obtain ⟨h1, h2⟩ := ite_of e1
    obtain ⟨h3, h4⟩ := Bool.and_eq_true_iff.mp h1
    refine .inl ⟨toP d, toPs l, den_dp d v (eqOk_gds h3) q2, den_dp (.lst l) w (eqOk_gds h4) q3, shaped_of h3, shaped_of h4, ?_⟩
    rw [any_toP (by have := eqOk_gds h4; simpa [gds] using this), h2]
    exact q4 _ c .refl wf rfl
  | tup l =>
    simp only at e1
    split at e1
    · rename_i b0 e0
      cases e1
      obtain ⟨p, xs, e3, h1, h2, h3, h4⟩ := inB_meets e0 q2 q3
      refine .inr (.inl ⟨p, xs, e3, h1, h2, h3, ?_⟩)
      rw [h4]
      exact q4 _ c .refl wf rfl
    · obtain ⟨h1, h2⟩ := ite_of e1
      obtain ⟨h3, h4⟩ := Bool.and_eq_true_iff.mp h1
      refine .inr (.inr ⟨toP d, toPs l, den_dp d v (eqOk_gds h3) q2, den_dp (.tup l) w (eqOk_gds h4) q3, shaped_of h3, shaped_of h4, ?_⟩)
      rw [any_toP (by have := eqOk_gds h4; simpa [gds] using this), h2]
      exact q4 _ c .refl wf rfl
  | _ => cases e1
theorem mp_inX (hu : X.A.units + 65 < cLine) (ha : MP X W a ga) (hb : MP X W b gb) (hn : behindInMarks .In b = false := by rfl) : MB X W (.Compare a [.In] [b] pos) (g2 dInX ga gb) := mp_cmp (op_inX hu) inX_meets ha hb hn
theorem mp_notInX (hu : X.A.units + 65 < cLine) (ha : MP X W a ga) (hb : MP X W b gb) (hn : behindInMarks .NotIn b = false := by rfl) : MB X W (.Compare a [.NotIn] [b] pos) (g2 dNotInX ga gb) := mp_cmp (op_notInX hu) inX_meets ha hb hn

/-! ### xs[i] += e -/
def rGetL (K : PySem.W.Frag) : R2 := fun x y H Q => ∃ p xs k z, x = .ref p ∧ y = .int k ∧ SqL K H p xs ∧ 0 ≤ k ∧ atI xs k = some z ∧ Q z H
theorem pget_list : PGet X (rGetL X.K) := by
  intro pn s st hp o i ov iv Q inv ro ri hw
  obtain ⟨p, xs, k, z, rfl, rfl, hq, h0, he, q⟩ := hw
  cases ro
  obtain ⟨t, rfl⟩ := ri
  obtain ⟨its, r, pl, hz⟩ := inv.list hq
  obtain ⟨j, h1, h2, h3, h4, h5⟩ := atI_get he
  obtain ⟨w, ew, rw'⟩ := r.get h2
  have hl := r.length
  have hn := line63
  have hj : k.toNat = j := by
    rw [seqIndex_of h0 h5] at h1
    exact Option.some.inj h1
  exact PySem.wpAny_getItem_list pl.isList h0 (by omega) (by rw [hj]; simpa using ew) ⟨z, hp, inv, rw', q⟩
def hAugS (j : Nat) (h : Int → Int → Int) (gb ga : Gm → Rs D) : Gm → Out := fun γ => (gOwn j γ).out fun _ γ0 => (gb γ0).out fun i γ1 => (gOwn j γ1).out fun o γ2 => match i with
  | .int k => (if 0 ≤ k then (ofO (dIx o (.int k)) γ2).out fun d γ3 => (ga γ3).out fun e γ4 => match d, e with
    | .int m, .int n => (match putO j (fun l => (ixN l.length k).map fun t => l.set t (.int (h m n))) γ4 with
      | some γ5 => .nx γ5
      | none => .no)
    | _, _ => .no
    else .no)
  | _ => .no
@[simp] theorem e_hAugS {j : Nat} {h : Int → Int → Int} {γ : Gm} : hAugS j h gb ga γ = (gOwn j γ).out fun _ γ0 => (gb γ0).out fun i γ1 => (gOwn j γ1).out fun o γ2 => match i with
  | .int k => (if 0 ≤ k then (ofO (dIx o (.int k)) γ2).out fun d γ3 => (ga γ3).out fun e γ4 => match d, e with
    | .int m, .int n => (match putO j (fun l => (ixN l.length k).map fun t => l.set t (.int (h m n))) γ4 with
      | some γ5 => .nx γ5
      | none => .no)
    | _, _ => .no
    else .no)
  | _ => .no := hide rfl
theorem ms_augS {op : Operator} {h : Int → Int → Int} (ho : PE X (.Name x p) (tVar j)) (hb : MP X W b gb) (ha : MP X W e ga) (hop : PIp X op (ipI h))
    (haug : ∀ ov iv new, augStore b ov iv new = (do holding [new, ov, iv] (setItem ov iv new); release [new, ov, iv] []; pure .next) := by intros; rfl) :
    MS X W (.AugAssign (.Subscript (.Name x p) b p1) op e pos) (hAugS j h gb ga) := by
  obtain ⟨ta, t1, s1⟩ := ha
  obtain ⟨tb, t2, s2⟩ := hb
  refine ⟨_, ps_augS ho t2 pget_list t1 hop set_list haug, fun f c σ γ T R hp => ?_⟩
  replace hp : SPost X.K X.mg W f c T (hAugS j h gb ga γ) := hp
  rw [e_hAugS] at hp
  rcases gOwn_cases j γ with e0 | ⟨l0, e0⟩
  · rw [e0] at hp; exact hp.elim
  rw [e0] at hp
  obtain ⟨s, l, e1, _, _, _, e2⟩ := gOwn_ok e0
  obtain ⟨q, f1, _⟩ := R.ownL e1 e2
  refine ⟨.ref q, f1, s2.out R hp fun i γ1 w c1 _ x1 R1 k1 q1 h3 => ?_⟩
  rcases gOwn_cases j γ1 with e3 | ⟨l1, e3⟩
  · rw [e3] at h3; exact h3.elim
  rw [e3] at h3
  obtain ⟨s', l', e4, _, e5, _, e6⟩ := gOwn_ok e3
  obtain ⟨q', f2, _, vs, f3, f4⟩ := R1.ownL e4 e6
  rw [f1] at f2
  cases f2
  cases e5
  cases i with
  | int k =>
    cases (show w = .int k from q1)
    by_cases hk : 0 ≤ k
    · simp only [Rs.out_ok, if_pos hk] at h3
      cases e7 : dIx (.lst l1) (.int k) with
      | none => rw [e7] at h3; exact h3.elim
      | some d =>
        rw [e7] at h3
        obtain ⟨u, e8, h5⟩ := atI_den f4 e7
        refine ⟨q, vs, k, u, rfl, rfl, SqL.of f3, hk, e8, s1.out R1 h3 fun y γ4 v4 c4 _ x4 R4 k4 q4 h6 => ?_⟩
        have h5' := h5.ext R1.wf x4
        cases d with
        | int m =>
          cases y with
          | int n =>
            cases (show u = .int m from h5')
            cases (show v4 = .int n from q4)
            simp only at h6
            cases ep : putO j (fun l => (ixN l.length k).map fun t => l.set t (.int (h m n))) γ4 with
            | none => rw [ep] at h6; exact h6.elim
            | some γ5 =>
              rw [ep] at h6
              obtain ⟨s', l', m', g1, g2, g3, g4, rfl⟩ := putO_some ep
              obtain ⟨q', f5, _, vs', f6, f7⟩ := R4.ownL g1 g3
              rw [f1] at f5
              cases f5
              obtain ⟨t, g5, rfl⟩ := map_some g4
              obtain ⟨y1, y2, y3⟩ := R4.updO g1 g2 f1 (Dens.set (show Den X.K c4 (.int (h m n)) (.int (h m n)) from rfl) t f7)
              exact ⟨m, n, rfl, rfl, q, vs', k, t, rfl, rfl, f6, by rw [f7.length]; exact g5, h6 σ _ (y1.p R4.wf) y2⟩
          | _ => exact h6.elim
        | _ => cases y <;> exact h6.elim
    · simp only [Rs.out_ok, if_neg hk] at h3
      exact h3.elim
  | _ => exact h3.elim
/-! ### xs.remove(n), ints -/
def gRem (j : Nat) (ga : Gm → Rs D) : Gm → Rs D := fun γ => (gOwn j γ).bind fun _ γ0 => (ga γ0).bind fun d γ1 => match d with
  | .int k => (match putO j (fun l => (intL l).bind fun ns => if k ∈ ns then some ((ns.erase k).map .int) else none) γ1 with
    | some γ2 => .ok .non γ2
    | none => .no)
  | _ => .no
@[simp] theorem e_gRem {γ : Gm} : gRem j ga γ = (gOwn j γ).bind fun _ γ0 => (ga γ0).bind fun d γ1 => match d with
  | .int k => (match putO j (fun l => (intL l).bind fun ns => if k ∈ ns then some ((ns.erase k).map .int) else none) γ1 with
    | some γ2 => .ok .non γ2
    | none => .no)
  | _ => .no := hide rfl
theorem erase_at {k : Int} : ∀ {ns : List Int}, k ∈ ns → ∃ j, ns[j]? = some k ∧ (∀ m : Nat, m < j → ns[m]? ≠ some k) ∧ ns.eraseIdx j = ns.erase k
  | [], h => nomatch h
  | n :: ns, h => by
    by_cases e : n = k
    · subst e
      exact ⟨0, rfl, fun m hm => absurd hm (Nat.not_lt_zero m), by simp⟩
    · obtain ⟨j, h1, h2, h3⟩ := erase_at (ns := ns) ((List.mem_cons.mp h).elim (fun z => (e z.symm).elim) id)
      refine ⟨j + 1, by simpa using h1, fun m hm => ?_, ?_⟩
      · cases m with
        | zero => simpa using e
        | succ m => simpa using h2 m (by omega)
      · rw [List.eraseIdx_cons_succ, h3, List.erase_cons_tail (by simpa using e)]
theorem mp_rem (ho : PE X (.Name x p) (tVar j)) (ha : MP X W e ga) (hbase : attributeBase (.Name x p) "remove" X.env (eval (.Name x p) X.env) = eval (.Name x p) X.env := by rfl)
    (hfew : ((backTo p2 (starEach [e] X.env)).all (fun x => !x.1) && (backToKw p2 (keywordEach [] X.env)).all (fun x => x.1.isSome) && decide ([e].length + ([] : List Keyword).length + (if ([] : List Keyword).isEmpty then 0 else 1) < 30)) = true := by rfl)
    (hline : (p1.endLine == p2.line) = true := by rfl) (hs : starEach [e] X.env = (false, eval e X.env) :: starEach [] X.env := by rfl) (hpl : (backTo p2 (starEach [] X.env)).any (·.1) = false := by rfl) :
    MP X W (.Call (.Attribute (.Name x p) "remove" p1) [e] [] p2) (gRem j ga) := by
  obtain ⟨ta, h1, s1⟩ := ha
  refine ⟨_, pe_bm PySem.F.plainAttrs_list PySem.F.slot_list_remove PySem.F.type_list_remove mt_remove ho (pa_cons h1 pa_nil hs) hbase hfew hline hs hpl, fun f S c σ γ Q R hp => ?_⟩
  replace hp : Post X.K X.mg (vP X.K) W f S c σ γ Q (gRem j ga γ) := hp
  rw [e_gRem] at hp
  rcases gOwn_cases j γ with e0 | ⟨l0, e0⟩
  · rw [e0] at hp; exact hp.elim
  · rw [e0] at hp
    obtain ⟨s, l, e1, _, _, _, e2⟩ := gOwn_ok e0
    obtain ⟨q, f1, _, vs0, f2, _⟩ := R.ownL e1 e2
    refine ⟨.ref q, f1, own_ty f2, s1.bind stab_vP R hp fun d γ1 v c1 _ x1 R1 k1 q1 h3 => ?_⟩
    cases d with
    | int k =>
      cases (show v = .int k from q1)
      simp only at h3
      cases ep : putO j (fun l => (intL l).bind fun ns => if k ∈ ns then some ((ns.erase k).map .int) else none) γ1 with
      | none => rw [ep] at h3; exact h3.elim
      | some γ2 =>
        rw [ep] at h3
        obtain ⟨s', l', m, g1, g2, g3, g4, rfl⟩ := putO_some ep
        obtain ⟨q', f3, _, vs, f4, f5⟩ := R1.ownL g1 g3
        rw [f1] at f3
        cases f3
        cases e9 : intL l' with
        | none => rw [e9] at g4; cases g4
        | some ns =>
          rw [e9] at g4
          obtain ⟨hz, rfl⟩ := ite_of (show (if k ∈ ns then some ((ns.erase k).map D.int) else none) = some m from g4)
          have e10 := intL_den e9 f5
          subst e10
          obtain ⟨t, i1, i2, i3⟩ := erase_at hz
          obtain ⟨y1, y2, y3⟩ := R1.updO g1 g2 f1 (dens_ints (ns := ns.erase k))
          exact ⟨q, ns, k, t, rfl, rfl, f4, i1, i2, by rw [i3]; exact h3 .non _ y1 y2 y3 rfl⟩
    | _ => exact h3.elim
end
end Fv

namespace Fv
variable [LC : LamC]
open PySem L2
def hWh (w : Gm → Rs Bool) (b : Gm → Out) : Gm → Out := whileN w b 1000000
theorem _root_.L2.Room.units65 {k : Nat} {A : Around} (r : Room k A) : A.units + 65 < cLine := by have := r.un; omega
theorem fn_never {P : Program} {w : World} {K : PySem.W.Frag} {mg : Str → Option Value} {base : Heap} {CX : CXT} {k : Nat} {f : Addr} {fd : FuncData} {ps : List Str} : FnOk P w K mg base CX k f fd ps (spF K mg ps.length (fun _ => .no)) :=
  ⟨fun vs H Q E h => h.1, fun A outer s H args us vs Q E hr he hb hv hs => by
    obtain ⟨_, g, γ, _, _, z⟩ := hs
    exact z.elim⟩
theorem mss_never {X : Cx} {W : WX} {st : List Stmt} : MSs X W st hNever := ⟨_, pss_never, fun f c σ γ T R hp => hp.elim⟩
@[simp] theorem e_hNever {γ : Gm} : hNever γ = .no := hide rfl
end Fv

namespace Fv
variable [LC : LamC]
open PySem L2
section
variable {X : Cx} {W : WX} {pos p p1 p2 p3 q1 q2 tpos : Pos} {tg a b e e2 : Expr} {es : List Expr} {ga gb gc gd : Gm → Rs D} {gs : Gm → Rs (List D)} {gf : Gm → Rs (List D)} {x y : Str} {i j : Nat}
/-! ### * of ints, tuple * int -/
def rMulX (K : PySem.W.Frag) : R2 := fun x y H Q => (rI CMulW fun i j => V.int (i * j)) x y H Q ∨ rRepF K x y H Q
theorem op_mulX : OpR X (binaryOp .Mult) (rMulX X.K) := by
  intro pn s st hp x y v u Q inv rx ry hw
  rcases hw with hw | hw
  · exact op_mulW pn s st hp x y v u Q inv rx ry hw
  · exact op_repF pn s st hp x y v u Q inv rx ry hw
def dMulX : D → D → Option D
  | .int i, .int j => if Nat.log2 i.natAbs + Nat.log2 j.natAbs < 1000000 then some (.int (i * j)) else none
  | .tup l, .int k => if l ≠ [] ∧ 2 ≤ k ∧ k ≤ 1000 ∧ l.length ≤ 1000 then some (.tup (List.replicate k.toNat l).flatten) else none
  | _, _ => none
theorem dens_flat_rep {K : PySem.W.Frag} {c : Cf} {l : List D} {vs : List V} (h : Dens K c l vs) : ∀ n : Nat, Dens K c (List.replicate n l).flatten (List.replicate n vs).flatten
  | 0 => by simp only [List.replicate_zero, List.flatten_nil]; exact Dens.nil
  | n + 1 => by simp only [List.replicate_succ, List.flatten_cons]; exact h.app (dens_flat_rep h n)
theorem mulX_meets {K : PySem.W.Frag} : Meet2 K (rMulX K) dMulX := by
  intro c d e z v w Q wf q1 q2 q3 q4
  unfold dMulX at q1
  split at q1
  · obtain ⟨h1, h2⟩ := ite_of q1
    cases h2
    exact .inl ⟨_, _, q2, q3, h1, q4 _ c .refl wf rfl⟩
  · obtain ⟨⟨h1, h2, h3, h4⟩, h5⟩ := ite_of q1
    cases h5
    obtain ⟨p, xs, rfl, r1, r2⟩ := q2
    cases (show w = .int _ from q3)
    refine .inr ⟨p, _, xs, rfl, rfl, r1.sq, fun z => h1 ?_, h2, h3, by rw [r2.length]; exact h4, fun k o hd n => ?_⟩
    · have := r2.length
      rw [z] at this
      exact List.eq_nil_of_length_eq_zero this.symm
    · exact q4 (.ref k) ⟨c.M, upd c.H k (.frz o (.tup (List.replicate _ xs).flatten))⟩ (Ext.new n) (wf.new n) (Den.tup wf n hd (dens_flat_rep r2 _))
  · cases q1
theorem mp_mulX (ha : MP X W a ga) (hb : MP X W b gb) : MP X W (.BinOp a .Mult b pos) (g2 dMulX ga gb) := mp_op op_mulX mulX_meets ha hb
theorem mp_repT (ha : MP X W a ga) (hb : MP X W b gb) : MP X W (.BinOp a .Mult b pos) (g2 dMulX ga gb) := mp_mulX ha hb
/-! ### [..] * n, a new list -/
def gRepF (gf : Gm → Rs (List D)) (gb : Gm → Rs D) : Gm → Rs (List D) := fun γ => (gf γ).bind fun l γ1 => (gb γ1).bind fun d γ2 => match d with
  | .int k => if -(2 ^ 63) ≤ k ∧ k < 2 ^ 63 ∧ l.length * k.toNat ≤ sizeLine then .ok (List.replicate k.toNat l).flatten γ2 else .no
  | _ => .no
@[simp] theorem e_gRepF {γ : Gm} : gRepF gf gb γ = (gf γ).bind fun l γ1 => (gb γ1).bind fun d γ2 => match d with
  | .int k => if -(2 ^ 63) ≤ k ∧ k < 2 ^ 63 ∧ l.length * k.toNat ≤ sizeLine then .ok (List.replicate k.toNat l).flatten γ2 else .no
  | _ => .no := hide rfl
theorem mf_rep (ha : MF X W a gf) (hb : MP X W b gb) : MF X W (.BinOp a .Mult b pos) (gRepF gf gb) := by
  obtain ⟨ta, h1, s1⟩ := ha
  obtain ⟨tb, h2, s2⟩ := hb
  refine ⟨_, pe_op op_rep h1 h2, fun f S c σ γ Q R hp => ?_⟩
  replace hp : Post X.K X.mg (vF X.K) W f S c σ γ Q (gRepF gf gb γ) := hp
  rw [e_gRepF] at hp
  refine s1 f S c σ γ _ R ?_
  cases e1 : gf γ with
  | no => rw [e1] at hp; exact hp
  | ex n fs g => rw [e1] at hp; exact hp
  | ok l γ1 =>
    rw [e1] at hp
    intro v c1 x1 R1 k1 ⟨pp, ev, n, o⟩
    subst ev
    have hsl : ∀ (i : Nat) (s : SV) (a : Addr), γ1[i]? = some s → s.own = true → σ[i]? = some (some (V.ref a)) → S a → S a ∧ a ≠ pp := fun i s a e o ea hz => ⟨hz, fun z => by
      rw [z] at ea
      exact fresh_slot R k1.own n i (by unfold ownAt; rw [e]; exact o) ea⟩
    have up : ∀ {c2 : Cf} {g : Gm}, Rel X.K f (fun a => S a ∧ a ≠ pp) c2 σ g → Rel X.K f S c2 σ g := fun h => h.lessS (fun _ _ _ _ _ _ z => z.1) R1.sub
    refine s2 f (fun a => S a ∧ a ≠ pp) c1 σ γ1 _ (R1.lessS hsl fun a z => R1.sub a z.1) ?_
    simp only [Rs.bind_ok] at hp
    cases e2 : gb γ1 with
    | no => rw [e2] at hp; exact hp
    | ex nm fs g =>
      rw [e2] at hp
      exact fun C d c2 hm x2 R2 k2 hx => hp C d c2 hm (x1.trans R1.wf (x2.mono fun _ _ z => z.1)) (up R2) (k1.trans k2) hx
    | ok d γ2 =>
      rw [e2] at hp
      intro w c2 x2 R2 k2 q2
      cases d with
      | int k =>
        cases (show w = .int k from q2)
        simp only [Rs.bind_ok] at hp
        by_cases hz : -(2 ^ 63) ≤ k ∧ k < 2 ^ 63 ∧ l.length * k.toNat ≤ sizeLine
        · rw [if_pos hz] at hp
          obtain ⟨hM, ws, hV, hD⟩ := o
          have hV2 : c2.H pp = some (.lst ws) := x2.h pp _ hV (fun z => z.2.2 rfl) (fun _ z => by cases z)
          have hD2 : Dens X.K c2 l ws := Dens.ext R1.wf x2 hD
          refine ⟨pp, k, ws, rfl, rfl, hV2, hz.1, hz.2.1, by rw [hD2.length]; exact hz.2.2, fun q nq => ?_⟩
          have x3 : Ext Nop c2 (c2.add q (List.replicate k.toNat ws).flatten) := Ext.add nq
          refine hp (.ref q) (c2.add q _) ((x1.trans R1.wf (x2.mono fun _ _ z => z.1)).trans R2.wf x3.nop) (Rel.step (up R2) x3 (R2.wf.add nq)) (k1.trans k2) ⟨q, rfl, ?_, Own.add R2.wf nq (dens_flat_rep hD2 _)⟩
          exact (x1.trans R1.wf (x2.mono fun _ _ z => z.1)).noneS R2.wf nq
        · rw [if_neg hz] at hp; exact hp.elim
      | _ => exact hp.elim
/-! ### truth of a value -/
def tru : D → Option Bool
  | .non => some false
  | .bl b => some b
  | .int i => some (i != 0)
  | .lst l => some (!l.isEmpty)
  | .tup l => some (!l.isEmpty)
  | .str _ => none
  | .ob _ => none
def gTru (ga : Gm → Rs D) : Gm → Rs Bool := fun γ => (ga γ).bind fun d γ1 => ofO (tru d) γ1
@[simp] theorem e_gTru {γ : Gm} : gTru ga γ = (ga γ).bind fun d γ1 => ofO (tru d) γ1 := hide rfl
@[simp] theorem tru_bl {b : Bool} : tru (.bl b) = some b := hide rfl
@[simp] theorem tru_int {n : Int} : tru (.int n) = some (n != 0) := hide rfl
@[simp] theorem tru_lst {l : List D} : tru (.lst l) = some (!l.isEmpty) := hide rfl
@[simp] theorem tru_tup {l : List D} : tru (.tup l) = some (!l.isEmpty) := hide rfl
@[simp] theorem tru_non : tru .non = some false := hide rfl
theorem mt_tru (ha : MP X W a ga) (he : ∀ whole, isTrue a X.env whole = (do let v ← whole; standAt a.pos; holding [v] (truthy v)) := by intro _; rfl) : MT X W a (gTru ga) := by
  obtain ⟨ta, h1, s1⟩ := ha
  refine ⟨_, pt_truth h1 he, fun f S c σ γ Q R hp => s1.bind stab_vT R hp fun d γ1 v c1 _ x1 R1 k1 q1 h2 => ?_⟩
  cases e1 : tru d with
  | none => rw [e1] at h2; exact h2.elim
  | some k =>
    rw [e1] at h2
    refine ⟨k, ?_, h2 k c1 .refl R1 .refl rfl⟩
    cases d with
    | non => cases (show v = .non from q1); cases e1; exact (rfl : false = false)
    | bl b0 => cases (show v = .bl b0 from q1); cases e1; exact (rfl : k = k)
    | int i => cases (show v = .int i from q1); cases e1; exact (rfl : (i != 0) = (i != 0))
    | str x => cases e1
    | ob o => cases e1
    | lst l =>
      obtain ⟨pp, xs, rfl, r1, r2⟩ := q1
      cases e1
      refine .inl ⟨xs, r1.sq, ?_⟩
      have := r2.length
      cases xs <;> cases l <;> first | rfl | cases this
    | tup l =>
      obtain ⟨pp, xs, rfl, r1, r2⟩ := q1
      cases e1
      refine .inr (.inl ⟨xs, r1.sq, ?_⟩)
      have := r2.length
      cases xs <;> cases l <;> first | rfl | cases this
def gTruO (j : Nat) : Gm → Rs Bool := fun γ => (gOwn j γ).bind fun d γ1 => ofO (tru d) γ1
@[simp] theorem e_gTruO {γ : Gm} : gTruO j γ = (gOwn j γ).bind fun d γ1 => ofO (tru d) γ1 := hide rfl
theorem mt_truO (ho : PE X (.Name x p) (tVar j)) : MT X W (.Name x p) (gTruO j) := by
  refine ⟨_, pt_truth ho fun _ => rfl, fun f S c σ γ Q R hp => ?_⟩
  replace hp : Post X.K X.mg vT W f S c σ γ Q (gTruO j γ) := hp
  rw [e_gTruO] at hp
  rcases gOwn_cases j γ with e0 | ⟨l0, e0⟩
  · rw [e0] at hp; exact hp.elim
  rw [e0] at hp
  obtain ⟨s, l, e1, _, e5, _, e2⟩ := gOwn_ok e0
  cases e5
  obtain ⟨q, f1, _, vs, f2, f3⟩ := R.ownL e1 e2
  refine ⟨.ref q, f1, !l0.isEmpty, .inl ⟨vs, SqL.of f2, ?_⟩, hp (!l0.isEmpty) c .refl R .refl rfl⟩
  have := f3.length
  cases vs <;> cases l0 <;> first | rfl | cases this
/-! ### reversed -/
def gRevI (ga : Gm → Rs D) : Gm → Rs (List D) := fun γ => (ga γ).bind fun d γ1 => ofO ((itemsD d).map List.reverse) γ1
@[simp] theorem e_gRevI {γ : Gm} : gRevI ga γ = (ga γ).bind fun d γ1 => ofO ((itemsD d).map List.reverse) γ1 := hide rfl
theorem mi_rev (hg : Gl X "reversed") (hm : X.mg "reversed" = none) (ha : MP X W a ga) (hs : starEach [a] X.env = (false, eval a X.env) :: starEach [] X.env := by rfl) : MI X W tg (.Call (.Name "reversed" p) [a] [] pos) (gRevI ga) := by
  obtain ⟨ta, h1, s1⟩ := ha
  refine ⟨_, RT.pi_revA hg hm h1 hs, fun f S c σ γ Q R hp => s1.bind stab_vI R hp fun d γ1 v c1 _ x1 R1 k1 q1 h4 => ?_⟩
  cases d with
  | lst l =>
    have qa := q1
    obtain ⟨k, xs, rfl, q, r⟩ := q1
    refine ⟨k, xs, rfl, .inl ⟨q.sq, h4 _ c1 .refl R1 .refl fun c2 wf px => ?_⟩⟩
    obtain ⟨p', xs', e, q', r'⟩ := px _ _ qa
    cases e
    have hl : xs'.length = xs.length := by rw [r'.length, r.length]
    refine ⟨fun i d hi => ?_, by rw [List.length_reverse, ← r.length]; exact Nat.le_refl _⟩
    have hil : i < l.length := by
      have := (List.getElem?_eq_some_iff.mp hi).1
      rwa [List.length_reverse] at this
    rw [List.getElem?_reverse hil] at hi
    obtain ⟨v, hv, hd⟩ := r'.get hi
    have hlx : xs.length - 1 - i = l.length - 1 - i := by rw [r.length]
    refine ⟨⟨by rw [r.length]; exact hil, xs', v, q'.sq, by rw [hlx]; exact hv⟩, fun y H' hy => ?_⟩
    obtain ⟨rfl, hy⟩ := hy
    have e2 := hy xs' q'.sq
    rw [hlx, hv] at e2
    cases e2
    exact ⟨c2, rfl, .refl, wf, .inl hd⟩
  | tup l =>
    have qa := q1
    obtain ⟨k, xs, rfl, q, r⟩ := q1
    refine ⟨k, xs, rfl, .inr ⟨q.sq, h4 _ c1 .refl R1 .refl fun c2 wf px => ?_⟩⟩
    obtain ⟨p', xs', e, q', r'⟩ := px _ _ qa
    cases e
    refine ⟨fun i d hi => ?_, by rw [List.length_reverse, ← r.length]; exact Nat.le_refl _⟩
    have hil : i < l.length := by
      have := (List.getElem?_eq_some_iff.mp hi).1
      rwa [List.length_reverse] at this
    rw [List.getElem?_reverse hil] at hi
    obtain ⟨v, hv, hd⟩ := r'.get hi
    have hlx : xs.length - 1 - i = l.length - 1 - i := by rw [r.length]
    refine ⟨⟨by rw [r.length]; exact hil, xs', v, q'.sq, by rw [hlx]; exact hv⟩, fun y H' hy => ?_⟩
    obtain ⟨rfl, hy⟩ := hy
    have e2 := hy xs' q'.sq
    rw [hlx, hv] at e2
    cases e2
    exact ⟨c2, rfl, .refl, wf, .inl hd⟩
  | _ => exact h4.elim
/-! ### xs[::-1] of a list -/
def dRev : D → Option D
  | .lst l => some (.lst l.reverse)
  | _ => none
theorem dens_rev {K : PySem.W.Frag} {c : Cf} : ∀ {l : List D} {vs : List V}, Dens K c l vs → Dens K c l.reverse vs.reverse
  | [], _, h => by
    have e : _ = [] := h
    subst e; exact rfl
  | d :: l, _, h => by
    obtain ⟨y, r, e1, p, z⟩ := h
    subst e1
    simp only [List.reverse_cons]
    exact (dens_rev z).app (Dens.cons p Dens.nil)
theorem mp_rev {k : Nat} (ha : MP X W a ga) : MP X W (.Subscript a (.Slice none none (some (.UnaryOp .USub (.Constant (.int 1) k p1) p2)) p3) pos) (g1 dRev ga) := by
  obtain ⟨ta, h1, s1⟩ := ha
  refine ⟨_, pe_revL h1, ?_⟩
  refine sim1 (r := fun x H Q => ∃ a xs, x = .ref a ∧ SqL X.K H a xs ∧ ∀ p, H p = none → Q (.ref p) (upd H p (.lst xs.reverse))) (p := dRev) (fun c d z v Q wf e1 e2 e3 => ?_) s1
  cases d with
  | lst l =>
    cases e1
    obtain ⟨pp, xs, rfl, r1, r2⟩ := e2
    exact ⟨pp, xs, rfl, r1.sq, fun q n => e3 (.ref q) ⟨c.M, upd c.H q (.lst xs.reverse)⟩ (Ext.new n) (wf.new n) (Den.lst wf n (dens_rev r2))⟩
  | _ => cases e1
/-! ### abs -/
def dAbs : List D → Option D
  | [.int i] => some (.int (if i < 0 then -i else i))
  | _ => none
theorem mp_abs (hg : Gl X "abs") (hm : X.mg "abs" = none) (ha : MP X W a ga) (h3 : starEach [a] X.env = (false, eval a X.env) :: starEach [] X.env := by rfl) : MP X W (.Call (.Name "abs" p) [a] [] pos) (gB dAbs (gCons ga gNil)) := by
  refine mp_callB call_abs (fun c l z vs Q wf h q k => ?_) hg hm (by decide +kernel) (md_cons ha md_nil h3) (h3 := h3)
  unfold dAbs at h
  split at h
  · obtain ⟨v, rfl, p1⟩ := dens1 q
    cases h
    cases (show v = .int _ from p1)
    exact ⟨_, rfl, k _ c .refl wf rfl⟩
  · cases h
/-! ### xs[i], ys[j] = a, b -/
def hPut2 (i j : Nat) (ga gb gc gd : Gm → Rs D) : Gm → Out := fun γ => (ga γ).out fun u γ1 => (gb γ1).out fun w γ2 => (gOwn i γ2).out fun _ γ3 => (gc γ3).out fun k γ4 => match k with
  | .int n => (match putO i (fun l => (ixN l.length n).map fun m => l.set m u) γ4 with
    | some γ5 => (gOwn j γ5).out fun _ γ6 => (gd γ6).out fun k2 γ7 => (match k2 with
      | .int n2 => (match putO j (fun l => (ixN l.length n2).map fun m => l.set m w) γ7 with
        | some γ8 => .nx γ8
        | none => .no)
      | _ => .no)
    | none => .no)
  | _ => .no
@[simp] theorem e_hPut2 {i j : Nat} {γ : Gm} : hPut2 i j ga gb gc gd γ = (ga γ).out fun u γ1 => (gb γ1).out fun w γ2 => (gOwn i γ2).out fun _ γ3 => (gc γ3).out fun k γ4 => match k with
  | .int n => (match putO i (fun l => (ixN l.length n).map fun m => l.set m u) γ4 with
    | some γ5 => (gOwn j γ5).out fun _ γ6 => (gd γ6).out fun k2 γ7 => (match k2 with
      | .int n2 => (match putO j (fun l => (ixN l.length n2).map fun m => l.set m w) γ7 with
        | some γ8 => .nx γ8
        | none => .no)
      | _ => .no)
    | none => .no)
  | _ => .no := hide rfl
theorem ms_put2 {a1 a2 v1 v2 : Expr} {pa pb pt pu : Pos} {kt ku : _} (ho : PE X (.Name x p) (tVar i)) (ho2 : PE X (.Name y p1) (tVar j)) (hc : MP X W a1 gc) (hd : MP X W a2 gd) (ha : MP X W v1 ga) (hb : MP X W v2 gb) (hcalm : X.calm = true := by rfl)
    (hsa : ∀ v, assign (.Subscript (.Name x p) a1 pa) X.env v = (do
      let ov ← holding [v] (eval (.Name x p) X.env)
      let iv ← holding [v, ov] (eval a1 X.env)
      standAt pa
      holding [v, ov, iv] (setItem ov iv v)
      release [v, ov, iv] []) := by intro _; rfl)
    (hsb : ∀ v, assign (.Subscript (.Name y p1) a2 pb) X.env v = (do
      let ov ← holding [v] (eval (.Name y p1) X.env)
      let iv ← holding [v, ov] (eval a2 X.env)
      standAt pb
      holding [v, ov, iv] (setItem ov iv v)
      release [v, ov, iv] []) := by intro _; rfl)
    (h3 : starEach [v1, v2] X.env = (false, eval v1 X.env) :: starEach [v2] X.env := by rfl) (h4 : starEach [v2] X.env = (false, eval v2 X.env) :: starEach [] X.env := by rfl)
    (hn : (assignEach [.Subscript (.Name x p) a1 pa, .Subscript (.Name y p1) a2 pb] X.env).length = 2 := by rfl) (hst : (assignEach [.Subscript (.Name x p) a1 pa, .Subscript (.Name y p1) a2 pb] X.env).findIdx? (·.1) = none := by rfl)
    (hs : swapsWithSole [.Tuple [.Subscript (.Name x p) a1 pa, .Subscript (.Name y p1) a2 pb] kt pt] (.Tuple [v1, v2] ku pu) pos.line X.env = pure false := by rfl) (hw : swappedStores [.Tuple [.Subscript (.Name x p) a1 pa, .Subscript (.Name y p1) a2 pb] kt pt] (.Tuple [v1, v2] ku pu) X.env = pure none := by rfl)
    (h1 : (assignEach [.Tuple [.Subscript (.Name x p) a1 pa, .Subscript (.Name y p1) a2 pb] kt pt] X.env).map (·.2) = [assign (.Tuple [.Subscript (.Name x p) a1 pa, .Subscript (.Name y p1) a2 pb] kt pt) X.env] := by rfl) :
    MS X W (.Assign [.Tuple [.Subscript (.Name x p) a1 pa, .Subscript (.Name y p1) a2 pb] kt pt] (.Tuple [v1, v2] ku pu) pos) (hPut2 i j ga gb gc gd) := by
  obtain ⟨ta, t1, s1⟩ := ha
  obtain ⟨tb, t2, s2⟩ := hb
  obtain ⟨tc, t3, s3⟩ := hc
  obtain ⟨td, t4, s4⟩ := hd
  refine ⟨_, ps_asg (pe_tup (pa_cons t1 (pa_cons t2 pa_nil h4) h3)) (pg_tup hcalm (pgs_cons (pg_sub ho t3 set_list hsa) (pgs_cons (pg_sub ho2 t4 set_list hsb) pgs_nil)) hn hst) hs hw h1, fun f c σ γ T R hp => ?_⟩
  replace hp : SPost X.K X.mg W f c T (hPut2 i j ga gb gc gd γ) := hp
  rw [e_hPut2] at hp
  refine s1.out R hp fun u γ1 v c1 _ x1 R1 k1 q1 h5 => s2.out R1 h5 fun u2 γ2 w c2 _ x2 R2 k2 q2 h6 => ⟨by show (2 : Nat) ≤ sizeLine; decide, fun pp n => ⟨pp, [v, w], rfl, .inl (.inl upd_same), rfl, ?_⟩⟩
  have xn : Ext Nop c2 ⟨c2.M, upd c2.H pp (.tup [v, w])⟩ := Ext.new n
  have Rn := R2.step xn (R2.wf.new n)
  have q1n := (q1.ext R1.wf x2).ext R2.wf xn
  have q2n := q2.ext R2.wf xn
  have h7 := SPost.pre (xn.p R2.wf) h6
  rcases gOwn_cases i γ2 with e0 | ⟨l0, e0⟩
  · rw [e0] at h7; exact h7.elim
  rw [e0] at h7
  obtain ⟨s, l, e1, _, _, _, e2⟩ := gOwn_ok e0
  obtain ⟨q, f1, _⟩ := Rn.ownL e1 e2
  refine ⟨v, [w], rfl, .ref q, f1, s3.out Rn h7 fun k γ4 z c4 _ x4 R4 k4 q4 h8 => ?_⟩
  cases k with
  | int n1 =>
    cases (show z = .int n1 from q4)
    simp only at h8
    cases ep : putO i (fun l => (ixN l.length n1).map fun m => l.set m u) γ4 with
    | none => rw [ep] at h8; exact h8.elim
    | some γ5 =>
      rw [ep] at h8
      obtain ⟨s', l', m, g1, g2, g3, g4, rfl⟩ := putO_some ep
      obtain ⟨q', f3, _, vs, f4, f5⟩ := R4.ownL g1 g3
      rw [f1] at f3
      cases f3
      obtain ⟨m1, g5, rfl⟩ := map_some g4
      obtain ⟨y1, y2, y3⟩ := R4.updO g1 g2 f1 (Dens.set (Den.ext Rn.wf x4 q1n) m1 f5)
      refine ⟨q, vs, n1, m1, rfl, rfl, f4, by rw [f5.length]; exact g5, w, [], rfl, ?_⟩
      have q2m := (Den.ext Rn.wf x4 q2n).ext R4.wf y1
      simp only at h8
      have h9 := SPost.pre (y1.p R4.wf) h8
      rcases gOwn_cases j (γ4.set i (s'.put (l'.set m1 u))) with e3 | ⟨l3, e3⟩
      · rw [e3] at h9; exact h9.elim
      rw [e3] at h9
      obtain ⟨s3', l3', e4, _, _, _, e5⟩ := gOwn_ok e3
      obtain ⟨r, f6, _⟩ := y2.ownL e4 e5
      refine ⟨.ref r, f6, s4.out y2 h9 fun k2 γ7 z2 c7 _ x7 R7 k7 q7 h10 => ?_⟩
      cases k2 with
      | int n2 =>
        cases (show z2 = .int n2 from q7)
        simp only at h10
        cases ep2 : putO j (fun l => (ixN l.length n2).map fun m => l.set m u2) γ7 with
        | none => rw [ep2] at h10; exact h10.elim
        | some γ8 =>
          rw [ep2] at h10
          obtain ⟨s4', l4', m4, i1, i2, i3, i4, rfl⟩ := putO_some ep2
          obtain ⟨r', f7, _, vs2, f8, f9⟩ := R7.ownL i1 i3
          rw [f6] at f7
          cases f7
          obtain ⟨m2, i5, rfl⟩ := map_some i4
          obtain ⟨z1, z2, z3⟩ := R7.updO i1 i2 f6 (Dens.set (Den.ext y2.wf x7 q2m) m2 f9)
          exact ⟨r, vs2, n2, m2, rfl, rfl, f8, by rw [f9.length]; exact i5, rfl, h10 σ _ (z1.p R7.wf) z2⟩
      | _ => exact h10.elim
  | _ => exact h8.elim
/-! ### x is True -/
def dIsT : D → Option D
  | .bl true => some (.bl true)
  | _ => some (.bl false)
end
end Fv

/-! ### evaluating, second part -/
namespace Fv
variable [LC : LamC]
open PySem L2
@[simp] theorem wipe_nil {γ : Gm} : wipeG γ [] = γ := hide rfl
@[simp] theorem wipe_cons {γ : Gm} {v : Nat} {vs : List Nat} : wipeG γ (v :: vs) = (wipeG γ vs).set v .un := hide rfl
@[simp] theorem rest_nil {γ1 γ : Gm} : restG γ1 γ [] = γ := hide rfl
@[simp] theorem rest_cons {γ1 γ : Gm} {v : Nat} {vs : List Nat} : restG γ1 γ (v :: vs) = (restG γ1 γ vs).set v (γ1.getD v .un) := hide rfl
end Fv
namespace Fv
variable [LC : LamC]
open PySem L2
@[simp] theorem d_mulXI {i j : Int} (hi : i.natAbs < 2 ^ 64) (hj : j.natAbs < 2 ^ 64) : dMulX (.int i) (.int j) = some (.int (i * j)) := by
  have : dMulX (.int i) (.int j) = dMul (.int i) (.int j) := hide rfl
  rw [this]; exact d_mul hi hj
/-- a def's result, by its body -/
theorem run_rt {n : Nat} {h : Gm → Out} {ps qs : List SV} {d : D} {g : Gm} (e : h (ps ++ List.replicate (n - ps.length) .un) = .rt d g) (q : finR ps g = some qs) : runN n h ps = .ok d qs := runN_rt e q
theorem run_nx {n : Nat} {h : Gm → Out} {ps qs : List SV} {g : Gm} (e : h (ps ++ List.replicate (n - ps.length) .un) = .nx g) (q : finR ps g = some qs) : runN n h ps = .ok .non qs := by
  unfold runN
  rw [e]
  show (match finR ps g with | some qs => Rs.ok D.non qs | none => .no) = _
  rw [q]
theorem seq_nx {a b : Gm → Out} {γ γ' : Gm} (h : a γ = .nx γ') : hSeq a b γ = b γ' := by
  show (a γ).bind b = b γ'
  rw [h]; rfl
theorem seq_rt {a b : Gm → Out} {γ g : Gm} {d : D} (h : a γ = .rt d g) : hSeq a b γ = .rt d g := by
  show (a γ).bind b = _
  rw [h]; rfl
/-- a comprehension by its list -/
theorem lc_of {gs : Gm → Rs (List D)} {k : Kt} {gt : Gm → Rs Bool} {ge : Gm → Rs D} {vs : List Nat} {l ys : List D} {γ γ1 γ2 γ3 : Gm} (h1 : gs γ = .ok l γ1) (hl : l.length ≤ sizeLine) (hv : vs.all (fun i => !ownAt γ1 i) = true) (h2 : lcL k gt ge vs l (wipeG γ1 vs) = .ok ys γ2) (h3 : restG γ1 γ2 vs = γ3) : gLc gs k gt ge vs γ = .ok ys γ3 := by
  rw [← h3]
  exact e_gLc h1 hl hv h2
theorem lc_map {α : Type} {k : Kt} {γ : Gm} {ge : Gm → Rs D} {vs : List Nat} {xs : List α} {D0 f : α → D} (hs : ∀ x, x ∈ xs → ∃ γ1, k (D0 x) γ = some γ1 ∧ ge γ1 = .ok (f x) γ1 ∧ wipeG γ1 vs = γ) : lcL k gYes ge vs (xs.map D0) γ = .ok (xs.map f) γ :=
  lcL_of fun x hx => let ⟨γ1, a, b, c⟩ := hs x hx; ⟨γ1, a, rfl, b, c⟩
theorem lc_filter {α : Type} {k : Kt} {γ : Gm} {gt : Gm → Rs Bool} {ge : Gm → Rs D} {vs : List Nat} {D0 f : α → D} {p : α → Bool} : ∀ {xs : List α}, (∀ x, x ∈ xs → ∃ γ1, k (D0 x) γ = some γ1 ∧ gt γ1 = .ok (p x) γ1 ∧ (p x = true → ge γ1 = .ok (f x) γ1) ∧ wipeG γ1 vs = γ) → lcL k gt ge vs (xs.map D0) γ = .ok ((xs.filter p).map f) γ
  | [], _ => rfl
  | x :: xs, hs => by
    obtain ⟨γ1, e1, e2, e3, e4⟩ := hs x List.mem_cons_self
    have ih := lc_filter (xs := xs) fun y hy => hs y (List.mem_cons_of_mem _ hy)
    cases hp : p x with
    | true => simp [lcL, e1, e2, e3 hp, e4, ih, hp, List.filter]
    | false => simp [lcL, e1, e2, e4, ih, hp, List.filter]
/-- a comprehension whose items draw from a list of the frame: the state goes on -/
theorem lc_run {α : Type} {k : Kt} {ge : Gm → Rs D} {vs : List Nat} {D0 : α → D} (I : Gm → Prop) (P : D → Prop) : ∀ {xs : List α} {γ : Gm}, (∀ x γ, x ∈ xs → I γ → ∃ γ1 d γ2, k (D0 x) γ = some γ1 ∧ ge γ1 = .ok d γ2 ∧ P d ∧ I (wipeG γ2 vs)) → I γ → ∃ ys γ', lcL k gYes ge vs (xs.map D0) γ = .ok ys γ' ∧ I γ' ∧ ys.length = xs.length ∧ ∀ d, d ∈ ys → P d
  | [], γ, _, h0 => ⟨[], γ, rfl, h0, rfl, fun d hd => nomatch hd⟩
  | x :: xs, γ, hs, h0 => by
    obtain ⟨γ1, d, γ2, e1, e2, hp, hi⟩ := hs x γ List.mem_cons_self h0
    obtain ⟨ys, γ', e3, hi', hl, hall⟩ := lc_run I P (xs := xs) (fun y γ hy => hs y γ (List.mem_cons_of_mem _ hy)) hi
    refine ⟨d :: ys, γ', ?_, hi', by simp [hl], fun d' hd' => ?_⟩
    · simp [lcL, e1, e2, e3]
    · rcases List.mem_cons.mp hd' with rfl | h
      · exact hp
      · exact hall d' h
/-- a for that only looks: every item passes, or the first one that does not ends it -/
theorem for_all {α : Type} {k : Kt} {h : Gm → Out} {γ : Gm} {D0 : α → D} {p : α → Bool} {r : D} {g : Gm} : ∀ {xs : List α}, (∀ x, x ∈ xs → ∃ γ1, k (D0 x) γ = some γ1 ∧ h γ1 = if p x then .nx γ else .rt r g) → forL k h (xs.map D0) γ = if xs.all p then .nx γ else .rt r g
  | [], _ => rfl
  | x :: xs, hs => by
    obtain ⟨γ1, e1, e2⟩ := hs x List.mem_cons_self
    have ih := for_all (xs := xs) fun y hy => hs y (List.mem_cons_of_mem _ hy)
    cases hp : p x with
    | true => simp [forL, e1, e2, ih, hp]
    | false => simp [forL, e1, e2, hp]
theorem for_nx {α : Type} {k : Kt} {h : Gm → Out} {γ : Gm} {D0 : α → D} : ∀ {xs : List α}, (∀ x, x ∈ xs → ∃ γ1, k (D0 x) γ = some γ1 ∧ h γ1 = .nx γ) → forL k h (xs.map D0) γ = .nx γ
  | [], _ => rfl
  | x :: xs, hs => by
    obtain ⟨γ1, e1, e2⟩ := hs x List.mem_cons_self
    have ih := for_nx (xs := xs) fun y hy => hs y (List.mem_cons_of_mem _ hy)
    simp [forL, e1, e2, ih]
/-- a for that carries a value -/
theorem for_fold {α β : Type} {k : Kt} {h : Gm → Out} {D0 : α → D} {G : β → Gm} {st : β → α → β} (ok : β → Prop) : ∀ {xs : List α} {b : β}, ok b → (∀ x b, x ∈ xs → ok b → ok (st b x) ∧ ∃ γ1, k (D0 x) (G b) = some γ1 ∧ h γ1 = .nx (G (st b x))) → forL k h (xs.map D0) (G b) = .nx (G (xs.foldl st b)) ∧ ok (xs.foldl st b)
  | [], b, h0, _ => ⟨rfl, h0⟩
  | x :: xs, b, h0, hs => by
    obtain ⟨h1, γ1, e1, e2⟩ := hs x b List.mem_cons_self h0
    obtain ⟨ih, h2⟩ := for_fold (xs := xs) ok h1 fun y b hy => hs y b (List.mem_cons_of_mem _ hy)
    refine ⟨?_, h2⟩
    simp [forL, e1, e2, ih]
/-- a for by a relation, all turns run through -/
theorem for_rel {α : Type} {k : Kt} {h : Gm → Out} {D0 : α → D} (I : List α → Gm → Prop) : ∀ {xs : List α} {γ : Gm}, I xs γ → (∀ x r γ, I (x :: r) γ → ∃ γ1 γ2, k (D0 x) γ = some γ1 ∧ (h γ1 = .nx γ2 ∨ h γ1 = .ct γ2) ∧ I r γ2) → ∃ γ', forL k h (xs.map D0) γ = .nx γ' ∧ I [] γ'
  | [], γ, h0, _ => ⟨γ, rfl, h0⟩
  | x :: xs, γ, h0, hs => by
    obtain ⟨γ1, γ2, e1, e2, h1⟩ := hs x xs γ h0
    obtain ⟨γ', e3, h2⟩ := for_rel I (xs := xs) h1 hs
    refine ⟨γ', ?_, h2⟩
    rcases e2 with e2 | e2 <;> simp [forL, e1, e2, e3]
theorem rangeD_map {lo : Int} {n : Nat} : rangeD lo n = (List.range n).map fun i => .int (lo + (i : Nat)) := rfl
theorem enumD_map {α : Type} {f : α → D} : ∀ {l : List α} {i : Nat}, enumD i (l.map f) = (l.zipIdx i).map fun p => .tup [.int (p.2 : Nat), f p.1]
  | [], _ => rfl
  | x :: l, i => by simp [enumD, enumD_map, List.zipIdx_cons]
theorem zipD_map {α β : Type} {f : α → D} {g : β → D} {l : List α} {m : List β} : zipD (l.map f) (m.map g) = (l.zip m).map fun p => .tup [f p.1, g p.2] := by
  unfold zipD
  rw [List.zip_map, List.map_map]
  rfl
end Fv

/-! ### min, max, sum over lists and tuples of alike data, also with a default; sorted of them -/
namespace Fv
variable [LC : LamC]
open PySem L2
def alikeD (d e : D) : Bool := PySem.W.alike (toP d) (toP e)
def ltD (d e : D) : Bool := PySem.W.dataLt (toP d) (toP e)
def alikesD (l : List D) : Bool := l.all fun d => l.all fun e => alikeD d e
def notNon : D → Bool
  | .non => false
  | _ => true
def minDD (x : D) (xs : List D) : D := xs.foldl (fun a y => if ltD y a then y else a) x
def maxDD (x : D) (xs : List D) : D := xs.foldl (fun a y => if ltD a y then y else a) x
theorem toP_min (x : D) (xs : List D) : PySem.W.minD (toP x) (toPs xs) = toP (minDD x xs) := by
  unfold PySem.W.minD minDD
  rw [dens_toPs, List.foldl_map]
  have : ∀ (l : List D) (a : D), List.foldl (fun a y => if PySem.W.dataLt (toP y) a = true then toP y else a) (toP a) l = toP (List.foldl (fun a y => if ltD y a = true then y else a) a l) := by
    intro l
    induction l with
    | nil => intro a; rfl
    | cons y l ih =>
      intro a
      simp only [List.foldl_cons]
      have e : (if PySem.W.dataLt (toP y) (toP a) = true then toP y else toP a) = toP (if ltD y a = true then y else a) := by
        show (if ltD y a = true then toP y else toP a) = _
        split <;> rfl
      rw [e, ih]
  exact this xs x
theorem toP_max (x : D) (xs : List D) : PySem.W.maxD (toP x) (toPs xs) = toP (maxDD x xs) := by
  unfold PySem.W.maxD maxDD
  rw [dens_toPs, List.foldl_map]
  have : ∀ (l : List D) (a : D), List.foldl (fun a y => if PySem.W.dataLt a (toP y) = true then toP y else a) (toP a) l = toP (List.foldl (fun a y => if ltD a y = true then y else a) a l) := by
    intro l
    induction l with
    | nil => intro a; rfl
    | cons y l ih =>
      intro a
      simp only [List.foldl_cons]
      have e : (if PySem.W.dataLt (toP a) (toP y) = true then toP y else toP a) = toP (if ltD a y = true then y else a) := by
        show (if ltD a y = true then toP y else toP a) = _
        split <;> rfl
      rw [e, ih]
  exact this xs x
mutual
theorem toP_inj : ∀ d e : D, toP d = toP e → d = e
  | .lst l, e, h => by
    cases e with
    | lst m => have := toPs_inj l m (by simpa [toP] using h); rw [this]
    | ob o => cases o <;> simp [toP] at h
    | _ => simp [toP] at h
  | .tup l, e, h => by
    cases e with
    | tup m => have := toPs_inj l m (by simpa [toP] using h); rw [this]
    | ob o => cases o <;> simp [toP] at h
    | _ => simp [toP] at h
  | .non, e, h => by
    cases e with
    | ob o => cases o <;> simp [toP] at h
    | _ => simp_all [toP]
  | .bl b, e, h => by
    cases e with
    | ob o => cases o <;> simp [toP] at h
    | _ => simp_all [toP]
  | .int b, e, h => by
    cases e with
    | ob o => cases o <;> simp [toP] at h
    | _ => simp_all [toP]
  | .str b, e, h => by
    cases e with
    | ob o => cases o <;> simp [toP] at h
    | _ => simp_all [toP]
  | .ob o, e, h => by
    cases e with
    | ob o' =>
      cases o with
      | emp => cases o' <;> simp_all [toP]
      | rng _ _ => cases o' <;> simp_all [toP]
      | dct l =>
        cases o' with
        | dct l' =>
          simp only [toP, PyData.dict.injEq, List.cons.injEq, true_and] at h
          rw [kvP_inj l l' h]
        | _ => simp_all [toP]
      | exn a d fs =>
        cases o' with
        | emp => simp_all [toP]
        | rng _ _ => simp_all [toP]
        | dct _ => simp_all [toP]
        | exn a' d' fs' =>
          cases d <;> cases d' <;> (rcases fs with _ | ⟨f, _ | i⟩) <;> (rcases fs' with _ | ⟨f', _ | i'⟩) <;> simp_all [toP] <;> (have : ∀ x y : Nat, (x : Int) = (y : Int) → x = y := fun x y h => Int.ofNat.inj h) <;> first | exact this _ _ h.1 | exact this _ _ h | exact ⟨this _ _ h.1, this _ _ h.2⟩ | exact ⟨this _ _ h.1, this _ _ h.2.1⟩
    | _ => cases o <;> simp [toP] at h
theorem toPs_inj : ∀ l m : List D, toPs l = toPs m → l = m
  | [], [], _ => rfl
  | [], _ :: _, h => by simp [toPs] at h
  | _ :: _, [], h => by simp [toPs] at h
  | x :: l, y :: m, h => by
    simp only [toPs, List.cons.injEq] at h
    rw [toP_inj x y h.1, toPs_inj l m h.2]
end
theorem alikes_ok {l : List D} (h : alikesD l = true) (n : l.all notNon = true) : PySem.W.AlikeAll (toPs l) := by
  rw [dens_toPs]
  refine ⟨fun x hx y hy => ?_, fun x hx => ?_⟩
  · obtain ⟨a, ha, rfl⟩ := List.mem_map.mp hx
    obtain ⟨b, hb, rfl⟩ := List.mem_map.mp hy
    exact List.all_eq_true.mp (List.all_eq_true.mp h a ha) b hb
  · obtain ⟨a, ha, rfl⟩ := List.mem_map.mp hx
    have := List.all_eq_true.mp n a ha
    intro z
    cases a with
    | ob o => cases o <;> simp [toP] at z
    | non => simp [notNon] at this
    | _ => simp [toP] at z
def rBest (K : PySem.W.Frag) (best : D → List D → D) : List V → Hp → VK → Prop := fun vs H Q => ∃ (p : Addr) (xs : List V) (d : D) (ds : List D), vs = [V.ref p] ∧ (SqL K H p xs ∨ SqT K H p xs) ∧ DpAll K H xs (toPs (d :: ds)) ∧ alikesD (d :: ds) = true ∧ (d :: ds).all notNon = true ∧ gdss (d :: ds) = true ∧ deps (d :: ds) ≤ 64 ∧
  ∀ (i : Nat) (v : V), xs[i]? = some v → (d :: ds)[i]? = some (best d ds) → Q v H
theorem toPs_get {l : List D} {i : Nat} {q : PyData} (h : (toPs l)[i]? = some q) : ∃ d, l[i]? = some d ∧ toP d = q := by
  rw [dens_toPs, List.getElem?_map] at h
  exact map_some h
theorem gdss_mem {l : List D} (h : gdss l = true) {d : D} (hd : d ∈ l) : gds d = true := by
  induction l with
  | nil => cases hd
  | cons x l ih =>
    have h' : gds x = true ∧ gdss l = true := by simpa [gdss] using h
    rcases List.mem_cons.mp hd with rfl | hd
    · exact h'.1
    · exact ih h'.2 hd
theorem best_fin {X : Cx} {pn : List (Addr × Obj)} {s : Shared} {st : St} {hh : Hp} {its : List Value} {xs : List V} {l : List D} {b : D} (inv : L2.Inv X pn st hh s) (rv : Vals xs its) (hD : DpAll X.K hh xs (toPs l)) (hg : gdss l = true) {i : Nat} {v : Value} {h' : Heap} {bs : List Addr} (hv : its.toArray[i]? = some v) (hr : Reads h' v (toP b) bs) (hk : ∀ b o, s.heap.get? b = some o → h'.get? b = some o) :
    ∃ z, xs[i]? = some z ∧ RelV z v ∧ l[i]? = some b := by
  have hv' : its[i]? = some v := by simpa using hv
  obtain ⟨z, hz, rz⟩ : ∃ z, xs[i]? = some z ∧ RelV z v := by
    have hlen := rv.length
    have hi : i < its.length := (List.getElem?_eq_some_iff.mp hv').1
    have hx : xs[i]? = some xs[i] := List.getElem?_eq_getElem (by omega)
    obtain ⟨w, hw, rw'⟩ := rv.get hx
    rw [hv'] at hw
    cases hw
    exact ⟨_, hx, rw'⟩
  refine ⟨z, hz, rz, ?_⟩
  obtain ⟨q, hq, hd⟩ : ∃ q, (toPs l)[i]? = some q ∧ Dp X.K hh z q := DpAll.at hD hz
  obtain ⟨d, e1, e2⟩ := toPs_get hq
  obtain ⟨as, r⟩ := Dp.reads inv q z v hd rz
  have r' : Reads h' v q as := PyProof.Rows.Reads.keeps hk r
  have e3 : q = toP b := (Reads.unique r' (toP b) bs hr).1
  rw [e1, toP_inj d b (e2.trans e3)]
where
  DpAll.at {K : PySem.W.Frag} {H : Hp} : ∀ {xs : List V} {qs : List PyData} {i : Nat} {z : V}, DpAll K H xs qs → xs[i]? = some z → ∃ q, qs[i]? = some q ∧ Dp K H z q
    | [], _, _, _, h, e => by simp at e
    | x :: xs, _, i, z, h, e => by
      cases h with
      | cons p q =>
        cases i with
        | zero => have : x = z := by simpa using e
                  subst this; exact ⟨_, rfl, p⟩
        | succ i => simpa using DpAll.at q (by simpa using e)
theorem cr_minB {X : Cx} (hc : X.calm = true) (hu : X.A.units + 66 < cLine) : CallR X (.builtin "min") (rBest X.K minDD) := by
  intro pn s st hh vs us Q inv rv hw
  obtain ⟨p, xs, d, ds, rfl, hs, hD, ha, hn, hg, hd, q⟩ := hw
  rw [Vals.ref1 rv]
  have hal := alikes_ok ha hn
  have hdep : X.A.units + 1 + PyData.depthAll (toP d :: toPs ds) < cLine := by
    have : PyData.depthAll (toPs (d :: ds)) = deps (d :: ds) := deps_toP _
    have e : PyData.depthAll (toP d :: toPs ds) = deps (d :: ds) := this
    omega
  rcases hs with hs | hs
  · obtain ⟨its, r, hl, _⟩ := inv.list hs
    obtain ⟨as, hr⟩ := Dp.readsAll inv (toPs (d :: ds)) xs its hD r
    refine PySem.W.min_list_data (inv.ok.hd hc) hl.isList (x := toP d) (xs := toPs ds) hr hal hdep fun i v h' tk bs hv hrd hk => ?_
    rw [toP_min] at hrd
    obtain ⟨z, e1, rz, e2⟩ := best_fin inv r hD hg hv hrd hk
    exact ⟨z, hh, inv.kept hk, rz, q i z e1 e2⟩
  · obtain ⟨its, r, hl, _⟩ := inv.tuple hs
    obtain ⟨as, hr⟩ := Dp.readsAll inv (toPs (d :: ds)) xs its hD r
    refine PySem.W.min_tuple_data (inv.ok.hd hc) (show s.heap.IsTuple p its.toArray from hl) (x := toP d) (xs := toPs ds) hr hal hdep fun i v h' tk bs hv hrd hk => ?_
    rw [toP_min] at hrd
    obtain ⟨z, e1, rz, e2⟩ := best_fin inv r hD hg hv hrd hk
    exact ⟨z, hh, inv.kept hk, rz, q i z e1 e2⟩
theorem cr_maxB {X : Cx} (hc : X.calm = true) (hu : X.A.units + 66 < cLine) : CallR X (.builtin "max") (rBest X.K maxDD) := by
  intro pn s st hh vs us Q inv rv hw
  obtain ⟨p, xs, d, ds, rfl, hs, hD, ha, hn, hg, hd, q⟩ := hw
  rw [Vals.ref1 rv]
  have hal := alikes_ok ha hn
  have hdep : X.A.units + 1 + PyData.depthAll (toP d :: toPs ds) < cLine := by
    have : PyData.depthAll (toPs (d :: ds)) = deps (d :: ds) := deps_toP _
    have e : PyData.depthAll (toP d :: toPs ds) = deps (d :: ds) := this
    omega
  rcases hs with hs | hs
  · obtain ⟨its, r, hl, _⟩ := inv.list hs
    obtain ⟨as, hr⟩ := Dp.readsAll inv (toPs (d :: ds)) xs its hD r
    refine PySem.W.max_list_data (inv.ok.hd hc) hl.isList (x := toP d) (xs := toPs ds) hr hal hdep fun i v h' tk bs hv hrd hk => ?_
    rw [toP_max] at hrd
    obtain ⟨z, e1, rz, e2⟩ := best_fin inv r hD hg hv hrd hk
    exact ⟨z, hh, inv.kept hk, rz, q i z e1 e2⟩
  · obtain ⟨its, r, hl, _⟩ := inv.tuple hs
    obtain ⟨as, hr⟩ := Dp.readsAll inv (toPs (d :: ds)) xs its hD r
    refine PySem.W.max_tuple_data (inv.ok.hd hc) (show s.heap.IsTuple p its.toArray from hl) (x := toP d) (xs := toPs ds) hr hal hdep fun i v h' tk bs hv hrd hk => ?_
    rw [toP_max] at hrd
    obtain ⟨z, e1, rz, e2⟩ := best_fin inv r hD hg hv hrd hk
    exact ⟨z, hh, inv.kept hk, rz, q i z e1 e2⟩
end Fv
namespace Fv
variable [LC : LamC]
open PySem L2
section
variable {X : Cx} {W : WX} {pos p p1 p2 : Pos} {a b e : Expr} {es : List Expr} {ga gb : Gm → Rs D} {gs : Gm → Rs (List D)}
def dBest (best : D → List D → D) : List D → Option D
  | [d] => match itemsD d with
    | some (x :: xs) => if alikesD (x :: xs) = true ∧ (x :: xs).all notNon = true ∧ gdss (x :: xs) = true ∧ deps (x :: xs) ≤ 64 then some (best x xs) else none
    | _ => none
  | _ => none
theorem best_mem_min (x : D) (xs : List D) : minDD x xs ∈ x :: xs := by
  unfold minDD
  have : ∀ (l : List D) (a : D), List.foldl (fun a y => if ltD y a = true then y else a) a l ∈ a :: l := by
    intro l
    induction l with
    | nil => intro a; exact List.mem_cons_self
    | cons y l ih =>
      intro a
      simp only [List.foldl_cons]
      rcases List.mem_cons.mp (ih (if ltD y a = true then y else a)) with h | h
      · rw [h]; split
        · exact List.mem_cons_of_mem _ List.mem_cons_self
        · exact List.mem_cons_self
      · exact List.mem_cons_of_mem _ (List.mem_cons_of_mem _ h)
  exact this xs x
theorem best_mem_max (x : D) (xs : List D) : maxDD x xs ∈ x :: xs := by
  unfold maxDD
  have : ∀ (l : List D) (a : D), List.foldl (fun a y => if ltD a y = true then y else a) a l ∈ a :: l := by
    intro l
    induction l with
    | nil => intro a; exact List.mem_cons_self
    | cons y l ih =>
      intro a
      simp only [List.foldl_cons]
      rcases List.mem_cons.mp (ih (if ltD a y = true then y else a)) with h | h
      · rw [h]; split
        · exact List.mem_cons_of_mem _ List.mem_cons_self
        · exact List.mem_cons_self
      · exact List.mem_cons_of_mem _ (List.mem_cons_of_mem _ h)
  exact this xs x
theorem best_meets {K : PySem.W.Frag} {best : D → List D → D} : MeetC K (rBest K best) (dBest best) := by
  intro c l z vs Q wf h q k
  unfold dBest at h
  split at h
  · rename_i d
    obtain ⟨v, rfl, p1⟩ := dens1 q
    split at h
    · rename_i x xs ei
      obtain ⟨⟨h1, h2, h3, h4⟩, h5⟩ := ite_of h
      subst h5
      have fin : ∀ (pp : Addr) (ws : List V), (SqL K c.H pp ws ∨ SqT K c.H pp ws) → Dens K c (x :: xs) ws → rBest K best [V.ref pp] c.H Q := fun pp ws hs hd =>
        ⟨pp, ws, x, xs, rfl, hs, dens_dp _ _ h3 hd, h1, h2, h3, h4, fun i w e1 e2 => by
          obtain ⟨w', e3, e4⟩ := hd.get e2
          rw [e1] at e3
          cases e3
          exact k w c .refl wf e4⟩
      cases d with
      | lst l' =>
        cases ei
        obtain ⟨pp, ws, rfl, r1, r2⟩ := p1
        exact fin pp ws (.inl r1.sq) r2
      | tup l' =>
        cases ei
        obtain ⟨pp, ws, rfl, r1, r2⟩ := p1
        exact fin pp ws (.inr r1.sq) r2
      | _ => cases ei
    · cases h
  · cases h
theorem mp_minG (hc : X.calm = true) (hu : X.A.units + 66 < cLine) (hg : Gl X "min") (hm : X.mg "min" = none) (ha : MP X W a ga) (h3 : starEach [a] X.env = (false, eval a X.env) :: starEach [] X.env := by rfl) : MP X W (.Call (.Name "min" p) [a] [] pos) (gB (dBest minDD) (gCons ga gNil)) :=
  mp_callB (cr_minB hc hu) best_meets hg hm (by decide +kernel) (md_cons ha md_nil h3) (h3 := h3)
theorem mp_maxG (hc : X.calm = true) (hu : X.A.units + 66 < cLine) (hg : Gl X "max") (hm : X.mg "max" = none) (ha : MP X W a ga) (h3 : starEach [a] X.env = (false, eval a X.env) :: starEach [] X.env := by rfl) : MP X W (.Call (.Name "max" p) [a] [] pos) (gB (dBest maxDD) (gCons ga gNil)) :=
  mp_callB (cr_maxB hc hu) best_meets hg hm (by decide +kernel) (md_cons ha md_nil h3) (h3 := h3)
theorem _root_.L2.Room.units66 {k : Nat} {A : Around} (r : Room k A) : A.units + 66 < cLine := by have := r.un; omega
/-! of ints -/
@[simp] theorem ltD_int {i j : Int} : ltD (.int i) (.int j) = decide (i < j) := PySem.W.dataLt_int i j
theorem alikes_ints {l : List Int} : alikesD (l.map .int) = true := by
  unfold alikesD
  simp [alikeD, toP, PySem.W.alike]
theorem notNon_ints {l : List Int} : (l.map D.int).all notNon = true := by simp [notNon]
theorem gdss_ints {l : List Int} : gdss (l.map .int) = true := by
  induction l with
  | nil => rfl
  | cons i l ih => simp [gdss, gds, ih]
theorem deps_ints {l : List Int} : deps (l.map .int) = 0 := by
  induction l with
  | nil => rfl
  | cons i l ih => simp [deps, dep, ih]
theorem min_ints {i : Int} {l : List Int} : minDD (.int i) (l.map .int) = .int (minI i l) := by
  unfold minDD
  induction l generalizing i with
  | nil => rfl
  | cons j l ih =>
    simp only [List.map_cons, List.foldl_cons, ltD_int]
    have : (if decide (j < i) = true then D.int j else D.int i) = D.int (if j < i then j else i) := by
      by_cases h : j < i <;> simp [h]
    rw [this, ih]; rfl
theorem max_ints {i : Int} {l : List Int} : maxDD (.int i) (l.map .int) = .int (maxI i l) := by
  unfold maxDD
  induction l generalizing i with
  | nil => rfl
  | cons j l ih =>
    simp only [List.map_cons, List.foldl_cons, ltD_int]
    have : (if decide (i < j) = true then D.int j else D.int i) = D.int (if i < j then j else i) := by
      by_cases h : i < j <;> simp [h]
    rw [this, ih]; rfl
theorem best_ints {best : D → List D → D} {i : Int} {l : List Int} {d : D} (h : itemsD d = some ((i :: l).map .int)) : dBest best [d] = some (best (.int i) (l.map .int)) := by
  unfold dBest
  simp only [h]
  simp only [List.map_cons]
  rw [if_pos]
  refine ⟨?_, ?_, ?_, ?_⟩
  · have := alikes_ints (l := i :: l); simpa using this
  · have := notNon_ints (l := i :: l); simpa using this
  · have := gdss_ints (l := i :: l); simpa using this
  · have := deps_ints (l := i :: l)
    simp only [List.map_cons] at this
    omega
theorem d_minI {i : Int} {l : List Int} : dBest minDD [.lst ((i :: l).map .int)] = some (.int (minI i l)) := by rw [best_ints (i := i) (l := l) rfl, min_ints]
theorem d_maxI {i : Int} {l : List Int} : dBest maxDD [.lst ((i :: l).map .int)] = some (.int (maxI i l)) := by rw [best_ints (i := i) (l := l) rfl, max_ints]
theorem d_minIT {i : Int} {l : List Int} : dBest minDD [.tup ((i :: l).map .int)] = some (.int (minI i l)) := by rw [best_ints (i := i) (l := l) rfl, min_ints]
theorem d_maxIT {i : Int} {l : List Int} : dBest maxDD [.tup ((i :: l).map .int)] = some (.int (maxI i l)) := by rw [best_ints (i := i) (l := l) rfl, max_ints]
/-! ### sum of a list or a tuple of ints -/
def rSumX (K : PySem.W.Frag) : List V → Hp → VK → Prop := fun vs H Q => ∃ (k : Addr) (ns : List Int), vs = [V.ref k] ∧ (SqL K H k (ns.map V.int) ∨ SqT K H k (ns.map V.int)) ∧ Q (.int ns.sum) H
theorem preSum_list {ns : List Int} : ∀ n, n ≤ ns.length → preSum (fun i => ns.getD i 0) n = (ns.take n).sum := by
  intro n
  induction n with
  | zero => intro _; simp [preSum]
  | succ n ih =>
    intro h
    have hn : n < ns.length := by omega
    rw [List.take_succ_eq_append_getElem hn, List.sum_append]
    have e : ns.getD n 0 = ns[n] := by rw [List.getD_eq_getElem?_getD, List.getElem?_eq_getElem hn]; rfl
    show preSum (fun i => ns.getD i 0) n + ns.getD n 0 = _
    rw [ih (by omega), e]
    simp
theorem cr_sumX (hc : X.calm = true) : CallR X (.builtin "sum") (rSumX X.K) := by
  intro pn s st hh vs us Q inv rv hw
  obtain ⟨k, ns, rfl, hs, q⟩ := hw
  rcases hs with hs | hs
  · exact cr_sum hc pn s st hh _ us Q inv rv ⟨k, ns, rfl, hs, q⟩
  · rw [Vals.ref1 rv]
    obtain ⟨its, r, hl, _⟩ := inv.tuple hs
    have hi := r.ints
    have hlen : its.length = ns.length := hi.length
    refine call_sum_walkAnyS (PySem.W.iter_tupleW (A := X.A.in1) (inv.ok.hd hc) (show s.heap.IsTuple k its.toArray from hl) fun s₂ e W st' hfp hw hk => ?_)
    refine ⟨_, _, _, _, _, _, _, (fun i => ns.getD i 0), rfl, W, st', hfp, fun i v hv => ?_, fun s' t' m => ?_⟩
    · have hv' : its[i]? = some v := by simpa using hv
      have hin : i < ns.length := by rw [← hlen]; exact (List.getElem?_eq_some_iff.mp hv').1
      obtain ⟨w, hw', rw'⟩ := r.get (show (ns.map V.int)[i]? = some (V.int ns[i]) by rw [List.getElem?_map, List.getElem?_eq_getElem hin]; rfl)
      rw [hv'] at hw'
      cases hw'
      obtain ⟨t, rfl⟩ := rw'
      exact ⟨t, by show Value.int ns[i] t = Value.int (ns.getD i 0) t; rw [List.getD_eq_getElem?_getD, List.getElem?_eq_getElem hin]; rfl⟩
    · obtain ⟨h', tk, rfl, hk'⟩ := PySem.W.moved_old e rfl m
      refine ⟨.int ns.sum, hh, inv.kept hk', ?_, q⟩
      rw [List.size_toArray, hlen, preSum_list _ (Nat.le_refl _), List.take_length]
      exact ⟨_, rfl⟩
def dSumX : List D → Option D
  | [d] => match itemsD d with
    | some l => (intL l).map fun ns => .int ns.sum
    | none => none
  | _ => none
theorem mp_sumX (hc : X.calm = true) (hg : Gl X "sum") (hm : X.mg "sum" = none) (ha : MP X W a ga) (h3 : starEach [a] X.env = (false, eval a X.env) :: starEach [] X.env := by rfl) : MP X W (.Call (.Name "sum" p) [a] [] pos) (gB dSumX (gCons ga gNil)) := by
  refine mp_callB (cr_sumX hc) (fun c l z vs Q wf h q k => ?_) hg hm (by decide +kernel) (md_cons ha md_nil h3) (h3 := h3)
  unfold dSumX at h
  split at h
  · rename_i d
    obtain ⟨v, rfl, p1⟩ := dens1 q
    split at h
    · rename_i l' ei
      obtain ⟨ns, e1, e2⟩ := map_some h
      subst e2
      cases d with
      | lst l =>
        cases ei
        obtain ⟨pp, xs, rfl, p1, p2⟩ := p1
        have e3 := intL_den e1 p2
        subst e3
        exact ⟨pp, ns, rfl, .inl p1.sq, k _ c .refl wf rfl⟩
      | tup l =>
        cases ei
        obtain ⟨pp, xs, rfl, p1, p2⟩ := p1
        have e3 := intL_den e1 p2
        subst e3
        exact ⟨pp, ns, rfl, .inr p1.sq, k _ c .refl wf rfl⟩
      | _ => cases ei
    · cases h
  · cases h
@[simp] theorem d_sumXL {l : List Int} : dSumX [.lst (l.map D.int)] = some (.int l.sum) := by simp [dSumX, intL_map]
@[simp] theorem d_sumXT {l : List Int} : dSumX [.tup (l.map D.int)] = some (.int l.sum) := by simp [dSumX, intL_map]
theorem d_sumXF {α : Type} {xs : List α} {f : α → Int} : dSumX [.lst (xs.map fun x => .int (f x))] = some (.int (xs.map f).sum) := by
  have : (xs.map fun x => D.int (f x)) = (xs.map f).map D.int := by simp
  rw [this, d_sumXL]
end
end Fv
namespace Fv
variable [LC : LamC]
open PySem L2
/-! ### more for proofs -/
theorem for_range {k : Kt} {h : Gm → Out} {lo : Int} {n : Nat} (G : Nat → Gm) (step : ∀ i, i < n → ∃ γ1, k (.int (lo + (i : Nat))) (G i) = some γ1 ∧ h γ1 = .nx (G (i + 1))) : forL k h (rangeD lo n) (G 0) = .nx (G n) := by
  obtain ⟨γ2, e, hI⟩ := forL_nx (k := k) (h := h) (l := rangeD lo n) (fun i γ => γ = G i) (fun i d γ hd hI => by
    obtain ⟨hi, rfl⟩ := rangeD_get hd
    subst hI
    obtain ⟨γ1, e1, e2⟩ := step i hi
    exact ⟨γ1, e1, G (i + 1), e2, rfl⟩) rfl
  rw [rangeD_len] at hI
  rw [e, hI]
theorem eqDs_ints : ∀ {a b : List Int}, eqDs (a.map .int) (b.map .int) = decide (a = b)
  | [], [] => by simp [eqDs]
  | [], _ :: _ => by simp [eqDs]
  | _ :: _, [] => by simp [eqDs]
  | x :: a, y :: b => by
    simp only [List.map_cons, eqDs, eqD_int, eqDs_ints (a := a) (b := b)]
    by_cases h : x = y <;> by_cases h' : a = b <;> simp [h, h']
theorem eqOk_ints {a : List Int} : eqOk (.lst (a.map .int)) = true := by
  have h1 := gdss_ints (l := a)
  have h2 := deps_ints (l := a)
  simp [eqOk, gds, dep, h1, h2]
theorem eqOk_intsT {a : List Int} : eqOk (.tup (a.map .int)) = true := by
  have h1 := gdss_ints (l := a)
  have h2 := deps_ints (l := a)
  simp [eqOk, gds, dep, h1, h2]
theorem d_neInts {a b : List Int} : dNe (.lst (a.map .int)) (.lst (b.map .int)) = some (.bl (!decide (a = b))) := by
  unfold dNe
  rw [eqOk_ints, eqOk_ints]
  simp [eqD, eqDs_ints]
theorem d_eqInts {a b : List Int} : dEq (.lst (a.map .int)) (.lst (b.map .int)) = some (.bl (decide (a = b))) := by
  unfold dEq
  rw [eqOk_ints, eqOk_ints]
  simp [eqD, eqDs_ints]
@[simp] theorem d_neNil0 : dNe (.lst []) (.lst []) = some (.bl false) := by have := d_neInts (a := []) (b := []); simpa using this
@[simp] theorem d_eqNil0 : dEq (.lst []) (.lst []) = some (.bl true) := by have := d_eqInts (a := []) (b := []); simpa using this
theorem sortI_id {l : List Int} (h : l.Pairwise (· ≤ ·)) : sortI l = l := (sort_one (.refl l) h).symm
theorem lc_none {α : Type} {k : Kt} {γ : Gm} {gt : Gm → Rs Bool} {ge : Gm → Rs D} {vs : List Nat} {D0 : α → D} : ∀ {xs : List α}, (∀ x, x ∈ xs → ∃ γ1, k (D0 x) γ = some γ1 ∧ gt γ1 = .ok false γ1 ∧ wipeG γ1 vs = γ) → lcL k gt ge vs (xs.map D0) γ = .ok [] γ
  | [], _ => rfl
  | x :: xs, hs => by
    obtain ⟨γ1, e1, e2, e3⟩ := hs x List.mem_cons_self
    have ih := lc_none (xs := xs) (ge := ge) fun y hy => hs y (List.mem_cons_of_mem _ hy)
    simp [lcL, e1, e2, e3, ih]
theorem rangeD_shift {s n : Nat} : rangeD (s : Int) n = (List.range' s n).map fun k => .int (k : Nat) := by
  rw [rangeD_map, List.range'_eq_map_range, List.map_map]
  refine List.map_congr_left fun k _ => ?_
  show D.int ((s : Int) + (k : Nat)) = D.int ((s + k : Nat) : Int)
  rw [Int.natCast_add]
/-- a for that returns at the first thing with a property -/
theorem for_find {α : Type} {k : Kt} {h : Gm → Out} {γ g : Gm} {D0 r : α → D} {p : α → Bool} : ∀ {xs : List α}, (∀ x, x ∈ xs → ∃ γ1, k (D0 x) γ = some γ1 ∧ h γ1 = if p x then .rt (r x) g else .nx γ) → forL k h (xs.map D0) γ = match xs.find? p with | some x => .rt (r x) g | none => .nx γ
  | [], _ => rfl
  | x :: xs, hs => by
    obtain ⟨γ1, e1, e2⟩ := hs x List.mem_cons_self
    have ih := for_find (xs := xs) fun y hy => hs y (List.mem_cons_of_mem _ hy)
    cases hp : p x with
    | true => simp [forL, e1, e2, hp]
    | false => simp [forL, e1, e2, ih, hp]
end Fv

/-! ### the head of a top with imports: the opening by the machine, the top over a tree -/
noncomputable section
namespace Fv
variable [LC : LamC]
open PySem PySem.W PySem.Calls PyProof.Rows HandSHeadRun
/-- the state behind the top, from the state behind the opening -/
def endI (st : SharedT → Thread → Option (SharedT × Thread)) (M : Nat) (p : Program) (s0 : Shared) : Option (Shared × SharedT) := match s0 with
  | ⟨⟨objs, life⟩, gens, drawn, toks, os⟩ => match (⟨objs, life⟩ : Heap).isNs mainGlobals && gens.size == 0 with
    | true => (match putAll objs.toList .nil 0 with
      | some (t, n) => frNat n fun n0 => frNat toks fun toks => (goF st n0 ((⟨objs, life⟩ : Heap).nsMap mainGlobals "__annotations__") M ⟨t, n0, life, gens, drawn, toks, os⟩ (topStub p)).map fun s => (⟨⟨objs, life⟩, gens, drawn, toks, os⟩, s)
      | none => none)
    | false => none
theorem endI_ok {M : Nat} {p : Program} {w : World} {s0 s1 : Shared} {s : SharedT} (h : endI (stepT (denote treeTable) p w) M p s0 = some (s1, s)) :
    s1 = s0 ∧ (s0.heap.isNs mainGlobals && s0.gens.size == 0) = true ∧ topRun treeTable p w s0.heap.objs.size (s0.heap.nsMap mainGlobals "__annotations__") M s0 (topStub p) = some s.abs := by
  obtain ⟨⟨objs, life⟩, gens, drawn, toks, os⟩ := s0
  unfold endI at h
  dsimp only at h ⊢
  cases e0 : (⟨objs, life⟩ : Heap).isNs mainGlobals && gens.size == 0 with
  | false => rw [e0] at h; cases h
  | true =>
    rw [e0] at h
    dsimp only at h
    cases e : putAll objs.toList .nil 0 with
    | none => rw [e] at h; cases h
    | some r =>
      obtain ⟨t, n⟩ := r
      rw [e] at h
      dsimp only at h
      rw [frNat_eq, frNat_eq] at h
      obtain ⟨s', hs, hv⟩ := Option.map_eq_some_iff.mp h
      obtain ⟨rfl, rfl⟩ := Prod.mk.inj hv
      refine ⟨rfl, rfl, ?_⟩
      have q := goF_ok hs
      have eh : absHeap t n life = ⟨objs, life⟩ := putAll_heap (h := ⟨objs, life⟩) e
      have en : objs.size = n := by
        have : (absHeap t n life).objs.size = n := absHeap_size t n _
        rw [eh] at this; exact this
      have eb : (⟨t, n, life, gens, drawn, toks, os⟩ : SharedT).abs = ⟨⟨objs, life⟩, gens, drawn, toks, os⟩ := by
        show (⟨absHeap t n life, gens, drawn, toks, os⟩ : Shared) = _
        rw [eh]
      rw [eb] at q
      rw [en]
      exact q
theorem left_imp {p q : Program} {loose : List Str} {Xt : Shared → Bool} {α : Type} {Yf : Shared → α} {Ya : World → α} {N M : Nat} (le : Nat.ble M N = true)
    (run : ∀ w : World, ((fencedOpening treeTable p w N).bind (endI (stepQ (denQ tabQ) p w) M p)).map (fun r => (looksF p r.1.heap r.2.abs, seenQ q loose (importedModules p.main.body) Xt r.2.abs, Yf r.2.abs)) = some (true, openGood q loose, Ya w)) :
    LeftO p q loose Xt Yf Ya N true := fun w => by
  have z := run w
  rw [← stepQ_eq, ← denQ_eq, ← tabQ_eq] at z
  simp only [← seenQ_eq] at z
  obtain ⟨⟨s1, s⟩, hs, hv⟩ := Option.map_eq_some_iff.mp z
  obtain ⟨s0, h0, h1⟩ := Option.bind_eq_some_iff.mp hs
  obtain ⟨rfl, hg, hr⟩ := endI_ok h1
  obtain ⟨l1, l2, l3⟩ : _ ∧ _ ∧ _ := by simpa only [Prod.mk.injEq] using hv
  have r := topRun_mono (N - M) _ _ _ _ hr
  rw [show M + (N - M) = N by have := Nat.le_of_ble_eq_true le; omega] at r
  have l1' : (staticsOk (importedModules p.main.body) s1.heap s.abs.heap && namesBound p s.abs.heap && gensDone s.abs && laidKept s1.heap s.abs.heap) = true := l1
  have t : topFrom treeTable p w N s1 = some s.abs := by
    unfold topFrom
    rw [hg]
    show (topRun treeTable p w s1.heap.objs.size _ N s1 (topStub p)).bind _ = _
    rw [r]
    show (match staticsOk (importedModules p.main.body) s1.heap s.abs.heap && namesBound p s.abs.heap && gensDone s.abs && laidKept s1.heap s.abs.heap with | true => some s.abs | false => none) = _
    rw [l1']
  unfold openEnds
  rw [h0]
  show (topFrom treeTable p w N s1).map _ = _
  rw [t]
  exact congrArg some (Prod.ext l2 l3)
/-- the same, look by look, the Hook's looks off the tree -/
def runI (M N : Nat) (p : Program) (w : World) : Option (Shared × SharedT) := (fencedOpening treeTable p w N).bind (endI (stepQ (denQ tabQ) p w) M p)
theorem left_imp3 {p q : Program} {loose : List Str} {Xt : Shared → Bool} {α : Type} {Yf : Shared → α} {Ya : World → α} {ob : SharedT → α} {N M : Nat} (le : Nat.ble M N = true) (ho : ∀ s : SharedT, ob s = Yf s.abs)
    (r1 : ∀ w : World, (runI M N p w).map (fun r => looksF p r.1.heap r.2.abs) = some true)
    (r2 : ∀ w : World, (runI M N p w).map (fun r => seenQ q loose (importedModules p.main.body) Xt r.2.abs) = some (openGood q loose))
    (r3 : ∀ w : World, (runI M N p w).map (fun r => ob r.2) = some (Ya w)) :
    LeftO p q loose Xt Yf Ya N true := by
  refine left_imp le fun w => ?_
  obtain ⟨r, h, h1⟩ := Option.map_eq_some_iff.mp (r1 w)
  have h2 := r2 w
  have h3 := r3 w
  rw [h] at h2 h3
  have h2' := Option.some.inj h2
  have h3' := Option.some.inj h3
  have e : (fencedOpening treeTable p w N).bind (endI (stepQ (denQ tabQ) p w) M p) = some r := h
  rw [e]
  show some (looksF p r.1.heap r.2.abs, seenQ q loose (importedModules p.main.body) Xt r.2.abs, Yf r.2.abs) = _
  dsimp only at h1 h2' h3'
  rw [h1, h2', ← ho, h3']
theorem obsB_tree {n : Nat} {fa : List He.Fa} {fn : List He.DefD} {bx : List (Str × String)} (s : SharedT) : obsB n fa fn bx (getT s) = (hookB n fa fn bx).obs s.abs := obsB_eq fun a => getT_eq s a
end Fv

/-! ### more constructs -/
namespace Fv
variable [LC : LamC]
open PySem L2
section
variable {X : Cx} {W : WX} {pos p p1 p2 p3 q1 q2 tpos : Pos} {tg a b e e2 : Expr} {es : List Expr} {ga gb gc gd : Gm → Rs D} {gs : Gm → Rs (List D)} {gf : Gm → Rs (List D)} {x y : Str} {i j : Nat}
/-- a, b, c = e1, e2, e3: three local names -/
theorem ms_par3 {gs : Gm → Rs (List RV)} {i j k : Nat} {x y z : Str} {a b c : Expr} {px py pz pt pt2 : Pos} {kt k2} (hc : X.calm = true) (hN : X.N.Nodup) (hi : X.N[i]? = some x) (hj : X.N[j]? = some y) (hk : X.N[k]? = some z) (hij : i ≠ j) (hik : i ≠ k) (hjk : j ≠ k)
    (hx : X.env.scope.names.lookup x = some .local) (hy : X.env.scope.names.lookup y = some .local) (hz : X.env.scope.names.lookup z = some .local) (ha : MX X W [a, b, c] gs)
    (hw : swappedStores [.Tuple [.Name x px, .Name y py, .Name z pz] kt pt] (.Tuple [a, b, c] k2 pt2) X.env = pure (some [x, y, z])) (hs : swapsWithSole [.Tuple [.Name x px, .Name y py, .Name z pz] kt pt] (.Tuple [a, b, c] k2 pt2) pos.line X.env = pure false := by rfl) :
    MS X W (.Assign [.Tuple [.Name x px, .Name y py, .Name z pz] kt pt] (.Tuple [a, b, c] k2 pt2) pos) (hMulti [i, j, k] gs) := by
  obtain ⟨⟨t, h1, s1⟩, hl⟩ := ha
  refine ⟨_, ps_par3 hc hN hi hj hk hij hik hjk hx hy hz h1 hw hs, fun f c σ γ T R hp => s1.out R hp fun l γ1 vs c1 e0 x1 R1 k1 q1 h2 => ?_⟩
  have q1' : RvsOk X.K c c1 l vs := q1
  have hlen : vs.length = 3 := q1'.len.trans (hl _ _ _ e0)
  match vs, hlen with
  | [v, w, u], _ => exact ⟨v, w, u, rfl, multi_end R R1 k1 q1' h2⟩
/-- name * e, the name's list one's own: a new list -/
def gRepO (j : Nat) (gb : Gm → Rs D) : Gm → Rs (List D) := fun γ => (gOwn j γ).bind fun _ γ0 => (gb γ0).bind fun d γ1 => (gOwn j γ1).bind fun o γ2 => match o, d with
  | .lst l, .int k => if -(2 ^ 63) ≤ k ∧ k < 2 ^ 63 ∧ l.length * k.toNat ≤ sizeLine then .ok (List.replicate k.toNat l).flatten γ2 else .no
  | _, _ => .no
@[simp] theorem e_gRepO {γ : Gm} : gRepO j gb γ = (gOwn j γ).bind fun _ γ0 => (gb γ0).bind fun d γ1 => (gOwn j γ1).bind fun o γ2 => match o, d with
  | .lst l, .int k => if -(2 ^ 63) ≤ k ∧ k < 2 ^ 63 ∧ l.length * k.toNat ≤ sizeLine then .ok (List.replicate k.toNat l).flatten γ2 else .no
  | _, _ => .no := hide rfl
theorem mf_repO (ho : PE X (.Name x p) (tVar i)) (hb : MP X W b gb) : MF X W (.BinOp (.Name x p) .Mult b pos) (gRepO i gb) := by
  obtain ⟨tb, h2, s2⟩ := hb
  refine ⟨_, pe_op op_rep ho h2, fun f S c σ γ Q R hp => ?_⟩
  replace hp : Post X.K X.mg (vF X.K) W f S c σ γ Q (gRepO i gb γ) := hp
  unfold gRepO at hp
  rcases gOwn_cases i γ with e0 | ⟨l0, e0⟩
  · rw [e0] at hp; exact hp.elim
  · rw [e0] at hp
    obtain ⟨s, l, e1, _, _, _, e2⟩ := gOwn_ok e0
    obtain ⟨q, f1, _⟩ := R.ownL e1 e2
    refine ⟨.ref q, f1, s2.bind stab_vF R hp fun d γ1 v c1 _ x1 R1 k1 q1 h3 => ?_⟩
    rcases gOwn_cases i γ1 with e3 | ⟨l1, e3⟩
    · rw [e3] at h3; exact h3.elim
    · rw [e3] at h3
      obtain ⟨s', l', e4, _, e5, _, e6⟩ := gOwn_ok e3
      obtain ⟨q', f2, ⟨_, vs, f3, f4⟩⟩ := R1.ownL e4 e6
      rw [f1] at f2
      cases f2
      cases e5
      cases d with
      | int k =>
        cases (show v = .int _ from q1)
        simp only [Rs.bind_ok] at h3
        by_cases hz : -(2 ^ 63) ≤ k ∧ k < 2 ^ 63 ∧ l1.length * k.toNat ≤ sizeLine
        · rw [if_pos hz] at h3
          refine ⟨q, k, vs, rfl, rfl, f3, hz.1, hz.2.1, by rw [f4.length]; exact hz.2.2, fun q' nq => ?_⟩
          have x3 : Ext Nop c1 (c1.add q' (List.replicate k.toNat vs).flatten) := Ext.add nq
          exact h3 (.ref q') (c1.add q' _) x3.nop (Rel.step R1 x3 (R1.wf.add nq)) .refl ⟨q', rfl, nq, Own.add R1.wf nq (dens_flat_rep f4 _)⟩
        · rw [if_neg hz] at h3; exact h3.elim
      | _ => exact h3.elim
/-! ### divmod -/
def dDivmod : List D → Option D
  | [.int i, .int j] => if 0 < j ∧ j < 1073741824 then some (.tup [.int (i / j), .int (i % j)]) else none
  | _ => none
theorem d_divmod {i j : Int} (h : 0 < j ∧ j < 1073741824) : dDivmod [.int i, .int j] = some (.tup [.int (i / j), .int (i % j)]) := if_pos h
theorem mp_divmod (hg : Gl X "divmod") (hm : X.mg "divmod" = none) (ha : MP X W a ga) (hb : MP X W b gb) (h3 : starEach [a, b] X.env = (false, eval a X.env) :: starEach [b] X.env := by rfl) (h5 : starEach [b] X.env = (false, eval b X.env) :: starEach [] X.env := by rfl) (h4 : (backTo pos (starEach [b] X.env)).any (·.1) = false := by rfl) :
    MP X W (.Call (.Name "divmod" p) [a, b] [] pos) (gB dDivmod (gCons ga (gCons gb gNil))) := by
  refine mp_callB call_divmodF (fun c l z vs Q wf h q k => ?_) hg hm (by decide +kernel) (md_cons ha (md_cons hb md_nil h5) h3) (h3 := h3) (h4 := h4)
  unfold dDivmod at h
  split at h
  · obtain ⟨v, w, rfl, p1, p2⟩ := dens2 q
    obtain ⟨h1, h2⟩ := ite_of h
    cases h2
    refine ⟨_, _, by rw [show v = .int _ from p1, show w = .int _ from p2], h1, fun q o hd n => k (.ref q) ⟨c.M, upd c.H q _⟩ (Ext.new n) (wf.new n) (Den.tup wf n hd ?_)⟩
    exact Dens.cons rfl (Dens.cons rfl Dens.nil)
  · cases h
end
end Fv

/-! ### tuple * int, any int -/
namespace Fv
variable [LC : LamC]
open PySem L2
open PyProof.Rows in
theorem tuple_mulSame (l : Addr) (items : Array Value) (n : Nat) (dd : Option Addr) (sl : Array (Option Value)) (x : Int) (u : Tok) (c0 : (decide (x < -(2 ^ 63)) || decide (x ≥ 2 ^ 63)) = false) (c1 : (items.isEmpty || x == 1) = true) :
    Meets (Builtin.«tuple.__mul__» ⟨[.ref l, .int x u], []⟩) (fun _ R s => s.heap.get? l = some { cls := .type "tuple", dict := dd, data := .seq items n, slots := sl } ∧ R (.ok (.ret (Value.ref l))) s) :=
  .of_wp fun prog w A R s h => by
    obtain ⟨hp, g, d, tk, os⟩ := s
    obtain ⟨hl, h⟩ := h
    have f1 := AutoSeq1.idx_int
    wp_walk using wpAny_loadPart' hl
    repeat (first
      | (refine wpAny_ite_false (decide_eq_false (by rw [c0]; exact Bool.false_ne_true)) ?_; wp_walk using wpAny_loadPart' hl)
      | (refine wpAny_ite_true (decide_eq_true c1) ?_; wp_walk using wpAny_loadPart' hl))
    exact ⟨_, rfl, h⟩
open PyProof.Rows in
theorem tuple_mulNil (l : Addr) (items : Array Value) (n : Nat) (dd : Option Addr) (sl : Array (Option Value)) (x : Int) (u : Tok) (c0 : (decide (x < -(2 ^ 63)) || decide (x ≥ 2 ^ 63)) = false) (c1 : (items.isEmpty || x == 1) = false) (c2 : (decide (x ≤ 0) || items.isEmpty) = true) :
    Meets (Builtin.«tuple.__mul__» ⟨[.ref l, .int x u], []⟩) (fun _ R s => s.heap.get? l = some { cls := .type "tuple", dict := dd, data := .seq items n, slots := sl } ∧
      R (.ok (.ret (Value.ref s.heap.objs.size))) { s with heap := s.heap.push { cls := Value.type "tuple", data := Data.seq #[] }, toks := s.toks }) :=
  .of_wp fun prog w A R s h => by
    obtain ⟨hp, g, d, tk, os⟩ := s
    obtain ⟨hl, h⟩ := h
    have f1 := AutoSeq1.idx_int
    wp_walk using wpAny_loadPart' hl
    repeat (first
      | (refine wpAny_ite_false (decide_eq_false (by rw [c0]; exact Bool.false_ne_true)) ?_; wp_walk using wpAny_loadPart' hl)
      | (refine wpAny_ite_false (decide_eq_false (by rw [c1]; exact Bool.false_ne_true)) ?_; wp_walk using wpAny_loadPart' hl)
      | (refine wpAny_ite_true (decide_eq_true c2) ?_; wp_walk using wpAny_loadPart' hl))
    exact ⟨_, rfl, h⟩
def rRepA (K : PySem.W.Frag) : R2 := fun x y H Q => ∃ l k xs, x = .ref l ∧ y = .int k ∧ SqT K H l xs ∧ -(2 ^ 62) ≤ k ∧ k ≤ 1000 ∧ xs.length ≤ 1000 ∧ ((xs = [] ∨ k = 1) → Q (.ref l) H) ∧ (¬ (xs = [] ∨ k = 1) → MkT H (List.replicate k.toNat xs).flatten Q)
section
variable {X : Cx}
open PyProof.Rows in
theorem op_repA : OpR X (binaryOp .Mult) (rRepA X.K) := by
  intro pins s σ H x y v u Q I rx ry h
  obtain ⟨l, k, xs, rfl, rfl, hT, h1, h2, hz, q1, q2⟩ := h
  by_cases big : xs ≠ [] ∧ 2 ≤ k
  · exact op_repF pins s σ H (.ref l) (.int k) v u Q I rx ry ⟨l, k, xs, rfl, rfl, hT, big.1, big.2, h2, hz, q2 fun z => z.elim big.1 fun e => by omega⟩
  cases rx
  obtain ⟨t, rfl⟩ := ry
  obtain ⟨its, r, ⟨⟨cls, dd, data, sl⟩, ho, hc, n, hd⟩, hs⟩ := I.tuple hT
  simp only at hc hd
  subst hc hd
  have hle : its.length = xs.length := r.length.symm
  have c0 : (decide (k < -(2 ^ 63)) || decide (k ≥ 2 ^ 63)) = false := by
    rw [decide_eq_false (by omega), decide_eq_false (by omega)] <;> rfl
  have he : its.toArray.isEmpty = decide (xs = []) := by
    cases its with
    | nil => rw [decide_eq_true (List.eq_nil_of_length_eq_zero hle.symm)]; rfl
    | cons a b => rw [decide_eq_false (fun z => by rw [z] at hle; cases hle)]; rfl
  by_cases same : xs = [] ∨ k = 1
  · have c1 : (its.toArray.isEmpty || k == 1) = true := by
      rw [he, Bool.or_eq_true, decide_eq_true_iff, beq_iff_eq]; exact same
    refine wpAny_binaryOp_repeat_ref (T := "tuple") (U := "int") (by decide) ⟨_, ho, rfl⟩ (fun s' => typeIs_int s' k t) noFill_tuple_mul F.fills_int_mul F.slot_int_rmul repeat_tuple F.slot_int_index.lookup
      (call_meets F.slot_int_rmul (typeIs_int s k t) F.entry_int_rmul (F.args_int_rmul_2 _ _) (int_rmul_tuple k t l its.toArray n dd sl)
        ⟨ho, rfl, ⟨_, ho, rfl⟩, call_meets F.slot_tuple_mul ⟨_, ho, rfl⟩ F.entry_tuple_mul (F.args_tuple_mul_2 _ _) (tuple_mulSame l its.toArray n dd sl k t c0 c1) ⟨ho, ?_⟩⟩)
    exact ⟨.ref _, H, I, rfl, q1 same⟩
  · have c1 : (its.toArray.isEmpty || k == 1) = false := by
      rw [← Bool.not_eq_true, he, Bool.or_eq_true, decide_eq_true_iff, beq_iff_eq]; exact same
    have k0 : k ≤ 0 := by
      apply Classical.byContradiction
      intro z
      exact big ⟨fun e => same (.inl e), by have : k ≠ 1 := fun e => same (.inr e); omega⟩
    have c2 : (decide (k ≤ 0) || its.toArray.isEmpty) = true := by rw [decide_eq_true k0]; rfl
    refine wpAny_binaryOp_repeat_ref (T := "tuple") (U := "int") (by decide) ⟨_, ho, rfl⟩ (fun s' => typeIs_int s' k t) noFill_tuple_mul F.fills_int_mul F.slot_int_rmul repeat_tuple F.slot_int_index.lookup
      (call_meets F.slot_int_rmul (typeIs_int s k t) F.entry_int_rmul (F.args_int_rmul_2 _ _) (int_rmul_tuple k t l its.toArray n dd sl)
        ⟨ho, rfl, ⟨_, ho, rfl⟩, call_meets F.slot_tuple_mul ⟨_, ho, rfl⟩ F.entry_tuple_mul (F.args_tuple_mul_2 _ _) (tuple_mulNil l its.toArray n dd sl k t c0 c1 c2) ⟨ho, ?_⟩⟩)
    have q := q2 same
    rw [show k.toNat = 0 by omega] at q
    exact ⟨.ref s.heap.objs.size, _, laidF (its := []) (t' := s.toks) I (Nat.zero_le _) .nil, rfl, q _ _ rfl (I.hok.fresh (Nat.le_refl _))⟩
end
def dRepA : D → D → Option D
  | .tup l, .int k => if -(2 ^ 62) ≤ k ∧ k ≤ 1000 ∧ l.length ≤ 1000 then some (.tup (List.replicate k.toNat l).flatten) else none
  | _, _ => none
theorem d_repA {l : List D} {k : Int} (h : -(2 ^ 62) ≤ k ∧ k ≤ 1000 ∧ l.length ≤ 1000) : dRepA (.tup l) (.int k) = some (.tup (List.replicate k.toNat l).flatten) := if_pos h
theorem repA_meets {K : PySem.W.Frag} : Meet2 K (rRepA K) dRepA := by
  intro c d e z v w Q wf q1 q2 q3 q4
  unfold dRepA at q1
  split at q1
  · obtain ⟨⟨h1, h2, h3⟩, h5⟩ := ite_of q1
    cases h5
    obtain ⟨p, xs, rfl, r1, r2⟩ := q2
    cases (show w = .int _ from q3)
    refine ⟨p, _, xs, rfl, rfl, r1.sq, h1, h2, by rw [r2.length]; exact h3, fun hs => ?_, fun _ k o hd n => ?_⟩
    · refine q4 (.ref p) c .refl wf ⟨p, xs, rfl, r1, ?_⟩
      rcases hs with hs | hs
      · subst hs
        have hl := r2.length
        rename_i l k
        have : l = [] := List.eq_nil_of_length_eq_zero hl.symm
        subst this
        simp only [List.flatten_replicate_nil]
        exact Dens.nil
      · subst hs
        simpa using r2
    · exact q4 (.ref k) ⟨c.M, upd c.H k (.frz o (.tup (List.replicate _ xs).flatten))⟩ (Ext.new n) (wf.new n) (Den.tup wf n hd (dens_flat_rep r2 _))
  · cases q1
section
variable {X : Cx} {W : WX} {pos : Pos} {a b : Expr} {ga gb : Gm → Rs D}
theorem mp_repA (ha : MP X W a ga) (hb : MP X W b gb) : MP X W (.BinOp a .Mult b pos) (g2 dRepA ga gb) := mp_op op_repA repA_meets ha hb
end
end Fv

set_option maxHeartbeats 2000000
/-! ### a lambda of one parameter, called by a built-in -/
namespace Fv
open PySem PySem.Spec PyProof.Rows L2 LamX
/-- one parameter, which is its only name of its own; else captured ones and globals -/
structure LamP (sc scope : Scope) (x : Str) : Prop where
  kind : scope.kind = .function
  co : scope.isCoroutine = false
  gen : scope.isGenerator = false
  par : scope.names.lookup x = some .local
  own : ∀ y ∈ scope.names, y.2 ≠ .cell ∧ (y.2 = .local → y.1 = x)
  free : ∀ y ∈ scope.names, y.2 = .free → sc.names.lookup y.1 = some .cell ∨ sc.names.lookup y.1 = some .free
def lamPB (sc scope : Scope) (x : Str) : Bool :=
  decide (scope.kind = .function) && !scope.isCoroutine && !scope.isGenerator && decide (scope.names.lookup x = some .local) && scope.names.all fun y => !decide (y.2 = .cell) && (!decide (y.2 = .local) || decide (y.1 = x)) && (!decide (y.2 = .free) || decide (sc.names.lookup y.1 = some .cell) || decide (sc.names.lookup y.1 = some .free))
theorem lamP_by {sc scope : Scope} {x : Str} (h : lamPB sc scope x = true) : LamP sc scope x := by
  unfold lamPB at h
  simp only [Bool.and_eq_true, Bool.or_eq_true, Bool.not_eq_true', decide_eq_true_eq, decide_eq_false_iff_not, List.all_eq_true] at h
  obtain ⟨⟨⟨⟨h1, h2⟩, h3⟩, h5⟩, h4⟩ := h
  refine ⟨h1, h2, h3, h5, fun y hy => ⟨(h4 y hy).1.1, fun e => ?_⟩, fun y hy e => ?_⟩
  · rcases (h4 y hy).1.2 with z | z
    · exact absurd e z
    · exact z
  · rcases (h4 y hy).2 with (z | z) | z
    · exact absurd e z
    · exact .inl z
    · exact .inr z
theorem LamP.has {X : Cx} {scope : Scope} {x : Str} (L : LamP X.env.scope scope x) (ok : X.Ok) : ∀ y ∈ scope.names, y.2 = .free → ∃ c, X.env.cells.lookup y.1 = some c := fun y hy e => by
  rcases L.free y hy e with k | k
  · exact ok.has _ (.inl k)
  · exact ok.has _ (.inr k)
section
variable {X : Cx} {pins : List (Addr × Obj)} {σ : L2.St} {H : Hp} {s : Shared}
theorem lam_startP {A : Around} {E : XK} {scope : Scope} {f c' : Addr} {h₁ : Heap} {tk : Nat} {x : Str} {i : Nat} {v : V} {u : Value} (I : L2.Inv X pins σ H s) (L : LamP X.env.scope scope x) (hN : X.N.Nodup) (hi : X.N[i]? = some x) (rv : RelV v u) (e0 : Env0 X.prog X.w X.K X.mg X.base A X.stack s H) (hd : A.handled = none)
    (hns : h₁.Ns s.heap.objs.size fun y => ([(x, u)] : List (Str × Value)).reverse.lookup y) (kp : ∀ b o, s.heap.get? b = some o → h₁.get? b = some o) :
    L2.Inv (lamCx X A X.stack s H E scope f c') [] (σ.set i (some v)) H { s with heap := h₁, toks := tk } := by
  have hfree := L.has I.ok
  have cm : ∀ {y c}, (cloFrom X.env.cells scope.names []).lookup y = some c → X.env.cells.lookup y = some c := fun {y c} e => by
    rcases cloFrom_mem (PySem.mem_of_lookup e) with hm | ⟨h1, h2⟩
    · cases hm
    · obtain ⟨c1, hc⟩ := hfree _ h1 rfl
      have hc : X.env.cells.lookup y = some c1 := hc
      have e2 : c = c1 := by
        rw [h2, hc] <;> rfl
      rw [e2]
      exact hc
  have look : ∀ {y}, scope.names.lookup y = some .free → ∃ c, (cloFrom X.env.cells scope.names []).lookup y = some c := fun {y} hl => by
    have hy : (y, NameKind.free) ∈ scope.names := PySem.mem_of_lookup hl
    exact mem_lookup (cloFrom_has (cells := X.env.cells) (acc := []) hy)
  have cellK : ∀ {c : Addr} {v : Option Value}, s.heap.IsCell c v → h₁.IsCell c v := fun {c v} ⟨o, ho, hd⟩ => ⟨o, kp _ _ ho, hd⟩
  have noA : ∀ b : Addr, b ∉ (lamCx X A X.stack s H E scope f c').ex := fun b z => absurd (show b ∈ ([] : List Addr) from z) (by simp)
  have hlen := I.len
  have hil : i < σ.length := by rw [hlen]; exact (List.getElem?_eq_some_iff.mp hi).1
  refine ⟨⟨e0.mod, L.kind, rfl, rfl, Nat.le_refl _, fun y z c e1 e2 => I.ok.inj y z c (cm e1) (cm e2), fun y hy => ?_, fun y c z _ => ?_, fun _ => hd, Around.frames_deeper e0.frames, .inr ⟨rfl, rfl⟩, fun b z => absurd z (noA b), e0.bs, e0.bsz, fun b _ _ => noA b,
      fun b z => absurd z (noA b), e0.funs, e0.frf⟩,
    rfl, e0.bare, Un.kept kp, ⟨_, hns, fun j y z e1 e2 e3 => ?_⟩, fun y c e => ?_, e0.hok.fresh (Nat.le_refl _), fun y c e => ?_, fun q hq => absurd (show q ∈ ([] : List (Addr × Obj)) ++ [] from hq) (by simp), e0.hok.kept kp, by rw [List.length_set]; exact hlen⟩
  · have hy : scope.names.lookup y = some .cell ∨ scope.names.lookup y = some .free := hy
    rcases hy with hy | hy
    · exact absurd rfl (L.own _ (PySem.mem_of_lookup hy)).1
    · exact look hy
  · have z : false = true := z
    cases z
  · have e3 : Vis scope y := e3
    have e1 : X.N[j]? = some y := e1
    rcases e3 with k | k | k
    · -- the parameter
      have ey : y = x := (L.own _ (PySem.mem_of_lookup k)).2 rfl
      subst ey
      have hj : j = i := by
        obtain ⟨h1, h2⟩ := List.getElem?_eq_some_iff.mp e1
        obtain ⟨h3, h4⟩ := List.getElem?_eq_some_iff.mp hi
        have hp := List.pairwise_iff_getElem.mp hN
        rcases Nat.lt_trichotomy j i with z | z | z
        · exact absurd (h2.trans h4.symm) (hp j i h1 h3 z)
        · exact z
        · exact absurd (h4.trans h2.symm) (hp i j h3 h1 z)
      subst hj
      rw [List.getElem?_set_self hil] at e2
      cases e2
      exact ⟨u, rv, .inl ⟨k, by show List.lookup y ([(y, u)] : List (Str × Value)).reverse = some u; simp⟩⟩
    · exact absurd rfl (L.own _ (PySem.mem_of_lookup k)).1
    · have nyx : j ≠ i := fun z => by
        subst z
        rw [hi] at e1
        cases e1
        rw [L.par] at k
        cases k
      rw [List.getElem?_set_ne (Ne.symm nyx)] at e2
      obtain ⟨m, hn, hl⟩ := I.loc
      have hvis : Vis X.env.scope y := (L.free _ (PySem.mem_of_lookup k) rfl).elim (fun k => .inr (.inl k)) (fun k => .inr (.inr k))
      obtain ⟨w', r, q⟩ := hl j y z e1 e2 hvis
      obtain ⟨c2, h2⟩ := look k
      refine ⟨w', r, .inr ⟨.inr k, c2, h2, ?_⟩⟩
      have c1 := cm h2
      rcases q with ⟨k', _⟩ | ⟨_, c3, e', z⟩
      · have k' : X.env.scope.names.lookup y = some .local := k'
        rcases L.free _ (PySem.mem_of_lookup k) rfl with k2 | k2 <;> rw [show X.env.scope.names.lookup y = _ from k2] at k' <;> cases k'
      · rw [c1] at e'
        cases e'
        exact cellK z
  · obtain ⟨w', z⟩ := I.cell y c (cm e)
    exact ⟨w', cellK z⟩
  · exact I.freeC y c (cm e)
/-- f(u), f the lambda: its body is read with the parameter in its slot -/
theorem key_call {A' : Around} {f c' : Addr} {pm ctv u : Value} {params : Arguments} {body : Expr} {scope : Scope} {x : Str} {i k : Nat} {v : V} {tb : TE} {Q : VK} {Q' E' : Value → Shared → Prop}
    (I : L2.Inv X pins σ H s) (L : LamP X.env.scope scope x) (hN : X.N.Nodup) (hi : X.N[i]? = some x) (rv : RelV v u) (e0 : Env0 X.prog X.w X.K X.mg X.base A' X.stack s H)
    (hf : s.heap.get? f = some (PySem.W.kla_obj "<lambda>" (X.env.qual ++ "<lambda>") params body scope (cloFrom X.env.cells scope.names []) pm c' ctv)) (hc : H c' = some (CodeO c' (X.env.qual ++ "<lambda>")))
    (hbind : bindArgs (PySem.W.kla_fn "<lambda>" (X.env.qual ++ "<lambda>") params body scope (cloFrom X.env.cells scope.names []) pm (.ref c') ctv) ⟨[u], []⟩ = pure [(x, u)])
    (hr : Room (k + 1) A') (hbody : Room k (A'.deeper (lamEnv X scope s.heap.objs.size f c')) → PE (lamCx X A' X.stack s H C8.E0 scope f c') body tb) (ht : tb (σ.set i (some v)) H Q)
    (hQ : ∀ k' s', (∃ (w : V) (H' : Hp), L2.Inv X pins σ H' s' ∧ RelV w k' ∧ Q w H' ∧ Un (L2.frs X.stack) [] H H' s.heap s'.heap) → Q' k' s') :
    wpAny (model X.prog X.w) A' (call (.ref f) [u]) Q' E' s := by
  obtain ⟨⟨oc, vs, t, hoc, hdc, hvc⟩, _, _⟩ := I.hok c' _ hc
  have rc : codeAny (model X.prog X.w) A' (.call (.ref f) ⟨[u], []⟩) (CR (L2.CX X.prog X.w) X.stack X.prog X.w H s Q C8.E0) s := by
    refine PySem.W.kla_callFunE hr.depth hf rfl L.co L.gen rfl ⟨c', oc, vs, t, rfl, hoc, hdc, hvc⟩ ?_
    rw [hbind]
    refine wpAny_pure (wpAny_newFunctionEnv (fun y hy => (L.own y hy).1) (fun y hy => by rw [List.mem_singleton.mp hy]; exact L.par) (fun h₁ hns hsb => ⟨I.nolimit.fresh _ hsb, ?_⟩) L.kind)
    show codeAny _ _ (.expr body (lamEnv X scope s.heap.objs.size f c')) _ _
    have kp : ∀ b o, s.heap.get? b = some o → h₁.get? b = some o := fun b o e => hsb.extBut b o (Nat.ne_of_lt (Heap.lt_size e)) (Heap.get?_push_of_some _ e)
    have J : L2.Inv (lamCx X A' X.stack s H C8.E0 scope f c') [] (σ.set i (some v)) H { s with heap := h₁, toks := s.toks + ([(x, u)] : List (Str × Value)).length } :=
      lam_startP I L hN hi rv e0 hr.hd hns kp
    refine PySem.W.kla_codeExpr (wpAny_mono ((hbody (hr.deeper _)).run [] _ _ H Q J ht) (fun v s' hq => ?_) fun e s' hq => hq)
    obtain ⟨w', H', J', rv, q⟩ := hq
    exact ⟨w', H', J'.os, J'.bare, J'.base, J'.hok, rv, q⟩
  refine wpAny_call (codeAny_mono rc fun r s' hq => ?_)
  cases r with
  | error e =>
    obtain ⟨_, _, _, _, _, _, _, _, _, _, _, _, _, _, _, _, z⟩ := (show L2.CX X.prog X.w X.stack H s C8.E0 e s' from hq)
  | ok fl =>
    cases fl with
    | ret u =>
      have hq0 : CE X.stack X.prog X.w H s Q u s' := hq
      obtain ⟨v1, H', h1, h2, h3, h4, h5, h6⟩ := hq0
      have hq' : CE X.stack X.prog X.w H s (fun v H' => Q v H' ∧ Un (L2.frs X.stack) [] H H' s.heap s'.heap) u s' := ⟨v1, H', h1, h2, h3, h4, h5, h6, h3⟩
      obtain ⟨v2, H2, I2, r2, q2, un2⟩ := I.after hq'
      exact hQ u s' ⟨v2, H2, I2, r2, q2, un2⟩
    | next => exact False.elim hq
    | brk => exact False.elim hq
    | cont => exact False.elim hq
end
end Fv

set_option maxHeartbeats 2000000
namespace Fv
variable [LC : LamC]
open PySem PySem.Spec PyProof.Rows L2 LamX
/-- an expression's meaning shown of the machine itself -/
theorem mp_raw {X : Cx} {W : WX} {e : Expr} {g : Gm → Rs D} (h : ∀ f S c σ γ Q pins s, Rel X.K f S c σ γ → Post X.K X.mg (vP X.K) W f S c σ γ Q (g γ) → L2.Inv X pins σ c.H s → wpAny (model X.prog X.w) X.A (eval e X.env) (EP X pins σ Q) X.xe s) : MP X W e g :=
  ⟨fun σ H Q => ∀ pins s, L2.Inv X pins σ H s → wpAny (model X.prog X.w) X.A (eval e X.env) (EP X pins σ Q) X.xe s, ⟨fun pins s σ H Q I h => h pins s I⟩, fun f S c σ γ Q R hp pins s I => h f S c σ γ Q pins s R hp I⟩
/-! walks over a list or a tuple, the items known by what they stand for -/
def StL (it l : Addr) (xs : List V) (i : Nat) (s : Shared) : Prop := s.heap.IsListIter it l i ∧ ∃ vs : List Value, s.heap.IsList l vs.toArray ∧ Vals xs vs
def StT (it l : Addr) (xs : List V) (i : Nat) (s : Shared) : Prop := s.heap.IsTupleIter it l i ∧ ∃ vs : List Value, s.heap.IsTuple l vs.toArray ∧ Vals xs vs
def AtV (xs : List V) (i : Nat) (v : Value) : Prop := ∃ x, xs[i]? = some x ∧ RelV x v
theorem vals_at {xs : List V} {vs : List Value} (r : Vals xs vs) {i : Nat} {v : Value} (h : vs.toArray[i]? = some v) : AtV xs i v := by
  have hv' : vs[i]? = some v := by simpa using h
  have hlen := r.length
  have hi : i < vs.length := (List.getElem?_eq_some_iff.mp hv').1
  have hx : xs[i]? = some xs[i] := List.getElem?_eq_getElem (by omega)
  obtain ⟨w, hw, rw'⟩ := r.get hx
  rw [hv'] at hw
  cases hw
  exact ⟨_, hx, rw'⟩
theorem walkL {prog : Program} {w : World} {A : Around} {it l : Addr} {xs : List V} (hh : A.handled = none) (hne : l ≠ it) : WalksS prog w A it [it, l] [it] (fun a b => b = a) xs.length (AtV xs) (StL it l xs) where
  sub := fun b hb => by rw [List.mem_singleton.mp hb]; exact List.mem_cons_self
  grefl := fun _ => rfl
  gtrans := fun _ _ _ h1 h2 => h2.trans h1
  frame := fun i s h' tk ⟨h1, vs, h2, r⟩ ht k => by
    obtain ⟨a, b⟩ := (Walks.list (prog := prog) (w := w) (A := A) hh it l hne vs.toArray).toS.frame i s h' tk ⟨h1, h2⟩ ht k
    exact ⟨a, vs, b, r⟩
  item := fun i s Q E hi ⟨h1, vs, h2, r⟩ hQ => (Walks.list (prog := prog) (w := w) (A := A) hh it l hne vs.toArray).toS.item i s Q E (by rw [List.size_toArray, ← r.length]; exact hi) ⟨h1, h2⟩ fun v s' hP hst hm => hQ v s' (vals_at r hP) ⟨hst.1, vs, hst.2, r⟩ hm
  done := fun s Q E ⟨h1, vs, h2, r⟩ hQ => (Walks.list (prog := prog) (w := w) (A := A) hh it l hne vs.toArray).toS.done s Q E (by rw [List.size_toArray, ← r.length]; exact ⟨h1, h2⟩) hQ
  self := fun i s Q E ⟨h1, vs, h2, r⟩ hQ => (Walks.list (prog := prog) (w := w) (A := A) hh it l hne vs.toArray).toS.self i s Q E ⟨h1, h2⟩ hQ
theorem walkT {prog : Program} {w : World} {A : Around} {it l : Addr} {xs : List V} (hh : A.handled = none) (hne : l ≠ it) : WalksS prog w A it [it, l] [it] (fun a b => b = a) xs.length (AtV xs) (StT it l xs) where
  sub := fun b hb => by rw [List.mem_singleton.mp hb]; exact List.mem_cons_self
  grefl := fun _ => rfl
  gtrans := fun _ _ _ h1 h2 => h2.trans h1
  frame := fun i s h' tk ⟨h1, vs, h2, r⟩ ht k => by
    obtain ⟨a, b⟩ := (Walks.tuple (prog := prog) (w := w) (A := A) hh it l hne vs.toArray).toS.frame i s h' tk ⟨h1, h2⟩ ht k
    exact ⟨a, vs, b, r⟩
  item := fun i s Q E hi ⟨h1, vs, h2, r⟩ hQ => (Walks.tuple (prog := prog) (w := w) (A := A) hh it l hne vs.toArray).toS.item i s Q E (by rw [List.size_toArray, ← r.length]; exact hi) ⟨h1, h2⟩ fun v s' hP hst hm => hQ v s' (vals_at r hP) ⟨hst.1, vs, hst.2, r⟩ hm
  done := fun s Q E ⟨h1, vs, h2, r⟩ hQ => (Walks.tuple (prog := prog) (w := w) (A := A) hh it l hne vs.toArray).toS.done s Q E (by rw [List.size_toArray, ← r.length]; exact ⟨h1, h2⟩) hQ
  self := fun i s Q E ⟨h1, vs, h2, r⟩ hQ => (Walks.tuple (prog := prog) (w := w) (A := A) hh it l hne vs.toArray).toS.self i s Q E ⟨h1, h2⟩ hQ
/-! a slot laid aside -/
theorem Rel.unset {K : PySem.W.Frag} {f : Fx} {S : Addr → Prop} {c : Cf} {σ : L2.St} {γ : Gm} {i : Nat} {x : V} {d : D} (R : Rel K f S c (σ.set i (some x)) (γ.set i (.pu d))) (h : γ[i]? = some .un) : Rel K f S c σ γ where
  wf0 := R.wf0
  wf := R.wf
  ext := R.ext
  len := by have := R.len; rwa [List.length_set, List.length_set] at this
  pu := fun j e hj => by
    have n : i ≠ j := fun z => by rw [← z, h] at hj; cases hj
    have := R.pu j e (by rw [List.getElem?_set_ne n]; exact hj)
    rwa [List.getElem?_set_ne n] at this
  ow := fun j l hj => by
    have n : i ≠ j := fun z => by rw [← z, h] at hj; cases hj
    have := R.ow j l (by rw [List.getElem?_set_ne n]; exact hj)
    rwa [List.getElem?_set_ne n] at this
  bo := fun j l hj => by
    have n : i ≠ j := fun z => by rw [← z, h] at hj; cases hj
    have := R.bo j l (by rw [List.getElem?_set_ne n]; exact hj)
    rwa [List.getElem?_set_ne n] at this
  ne := fun j k s t a hjk hj hk os ot => by
    have n1 : i ≠ j := fun z => by rw [← z, h] at hj; cases hj; cases os
    have n2 : i ≠ k := fun z => by rw [← z, h] at hk; cases hk; cases ot
    have := R.ne j k s t a hjk (by rw [List.getElem?_set_ne n1]; exact hj) (by rw [List.getElem?_set_ne n2]; exact hk) os ot
    rwa [List.getElem?_set_ne n1, List.getElem?_set_ne n2] at this
  inv := R.inv
  sub := R.sub
/-! the keys -/
def KeysAre (i : Nat) (ge : Gm → Rs D) (γ : Gm) (l : List D) (ks : List Int) : Prop := ks.length = l.length ∧ ∀ (j : Nat) (d : D) (k : Int), l[j]? = some d → ks[j]? = some k → ge (γ.set i (.pu d)) = .ok (.int k) (γ.set i (.pu d))
theorem KeysAre.uniq {i : Nat} {ge : Gm → Rs D} {γ : Gm} {l : List D} {ks ks' : List Int} (a : KeysAre i ge γ l ks) (b : KeysAre i ge γ l ks') : ks = ks' := by
  refine List.ext_getElem (a.1.trans b.1.symm) fun j h1 h2 => ?_
  have hj : j < l.length := by rw [← a.1]; exact h1
  have e1 := a.2 j l[j] ks[j] (List.getElem?_eq_getElem hj) (List.getElem?_eq_getElem h1)
  have e2 := b.2 j l[j] ks'[j] (List.getElem?_eq_getElem hj) (List.getElem?_eq_getElem h2)
  rw [e1] at e2
  injection e2 with e3 e4
  injection e3 with e5
open Classical in
noncomputable def gKeys (i : Nat) (ge : Gm → Rs D) (γ : Gm) (l : List D) : Option (List Int) := if h : ∃ ks, KeysAre i ge γ l ks then some h.choose else none
theorem gKeys_eq {i : Nat} {ge : Gm → Rs D} {γ : Gm} {l : List D} {ks : List Int} (h : KeysAre i ge γ l ks) : gKeys i ge γ l = some ks := by
  unfold gKeys
  rw [dif_pos ⟨ks, h⟩]
  exact congrArg some (KeysAre.uniq (Exists.choose_spec ⟨ks, h⟩) h)
theorem gKeys_some {i : Nat} {ge : Gm → Rs D} {γ : Gm} {l : List D} {ks : List Int} (h : gKeys i ge γ l = some ks) : KeysAre i ge γ l ks := by
  unfold gKeys at h
  split at h
  · rename_i q
    cases h
    exact q.choose_spec
  · cases h
/-- which of two keys is better: the less, the greater -/
def btK (mx : Bool) (ks : List Int) (i j : Nat) : Bool := if mx then decide (ks.getD j 0 < ks.getD i 0) else decide (ks.getD i 0 < ks.getD j 0)
def bestK (mx : Bool) (ks : List Int) : Nat := argBest (btK mx ks) (ks.length - 1)
noncomputable def gKeyed (mx : Bool) (i : Nat) (gs : Gm → Rs (List D)) (ge : Gm → Rs D) (df : Option D) : Gm → Rs D := fun γ => (gs γ).bind fun ds γ1 => match ds, γ1[i]? with
  | [d], some .un => match itemsD d with
    | some l => match gKeys i ge γ1 l with
      | some ks => if l = [] then ofO df γ1 else ofO l[bestK mx ks]? γ1
      | none => .no
    | none => .no
  | _, _ => .no
/-! a lambda made: what it does to the heap -/
section
variable {X : Cx} {pins : List (Addr × Obj)} {σ : L2.St} {H : Hp} {s : Shared}
def Made (X : Cx) (H : Hp) (P c' : Addr) (ps : Array Value) (pos : Pos) (H1 : Hp) : Prop :=
  H1 = H ∨ (H c' = none ∧ H1 = upd (upd H P (.tbl (ps ++ #[rawInt pos.line, rawInt pos.col, .ref c']))) c' (CodeO c' (X.env.qual ++ "<lambda>")))
theorem lam_make3 {c P : Addr} {params : Arguments} {body : Expr} {scope : Scope} {pos : Pos} {ps : Array Value} {E : Value → Shared → Prop} {Q : Value → Shared → Prop} (I : L2.Inv X pins σ H s) (TB : TabB X.base X.mg c P) (hcode : X.env.code = .ref c)
    (hP : H P = some (.tbl ps)) (ht : TriplesOk ps.toList) (ha : ∀ (pos : Pos) (cv : Value), codeAmong pos ps.toList = some cv → ∃ c, cv = .ref c ∧ H c = some (CodeO c (X.env.qual ++ "<lambda>")))
    (hdef : defaultsOf params X.env = ([], [])) (hfree : ∀ y ∈ scope.names, y.2 = .free → ∃ c, X.env.cells.lookup y.1 = some c)
    (h : ∀ (f c' : Addr) (pm ctv : Value) (H1 : Hp) (s' : Shared), L2.Inv X pins σ H1 s' → Made X H P c' ps pos H1 →
      s'.heap.get? f = some (PySem.W.kla_obj "<lambda>" (X.env.qual ++ "<lambda>") params body scope (cloFrom X.env.cells scope.names []) pm c' ctv) → H1 f = none → f ∉ L2.frs X.stack → f < s'.heap.objs.size → H1 c' = some (CodeO c' (X.env.qual ++ "<lambda>")) → Q (.ref f) s') :
    wpAny (model X.prog X.w) X.A (eval (.Lambda params body scope pos) X.env) Q E s := by
  have glob : s.heap.Ns X.env.globals X.mg := by rw [I.ok.glob]; exact I.mod.glob.keeps I.bk
  refine PySem.W.kla_eval hdef ?_
  have young : ∀ {f : Addr}, s.heap.objs.size ≤ f → f ∉ L2.frs X.stack := fun {f} hf z => by
    rcases List.mem_cons.mp (I.stkSub _ z) with e | e
    · exact absurd (e ▸ I.lt) (Nat.not_lt.mpr hf)
    · exact I.nofs hf e
  have atP := I.hok P _ hP
  cases hc : codeAmong pos ps.toList with
  | some cv =>
    obtain ⟨c', rfl, hco⟩ := ha pos cv hc
    refine PySem.W.kla_makeFunctionHit (mg := X.mg) (c := c) (P := P) (ps := ps) (closure_ok hfree) I.ok.glob (I.mod.glob.keeps I.bk) hcode (TB.code.keeps I.bk) atP ht hc (TB.bm.keeps I.bk) fun ctv h' tk hx hsz => ?_
    exact h h'.objs.size c' ((X.mg "__name__").getD .none) ctv H _ (I.kept fun b o e => Heap.get?_push_of_some _ (hx b o e)) (.inl rfl) (Heap.get?_push_size _ rfl) (I.hok.fresh hsz) (young hsz) (by rw [Heap.size_push]; exact Nat.lt_succ_self _) hco
  | none =>
    refine PySem.W.kla_makeFunction (mg := X.mg) (c := c) (P := P) (ps := ps) (closure_ok hfree) I.ok.glob (I.mod.glob.keeps I.bk) hcode (TB.code.keeps I.bk) atP ht hc TB.gP (TB.bm.keeps I.bk) fun c' ctv h' tk hx hge hlt hrec htb => ?_
    obtain ⟨c2, oc, vs, t, e2, hoc, hd, hv⟩ := hrec
    cases e2
    have hsz : s.heap.objs.size ≤ h'.objs.size := Nat.le_trans hge (Nat.le_of_lt hlt)
    have nC : H c' = none := I.hok.fresh hge
    have I1 := inv_table (t' := tk) (more := #[rawInt pos.line, rawInt pos.col, .ref c']) (h' := h'.push (PySem.W.kla_obj "<lambda>" (X.env.qual ++ "<lambda>") params body scope (cloFrom X.env.cells scope.names []) ((X.mg "__name__").getD .none) c' ctv)) I hP
      (fun b o hb e => Heap.get?_push_of_some _ (hx b o hb e)) (Heap.get?_push_of_some _ htb) hge ⟨oc, vs, t, Heap.get?_push_of_some _ hoc, hd, hv⟩
    have n1 : h'.objs.size ≠ c' := Nat.ne_of_gt hlt
    have n2 : h'.objs.size ≠ P := Nat.ne_of_gt (Nat.lt_of_lt_of_le (Heap.lt_size atP) hsz)
    refine h h'.objs.size c' ((X.mg "__name__").getD .none) ctv _ _ I1 (.inr ⟨nC, rfl⟩) (Heap.get?_push_size _ rfl) ?_ (young hsz) (by show _ < (h'.push _).objs.size; rw [Heap.size_push]; exact Nat.lt_succ_self _) upd_same
    rw [upd_ne n1, upd_ne n2]
    exact I.hok.fresh hsz
end
end Fv

set_option maxHeartbeats 2000000
namespace Fv
variable [LC : LamC]
open PySem PySem.Spec PyProof.Rows L2 LamX
/-- a lambda can be made here -/
def LamHere (X : Cx) : Prop := ∃ c P, TabB X.base X.mg c P ∧ X.env.code = .ref c ∧ (P, X.env.qual ++ "<lambda>") ∈ LC.tabs ∧ ∀ p ∈ LC.tabs, p.1 = P → p.2 = X.env.qual ++ "<lambda>"
section
variable {X : Cx} {pins : List (Addr × Obj)} {σ : L2.St} {H : Hp} {s : Shared}
theorem made_wf {c : Cf} {P c' : Addr} {ps : Array Value} {pos : Pos} {H1 : Hp} (m : Made X c.H P c' ps pos H1) (hP : c.H P = some (.tbl ps)) (w : WF c) : WF ⟨c.M, H1⟩ := fun a ma => by
  obtain ⟨xs, e⟩ := w a ma
  refine ⟨xs, ?_⟩
  rcases m with rfl | ⟨nC, rfl⟩
  · exact e
  · show upd (upd c.H P _) c' _ a = _
    rw [upd_ne (ne_of_none e nC), upd_ne (fun z => by rw [z, hP] at e; cases e)]
    exact e
theorem made_ext {S : Addr → Prop} {c : Cf} {P c' : Addr} {ps : Array Value} {pos : Pos} {H1 : Hp} (m : Made X c.H P c' ps pos H1) (hP : c.H P = some (.tbl ps)) (ht : TriplesOk ps.toList)
    (ha : ∀ (pos : Pos) (cv : Value), codeAmong pos ps.toList = some cv → ∃ d, cv = .ref d ∧ c.H d = some (CodeO d (X.env.qual ++ "<lambda>"))) (hu : ∀ p ∈ LC.tabs, p.1 = P → p.2 = X.env.qual ++ "<lambda>") : Ext S c ⟨c.M, H1⟩ := by
  rcases m with rfl | ⟨nC, rfl⟩
  · exact Ext.refl
  have st : ∀ a o, c.H a = some o → (∀ q, o ≠ .tbl q) → upd (upd c.H P (.tbl (ps ++ #[rawInt pos.line, rawInt pos.col, .ref c']))) c' (CodeO c' (X.env.qual ++ "<lambda>")) a = some o := fun a o e n => by
    rw [upd_ne (ne_of_none e nC), upd_ne (fun z => by rw [z, hP] at e; exact n _ (Option.some.inj e).symm)]
    exact e
  have nPc : P ≠ c' := ne_of_none hP nC
  refine ⟨fun _ z => z, fun _ z => .inl z, fun a o e _ n => st a o e n, fun a qs e => ?_, fun p hp z => ?_⟩
  · by_cases h : a = P
    · rw [h]
      exact ⟨_, by show upd (upd c.H P _) c' _ P = _; rw [upd_ne nPc, upd_same]⟩
    · exact ⟨qs, by show upd (upd c.H P _) c' _ a = _; rw [upd_ne (ne_of_none e nC), upd_ne h]; exact e⟩
  · by_cases h : p.1 = P
    · rw [hu p hp h, h]
      refine ⟨_, by show upd (upd c.H P _) c' _ P = _; rw [upd_ne nPc, upd_same], by simp only [Array.toList_append]; exact PySem.TriplesOk_snoc _ _ _ _ ht, fun q cv hcv => ?_⟩
      simp only [Array.toList_append] at hcv
      rcases among_app _ ht hcv with y | y
      · obtain ⟨d, e1, e2⟩ := ha q cv y
        exact ⟨d, e1, st _ _ e2 codeO_ne⟩
      · exact ⟨c', y, upd_same⟩
    · obtain ⟨qs, a1, a2, a3⟩ := z
      refine ⟨qs, by show upd (upd c.H P _) c' _ p.1 = _; rw [upd_ne (ne_of_none a1 nC), upd_ne h]; exact a1, a2, fun q cv hcv => ?_⟩
      obtain ⟨d, e1, e2⟩ := a3 q cv hcv
      exact ⟨d, e1, st _ _ e2 codeO_ne⟩
theorem fp_nofr {b : Addr} (I : L2.Inv X pins σ H s) (h : FpOk X pins H b) : b ∉ L2.frs X.stack := fun z => by
  rcases List.mem_cons.mp (I.stkSub _ z) with e | e
  · exact h.2.1 e
  · exact h.2.2.1 e
/-- what stays while the keys are taken -/
def KJ (X : Cx) (pins : List (Addr × Obj)) (σ : L2.St) (f : Fx) (S : Addr → Prop) (c1 : Cf) (γ : Gm) (f0 : Addr) (fo : Obj) (cf it S0 : Addr) (s : Shared) : Prop :=
  ∃ c' : Cf, L2.Inv X pins σ c'.H s ∧ Ext S c1 c' ∧ Rel X.K f S c' σ γ ∧ c'.H cf = some (CodeO cf (X.env.qual ++ "<lambda>")) ∧ s.heap.get? f0 = some fo ∧ c'.H f0 = none ∧ FpOk X pins c'.H it ∧ FpOk X pins c'.H S0
theorem key_run {f : Fx} {S : Addr → Prop} {c1 : Cf} {γ : Gm} {l : List D} {xs : List V} {ks : List Int} {ge : Gm → Rs D} {i k : Nat} {x : Str} {params : Arguments} {body : Expr} {scope : Scope} {f0 cf it S0 : Addr} {pm ctv : Value} {St : Nat → Shared → Prop} {mx : Bool}
    (hd : Dens X.K c1 l xs) (hk : KeysAre i ge γ l ks) (hun : γ[i]? = some .un) (wf1 : WF c1) (hr : Room (k + 2) X.A) (L : LamP X.env.scope scope x) (hN : X.N.Nodup) (hi : X.N[i]? = some x)
    (hbind : ∀ u, bindArgs (PySem.W.kla_fn "<lambda>" (X.env.qual ++ "<lambda>") params body scope (cloFrom X.env.cells scope.names []) pm (.ref cf) ctv) ⟨[u], []⟩ = pure [(x, u)])
    (hbody : ∀ (A : Around) (s : Shared) (H : Hp), Room k (A.deeper (lamEnv X scope s.heap.objs.size f0 cf)) → MP (lamCx X A X.stack s H C8.E0 scope f0 cf) Wn body ge)
    (hfI : f0 ≠ it) (hfS : f0 ≠ S0) (hfr : f0 ∉ L2.frs X.stack)
    (keepSt : ∀ j s s' (c' : Cf), St j s → L2.Inv X pins σ c'.H s' → Ext S c1 c' → (∀ o, s.heap.get? it = some o → s'.heap.get? it = some o) → St j s') (objI : ∀ j s, St j s → ∃ o, s.heap.get? it = some o) :
    KeyRun X.prog X.w X.A.in1 (.ref f0) (if mx then .Gt else .Lt) S0 [it] (fun a b => b = a) l.length (AtV xs) St
      (KJ X pins σ f S c1 γ f0 (PySem.W.kla_obj "<lambda>" (X.env.qual ++ "<lambda>") params body scope (cloFrom X.env.cells scope.names []) pm cf ctv) cf it S0)
      (fun j v _ => ∃ t, v = .int (ks.getD j 0) t) (btK mx ks) where
  keep := fun s s' ⟨c', I, x1, R, hc, hf, hn, f1, f2⟩ m => by
    have I' := I.turnedL (h' := s'.heap) (t' := s'.toks) (ch := [S0, it]) (fun b o hb e => m.heap b o hb e) fun b hb => by
      rcases List.mem_cons.mp hb with rfl | hb
      · exact f2
      · rw [List.mem_singleton.mp hb]
        exact f1
    have es : { s with heap := s'.heap, toks := s'.toks } = s' := by
      obtain ⟨hp, g, d, tk, os⟩ := s'
      have h1 : g = s.gens := m.gens
      have h2 : d = s.drawn := m.drawn
      have h3 : os = s.os := m.os
      subst h1; subst h2; subst h3
      rfl
    rw [es] at I'
    exact ⟨c', I', x1, R, hc, m.heap f0 _ (fun z => by
      rcases List.mem_cons.mp z with z | z
      · exact hfS z
      · exact hfI (List.mem_singleton.mp z)) hf, hn, f1, f2⟩
  keepV := fun _ _ _ _ h _ => h
  turn := fun j v s o Q E hj hP hJ hst hS hc => by
    obtain ⟨c', I, x1, R, hco, hf, hn, f1, f2⟩ := hJ
    obtain ⟨x0, hx0, rv⟩ := hP
    obtain ⟨d, hd0, den⟩ := (hd.ext wf1 x1).getv hx0
    have hjk : j < ks.length := by rw [hk.1]; exact hj
    have ek := hk.2 j d ks[j] hd0 (List.getElem?_eq_getElem hjk)
    have egd : ks.getD j 0 = ks[j] := by rw [List.getD_eq_getElem?_getD, List.getElem?_eq_getElem hjk]; rfl
    have hr1 : Room (k + 1) X.A.in1 := hr.in1
    obtain ⟨tb, pe, sim⟩ := hbody X.A.in1 s c'.H (hr1.deeper _)
    refine key_call (A' := X.A.in1) I L hN hi rv I.env0.in1 hf hco (hbind v) hr1 (fun _ => pe)
      (Q := fun w H' => w = .int ks[j] ∧ ∃ c2 : Cf, c2.H = H' ∧ Ext S c' c2 ∧ Rel X.K f S c2 (σ.set i (some x0)) (γ.set i (.pu d))) ?_ ?_
    · refine sim f S c' _ (γ.set i (.pu d)) _ (R.setP den i) ?_
      rw [ek]
      intro w c2 x2 R2 _ q2
      exact ⟨q2, c2, rfl, x2, R2⟩
    · intro k' s' ⟨w, H', I', rw', ⟨ew, c2, eH, x2, R2⟩, un⟩
      subst eH
      subst ew
      obtain ⟨t, rfl⟩ := rw'
      obtain ⟨oI, eI⟩ := objI _ _ hst
      have nS := fp_nofr I f2
      have nI := fp_nofr I f1
      have kS : s'.heap.get? S0 = some o := un.keep S0 o hS f2.1 nS (by simp)
      have kI : ∀ o', s.heap.get? it = some o' → s'.heap.get? it = some o' := fun o' e => un.keep it o' e f1.1 nI (by simp)
      have x3 : Ext S c1 c2 := x1.trans R.wf x2
      refine hc _ s' ⟨c2, I', x3, R2.unset hun, x2.h cf _ hco (fun z => ?_) codeO_ne, un.keep f0 _ hf hn hfr (by simp), un.free f0 _ hf hn (by simp), ⟨un.free it _ eI f1.1 (by simp), f1.2⟩, ⟨un.free S0 _ hS f2.1 (by simp), f2.2⟩⟩
        (keepSt _ s s' c2 hst I' x3 kI) kS ⟨t, by rw [egd]⟩ fun _ _ z => z
      obtain ⟨ys, q⟩ := R.wf cf z.1
      rw [hco] at q
      unfold CodeO at q
      cases q
  cmp := fun a b ka kb s Q E _ ha hb hq => by
    cases mx with
    | true =>
      exact CmpOf.ints_gt (P := fun j v => ∃ t, v = .int (ks.getD j 0) t) (fun j => ks.getD j 0) (fun _ _ z => z) a b ka kb s Q E ha hb (show Q (.bool (btK true ks a b)) s from hq)
    | false =>
      exact CmpOf.ints_lt (P := fun j v => ∃ t, v = .int (ks.getD j 0) t) (fun j => ks.getD j 0) (fun _ _ z => z) a b ka kb s Q E ha hb (show Q (.bool (btK false ks a b)) s from hq)
theorem den_ref {K : PySem.W.Frag} {c : Cf} {d : D} {l : List D} {v : V} (h : Den K c d v) (e : itemsD d = some l) : ∃ p xs, v = .ref p ∧ Dens K c l xs ∧ ((∃ m, d = .lst m ∧ SqL K c.H p xs ∧ LstAt K c p xs) ∨ (∃ m, d = .tup m ∧ TpN c.H p xs)) := by
  cases d with
  | lst m =>
    cases e
    obtain ⟨p, xs, rfl, h1, h2⟩ := h
    exact ⟨p, xs, rfl, h2, .inl ⟨_, rfl, h1.sq, h1⟩⟩
  | tup m =>
    cases e
    obtain ⟨p, xs, rfl, h1, h2⟩ := h
    exact ⟨p, xs, rfl, h2, .inr ⟨_, rfl, h1⟩⟩
  | _ => cases e
/-- the built-in's walk begins -/
theorem keyed_pre {f : Fx} {S : Addr → Prop} {c1 : Cf} {γ : Gm} {d : D} {l : List D} {v : V} {u : Value} {ks : List Int} {ge : Gm → Rs D} {i k : Nat} {x : Str} {params : Arguments} {body : Expr} {scope : Scope} {f0 cf : Addr} {pm ctv : Value} {mx : Bool} {E : Value → Shared → Prop}
    (I : L2.Inv X pins σ c1.H s) (R : Rel X.K f S c1 σ γ) (hv : Den X.K c1 d v) (ru : RelV v u) (ei : itemsD d = some l) (hk : KeysAre i ge γ l ks) (hun : γ[i]? = some .un) (hr : Room (k + 2) X.A) (L : LamP X.env.scope scope x) (hN : X.N.Nodup) (hi : X.N[i]? = some x)
    (hbind : ∀ u, bindArgs (PySem.W.kla_fn "<lambda>" (X.env.qual ++ "<lambda>") params body scope (cloFrom X.env.cells scope.names []) pm (.ref cf) ctv) ⟨[u], []⟩ = pure [(x, u)])
    (hbody : ∀ (A : Around) (s : Shared) (H : Hp), Room k (A.deeper (lamEnv X scope s.heap.objs.size f0 cf)) → MP (lamCx X A X.stack s H C8.E0 scope f0 cf) Wn body ge)
    (hf : s.heap.get? f0 = some (PySem.W.kla_obj "<lambda>" (X.env.qual ++ "<lambda>") params body scope (cloFrom X.env.cells scope.names []) pm cf ctv)) (hn : c1.H f0 = none) (hfr : f0 ∉ L2.frs X.stack) (hco : c1.H cf = some (CodeO cf (X.env.qual ++ "<lambda>"))) :
    wpAny (model X.prog X.w) X.A.in1 (pyIter u) (fun itv s₂ => ∃ It fp wr G n P St J V bt, itv = .ref It ∧ WalksS X.prog X.w X.A.in1 It fp wr G n P St ∧ St 0 s₂ ∧ (∀ b ∈ fp, b < s₂.heap.objs.size) ∧
      KeyRun X.prog X.w X.A.in1 (.ref f0) (if mx then .Gt else .Lt) s₂.heap.objs.size wr G n P St J V bt ∧ J s₂ ∧ n = l.length ∧ (∀ s', J s' → ∃ c', L2.Inv X pins σ c'.H s' ∧ Ext S c1 c' ∧ Rel X.K f S c' σ γ) ∧
      (∀ v', P (argBest bt (n - 1)) v' → ∃ z e, l[bestK mx ks]? = some e ∧ RelV z v' ∧ Den X.K c1 e z)) E s := by
  obtain ⟨p, xs, rfl, hd, hs⟩ := den_ref hv ei
  obtain rfl : u = Value.ref p := ru
  have hlen : xs.length = l.length := hd.length
  have hfl : f0 < s.heap.objs.size := Heap.lt_size hf
  have best : ∀ v', AtV xs (argBest (btK mx ks) (l.length - 1)) v' → ∃ z e, l[bestK mx ks]? = some e ∧ RelV z v' ∧ Den X.K c1 e z := fun v' ⟨z, h1, h2⟩ => by
    have e0 : bestK mx ks = argBest (btK mx ks) (l.length - 1) := by unfold bestK; rw [hk.1]
    obtain ⟨e, h3, h4⟩ := hd.getv h1
    exact ⟨z, e, by rw [e0]; exact h3, h2, h4⟩
  rcases hs with ⟨m, rfl, hs, hat⟩ | ⟨m, rfl, hs⟩
  · obtain ⟨its, r, hl, _⟩ := I.list hs
    have hl' : s.heap.IsList p its.toArray := hl.isList
    refine PySem.W.iter_listW (A := X.A.in1) (hr.hd) hl' fun s₂ e W st hfp hw hkk => ?_
    have I2 : L2.Inv X pins σ c1.H s₂ := by rw [e]; exact I.kept fun b o e => Heap.get?_push_of_some _ e
    have hne : p ≠ s.heap.objs.size := Nat.ne_of_lt (by obtain ⟨_, e, _⟩ := hl'; exact Heap.lt_size e)
    have hsz : s₂.heap.objs.size = s.heap.objs.size + 1 := by rw [e]; exact Heap.size_push ..
    refine ⟨s.heap.objs.size, [s.heap.objs.size, p], [s.heap.objs.size], fun a b => b = a, xs.length, AtV xs, StL s.heap.objs.size p xs, KJ X pins σ f S c1 γ f0 (PySem.W.kla_obj "<lambda>" (X.env.qual ++ "<lambda>") params body scope (cloFrom X.env.cells scope.names []) pm cf ctv) cf s.heap.objs.size s₂.heap.objs.size, fun j v _ => ∃ t, v = .int (ks.getD j 0) t, btK mx ks, rfl, walkL (hr.hd) hne, ⟨st.1, its, st.2, r⟩, hfp, ?_, ⟨c1, I2, .refl, R, hco, hkk _ _ hf, hn, I.fpOk (Nat.le_refl _) (I.hok.fresh (Nat.le_refl _)), I2.fpOk (Nat.le_refl _) (I2.hok.fresh (Nat.le_refl _))⟩, hlen, fun s' ⟨c', a, b, c, _⟩ => ⟨c', a, b, c⟩, ?_⟩
    · rw [hlen]
      refine key_run (k := k) hd hk hun R.wf hr L hN hi hbind hbody (Nat.ne_of_lt hfl) (show f0 ≠ s₂.heap.objs.size from Nat.ne_of_lt (by rw [hsz]; exact Nat.lt_succ_of_lt hfl)) hfr (fun j s3 s4 c' ⟨h1, _⟩ I4 x4 ki => ?_) fun j s3 ⟨⟨o, h1, _⟩, _⟩ => ⟨o, h1⟩
      obtain ⟨its', r', hl4, _⟩ := I4.list (hat.ext R.wf x4).sq
      refine ⟨?_, its', hl4.isList, r'⟩
      obtain ⟨o, h1, h2⟩ := h1
      exact ⟨o, ki o h1, h2⟩
    · rw [hlen]; exact best
  · obtain ⟨its, r, hl, _⟩ := I.tuple hs.sq
    have hl' : s.heap.IsTuple p its.toArray := hl
    refine PySem.W.iter_tupleW (A := X.A.in1) (hr.hd) hl' fun s₂ e W st hfp hw hkk => ?_
    have I2 : L2.Inv X pins σ c1.H s₂ := by rw [e]; exact I.kept fun b o e => Heap.get?_push_of_some _ e
    have hne : p ≠ s.heap.objs.size := Nat.ne_of_lt (by obtain ⟨_, e, _⟩ := hl'; exact Heap.lt_size e)
    have hsz : s₂.heap.objs.size = s.heap.objs.size + 1 := by rw [e]; exact Heap.size_push ..
    refine ⟨s.heap.objs.size, [s.heap.objs.size, p], [s.heap.objs.size], fun a b => b = a, xs.length, AtV xs, StT s.heap.objs.size p xs, KJ X pins σ f S c1 γ f0 (PySem.W.kla_obj "<lambda>" (X.env.qual ++ "<lambda>") params body scope (cloFrom X.env.cells scope.names []) pm cf ctv) cf s.heap.objs.size s₂.heap.objs.size, fun j v _ => ∃ t, v = .int (ks.getD j 0) t, btK mx ks, rfl, walkT (hr.hd) hne, ⟨st.1, its, st.2, r⟩, hfp, ?_, ⟨c1, I2, .refl, R, hco, hkk _ _ hf, hn, I.fpOk (Nat.le_refl _) (I.hok.fresh (Nat.le_refl _)), I2.fpOk (Nat.le_refl _) (I2.hok.fresh (Nat.le_refl _))⟩, hlen, fun s' ⟨c', a, b, c, _⟩ => ⟨c', a, b, c⟩, ?_⟩
    · rw [hlen]
      refine key_run (k := k) hd hk hun R.wf hr L hN hi hbind hbody (Nat.ne_of_lt hfl) (show f0 ≠ s₂.heap.objs.size from Nat.ne_of_lt (by rw [hsz]; exact Nat.lt_succ_of_lt hfl)) hfr (fun j s3 s4 c' ⟨h1, _⟩ I4 x4 ki => ?_) fun j s3 ⟨⟨o, h1, _⟩, _⟩ => ⟨o, h1⟩
      obtain ⟨its', r', hl4, _⟩ := I4.tuple (SqT_ext R.wf x4 hs.sq)
      refine ⟨?_, its', hl4, r'⟩
      obtain ⟨o, h1, h2⟩ := h1
      exact ⟨o, ki o h1, h2⟩
    · rw [hlen]; exact best
end
end Fv

set_option maxHeartbeats 2000000
namespace Fv
variable [LC : LamC]
open PySem PySem.Spec PyProof.Rows L2 LamX
noncomputable def gKeyRest (mx : Bool) (i : Nat) (ge : Gm → Rs D) (df : Option D) : List D → Gm → Rs D := fun ds γ1 => match ds, γ1[i]? with
  | [d], some .un => match itemsD d with
    | some l => match gKeys i ge γ1 l with
      | some ks => if l = [] then ofO df γ1 else ofO l[bestK mx ks]? γ1
      | none => .no
    | none => .no
  | _, _ => .no
noncomputable def gKeyP (mx : Bool) (i : Nat) (ga : Gm → Rs D) (ge : Gm → Rs D) (df : Option D) : Gm → Rs D := fun γ => (gCons ga gNil γ).bind (gKeyRest mx i ge df)
section
variable {X : Cx} {W : WX}
theorem keyRest_post {mx : Bool} {i : Nat} {ge : Gm → Rs D} {df : Option D} {ds : List D} {γ1 : Gm} {f : Fx} {S : Addr → Prop} {c1 : Cf} {σ : L2.St} {Q : V → Hp → Prop} (h : Post X.K X.mg (vP X.K) W f S c1 σ γ1 Q (gKeyRest mx i ge df ds γ1)) :
    ∃ d l ks, ds = [d] ∧ itemsD d = some l ∧ KeysAre i ge γ1 l ks ∧ γ1[i]? = some .un ∧ (l = [] → Post X.K X.mg (vP X.K) W f S c1 σ γ1 Q (ofO df γ1)) ∧ (l ≠ [] → Post X.K X.mg (vP X.K) W f S c1 σ γ1 Q (ofO l[bestK mx ks]? γ1)) := by
  unfold gKeyRest at h
  split at h
  · rename_i d hu
    split at h
    · rename_i l hl
      split at h
      · rename_i ks hk
        refine ⟨d, l, ks, rfl, hl, gKeys_some hk, hu, fun e => ?_, fun e => ?_⟩
        · rw [if_pos e] at h; exact h
        · rw [if_neg e] at h; exact h
      · exact h.elim
    · exact h.elim
  · exact h.elim
/-- the value, then the lambda, then the call -/
theorem key_eval {mx : Bool} {i k : Nat} {a body : Expr} {ga ge : Gm → Rs D} {df : Option D} {x b : Str} {id : String} {params : Arguments} {scope : Scope} {p lpos kpos pos : Pos} {kws : List Keyword}
    (hr : Room (k + 2) X.A) (hL : LamHere X) (hg : Gl X b) (hm : X.mg b = none) (hbb : bootBuiltins b = some (.builtin id)) (hN : X.N.Nodup) (ha : MP X W a ga) (L : LamP X.env.scope scope x) (hi : X.N[i]? = some x)
    (hdef : defaultsOf params X.env = ([], [])) (hbind : ∀ (q : Str) (cl : List (Str × Addr)) (pm cv ctv u : Value), bindArgs (PySem.W.kla_fn "<lambda>" q params body scope cl pm cv ctv) ⟨[u], []⟩ = pure [(x, u)])
    (hbody : ∀ (f0 cf : Addr) (A : Around) (s : Shared) (H : Hp), Room k (A.deeper (lamEnv X scope s.heap.objs.size f0 cf)) → MP (lamCx X A X.stack s H C8.E0 scope f0 cf) Wn body ge)
    (h3 : starEach [a] X.env = (false, eval a X.env) :: starEach [] X.env) (hnb : b ≠ "__name__") (hdb : (b == ("__debug__" : Str)) = false)
    (he : backTo pos (starEach [a] X.env) = (false, eval a X.env) :: backTo pos (starEach [] X.env)) (hpl : (backTo pos (starEach [a] X.env)).any (·.1) = false)
    (hall : (backToKw pos (keywordEach (⟨some "key", .Lambda params body scope lpos, kpos⟩ :: kws) X.env)).all (·.1.isSome) = true) (hnone : (backToKw pos (keywordEach (⟨some "key", .Lambda params body scope lpos, kpos⟩ :: kws) X.env)).any (·.1.isNone) = false)
    (fin : ∀ (pins : List (Addr × Obj)) (s : Shared) (σ : L2.St) (f : Fx) (S : Addr → Prop) (c1 : Cf) (γ1 : Gm) (u : Value) (f0 : Addr) (Q : V → Hp → Prop) (l : List D) (ks : List Int), L2.Inv X pins σ c1.H s → Rel X.K f S c1 σ γ1 →
      (∀ E, wpAny (model X.prog X.w) X.A.in1 (pyIter u) (fun itv s₂ => ∃ It fp wr G n P St J V bt, itv = .ref It ∧ WalksS X.prog X.w X.A.in1 It fp wr G n P St ∧ St 0 s₂ ∧ (∀ b ∈ fp, b < s₂.heap.objs.size) ∧
      KeyRun X.prog X.w X.A.in1 (.ref f0) (if mx then .Gt else .Lt) s₂.heap.objs.size wr G n P St J V bt ∧ J s₂ ∧ n = l.length ∧ (∀ s', J s' → ∃ c', L2.Inv X pins σ c'.H s' ∧ Ext S c1 c' ∧ Rel X.K f S c' σ γ1) ∧
      (∀ v', P (argBest bt (n - 1)) v' → ∃ z e, l[bestK mx ks]? = some e ∧ RelV z v' ∧ Den X.K c1 e z)) E s) →
      (l = [] → Post X.K X.mg (vP X.K) W f S c1 σ γ1 Q (ofO df γ1)) → (l ≠ [] → Post X.K X.mg (vP X.K) W f S c1 σ γ1 Q (ofO l[bestK mx ks]? γ1)) →
      wpAny (model X.prog X.w) X.A (evalAll ((backToKw pos (keywordEach kws X.env)).map (·.2))) (fun kvs s₂ => wpAny (model X.prog X.w) X.A (call (.builtin id) [u] (((backToKw pos (keywordEach (⟨some "key", .Lambda params body scope lpos, kpos⟩ :: kws) X.env)).filterMap (·.1)).zip (.ref f0 :: kvs))) (EP X pins σ Q) X.xe s₂) X.xe s) :
    MP X W (.Call (.Name b p) [a] (⟨some "key", .Lambda params body scope lpos, kpos⟩ :: kws) pos) (gKeyP mx i ga ge df) := by
  obtain ⟨⟨ta, pa, sa⟩, _⟩ := md_cons ha md_nil h3
  refine mp_raw fun f S c σ γ Q pins s R hp I => ?_
  refine wpAny_Call_Name_kw (ld_blt I hg hm hbb ?_ hnb hdb)
  refine callWith_kw (thn (pa.run pos pins s σ c.H (fun vs H' => ∃ (c1 : Cf) (ds : List D) (γ1 : Gm), c1.H = H' ∧ Rel X.K f S c1 σ γ1 ∧ Dens X.K c1 ds vs ∧ Post X.K X.mg (vP X.K) W f S c1 σ γ1 Q (gKeyRest mx i ge df ds γ1)) I ?_) fun us s1 h => ?_) he hpl hall hnone
  · exact sa.bind stab_vP R hp fun ds γ1 vs c1 e0 x1 R1 k1 q1 h1 => ⟨c1, ds, γ1, rfl, R1, q1, h1⟩
  · obtain ⟨vs, H1, I1, rv, c1, ds, γ1, rfl, R1, q1, h1⟩ := h
    obtain ⟨d, l, ks, rfl, ei, hk, hun, hp0, hp1⟩ := keyRest_post h1
    obtain ⟨v, rfl, hv⟩ := dens1 q1
    obtain ⟨u, rfl, ru⟩ := vals1 rv
    obtain ⟨cc, P, TB, hcode, hmem, hu⟩ := hL
    obtain ⟨ps, hP, ht, hcs⟩ := R1.ext.tb (P, X.env.qual ++ "<lambda>") hmem (R1.wf0.tab _ hmem)
    refine kws_cons (lam_make3 I1 TB hcode hP ht hcs hdef (L.has I1.ok) fun f0 cf pm ctv H2 s2 I2 md hf hn hfr hlt hco => ?_)
    have x2 : ∀ {S}, Ext S c1 ⟨c1.M, H2⟩ := made_ext md hP ht hcs hu
    have w2 : WF ⟨c1.M, H2⟩ := made_wf md hP R1.wf
    have R2 : Rel X.K f S ⟨c1.M, H2⟩ σ γ1 := R1.step x2 w2
    have up : ∀ {r : Rs D}, Post X.K X.mg (vP X.K) W f S c1 σ γ1 Q r → Post X.K X.mg (vP X.K) W f S ⟨c1.M, H2⟩ σ γ1 Q r := fun {r} h => by
      cases r with
      | no => exact h
      | ok z g => exact fun v c' x R k q => h v c' (x2.trans w2 x) R k q
      | ex n fs g => exact fun C d c' hm x R k q => h C d c' hm (x2.trans w2 x) R k q
    exact fin pins s2 σ f S ⟨c1.M, H2⟩ γ1 u f0 Q l ks I2 R2 (fun E => keyed_pre I2 R2 (hv.ext R1.wf (x2 (S := Nop))) ru ei hk hun hr L hN hi (fun u => hbind _ _ _ _ _ u) (fun A s H => hbody f0 cf A s H) hf hn hfr hco) (fun e => up (hp0 e)) fun e => up (hp1 e)

theorem mp_minK {i k : Nat} {a body : Expr} {ga ge : Gm → Rs D} {x : Str} {params : Arguments} {scope : Scope} {p lpos kpos pos : Pos} 
    (hr : Room (k + 2) X.A) (hL : LamHere X) (hg : Gl X "min") (hm : X.mg "min" = none) (hN : X.N.Nodup) (hi : X.N[i]? = some x) (ha : MP X W a ga) (L : LamP X.env.scope scope x)
    (hbody : ∀ (f0 cf : Addr) (A : Around) (s : Shared) (H : Hp), Room k (A.deeper (lamEnv X scope s.heap.objs.size f0 cf)) → MP (lamCx X A X.stack s H C8.E0 scope f0 cf) Wn body ge)
    (hbind : ∀ (q : Str) (cl : List (Str × Addr)) (pm cv ctv u : Value), bindArgs (PySem.W.kla_fn "<lambda>" q params body scope cl pm cv ctv) ⟨[u], []⟩ = pure [(x, u)] := by intros; rfl)
    (hdef : defaultsOf params X.env = ([], []) := by rfl)
    (h3 : starEach [a] X.env = (false, eval a X.env) :: starEach [] X.env := by rfl)
    (he : backTo pos (starEach [a] X.env) = (false, eval a X.env) :: backTo pos (starEach [] X.env) := by rfl) (hpl : (backTo pos (starEach [a] X.env)).any (·.1) = false := by rfl) :
    MP X W (.Call (.Name "min" p) [a] (⟨some "key", .Lambda params body scope lpos, kpos⟩ :: []) pos) (gKeyP false i ga ge none) := by
  refine key_eval (mx := false) (id := "min") hr hL hg hm (by decide +kernel) hN ha L hi hdef hbind hbody h3 (by decide) (by decide) he hpl rfl rfl fun pins s σ f S c1 γ1 u f0 Q l ks I R walk p0 p1 => ?_
  refine kws_nil ?_
  refine call_min_walkK (wpAny_mono (walk X.xe) (fun itv s3 h => ?_) fun _ _ z => z)
  obtain ⟨It, fp, wr, G, n, P, St, J, V, bt, e, W0, st, hfp, K, hJ, hn, hJ', hP⟩ := h
  have hl0 : l ≠ [] := fun z => (p0 z).elim
  have hpos : 0 < n := by
    rw [hn]
    exact List.length_pos_iff.mpr hl0
  refine ⟨It, fp, wr, G, n, P, St, J, V, bt, e, W0, st, hfp, hpos, K, hJ, fun v' s' hv' hj => ?_⟩
  · obtain ⟨c', I', x', R'⟩ := hJ' s' hj
    obtain ⟨z, e', he', rz, dz⟩ := hP v' hv'
    have h := p1 hl0
    rw [he'] at h
    exact ⟨z, c'.H, I', rz, h z c' x' R' .refl (dz.ext R.wf x')⟩

theorem mp_minKN {i k : Nat} {a body : Expr} {ga ge : Gm → Rs D} {x : Str} {params : Arguments} {scope : Scope} {p lpos kpos pos : Pos} {j : Nat} {dpos kpos2 : Pos} 
    (hr : Room (k + 2) X.A) (hL : LamHere X) (hg : Gl X "min") (hm : X.mg "min" = none) (hN : X.N.Nodup) (hi : X.N[i]? = some x) (ha : MP X W a ga) (L : LamP X.env.scope scope x)
    (hbody : ∀ (f0 cf : Addr) (A : Around) (s : Shared) (H : Hp), Room k (A.deeper (lamEnv X scope s.heap.objs.size f0 cf)) → MP (lamCx X A X.stack s H C8.E0 scope f0 cf) Wn body ge)
    (hbind : ∀ (q : Str) (cl : List (Str × Addr)) (pm cv ctv u : Value), bindArgs (PySem.W.kla_fn "<lambda>" q params body scope cl pm cv ctv) ⟨[u], []⟩ = pure [(x, u)] := by intros; rfl)
    (hdef : defaultsOf params X.env = ([], []) := by rfl)
    (h3 : starEach [a] X.env = (false, eval a X.env) :: starEach [] X.env := by rfl)
    (he : backTo pos (starEach [a] X.env) = (false, eval a X.env) :: backTo pos (starEach [] X.env) := by rfl) (hpl : (backTo pos (starEach [a] X.env)).any (·.1) = false := by rfl) :
    MP X W (.Call (.Name "min" p) [a] (⟨some "key", .Lambda params body scope lpos, kpos⟩ :: [⟨some "default", .Constant .none j dpos, kpos2⟩]) pos) (gKeyP false i ga ge (some .non)) := by
  refine key_eval (mx := false) (id := "min") hr hL hg hm (by decide +kernel) hN ha L hi hdef hbind hbody h3 (by decide) (by decide) he hpl rfl rfl fun pins s σ f S c1 γ1 u f0 Q l ks I R walk p0 p1 => ?_
  refine kws_cons (Constant_none (kws_nil ?_))
  refine call_min_walkKD (wpAny_mono (walk X.xe) (fun itv s3 h => ?_) fun _ _ z => z)
  obtain ⟨It, fp, wr, G, n, P, St, J, V, bt, e, W0, st, hfp, K, hJ, hn, hJ', hP⟩ := h
  refine ⟨It, fp, wr, G, n, P, St, J, V, bt, e, W0, st, hfp, K, hJ, fun h0 s' hj => ?_, fun h0 v' s' hv' hj => ?_⟩
  · obtain ⟨c', I', x', R'⟩ := hJ' s' hj
    have h := p0 (List.eq_nil_of_length_eq_zero (by omega))
    exact ⟨.non, c'.H, I', rfl, h .non c' x' R' .refl rfl⟩
  · obtain ⟨c', I', x', R'⟩ := hJ' s' hj
    obtain ⟨z, e', he', rz, dz⟩ := hP v' hv'
    have hl0 : l ≠ [] := fun z => by rw [z] at hn; simp at hn; omega
    have h := p1 hl0
    rw [he'] at h
    exact ⟨z, c'.H, I', rz, h z c' x' R' .refl (dz.ext R.wf x')⟩

theorem mp_maxK {i k : Nat} {a body : Expr} {ga ge : Gm → Rs D} {x : Str} {params : Arguments} {scope : Scope} {p lpos kpos pos : Pos} 
    (hr : Room (k + 2) X.A) (hL : LamHere X) (hg : Gl X "max") (hm : X.mg "max" = none) (hN : X.N.Nodup) (hi : X.N[i]? = some x) (ha : MP X W a ga) (L : LamP X.env.scope scope x)
    (hbody : ∀ (f0 cf : Addr) (A : Around) (s : Shared) (H : Hp), Room k (A.deeper (lamEnv X scope s.heap.objs.size f0 cf)) → MP (lamCx X A X.stack s H C8.E0 scope f0 cf) Wn body ge)
    (hbind : ∀ (q : Str) (cl : List (Str × Addr)) (pm cv ctv u : Value), bindArgs (PySem.W.kla_fn "<lambda>" q params body scope cl pm cv ctv) ⟨[u], []⟩ = pure [(x, u)] := by intros; rfl)
    (hdef : defaultsOf params X.env = ([], []) := by rfl)
    (h3 : starEach [a] X.env = (false, eval a X.env) :: starEach [] X.env := by rfl)
    (he : backTo pos (starEach [a] X.env) = (false, eval a X.env) :: backTo pos (starEach [] X.env) := by rfl) (hpl : (backTo pos (starEach [a] X.env)).any (·.1) = false := by rfl) :
    MP X W (.Call (.Name "max" p) [a] (⟨some "key", .Lambda params body scope lpos, kpos⟩ :: []) pos) (gKeyP true i ga ge none) := by
  refine key_eval (mx := true) (id := "max") hr hL hg hm (by decide +kernel) hN ha L hi hdef hbind hbody h3 (by decide) (by decide) he hpl rfl rfl fun pins s σ f S c1 γ1 u f0 Q l ks I R walk p0 p1 => ?_
  refine kws_nil ?_
  refine call_max_walkK (wpAny_mono (walk X.xe) (fun itv s3 h => ?_) fun _ _ z => z)
  obtain ⟨It, fp, wr, G, n, P, St, J, V, bt, e, W0, st, hfp, K, hJ, hn, hJ', hP⟩ := h
  have hl0 : l ≠ [] := fun z => (p0 z).elim
  have hpos : 0 < n := by
    rw [hn]
    exact List.length_pos_iff.mpr hl0
  refine ⟨It, fp, wr, G, n, P, St, J, V, bt, e, W0, st, hfp, hpos, K, hJ, fun v' s' hv' hj => ?_⟩
  · obtain ⟨c', I', x', R'⟩ := hJ' s' hj
    obtain ⟨z, e', he', rz, dz⟩ := hP v' hv'
    have h := p1 hl0
    rw [he'] at h
    exact ⟨z, c'.H, I', rz, h z c' x' R' .refl (dz.ext R.wf x')⟩

theorem mp_maxKN {i k : Nat} {a body : Expr} {ga ge : Gm → Rs D} {x : Str} {params : Arguments} {scope : Scope} {p lpos kpos pos : Pos} {j : Nat} {dpos kpos2 : Pos} 
    (hr : Room (k + 2) X.A) (hL : LamHere X) (hg : Gl X "max") (hm : X.mg "max" = none) (hN : X.N.Nodup) (hi : X.N[i]? = some x) (ha : MP X W a ga) (L : LamP X.env.scope scope x)
    (hbody : ∀ (f0 cf : Addr) (A : Around) (s : Shared) (H : Hp), Room k (A.deeper (lamEnv X scope s.heap.objs.size f0 cf)) → MP (lamCx X A X.stack s H C8.E0 scope f0 cf) Wn body ge)
    (hbind : ∀ (q : Str) (cl : List (Str × Addr)) (pm cv ctv u : Value), bindArgs (PySem.W.kla_fn "<lambda>" q params body scope cl pm cv ctv) ⟨[u], []⟩ = pure [(x, u)] := by intros; rfl)
    (hdef : defaultsOf params X.env = ([], []) := by rfl)
    (h3 : starEach [a] X.env = (false, eval a X.env) :: starEach [] X.env := by rfl)
    (he : backTo pos (starEach [a] X.env) = (false, eval a X.env) :: backTo pos (starEach [] X.env) := by rfl) (hpl : (backTo pos (starEach [a] X.env)).any (·.1) = false := by rfl) :
    MP X W (.Call (.Name "max" p) [a] (⟨some "key", .Lambda params body scope lpos, kpos⟩ :: [⟨some "default", .Constant .none j dpos, kpos2⟩]) pos) (gKeyP true i ga ge (some .non)) := by
  refine key_eval (mx := true) (id := "max") hr hL hg hm (by decide +kernel) hN ha L hi hdef hbind hbody h3 (by decide) (by decide) he hpl rfl rfl fun pins s σ f S c1 γ1 u f0 Q l ks I R walk p0 p1 => ?_
  refine kws_cons (Constant_none (kws_nil ?_))
  refine call_max_walkKD (wpAny_mono (walk X.xe) (fun itv s3 h => ?_) fun _ _ z => z)
  obtain ⟨It, fp, wr, G, n, P, St, J, V, bt, e, W0, st, hfp, K, hJ, hn, hJ', hP⟩ := h
  refine ⟨It, fp, wr, G, n, P, St, J, V, bt, e, W0, st, hfp, K, hJ, fun h0 s' hj => ?_, fun h0 v' s' hv' hj => ?_⟩
  · obtain ⟨c', I', x', R'⟩ := hJ' s' hj
    have h := p0 (List.eq_nil_of_length_eq_zero (by omega))
    exact ⟨.non, c'.H, I', rfl, h .non c' x' R' .refl rfl⟩
  · obtain ⟨c', I', x', R'⟩ := hJ' s' hj
    obtain ⟨z, e', he', rz, dz⟩ := hP v' hv'
    have hl0 : l ≠ [] := fun z => by rw [z] at hn; simp at hn; omega
    have h := p1 hl0
    rw [he'] at h
    exact ⟨z, c'.H, I', rz, h z c' x' R' .refl (dz.ext R.wf x')⟩
end
end Fv

set_option maxHeartbeats 2000000
namespace Fv
variable [LC : LamC]
open PySem L2
open PyProof.Rows (envOfC)
/-- the def n makes lambdas -/
structure LamD (K : PySem.W.Frag) (mg : Str → Option Value) (base : Heap) (n : Str) : Prop where
  tb : LamX.TabB base mg (He.cT K (n, none)).1 (He.cT K (n, none)).2
  mem : ((He.cT K (n, none)).2, n ++ ".<locals>." ++ "<lambda>") ∈ LC.tabs
  inj : ∀ p ∈ LC.tabs, p.1 = (He.cT K (n, none)).2 → p.2 = n ++ ".<locals>." ++ "<lambda>"
theorem fokL {P : Program} {w : World} {K : PySem.W.Frag} {mg : Str → Option Value} {base : Heap} {x : Str} {params : Arguments} {body : List Stmt} {scope : Scope} {fd : FuncData} {N ps : List Str} {k : Nat} {h : Gm → Out} (F : FunD K x x params body scope [] [] (He.fAd K (x, none)) fd) (D : LamD K mg base x) (S : FnScope N ps scope)
    (hb : ∀ (cdv : Value) (A : Around) (outer : List Env) (s : Shared) (H : Hp) (E : XK), Room k (A.deeper (envOfC x scope s.heap.objs.size (He.fAd K (x, none)) cdv)) → LamHere (cxOf CX0 P w K mg base N x scope (He.fAd K (x, none)) cdv A outer s H E).nox → MSs (cxOf CX0 P w K mg base N x scope (He.fAd K (x, none)) cdv A outer s H E).nox Wn body h) :
    FnOk P w K mg base CX0 (k + 1) (He.fAd K (x, none)) fd ps (spF K mg ps.length (runN N.length h)) := by
  obtain ⟨oc, od, dV, kV, doc, pm, an, cdv0, ct, osl, rfl, lk, hcd, hdf, hkf⟩ := F.ex
  obtain ⟨c, rfl⟩ := He.codeIn_ref hcd
  have ec : He.codeOf K (x, none) = c := He.codeOf_eq lk rfl
  refine fn_of lk hcd S (fun vs H Q E z => z.1) fun A outer s H vs Q E hr z => ?_
  obtain ⟨t, h1, s1⟩ := hb (.ref c) A outer s H E hr ⟨c, _, by have := D.tb; rw [show (He.cT K (x, none)).1 = c from ec] at this; exact this, rfl, D.mem, D.inj⟩
  refine ⟨t, h1.nox, ?_⟩
  obtain ⟨hl, g, γ, rfl, R, hp⟩ := z
  have hlen : γ.length = vs.length := by rw [← R.len, List.length_map]
  have R' := start_rel R (N.length - vs.length)
  refine s1 g g.c0 (start N vs) (γ ++ List.replicate (N.length - vs.length) SV.un) _ (show Rel K g g.S g.c0 (start N vs) (γ ++ List.replicate (N.length - vs.length) SV.un) from R') ?_
  unfold runN at hp
  rw [hlen] at hp
  cases e : h (γ ++ List.replicate (N.length - vs.length) .un) with
  | rt d g' =>
    rw [e] at hp
    simp only at hp
    cases e2 : finR γ g' with
    | none => rw [e2] at hp; exact hp.elim
    | some qs =>
      rw [e2] at hp
      exact fun v σ' c' px R2 hd => hp v c' (fin_rel R px R2 e2) hd
  | nx g' =>
    rw [e] at hp
    simp only at hp
    cases e2 : finR γ g' with
    | none => rw [e2] at hp; exact hp.elim
    | some qs =>
      rw [e2] at hp
      exact fun σ' c' px R2 => hp .non c' (fin_rel R px R2 e2) rfl
  | _ => rw [e] at hp; exact hp.elim
end Fv
/-! ### the head with tables -/
namespace Fv
open PySem L2
def exB (bx : List (Str × String)) (names : List Str) (K : PySem.W.Frag) : Bool := bxB bx K && decide ((names.map fun n => (He.cT K (n, none)).2).Nodup)
theorem exB_bx {bx : List (Str × String)} {names : List Str} {K : PySem.W.Frag} {h : Heap} {mg : Str → Option Value} (X : K.In h) (G : h.Ns mainGlobals mg) (c : exB bx names K = true) (i : Nat) {x : Str} {z : String} (e : bx[i]? = some (x, z)) : mg x = some (bvOf z) := by
  have h0 := (Bool.and_eq_true_iff.mp c).1
  have h1 := List.all_eq_true.mp h0 (x, z) (List.mem_of_getElem? e)
  exact PySem.W.mg_of X G (He.eqO_ok h1)
abbrev lamC (K : PySem.W.Frag) (names : List Str) : LamC := ⟨tabsOf K names⟩
theorem lamD_of {bx : List (Str × String)} {names : List Str} {K : PySem.W.Frag} {mg : Str → Option Value} {base : Heap} (c : exB bx names K = true) (T : ∀ p ∈ names.map (fun n => He.cT K (n, none)), LamX.TabB base mg p.1 p.2) {n : Str} (hn : n ∈ names) : @LamD (lamC K names) K mg base n := by
  have h1 : (names.map fun n => (He.cT K (n, none)).2).Nodup := of_decide_eq_true (Bool.and_eq_true_iff.mp c).2
  refine @LamD.mk (lamC K names) K mg base n (T _ (List.mem_map.mpr ⟨n, hn, rfl⟩)) (List.mem_map.mpr ⟨n, hn, rfl⟩) fun p hp e => ?_
  obtain ⟨m, hm, rfl⟩ := List.mem_map.mp (show p ∈ names.map _ from hp)
  have key : ∀ l : List Str, (l.map fun n => (He.cT K (n, none)).2).Nodup → ∀ a ∈ l, ∀ b ∈ l, (He.cT K (a, none)).2 = (He.cT K (b, none)).2 → a = b := by
    intro l
    induction l with
    | nil => intro _ a ha; cases ha
    | cons x l ih =>
      intro nd a ha b hb e
      rw [List.map_cons, List.nodup_cons] at nd
      rcases List.mem_cons.mp ha with rfl | ha'
      · rcases List.mem_cons.mp hb with rfl | hb'
        · rfl
        · exact (nd.1 (List.mem_map.mpr ⟨b, hb', e.symm⟩)).elim
      · rcases List.mem_cons.mp hb with rfl | hb'
        · exact (nd.1 (List.mem_map.mpr ⟨a, ha', e⟩)).elim
        · exact ih nd.2 a ha' b hb' e
  rw [key names h1 m hm n hn e]
/-- the end of a law whose text makes lambdas -/
theorem lawAtS_of {l : PySem.W.OpenLaw} {w : World} {K : PySem.W.Frag} {k n : Nat} {x : Str} {mg : Str → Option Value} {fa : Addr} {h : Heap} {bx : List (Str × String)} {fs : List He.Fa} {fn : List He.DefD} {names : List Str} {F : List SV → Rs D} (KX : K.In h)
    (S : He.SaysX fs fn [] (names.map fun n => (n, none)) (exB bx names) w h K) {fd : FuncData} (hb : ∀ (s : Shared) (u : Value), BindsTo s fd ⟨[u], []⟩ [(x, u)])
    (math : ∀ ns : List Int, ns.length ≤ n → ∃ γ, F [.pu (.lst (ns.map .int))] = .ok (.bl true) γ)
    (hF : ∀ base : Heap, K.In base → base.Ns mainGlobals mg → (∀ m ∈ names, @LamD (lamC K names) K mg base m) → FnOk l.prog w K mg base CX0 k fa fd [x] (@spF (lamC K names) K mg 1 F)) : LamX.LawAtS l w K CX0 k n x mg fa h := by
  have mem : ∀ {p : Addr × Addr}, p ∈ (names.map fun n => He.cT K (n, none)) → ∃ q ∈ names.map (fun n => ((n, none) : He.Defn)), p = He.cT K q := fun {p} hp => by
    obtain ⟨m, hm, rfl⟩ := List.mem_map.mp hp
    exact ⟨(m, none), List.mem_map.mpr ⟨m, hm, rfl⟩, rfl⟩
  refine ⟨fd, names.map fun n => He.cT K (n, none), @spF (lamC K names) K mg 1 F, fun p hp => ?_, fun p hp => ?_, fun p hp => ?_, hb, fun H a ns hl _ hH hS => ?_, fun base h1 h2 h3 => hF base h1 h2 fun m hm => lamD_of S.more h3 hm⟩
  · obtain ⟨q, hq, rfl⟩ := mem hp
    exact S.empty q hq
  · obtain ⟨q, hq, rfl⟩ := mem hp
    exact S.out q hq
  · obtain ⟨q, hq, rfl⟩ := mem hp
    exact PySem.W.codeHd_of_K KX (S.hd q hq)
  · obtain ⟨γ, e⟩ := math ns hl
    refine @law_sp (lamC K names) K mg F H a ns (fun p hp => ?_) hS γ e
    obtain ⟨m, hm, rfl⟩ := List.mem_map.mp (show p ∈ names.map _ from hp)
    exact LamX.TabS.nil (hH (He.cT K (m, none)) (List.mem_map.mpr ⟨m, hm, rfl⟩))
theorem obsX_tree {n : Nat} {fa : List He.Fa} {fn : List He.DefD} {tf : List He.Defn} {ex : PySem.W.Frag → Bool} (s : PySem.W.SharedT) : He.obsX n fa fn [] tf ex (HandSHeadRun.getT s) = (He.hookX n fa fn [] tf ex).obs s.abs := He.obsX_eq fun a => HandSHeadRun.getT_eq s a
end Fv

set_option maxHeartbeats 2000000
/-! ### xs.index(i), ints in a list or a tuple -/
namespace Fv
variable [LC : LamC]
open PySem PySem.Spec PyProof.Rows L2
def dIndexL (l : List D) (k : Int) : Option D := match intL l with
  | some ns => if k ∈ ns then some (.int ((ns.idxOf k : Nat) : Int)) else none
  | none => none
def gIdx (l : List D) (gb : Gm → Rs D) : Gm → Rs D := fun γ1 => (gb γ1).bind fun k γ2 => ofO (match k with | .int i => dIndexL l i | _ => none) γ2
def gIndex (ga gb : Gm → Rs D) : Gm → Rs D := fun γ => (ga γ).bind fun d γ1 => match itemsD d with
  | some l => gIdx l gb γ1
  | none => .no
@[simp] theorem e_gIdx {l : List D} {gb : Gm → Rs D} {γ1 : Gm} : gIdx l gb γ1 = (gb γ1).bind fun k γ2 => ofO (match k with | .int i => dIndexL l i | _ => none) γ2 := hide rfl
@[simp] theorem e_gIndex {ga gb : Gm → Rs D} {γ : Gm} : gIndex ga gb γ = (ga γ).bind fun d γ1 => match itemsD d with
  | some l => gIdx l gb γ1
  | none => .no := hide rfl
theorem d_indexL {ns : List Int} {k : Int} (h : k ∈ ns) : dIndexL (ns.map .int) k = some (.int ((ns.idxOf k : Nat) : Int)) := by
  unfold dIndexL
  rw [intL_map]
  exact if_pos h
theorem dIndexL_some {l : List D} {k : Int} {z : D} (h : dIndexL l k = some z) : ∃ ns, intL l = some ns ∧ k ∈ ns ∧ z = .int ((ns.idxOf k : Nat) : Int) := by
  unfold dIndexL at h
  split at h
  · rename_i ns e
    split at h
    · rename_i hk
      cases h
      exact ⟨ns, e, hk, rfl⟩
    · cases h
  · cases h
theorem TpN0 {H : Hp} {a : Addr} {xs : List V} {o : Obj} (e : H a = some (.frz o (.tup xs))) (d : o.dict = none) : TpN H a xs := ⟨o, e, d⟩
section
variable {X : Cx} {W : WX} {o e : Expr} {ga gb : Gm → Rs D} {apos cpos : Pos}
theorem TpN.at {pins : List (Addr × Obj)} {σ : L2.St} {H : Hp} {s : Shared} {a : Addr} {xs : List V} (I : L2.Inv X pins σ H s) (h : TpN H a xs) : s.TypeIs (.ref a) "tuple" ∧ ∀ b, Value.ref a = .ref b → ∃ ob, s.heap.get? b = some ob ∧ ob.dict = none := by
  obtain ⟨ob, e, d⟩ := h
  obtain ⟨e1, _, its, _, ht⟩ := I.hok a _ e
  refine ⟨IsTup.typeIs ht, fun b eb => ?_⟩
  cases eb
  exact ⟨ob, e1, d⟩
theorem mp_index (ha : MP X W o ga) (hb : MP X W e gb) (hbase : attributeBase o "index" X.env (eval o X.env) = eval o X.env := by rfl)
    (hfew : ((backTo cpos (starEach [e] X.env)).all (fun x => !x.1) && (backToKw cpos (keywordEach [] X.env)).all (fun x => x.1.isSome)
      && decide ([e].length + ([] : List Keyword).length + (if ([] : List Keyword).isEmpty then 0 else 1) < 30)) = true := by rfl)
    (hline : (apos.endLine == cpos.line) = true := by rfl) (hs : starEach [e] X.env = (false, eval e X.env) :: starEach [] X.env := by rfl) (hplain : (backTo cpos (starEach [] X.env)).any (·.1) = false := by rfl) :
    MP X W (.Call (.Attribute o "index" apos) [e] [] cpos) (gIndex ga gb) := by
  obtain ⟨ta, h1, s1⟩ := ha
  obtain ⟨tb, h2, s2⟩ := hb
  refine mp_raw fun f S c σ γ Q pins s R hp I => ?_
  have rest : ∀ {γ1 : Gm} {c1 : Cf} {sh : Shared} {l : List D} {p : Addr} {xs : List V} (T id : String), Rel X.K f S c1 σ γ1 → Post X.K X.mg (vP X.K) W f S c1 σ γ1 Q (gIdx l gb γ1) → Dens X.K c1 l xs → L2.Inv X pins σ c1.H sh →
      (∀ (i : Int) (ns : List Int) (c2 : Cf) (s2 : Shared) (t : Tok) (Qv : Value → Shared → Prop), Ext S c1 c2 → L2.Inv X pins σ c2.H s2 → intL l = some ns → i ∈ ns → xs = ns.map V.int → Qv (.int ((ns.idxOf i : Nat) : Int) s2.toks) { s2 with toks := s2.toks + 1 } → wpAny (model X.prog X.w) X.A (call (.builtin id) [.ref p, .int i t]) Qv X.xe s2) →
      wpAny (model X.prog X.w) X.A (callWith cpos (.builtin id) [.ref p] (backTo cpos (starEach [e] X.env)) (backToKw cpos (keywordEach [] X.env))) (EP X pins σ Q) X.xe sh := fun {γ1 c1 sh l p xs} T id R1 h3 q1 I1 hcall => by
    have pa := pa_cons h2 pa_nil hs
    have hA := pa.run cpos pins sh σ c1.H (fun vs H' => ∃ (c2 : Cf) (k : D) (γ2 : Gm) (w : V), c2.H = H' ∧ vs = [w] ∧ Ext S c1 c2 ∧ Rel X.K f S c2 σ γ2 ∧ Den X.K c2 k w ∧ Post X.K X.mg (vP X.K) W f S c2 σ γ2 Q (ofO (match k with | .int i => dIndexL l i | _ => none) γ2)) I1
      (s2.bind stab_vP R1 h3 fun k γ2 w c2 _ x2 R2 k2 q2 h4 => ⟨c2, k, γ2, w, rfl, rfl, x2, R2, q2, h4⟩)
    rw [hs] at hA ⊢
    refine Calls.callWith_builtin (by show (false || (backTo cpos (starEach [] X.env)).any (·.1)) = false; rw [hplain] <;> rfl) (Calls.evalArgs_plain ?_)
    refine thn hA fun us s3 ⟨vs, H2, I2, r2, c2, k, γ2, w, e1, e2, x2, R2, q2, h4⟩ => ?_
    subst e1
    subst e2
    obtain ⟨u, rfl, ru⟩ := vals1 r2
    obtain ⟨z, ez, h5⟩ := h4.fin R2
    cases k with
    | int i =>
      cases (show w = .int i from q2)
      obtain ⟨t, rfl⟩ := ru
      obtain ⟨ns, en, hk, rfl⟩ := dIndexL_some ez
      have ex := intL_den en q1
      exact hcall i ns c2 s3 t _ x2 I2 en hk ex ⟨.int _, c2.H, I2.tok _, ⟨_, rfl⟩, h5 _ c2 .refl R2.wf rfl⟩
    | _ => cases ez
  refine wpAny_Call_method_late hbase hfew hline rfl (thn (h1.run pins s σ c.H (fun v H' => ∃ (c1 : Cf) (d : D) (γ1 : Gm), c1.H = H' ∧ Rel X.K f S c1 σ γ1 ∧ Den X.K c1 d v ∧ Post X.K X.mg (vP X.K) W f S c1 σ γ1 Q (match itemsD d with | some l => gIdx l gb γ1 | none => .no)) I (s1.bind stab_vP R hp fun d γ1 v c1 _ x1 R1 k1 q1 h3 => ⟨c1, d, γ1, rfl, R1, q1, h3⟩)) fun u s3 ⟨v, H1, I1, r1, c1, d, γ1, e1, R1, q1, h3⟩ => ?_)
  subst e1
  cases ei : itemsD d with
  | none => rw [ei] at h3; exact h3.elim
  | some l =>
    rw [ei] at h3
    obtain ⟨p, xs, rfl, hd, hk⟩ := den_ref q1 ei
    obtain rfl : u = Value.ref p := r1
    rcases hk with ⟨m, rfl, hq, hat⟩ | ⟨m, rfl, hq⟩
    · obtain ⟨t1, t2⟩ := tyV_is (T := "list") (x := .ref p) (v := .ref p) I1 rfl (show tyV X.K "list" (.ref p) c1.H from .inl ⟨rfl, xs, hq⟩)
      refine ⟨"list", "list.index", PySem.F.plainAttrs_list, PySem.F.slot_list_index, PySem.F.type_list_index, t1, t2, ?_⟩
      refine rest "list" "list.index" R1 h3 hd I1 fun i ns c2 s2 t Qv x2 I2 en hi ex hQ => ?_
      obtain ⟨its, r, hl, hz⟩ := I2.list (hat.ext R1.wf x2).sq
      rw [ex] at r hz
      rw [List.length_map] at hz
      exact PySem.SeqAt.list_index_ints hl.isList r.ints hz hi hQ
    · obtain ⟨ob, ho, hd0⟩ := hq
      obtain ⟨t1, t2⟩ := TpN.at I1 (TpN0 ho hd0)
      refine ⟨"tuple", "tuple.index", PySem.F.plainAttrs_tuple, PySem.F.slot_tuple_index, PySem.F.type_tuple_index, t1, t2, ?_⟩
      refine rest "tuple" "tuple.index" R1 h3 hd I1 fun i ns c2 s2 t Qv x2 I2 en hi ex hQ => ?_
      obtain ⟨its, r, hl, hz⟩ := I2.tuple (TpN_ext R1.wf x2 (TpN0 ho hd0)).sq
      rw [ex] at r
      exact PySem.SeqAt.tuple_index_ints (show s2.heap.IsTuple p its.toArray from hl) r.ints hi hQ
end
end Fv

set_option maxHeartbeats 2000000
/-! ### min and max with a default -/
namespace Fv
variable [LC : LamC]
open PySem L2
def rBestD (K : PySem.W.Frag) (best : D → List D → D) : List V → List V → Hp → VK → Prop := fun vs zs H Q => ∃ (p : Addr) (xs : List V) (l : List D) (z : V), vs = [V.ref p] ∧ zs = [z] ∧ (SqL K H p xs ∨ SqT K H p xs) ∧ DpAll K H xs (toPs l) ∧ alikesD l = true ∧ l.all notNon = true ∧ gdss l = true ∧ deps l ≤ 64 ∧
  (l = [] → Q z H) ∧ ∀ (d : D) (ds : List D), l = d :: ds → ∀ (i : Nat) (v : V), xs[i]? = some v → (d :: ds)[i]? = some (best d ds) → Q v H
theorem toPs_cons {l : List D} {y : PyData} {ys : List PyData} (h : toPs l = y :: ys) : ∃ d ds, l = d :: ds ∧ y = toP d ∧ ys = toPs ds := by
  cases l with
  | nil => simp [toPs] at h
  | cons d ds =>
    simp only [toPs, List.cons.injEq] at h
    exact ⟨d, ds, rfl, h.1.symm, h.2.symm⟩
theorem toPs_nil {l : List D} (h : toPs l = []) : l = [] := by
  cases l with
  | nil => rfl
  | cons d ds => simp [toPs] at h
theorem cr_minD {X : Cx} (hc : X.calm = true) (hu : X.A.units + 66 < cLine) : CallRK X (.builtin "min") [Str.ofString "default"] (rBestD X.K minDD) := by
  intro pn s st hh vs zs us ws Q inv rv rz hw
  obtain ⟨p, xs, l, z, rfl, rfl, hs, hD, ha, hn, hg, hd, q0, q1⟩ := hw
  obtain ⟨w, rfl, rw'⟩ := vals1 rz
  rw [Vals.ref1 rv]
  have hal := alikes_ok ha hn
  have hdep : X.A.units + 1 + PyData.depthAll (toPs l) < cLine := by
    have : PyData.depthAll (toPs l) = deps l := deps_toP _
    omega
  rcases hs with hs | hs
  · obtain ⟨its, r, hl, _⟩ := inv.list hs
    obtain ⟨as, hr⟩ := Dp.readsAll inv (toPs l) xs its hD r
    refine PySem.W.min_list_default (inv.ok.hd hc) hl.isList hr hal hdep (fun e h' tk hk => ⟨z, hh, inv.kept hk, rw', q0 (toPs_nil e)⟩) fun y ys i v h' tk bs e hv hrd hk => ?_
    obtain ⟨d, ds, rfl, rfl, rfl⟩ := toPs_cons e
    rw [toP_min] at hrd
    obtain ⟨z', e1, rz', e2⟩ := best_fin inv r hD hg hv hrd hk
    exact ⟨z', hh, inv.kept hk, rz', q1 d ds rfl i z' e1 e2⟩
  · obtain ⟨its, r, hl, _⟩ := inv.tuple hs
    obtain ⟨as, hr⟩ := Dp.readsAll inv (toPs l) xs its hD r
    refine PySem.W.min_tuple_default (inv.ok.hd hc) (show s.heap.IsTuple p its.toArray from hl) hr hal hdep (fun e h' tk hk => ⟨z, hh, inv.kept hk, rw', q0 (toPs_nil e)⟩) fun y ys i v h' tk bs e hv hrd hk => ?_
    obtain ⟨d, ds, rfl, rfl, rfl⟩ := toPs_cons e
    rw [toP_min] at hrd
    obtain ⟨z', e1, rz', e2⟩ := best_fin inv r hD hg hv hrd hk
    exact ⟨z', hh, inv.kept hk, rz', q1 d ds rfl i z' e1 e2⟩
theorem cr_maxD {X : Cx} (hc : X.calm = true) (hu : X.A.units + 66 < cLine) : CallRK X (.builtin "max") [Str.ofString "default"] (rBestD X.K maxDD) := by
  intro pn s st hh vs zs us ws Q inv rv rz hw
  obtain ⟨p, xs, l, z, rfl, rfl, hs, hD, ha, hn, hg, hd, q0, q1⟩ := hw
  obtain ⟨w, rfl, rw'⟩ := vals1 rz
  rw [Vals.ref1 rv]
  have hal := alikes_ok ha hn
  have hdep : X.A.units + 1 + PyData.depthAll (toPs l) < cLine := by
    have : PyData.depthAll (toPs l) = deps l := deps_toP _
    omega
  rcases hs with hs | hs
  · obtain ⟨its, r, hl, _⟩ := inv.list hs
    obtain ⟨as, hr⟩ := Dp.readsAll inv (toPs l) xs its hD r
    refine PySem.W.max_list_default (inv.ok.hd hc) hl.isList hr hal hdep (fun e h' tk hk => ⟨z, hh, inv.kept hk, rw', q0 (toPs_nil e)⟩) fun y ys i v h' tk bs e hv hrd hk => ?_
    obtain ⟨d, ds, rfl, rfl, rfl⟩ := toPs_cons e
    rw [toP_max] at hrd
    obtain ⟨z', e1, rz', e2⟩ := best_fin inv r hD hg hv hrd hk
    exact ⟨z', hh, inv.kept hk, rz', q1 d ds rfl i z' e1 e2⟩
  · obtain ⟨its, r, hl, _⟩ := inv.tuple hs
    obtain ⟨as, hr⟩ := Dp.readsAll inv (toPs l) xs its hD r
    refine PySem.W.max_tuple_default (inv.ok.hd hc) (show s.heap.IsTuple p its.toArray from hl) hr hal hdep (fun e h' tk hk => ⟨z, hh, inv.kept hk, rw', q0 (toPs_nil e)⟩) fun y ys i v h' tk bs e hv hrd hk => ?_
    obtain ⟨d, ds, rfl, rfl, rfl⟩ := toPs_cons e
    rw [toP_max] at hrd
    obtain ⟨z', e1, rz', e2⟩ := best_fin inv r hD hg hv hrd hk
    exact ⟨z', hh, inv.kept hk, rz', q1 d ds rfl i z' e1 e2⟩
def dBestD (best : D → List D → D) (z : D) : List D → Option D
  | [d] => match itemsD d with
    | some [] => some z
    | some (x :: xs) => dBest best [d]
    | none => none
  | _ => none
section
variable {X : Cx} {W : WX} {pos p kpos : Pos} {a e : Expr} {ga : Gm → Rs D} {z : D} {zv : V} {id : String} {x : Str} {best : D → List D → D}
theorem mp_bestD (hc : CallRK X (.builtin id) [Str.ofString "default"] (rBestD X.K best)) (hg : Gl X x) (hm : X.mg x = none) (hv : bootBuiltins x = some (.builtin id)) (ha : MP X W a ga) (hz : PE X e (tC zv)) (hzd : ∀ c, Den X.K c z zv) (hn : x ≠ "__name__") (hdb : (x == ("__debug__" : Str)) = false)
    (h3 : starEach [a] X.env = (false, eval a X.env) :: starEach [] X.env) (he : backTo pos (starEach [a] X.env) = (false, eval a X.env) :: backTo pos (starEach [] X.env)) (hpl : (backTo pos (starEach [a] X.env)).any (·.1) = false)
    (hall : (backToKw pos (keywordEach [⟨some "default", e, kpos⟩] X.env)).all (·.1.isSome) = true) (hnone : (backToKw pos (keywordEach [⟨some "default", e, kpos⟩] X.env)).any (·.1.isNone) = false) (hks : (backToKw pos (keywordEach [⟨some "default", e, kpos⟩] X.env)).filterMap (·.1) = [Str.ofString "default"]) :
    MP X W (.Call (.Name x p) [a] [⟨some "default", e, kpos⟩] pos) (gB (dBestD best z) (gCons ga gNil)) := by
  obtain ⟨⟨ta, pa, sa⟩, _⟩ := md_cons ha md_nil h3
  refine ⟨_, pe_callBK hc hg hm hv pa (pk_cons hz pk_nil) hn hdb he hpl hall hnone hks, fun f S c σ γ Q R hp => ?_⟩
  refine sa.bind stab_vP R hp fun l γ1 vs c1 e00 x1 R1 k1 q1 h3 => ?_
  obtain ⟨y, e1, h4⟩ := h3.fin R1
  show rBestD X.K best vs [zv] c1.H Q
  unfold dBestD at e1
  split at e1
  · rename_i d
    obtain ⟨v, rfl, p1⟩ := dens1 q1
    have ref : ∀ {m : List D}, itemsD d = some m → ∃ pp ws, v = .ref pp ∧ (SqL X.K c1.H pp ws ∨ SqT X.K c1.H pp ws) ∧ Dens X.K c1 m ws := fun {m} ei => by
      obtain ⟨pp, ws, e2, hd, hk⟩ := den_ref p1 ei
      rcases hk with ⟨m', _, hq, _⟩ | ⟨m', _, hq⟩
      · exact ⟨pp, ws, e2, .inl hq, hd⟩
      · exact ⟨pp, ws, e2, .inr hq.sq, hd⟩
    split at e1
    · rename_i ei
      cases e1
      obtain ⟨pp, ws, rfl, hs, hd⟩ := ref ei
      exact ⟨pp, ws, [], zv, rfl, rfl, hs, dens_dp _ _ rfl hd, rfl, rfl, rfl, by show (0 : Nat) ≤ 64; decide, fun _ => h4 zv c1 .refl R1.wf (hzd c1), fun _ _ h => (nomatch h)⟩
    · rename_i x xs ei
      unfold dBest at e1
      simp only [ei] at e1
      obtain ⟨⟨a1, a2, a3, a4⟩, rfl⟩ := ite_of e1
      obtain ⟨pp, ws, rfl, hs, hd⟩ := ref ei
      refine ⟨pp, ws, x :: xs, zv, rfl, rfl, hs, dens_dp _ _ a3 hd, a1, a2, a3, a4, fun h => (nomatch h), fun d' ds' e2 i w e3 e4 => ?_⟩
      cases e2
      obtain ⟨w', e5, e6⟩ := hd.get e4
      rw [e3] at e5
      cases e5
      exact h4 w c1 .refl R1.wf e6
    · cases e1
  · cases e1
theorem mp_minDN {j : Nat} {kp : Pos} (hc : X.calm = true) (hu : X.A.units + 66 < cLine) (hg : Gl X "min") (hm : X.mg "min" = none) (ha : MP X W a ga)
    (h3 : starEach [a] X.env = (false, eval a X.env) :: starEach [] X.env := by rfl) (he : backTo pos (starEach [a] X.env) = (false, eval a X.env) :: backTo pos (starEach [] X.env) := by rfl) (hpl : (backTo pos (starEach [a] X.env)).any (·.1) = false := by rfl) :
    MP X W (.Call (.Name "min" p) [a] [⟨some "default", .Constant .none j kp, kpos⟩] pos) (gB (dBestD minDD .non) (gCons ga gNil)) :=
  mp_bestD (cr_minD hc hu) hg hm (by decide +kernel) ha pe_non (fun _ => rfl) (by decide) (by decide) h3 he hpl rfl rfl rfl
theorem mp_minDI {j : Nat} {kp : Pos} {i : Int} (hc : X.calm = true) (hu : X.A.units + 66 < cLine) (hg : Gl X "min") (hm : X.mg "min" = none) (ha : MP X W a ga)
    (h3 : starEach [a] X.env = (false, eval a X.env) :: starEach [] X.env := by rfl) (he : backTo pos (starEach [a] X.env) = (false, eval a X.env) :: backTo pos (starEach [] X.env) := by rfl) (hpl : (backTo pos (starEach [a] X.env)).any (·.1) = false := by rfl) :
    MP X W (.Call (.Name "min" p) [a] [⟨some "default", .Constant (.int i) j kp, kpos⟩] pos) (gB (dBestD minDD (.int i)) (gCons ga gNil)) :=
  mp_bestD (cr_minD hc hu) hg hm (by decide +kernel) ha pe_int (fun _ => rfl) (by decide) (by decide) h3 he hpl rfl rfl rfl
theorem mp_maxDN {j : Nat} {kp : Pos} (hc : X.calm = true) (hu : X.A.units + 66 < cLine) (hg : Gl X "max") (hm : X.mg "max" = none) (ha : MP X W a ga)
    (h3 : starEach [a] X.env = (false, eval a X.env) :: starEach [] X.env := by rfl) (he : backTo pos (starEach [a] X.env) = (false, eval a X.env) :: backTo pos (starEach [] X.env) := by rfl) (hpl : (backTo pos (starEach [a] X.env)).any (·.1) = false := by rfl) :
    MP X W (.Call (.Name "max" p) [a] [⟨some "default", .Constant .none j kp, kpos⟩] pos) (gB (dBestD maxDD .non) (gCons ga gNil)) :=
  mp_bestD (cr_maxD hc hu) hg hm (by decide +kernel) ha pe_non (fun _ => rfl) (by decide) (by decide) h3 he hpl rfl rfl rfl
theorem mp_maxDI {j : Nat} {kp : Pos} {i : Int} (hc : X.calm = true) (hu : X.A.units + 66 < cLine) (hg : Gl X "max") (hm : X.mg "max" = none) (ha : MP X W a ga)
    (h3 : starEach [a] X.env = (false, eval a X.env) :: starEach [] X.env := by rfl) (he : backTo pos (starEach [a] X.env) = (false, eval a X.env) :: backTo pos (starEach [] X.env) := by rfl) (hpl : (backTo pos (starEach [a] X.env)).any (·.1) = false := by rfl) :
    MP X W (.Call (.Name "max" p) [a] [⟨some "default", .Constant (.int i) j kp, kpos⟩] pos) (gB (dBestD maxDD (.int i)) (gCons ga gNil)) :=
  mp_bestD (cr_maxD hc hu) hg hm (by decide +kernel) ha pe_int (fun _ => rfl) (by decide) (by decide) h3 he hpl rfl rfl rfl
end
end Fv

/-! ### all lists of the frame looked at as data, for one expression that writes none -/
namespace Fv
variable [LC : LamC]
open PySem L2
def frzS : SV → SV
  | .ow l => .pu (.lst l)
  | .bo l => .pu (.lst l)
  | s => s
def frzG (γ : Gm) : Gm := γ.map frzS
@[simp] theorem frzG_nil : frzG [] = [] := hide rfl
@[simp] theorem frzG_ow {l : List D} {γ : Gm} : frzG (.ow l :: γ) = .pu (.lst l) :: frzG γ := hide rfl
@[simp] theorem frzG_bo {l : List D} {γ : Gm} : frzG (.bo l :: γ) = .pu (.lst l) :: frzG γ := hide rfl
@[simp] theorem frzG_pu {d : D} {γ : Gm} : frzG (.pu d :: γ) = .pu d :: frzG γ := hide rfl
@[simp] theorem frzG_un {γ : Gm} : frzG (.un :: γ) = .un :: frzG γ := hide rfl
def gSeeA (g : Gm → Rs D) : Gm → Rs D := fun γ => match g (frzG γ) with
  | .ok d _ => if noLst d = true then .ok d γ else .no
  | .ex n fs _ => if noLsts (fs.map (·.2)) = true then .ex n fs γ else .no
  | .no => .no
def tSeeA (g : Gm → Rs Bool) : Gm → Rs Bool := fun γ => match g (frzG γ) with
  | .ok d _ => .ok d γ
  | .ex n fs _ => if noLsts (fs.map (·.2)) = true then .ex n fs γ else .no
  | .no => .no
def fSeeA (g : Gm → Rs (List D)) : Gm → Rs (List D) := fun γ => match g (frzG γ) with
  | .ok d _ => if noLsts d = true then .ok d γ else .no
  | .ex n fs _ => if noLsts (fs.map (·.2)) = true then .ex n fs γ else .no
  | .no => .no
@[simp] theorem e_gSeeA {g : Gm → Rs D} {γ : Gm} : gSeeA g γ = (match g (frzG γ) with
  | .ok d _ => if noLst d = true then .ok d γ else .no
  | .ex n fs _ => if noLsts (fs.map (·.2)) = true then .ex n fs γ else .no
  | .no => .no) := hide rfl
@[simp] theorem e_tSeeA {g : Gm → Rs Bool} {γ : Gm} : tSeeA g γ = (match g (frzG γ) with
  | .ok d _ => .ok d γ
  | .ex n fs _ => if noLsts (fs.map (·.2)) = true then .ex n fs γ else .no
  | .no => .no) := hide rfl
@[simp] theorem e_fSeeA {g : Gm → Rs (List D)} {γ : Gm} : fSeeA g γ = (match g (frzG γ) with
  | .ok d _ => if noLsts d = true then .ok d γ else .no
  | .ex n fs _ => if noLsts (fs.map (·.2)) = true then .ex n fs γ else .no
  | .no => .no) := hide rfl
theorem frzG_at {γ : Gm} {i : Nat} {s : SV} (h : (frzG γ)[i]? = some s) : ∃ z, γ[i]? = some z ∧ s = frzS z := by
  unfold frzG at h
  rw [List.getElem?_map] at h
  cases e : γ[i]? with
  | none => rw [e] at h; cases h
  | some z => rw [e] at h; exact ⟨z, rfl, (Option.some.inj h).symm⟩
theorem Rel.frz {K : PySem.W.Frag} {f : Fx} {S : Addr → Prop} {c : Cf} {σ : St} {γ : Gm} (R : Rel K f S c σ γ) :
    ∃ c1 : Cf, c1.H = c.H ∧ (∀ a, c1.M a → c.M a) ∧ Rel K ⟨c1, f.rho, Nop, Kp.nil⟩ Nop c1 σ (frzG γ) := by
  have w0 : WF0 K c := R.wf0.ext R.ext R.wf
  refine ⟨⟨fun a => c.M a ∧ ∀ i, ownAt γ i = true → σ[i]? ≠ some (some (.ref a)), c.H⟩, rfl, fun a z => z.1, ?_⟩
  have less : ∀ a, c.M a ∧ (∀ i, ownAt γ i = true → σ[i]? ≠ some (some (.ref a))) → c.M a := fun a z => z.1
  have key : ∀ (i : Nat) (s : SV) (l : List D), γ[i]? = some s → (s = .ow l ∨ s = .bo l) → ∃ v, σ[i]? = some (some v) ∧ Den K ⟨fun a => c.M a ∧ ∀ i, ownAt γ i = true → σ[i]? ≠ some (some (.ref a)), c.H⟩ (.lst l) v := fun i s l e h => by
    obtain ⟨p, h1, m, vs, h2, h3⟩ := R.ownL e h
    have ho : ownAt γ i = true := by
      unfold ownAt
      rw [e]
      rcases h with rfl | rfl <;> rfl
    exact ⟨_, h1, p, vs, rfl, .inl ⟨.inl h2, fun z => z.2 i ho h1⟩, h3.less less⟩
  refine ⟨⟨fun a z => R.wf a z.1, w0.tab⟩, fun a z => R.wf a z.1, .refl, by unfold frzG; rw [List.length_map]; exact R.len, fun i d e => ?_, fun i l e => ?_, fun i l e => ?_, fun i j s t a hij e1 e2 o1 o2 e3 => ?_, trivial, fun _ _ z => z⟩
  · obtain ⟨z, e1, e2⟩ := frzG_at e
    cases z with
    | un => cases e2
    | pu d' =>
      cases e2
      obtain ⟨v, h1, h2⟩ := R.pu i _ e1
      exact ⟨v, h1, h2.less less⟩
    | ow l => cases e2; exact key i _ l e1 (.inl rfl)
    | bo l => cases e2; exact key i _ l e1 (.inr rfl)
  · obtain ⟨z, e1, e2⟩ := frzG_at e
    cases z <;> cases e2
  · obtain ⟨z, e1, e2⟩ := frzG_at e
    cases z <;> cases e2
  · obtain ⟨z, e4, e5⟩ := frzG_at e1
    cases z <;> (subst e5; cases o1)
/-- what was kept back is there again -/
theorem Rel.back {K : PySem.W.Frag} {f : Fx} {S : Addr → Prop} {c c1 c2 : Cf} {σ : St} {γ : Gm} (R : Rel K f S c σ γ) (eH : c1.H = c.H) (less : ∀ a, c1.M a → c.M a) (x : Ext Nop c1 c2) (w2 : WF c2) :
    ∃ c' : Cf, c'.H = c2.H ∧ (∀ a, c2.M a → c'.M a) ∧ Ext S c c' ∧ Rel K f S c' σ γ := by
  have x' : Ext Nop c ⟨fun a => c2.M a ∨ c.M a, c2.H⟩ := by
    refine ⟨fun a z => .inr z, fun a z => ?_, fun a o e n t => x.h a o (by rw [eH]; exact e) (fun z => z.2.elim) t, fun a ps e => x.ht a ps (by rw [eH]; exact e), fun p hp z => x.tb p hp (by rw [eH]; exact z)⟩
    rcases z with z | z
    · rcases x.m2 a z with q | q
      · exact .inl (less a q)
      · exact .inr (by rw [← eH]; exact q)
    · exact .inl z
  have w' : WF ⟨fun a => c2.M a ∨ c.M a, c2.H⟩ := fun a z => by
    rcases z with z | z
    · exact w2 a z
    · obtain ⟨xs, e⟩ := R.wf a z
      exact ⟨xs, x'.h a _ e (fun q => q.2.elim) (fun _ q => by cases q)⟩
  exact ⟨⟨fun a => c2.M a ∨ c.M a, c2.H⟩, rfl, fun a z => .inl z, x'.nop, R.step x' w'⟩
theorem tp_same {H H' : Hp} (e : H' = H) {a : Addr} {xs : List V} (h : TpN H a xs) : TpN H' a xs := by rw [e]; exact h
theorem exF_flat {K : PySem.W.Frag} {c c' : Cf} {d : Option Addr} {fs : List (Str × D)} (e : c'.H = c.H) (n : noLsts (fs.map (·.2)) = true) (h : ExF K c d fs) : ExF K c' d fs := by
  rcases h with h | ⟨a, ys, h0, h1, h2, h3, h4⟩
  · exact .inl h
  · exact .inr ⟨a, ys, h0, h1, by rw [e]; exact h2, h3, dens_flat (fun _ _ z => tp_same e z) _ _ n h4⟩
theorem sim_seeA {X : Cx} {W : WX} {t : TE} {g : Gm → Rs D} (s : Sim X W (vP X.K) t g) : Sim X W (vP X.K) t (gSeeA g) := by
  intro f S c σ γ Q R hp
  replace hp : Post X.K X.mg (vP X.K) W f S c σ γ Q (gSeeA g γ) := hp
  obtain ⟨c1, eH, less, R1⟩ := R.frz
  rw [← eH]
  refine s _ Nop c1 σ (frzG γ) Q R1 ?_
  unfold gSeeA at hp
  cases eg : g (frzG γ) with
  | no => rw [eg] at hp; exact hp.elim
  | ok d γ2 =>
    rw [eg] at hp
    simp only at hp
    by_cases hc : noLst d = true
    · rw [if_pos hc] at hp
      intro v c2 x2 R2 k2 hd
      obtain ⟨c', e', _, x', R'⟩ := R.back eH less x2 R2.wf
      have := hp v c' x' R' .refl (den_flat (fun _ _ z => tp_same e' z) d v hc hd)
      rw [← e']
      exact this
    · rw [if_neg hc] at hp; exact hp.elim
  | ex n fs γ2 =>
    rw [eg] at hp
    simp only at hp
    by_cases hc : noLsts (fs.map (·.2)) = true
    · rw [if_pos hc] at hp
      intro C d c2 hm x2 R2 k2 hx
      obtain ⟨c', e', _, x', R'⟩ := R.back eH less x2 R2.wf
      have := hp C d c' hm x' R' .refl (exF_flat e' hc hx)
      rw [← e']
      exact this
    · rw [if_neg hc] at hp; exact hp.elim
theorem sim_tSeeA {X : Cx} {W : WX} {t : St → Hp → (Bool → Hp → Prop) → Prop} {g : Gm → Rs Bool} (s : Sim X W vT t g) : Sim X W vT t (tSeeA g) := by
  intro f S c σ γ Q R hp
  replace hp : Post X.K X.mg vT W f S c σ γ Q (tSeeA g γ) := hp
  obtain ⟨c1, eH, less, R1⟩ := R.frz
  rw [← eH]
  refine s _ Nop c1 σ (frzG γ) Q R1 ?_
  unfold tSeeA at hp
  cases eg : g (frzG γ) with
  | no => rw [eg] at hp; exact hp.elim
  | ok d γ2 =>
    rw [eg] at hp
    simp only at hp
    intro v c2 x2 R2 k2 hd
    obtain ⟨c', e', _, x', R'⟩ := R.back eH less x2 R2.wf
    have := hp v c' x' R' .refl hd
    rw [← e']
    exact this
  | ex n fs γ2 =>
    rw [eg] at hp
    simp only at hp
    by_cases hc : noLsts (fs.map (·.2)) = true
    · rw [if_pos hc] at hp
      intro C d c2 hm x2 R2 k2 hx
      obtain ⟨c', e', _, x', R'⟩ := R.back eH less x2 R2.wf
      have := hp C d c' hm x' R' .refl (exF_flat e' hc hx)
      rw [← e']
      exact this
    · rw [if_neg hc] at hp; exact hp.elim
theorem sim_fSeeA {X : Cx} {W : WX} {t : TE} {g : Gm → Rs (List D)} (s : Sim X W (vF X.K) t g) : Sim X W (vF X.K) t (fSeeA g) := by
  intro f S c σ γ Q R hp
  replace hp : Post X.K X.mg (vF X.K) W f S c σ γ Q (fSeeA g γ) := hp
  obtain ⟨c1, eH, less, R1⟩ := R.frz
  rw [← eH]
  refine s _ Nop c1 σ (frzG γ) Q R1 ?_
  unfold fSeeA at hp
  cases eg : g (frzG γ) with
  | no => rw [eg] at hp; exact hp.elim
  | ok d γ2 =>
    rw [eg] at hp
    simp only at hp
    by_cases hc : noLsts d = true
    · rw [if_pos hc] at hp
      intro v c2 x2 R2 k2 hd
      obtain ⟨p, e1, n1, m1, vs, h1, h2⟩ := hd
      obtain ⟨c', e', m', x', R'⟩ := R.back eH less x2 R2.wf
      have := hp v c' x' R' .refl ⟨p, e1, by rw [← eH]; exact n1, m' p m1, vs, by rw [e']; exact h1, dens_flat (fun _ _ z => tp_same e' z) d vs hc h2⟩
      rw [← e']
      exact this
    · rw [if_neg hc] at hp; exact hp.elim
  | ex n fs γ2 =>
    rw [eg] at hp
    simp only at hp
    by_cases hc : noLsts (fs.map (·.2)) = true
    · rw [if_pos hc] at hp
      intro C d c2 hm x2 R2 k2 hx
      obtain ⟨c', e', _, x', R'⟩ := R.back eH less x2 R2.wf
      have := hp C d c' hm x' R' .refl (exF_flat e' hc hx)
      rw [← e']
      exact this
    · rw [if_neg hc] at hp; exact hp.elim
theorem mp_seeA {X : Cx} {W : WX} {e : Expr} {g : Gm → Rs D} (h : MP X W e g) : MP X W e (gSeeA g) := let ⟨t, ht, s⟩ := h; ⟨t, ht, sim_seeA s⟩
theorem mb_seeA {X : Cx} {W : WX} {e : Expr} {g : Gm → Rs D} (h : MB X W e g) : MB X W e (gSeeA g) := let ⟨t, ht, h2, s⟩ := h; ⟨t, ht, h2, sim_seeA s⟩
theorem mt_seeA {X : Cx} {W : WX} {e : Expr} {g : Gm → Rs Bool} (h : MT X W e g) : MT X W e (tSeeA g) := let ⟨t, ht, s⟩ := h; ⟨t, ht, sim_tSeeA s⟩
theorem mf_seeA {X : Cx} {W : WX} {e : Expr} {g : Gm → Rs (List D)} (h : MF X W e g) : MF X W e (fSeeA g) := let ⟨t, ht, s⟩ := h; ⟨t, ht, sim_fSeeA s⟩
end Fv

/-! ### sorted of a list of alike data -/
namespace Fv
variable [LC : LamC]
open PySem L2
def leD (a b : D) : Bool := !ltD b a
def sortD (l : List D) : List D := l.mergeSort leD
def tupNE : D → Bool
  | .tup (_ :: _) => true
  | _ => false
def noTup : D → Bool
  | .tup _ => false
  | .non => false
  | .ob _ => false
  | _ => true
def sortOk (l : List D) : Bool := alikesD l && l.all notNon && (l.all tupNE || l.all noTup) && gdss l && decide (deps l ≤ 60) && decide (l.length ≤ sizeLine)
def dSortD : List D → Option (List D)
  | [.lst l] => if sortOk l then some (sortD l) else none
  | _ => none
def dSortA : List D → Option (List D) := fun l => match dSorted l with
  | some z => some z
  | none => dSortD l
theorem dSortA_of {l z : List D} (h : dSorted [.lst l] = some z) : dSortA [.lst l] = some z := by unfold dSortA; rw [h]
theorem dSortA_d {l : List D} (h : intL l = none) (k : sortOk l = true) : dSortA [.lst l] = some (sortD l) := by
  unfold dSortA dSorted
  simp only [itemsD, h]
  show (if sortOk l then some (sortD l) else none) = _
  rw [if_pos k]
/-- the items with the values that stand for them, sorted -/
def pairS (l : List D) (xs : List V) : List (D × V) := (l.zip xs).mergeSort fun a b => leD a.1 b.1
theorem pairS_fst {l : List D} {xs : List V} (h : xs.length = l.length) : (pairS l xs).map (·.1) = sortD l := by
  unfold pairS sortD
  rw [List.map_mergeSort (s := leD) (f := fun p : D × V => p.1) (fun a _ b _ => rfl)]
  rw [List.map_fst_zip (by omega)]
theorem dens_pairs {K : PySem.W.Frag} {c : Cf} : ∀ (ps : List (D × V)), (∀ p, p ∈ ps → Den K c p.1 p.2) → Dens K c (ps.map (·.1)) (ps.map (·.2))
  | [], _ => rfl
  | p :: ps, h => ⟨p.2, ps.map (·.2), rfl, h p List.mem_cons_self, dens_pairs ps fun q hq => h q (List.mem_cons_of_mem _ hq)⟩
theorem dens_zip {K : PySem.W.Frag} {c : Cf} : ∀ {l : List D} {xs : List V}, Dens K c l xs → ∀ p, p ∈ l.zip xs → Den K c p.1 p.2
  | [], _, h, p, hp => by simp at hp
  | d :: l, _, ⟨x, r, e, q, z⟩, p, hp => by
    subst e
    rw [List.zip_cons_cons] at hp
    rcases List.mem_cons.mp hp with rfl | hp
    · exact q
    · exact dens_zip z p hp
theorem dens_sort {K : PySem.W.Frag} {c : Cf} {l : List D} {xs : List V} (h : Dens K c l xs) : Dens K c (sortD l) ((pairS l xs).map (·.2)) := by
  rw [← pairS_fst h.length]
  exact dens_pairs _ fun p hp => dens_zip h p ((List.mergeSort_perm _ _).mem_iff.mp hp)
def rSortD (K : PySem.W.Frag) : List V → Hp → VK → Prop := fun vs H Q => ∃ (k : Addr) (xs : List V) (l : List D), vs = [V.ref k] ∧ SqL K H k xs ∧ DpAll K H xs (toPs l) ∧ xs.length = l.length ∧ sortOk l = true ∧ ∀ q, H q = none → Q (.ref q) (upd H q (.lst ((pairS l xs).map (·.2))))
section
variable {X : Cx}
theorem toPs_map : ∀ l : List D, toPs l = l.map toP
  | [] => rfl
  | d :: l => by unfold toPs; rw [toPs_map l]; rfl
theorem dep_le : ∀ {l : List D} {d : D}, d ∈ l → dep d ≤ deps l
  | x :: l, d, h => by
    unfold deps
    rcases List.mem_cons.mp h with rfl | h
    · omega
    · have := dep_le h; omega
theorem each_pairs {R : Value → V → Prop} (hR : ∀ v x, RelV x v → R v x) : ∀ {its : List Value} {xs : List V} {l : List D}, Vals xs its → xs.length = l.length → PySem.W.EachIs (fun v (p : D × V) => R v p.2) its (l.zip xs)
  | _, _, [], .nil, _ => .nil
  | _, _, d :: l, .cons r t, h => by
    rw [List.zip_cons_cons]
    exact .cons (hR _ _ r) (each_pairs hR t (by simpa using h))
theorem each_reads {h : Heap} : ∀ {its : List Value} {xs : List V} {l : List D} {as : List Addr}, ReadsAll h its (toPs l) as → xs.length = l.length → PySem.W.EachIs (fun v (p : D × V) => ∃ as, Reads h v (toP p.1) as) its (l.zip xs)
  | _, xs, [], _, r, e => by
    have : xs = [] := List.length_eq_zero_iff.mp e
    subst this
    have r' : ReadsAll h _ [] _ := r
    cases r'
    exact .nil
  | _, x :: xs, d :: l, _, r, e => by
    have r' : ReadsAll h _ (toP d :: toPs l) _ := r
    cases r' with
    | cons h1 h2 =>
      rw [List.zip_cons_cons]
      exact .cons ⟨_, h1⟩ (each_reads h2 (by simpa using e))
  | _, [], d :: l, _, r, e => by simp at e
theorem vals_of_each {its : List Value} : ∀ {ps : List (D × V)} {its : List Value}, PySem.W.EachIs (fun v (p : D × V) => RelV p.2 v) its ps → Vals (ps.map (·.2)) its
  | [], _, .nil => .nil
  | _ :: _, _, .cons h t => .cons h (vals_of_each (its := its) t)
theorem map_zip_fst {l : List D} {xs : List V} (h : xs.length = l.length) : (l.zip xs).map (fun p => toP p.1) = toPs l := by
  rw [toPs_map]
  have : (l.zip xs).map (fun p => toP p.1) = ((l.zip xs).map (·.1)).map toP := by rw [List.map_map]; rfl
  rw [this, List.map_fst_zip (by omega)]
theorem cr_sortD (hu : X.A.units + 66 < cLine) : CallR X (.builtin "sorted") (rSortD X.K) := by
  intro pn s st hh vs us Q inv rv hw
  obtain ⟨k, xs, l, rfl, hs, hD, hlen, hok, q⟩ := hw
  rw [Vals.ref1 rv]
  obtain ⟨its, r, hl, hz⟩ := inv.list hs
  obtain ⟨as, hr⟩ := Dp.readsAll inv (toPs l) xs its hD r
  unfold sortOk at hok
  simp only [Bool.and_eq_true, Bool.or_eq_true, decide_eq_true_eq] at hok
  obtain ⟨⟨⟨⟨⟨h1, h2⟩, h3⟩, h4⟩, h5⟩, h6⟩ := hok
  have hal := alikes_ok h1 h2
  have e1 : PySem.W.EachIs (fun v (p : D × V) => RelV p.2 v) its (l.zip xs) := each_pairs (R := fun v x => RelV x v) (fun _ _ z => z) r hlen
  have e2 := each_reads (xs := xs) hr hlen
  have em := map_zip_fst hlen
  have hzip : (l.zip xs).length = l.length := by rw [List.length_zip, hlen]; omega
  refine PySem.W.sorted_data (enc := fun p : D × V => toP p.1) (R := fun v p => RelV p.2 v) hl.isList e1 e2 ?_ ?_ (by rw [hzip]; exact h6) ?_ ?_
  · rw [em]
    exact fun d hd d' hd' => by
      rw [toPs_map] at hd hd'
      obtain ⟨a, ha, rfl⟩ := List.mem_map.mp hd
      obtain ⟨b, hb, rfl⟩ := List.mem_map.mp hd'
      unfold alikesD at h1
      exact List.all_eq_true.mp (List.all_eq_true.mp h1 a ha) b hb
  · rw [em, toPs_map]
    rcases h3 with h3 | h3
    · refine .inl fun d hd => ?_
      obtain ⟨a, ha, rfl⟩ := List.mem_map.mp hd
      have := List.all_eq_true.mp h3 a ha
      cases a with
      | tup m =>
        cases m with
        | nil => cases this
        | cons x m => exact ⟨toP x, toPs m, by simp [toP, toPs]⟩
      | _ => cases this
    · refine .inr fun d hd => ?_
      obtain ⟨a, ha, rfl⟩ := List.mem_map.mp hd
      have := List.all_eq_true.mp h3 a ha
      cases a with
      | tup m => cases this
      | non => cases this
      | ob o => cases this
      | _ => exact ⟨by simp [toP], fun xs => by simp [toP]⟩
  · intro p hp
    have hm : p.1 ∈ l := (List.of_mem_zip hp).1
    have := dep_le hm
    show X.A.units + 2 + PyData.depth (toP p.1) < cLine
    rw [dep_toP]
    omega
  · intro out hlo hout
    have e3 : PySem.W.dataLe false (fun p : D × V => toP p.1) = fun a b => leD a.1 b.1 := PySem.W.dataLe_eq false _
    rw [e3] at hout
    have hv : Vals ((pairS l xs).map (·.2)) out := vals_of_each (its := its) hout
    obtain ⟨ep, he⟩ := PyProof.Rows.sortedAll_at s.heap its out.toArray
    have keep : ∀ b ob, s.heap.get? b = some ob → (PyProof.Rows.sortedAll s.heap its out.toArray).get? b = some ob := fun b ob hb => PyProof.Rows.sortedAll_old hb
    have nn : hh (s.heap.objs.size + 1) = none := by
      cases z : hh (s.heap.objs.size + 1) with
      | none => rfl
      | some u =>
        obtain ⟨ob, h1⟩ := ok_some (inv.hok _ u z)
        exact absurd (Heap.lt_size h1) (Nat.not_lt.mpr (Nat.le_succ _))
    have hz2 : ((pairS l xs).map (·.2)).length ≤ sizeLine := by
      rw [List.length_map]
      unfold pairS
      rw [List.length_mergeSort, hzip]
      exact h6
    refine ⟨.ref _, upd hh (s.heap.objs.size + 1) (.lst ((pairS l xs).map (·.2))), laid_at (s := s) (h' := PyProof.Rows.sortedAll s.heap its out.toArray) (t' := s.toks) inv keep (fun b ob hb => Nat.ne_of_lt (Nat.lt_succ_of_lt (Heap.lt_size hb))) nn ⟨hz2, out, ep, hv, he⟩, rfl, q _ nn⟩
end
section
variable {X : Cx} {W : WX} {pos p : Pos} {a : Expr} {ga : Gm → Rs D}
def rSortA (K : PySem.W.Frag) : List V → Hp → VK → Prop := fun vs H Q => rSortSeq K vs H Q ∨ rSortD K vs H Q
theorem cr_sortA (hu : X.A.units + 66 < cLine) : CallR X (.builtin "sorted") (rSortA X.K) := by
  intro pn s st hh vs us Q inv rv hw
  rcases hw with hw | hw
  · exact cr_sortSeq pn s st hh vs us Q inv rv hw
  · exact cr_sortD hu pn s st hh vs us Q inv rv hw
theorem mf_sortA (hu : X.A.units + 66 < cLine) (hg : Gl X "sorted") (hm : X.mg "sorted" = none) (ha : MP X W a ga) (h3 : starEach [a] X.env = (false, eval a X.env) :: starEach [] X.env := by rfl) : MF X W (.Call (.Name "sorted" p) [a] [] pos) (gBF dSortA (gCons ga gNil)) := by
  refine mf_callB (cr_sortA hu) (fun c l z vs Q wf h q k => ?_) hg hm (by decide +kernel) (md_cons ha md_nil h3) (h3 := h3)
  unfold dSortA at h
  cases e : dSorted l with
  | some z' =>
    rw [e] at h
    have h' : z' = z := Option.some.inj h
    subst h'
    refine .inl ?_
    unfold dSorted at e
    split at e
    · rename_i d
      obtain ⟨v, rfl, p1⟩ := dens1 q
      split at e
      · rename_i l' ei
        split at e
        · rename_i ns en
          obtain ⟨h64, e'⟩ := ite_of e
          cases e'
          cases d with
          | lst m =>
            cases ei
            obtain ⟨pp, ws, rfl, r1, r2⟩ := p1
            have := intL_den en r2
            subst this
            exact ⟨pp, ns, rfl, .inl r1.sq, h64, fun q n => k q _ n dens_ints⟩
          | tup m =>
            cases ei
            obtain ⟨pp, ws, rfl, r1, r2⟩ := p1
            have := intL_den en r2
            subst this
            exact ⟨pp, ns, rfl, .inr r1.sq, h64, fun q n => k q _ n dens_ints⟩
          | _ => cases ei
        · cases e
      · cases e
    · cases e
  | none =>
    rw [e] at h
    replace h : dSortD l = some z := h
    refine .inr ?_
    unfold dSortD at h
    split at h
    · rename_i m
      obtain ⟨v, rfl, p1⟩ := dens1 q
      split at h
      · rename_i hk
        cases h
        obtain ⟨pp, ws, rfl, r1, r2⟩ := p1
        exact ⟨pp, ws, m, rfl, r1.sq, dens_dp _ _ (by unfold sortOk at hk; simp only [Bool.and_eq_true] at hk; exact hk.1.1.2) r2, r2.length, hk, fun q n => k q _ n (dens_sort r2)⟩
      · cases h
    · cases h
end
end Fv

/-! ### {} as a value; a range in a variable -/
namespace Fv
variable [LC : LamC]
open PySem L2
section
variable {X : Cx} {W : WX} {pos p p1 tpos : Pos} {tg a b : Expr} {ga gb : Gm → Rs D}
theorem Den.obE {K : PySem.W.Frag} {c : Cf} {q : Addr} : Den K ⟨c.M, upd c.H q (obH .emp)⟩ (.ob .emp) (.ref q) := ⟨q, rfl, upd_same⟩
theorem Den.obR {K : PySem.W.Frag} {c : Cf} {q : Addr} {lo hi : Int} : Den K ⟨c.M, upd c.H q (obH (.rng lo hi))⟩ (.ob (.rng lo hi)) (.ref q) := ⟨q, rfl, upd_same⟩
theorem mp_emp : MP X W (.Dict [] [] pos) (gC (.ob .emp)) :=
  ⟨_, pe_dnewK, fun f S c σ γ Q R hp => fun q n => hp (.ref q) ⟨c.M, upd c.H q (obH .emp)⟩ (Ext.new n).nop (R.step (Ext.new n) (R.wf.new n)) .refl Den.obE⟩
def dRv1 : List D → Option D
  | [.int i] => some (.ob (.rng 0 i))
  | _ => none
theorem mp_rng1 (hg : Gl X "range") (hm : X.mg "range" = none) (ha : MP X W a ga) (h3 : starEach [a] X.env = (false, eval a X.env) :: starEach [] X.env := by rfl) : MP X W (.Call (.Name "range" p) [a] [] pos) (gB dRv1 (gCons ga gNil)) := by
  refine mp_callTy cr_rg1 (fun c l z vs Q wf h q k => ?_) hg hm (by decide +kernel) (md_cons ha md_nil h3) (h3 := h3)
  unfold dRv1 at h
  split at h
  · obtain ⟨v, rfl, p1⟩ := dens1 q
    cases h
    cases (show v = .int _ from p1)
    exact ⟨_, rfl, fun q n => k (.ref q) ⟨c.M, upd c.H q (obH (.rng 0 _))⟩ (Ext.new n) (wf.new n) Den.obR⟩
  · cases h
def iRngV (tl : TE) : TI := fun σ H R => tl σ H fun x H1 => ∃ k lo hi, x = .ref k ∧ H1 k = some (.rng lo hi) ∧ (-(2 ^ 62) ≤ lo ∧ lo < 2 ^ 62 ∧ -(2 ^ 62) ≤ hi ∧ hi < 2 ^ 62) ∧ R (Itr lo (hi - lo).toNat) H1
theorem pi_rngV {tl : TE} (hl : PE X a tl) : PI X tg a (iRngV tl) := by
  refine ⟨fun pn s st H Rz inv hw => ?_⟩
  refine thn (hl.run pn s st H _ inv hw) fun v s1 ⟨x, H1, I1, r1, q1⟩ => ?_
  obtain ⟨k, lo, hi, e, hk, ⟨b1, b2, b3, b4⟩, q⟩ := q1
  subst e
  cases r1
  obtain ⟨t, u, w, he⟩ := I1.hok k _ hk
  refine PySem.wpAny_pyIter_range (a := lo) (b := hi) (c := 1) (t := t) (u := u) (v := w) ?_ (small_one b1 b2 b3 b4) ?_
  · exact he
  refine ⟨s1.heap.objs.size, [s1.heap.objs.size], _, _, H1, rfl, I1.kept (t' := s1.toks) fun b o e => Heap.get?_push_of_some _ e, turn_range _ lo (hi - lo).toNat, ?_, fun b hb => ?_, q⟩
  · have e1 : lo + ((0 : Nat) : Int) * 1 = lo := by simp
    have e2 : (((hi - lo).toNat : Nat) : Int) - ((0 : Nat) : Int) = Builtin.Range.rangeSize lo hi 1 := by rw [rangeSize_one]; split <;> omega
    show IsRangeIter _ _ (lo + ((0 : Nat) : Int) * 1) ((((hi - lo).toNat : Nat) : Int) - ((0 : Nat) : Int)) 1
    rw [e1, e2]
    exact Heap.get?_push_size _ rfl
  · rw [List.mem_singleton.mp hb]
    exact I1.fpOk (Nat.le_refl _) (I1.hok.fresh (Nat.le_refl _))
def gItemsR (ga : Gm → Rs D) : Gm → Rs (List D) := fun γ => (ga γ).bind fun d γ1 => match d with
  | .ob (.rng lo hi) => if -(2 ^ 62) ≤ lo ∧ lo < 2 ^ 62 ∧ -(2 ^ 62) ≤ hi ∧ hi < 2 ^ 62 then .ok (rangeD lo (hi - lo).toNat) γ1 else .no
  | _ => .no
theorem mi_rngV (ha : MP X W a ga) : MI X W tg a (gItemsR ga) := by
  obtain ⟨ta, h1, s1⟩ := ha
  refine ⟨_, pi_rngV h1, fun f S c σ γ Q R hp => s1.bind stab_vI R hp fun d γ1 v c1 _ x1 R1 k1 q1 h2 => ?_⟩
  cases d with
  | ob o =>
    cases o with
    | emp => exact h2.elim
    | exn _ _ _ => exact h2.elim
    | dct _ => exact h2.elim
    | rng lo hi =>
      obtain ⟨k, rfl, hk⟩ := q1
      by_cases hb : -(2 ^ 62) ≤ lo ∧ lo < 2 ^ 62 ∧ -(2 ^ 62) ≤ hi ∧ hi < 2 ^ 62
      · simp only [if_pos hb] at h2
        exact ⟨k, lo, hi, rfl, hk, hb, h2 _ c1 .refl R1 .refl IterOk.range⟩
      · simp only [if_neg hb] at h2
        exact h2.elim
  | _ => exact h2.elim
end
@[simp] theorem e_gItemsR {ga : Gm → Rs D} {γ : Gm} : gItemsR ga γ = (ga γ).bind fun d γ1 => (match d with
  | .ob (.rng lo hi) => if -(2 ^ 62) ≤ lo ∧ lo < 2 ^ 62 ∧ -(2 ^ 62) ≤ hi ∧ hi < 2 ^ 62 then .ok (rangeD lo (hi - lo).toNat) γ1 else .no
  | _ => .no) := hide rfl
@[simp] theorem d_rv1 {i : Int} : dRv1 [.int i] = some (.ob (.rng 0 i)) := hide rfl
/-! a, b = a list -/
def kLst (n : Nat) (ks : List D → Gm → Option Gm) : Kt := fun d γ => match d with
  | .lst l => if l.length = n then ks l γ else none
  | _ => none
@[simp] theorem e_kLst {n : Nat} {ks : List D → Gm → Option Gm} {l : List D} {γ : Gm} : kLst n ks (.lst l) γ = if l.length = n then ks l γ else none := hide rfl
theorem mg_lst {X : Cx} {pos : Pos} {es : List Expr} {kk n : Nat} {ts : List Nat} {ks : List D → Gm → Option Gm} (hc : X.calm = true) (h : MGs X es ts ks) (hn : (assignEach es X.env).length = n := by rfl) (hst : (assignEach es X.env).findIdx? (·.1) = none := by rfl) : MG X (.Tuple es kk pos) ts (kLst n ks) := by
  obtain ⟨g, p, s⟩ := h
  refine ⟨_, pg_unl hc p hn hst, ⟨fun f S c σ γ γ' d v Q R h e q => ?_, fun d γ γ' e j hj => ?_⟩⟩
  rotate_left
  · cases d with
    | lst l =>
      have e' : (if l.length = n then ks l γ else none) = some γ' := e
      by_cases hz : l.length = n
      · rw [if_pos hz] at e'
        exact s.keep l γ γ' e' j hj
      · rw [if_neg hz] at e'; cases e'
    | _ => cases e
  cases d with
  | lst l =>
    obtain ⟨k, xs, rfl, h1, h2⟩ : ∃ k xs, v = .ref k ∧ SqL X.K c.H k xs ∧ Dens X.K c l xs := by
      rcases h with ⟨k, xs, e1, e2, e3⟩ | ⟨_, l', a, xs, e1, e2, e3, e4⟩
      · exact ⟨k, xs, e1, e2.sq, e3⟩
      · cases e1
    have e' : (if l.length = n then ks l γ else none) = some γ' := e
    by_cases hz : l.length = n
    · rw [if_pos hz] at e'
      exact ⟨k, xs, rfl, h1, by rw [h2.length]; exact hz, s.run f S c σ γ γ' l xs Q R h2 e' q⟩
    · rw [if_neg hz] at e'; cases e'
  | _ => cases e
end Fv

set_option maxHeartbeats 4000000
/-! ### own errors whose __init__ says super().__init__(f'..{n}') and self.n = n -/
namespace Su
open PySem PySem.Spec PyProof.Rows L2
open PySem.W (ksFn ksEnv)
abbrev sc (n : Str) : Scope := { kind := .function, names := [(PySem.Str.ofString "self", .local), (n, .local), (PySem.Str.ofString "__class__", .free), (PySem.Str.ofString "super", .globalImplicit)], isGenerator := false, isCoroutine := false, more := [] }
abbrev ar (n : Str) (p1 p2 : Pos) : Arguments := { posonlyargs := [], args := [{ arg := "self", annotation := none, pos := p1 }, { arg := n, annotation := none, pos := p2 }], vararg := none, kwonlyargs := [], kw_defaults := [], kwarg := none, defaults := [] }
abbrev js (n t : Str) (j : Nat) (q1 q2 q3 q4 : Pos) : Expr := .JoinedStr [.Constant (.str t) j q1, .FormattedValue (.Name n q2) (-1) none q3] q4
abbrev bd (n t : Str) (j : Nat) (q1 q2 q3 q4 r0 r1 r2 r3 r4 u1 u2 u3 u4 : Pos) : List Stmt :=
  [.Expr (.Call (.Attribute (.Call (.Name "super" r0) [] [] r1) "__init__" r2) [js n t j q1 q2 q3 q4] [] r3) r4, .Assign [.Attribute (.Name "self" u1) n u2] (.Name n u3) u4]
structure Nm (n : Str) : Prop where
  h1 : (n == ("self" : Str)) = false
  h2 : (("super" : Str) == n) = false
  h3 : (("__class__" : Str) == n) = false
  h4 : (("self" : Str) == n) = false
  h5 : (n == ("__debug__" : Str)) = false
  h6 : (n == ("__classdict__" : Str)) = false
  h7 : (n == ("__class__" : Str)) = false
  h8 : ∀ (q : Str) (body : List Stmt) (p1 p2 : Pos) (kV doc pm cdv ct : Value) (an : Option Addr) (cc : Addr) (a b : Value), bindArgs (ksFn "__init__" q (ar n p1 p2) body (sc n) .none kV doc pm an cdv ct cc) ⟨[a, b], []⟩ = pure [(("self" : Str), a), (n, b)]
theorem nm_index : Nm "index" := ⟨by decide, by decide, by decide, by decide, by decide, by decide, by decide, fun _ _ _ _ _ _ _ _ _ _ _ _ _ => rfl⟩
theorem nm_most : Nm "most" := ⟨by decide, by decide, by decide, by decide, by decide, by decide, by decide, fun _ _ _ _ _ _ _ _ _ _ _ _ _ => rfl⟩
theorem nm_place : Nm "place" := ⟨by decide, by decide, by decide, by decide, by decide, by decide, by decide, fun _ _ _ _ _ _ _ _ _ _ _ _ _ => rfl⟩
section
variable {n : Str} (h : Nm n)
include h
theorem l_self : (sc n).names.lookup ("self" : Str) = some .local := rfl
theorem l_n : (sc n).names.lookup n = some .local := by
  show List.lookup n _ = _
  have e : (n == (PySem.Str.ofString "self")) = false := h.h1
  simp only [List.lookup, e, beq_self_eq_true]
theorem l_super : (sc n).names.lookup ("super" : Str) = some .globalImplicit := by
  show List.lookup _ _ = _
  have e : ((PySem.Str.ofString "super") == n) = false := h.h2
  have e1 : ((PySem.Str.ofString "super") == (PySem.Str.ofString "self")) = false := by decide
  have e2 : ((PySem.Str.ofString "super") == (PySem.Str.ofString "__class__")) = false := by decide
  simp only [List.lookup, e, e1, e2, beq_self_eq_true]
theorem l_cls : (sc n).names.lookup ("__class__" : Str) = some .free := by
  show List.lookup _ _ = _
  have e : ((PySem.Str.ofString "__class__") == n) = false := h.h3
  have e1 : ((PySem.Str.ofString "__class__") == (PySem.Str.ofString "self")) = false := by decide
  simp only [List.lookup, e, e1, beq_self_eq_true]
end
theorem cells1 {c cc : Addr} {x : Str} (h : List.lookup x [(("__class__" : Str), cc)] = some c) : x = "__class__" ∧ c = cc := by
  by_cases e : x = "__class__"
  · subst e
    simp only [List.lookup, beq_self_eq_true] at h
    exact ⟨rfl, (Option.some.inj h).symm⟩
  · have e2 : (x == ("__class__" : Str)) = false := by simpa using e
    simp only [List.lookup, e2] at h
    cases h
/-- the context of such an __init__ -/
def cx (P : Program) (w : World) (K : PySem.W.Frag) (mg : Str → Option Value) (base : Heap) (n qual : Str) (f : Addr) (cd : Value) (cc : Addr) (A : Around) (outer : List Env) (s : Shared) (H : Hp) : Cx where
  prog := P
  w := w
  K := K
  mg := mg
  base := base
  A := A.deeper (ksEnv qual (sc n) s.heap.objs.size f cd cc)
  N := ["self", n]
  s_0 := s
  H_0 := H
  env := ksEnv qual (sc n) s.heap.objs.size f cd cc
  outer := outer
  stack := ksEnv qual (sc n) s.heap.objs.size f cd cc :: outer
  ex := []
  fn := fun _ => false
  calm := true
  pn := []
  xe := fun _ _ => False
section
variable {P : Program} {w : World} {K : PySem.W.Frag} {mg : Str → Option Value} {base : Heap} {n qual : Str} {f : Addr} {cd : Value} {cc : Addr} {A : Around} {outer : List Env} {s : Shared} {H : Hp}
theorem start (hn : Nm n) (hd : A.handled = none) (e0 : Env0 P w K mg base A outer s H) {a b : Value} {x y : V} (ra : RelV x a) (rb : RelV y b) {cl : Value} {cld : Option Addr} {v : Option Value} {csl : Array (Option Value)} (hcell : K.lookup cc = some ⟨cl, cld, .cell v, csl⟩)
    {h₁ : Heap} {tk : Nat} (hns : h₁.Ns s.heap.objs.size (fun z => [(("self" : Str), a), (n, b)].reverse.lookup z)) (kp : ∀ b o, s.heap.get? b = some o → h₁.get? b = some o) :
    Inv (cx P w K mg base n qual f cd cc A outer s H) [] [some x, some y] H { s with heap := h₁, toks := tk } := by
  have noA : ∀ b : Addr, b ∉ (cx P w K mg base n qual f cd cc A outer s H).ex := fun b z => absurd (show b ∈ ([] : List Addr) from z) (by simp)
  have hK := e0.bs cc _ (e0.mod.kin _ _ hcell)
  refine ⟨⟨e0.mod, rfl, rfl, rfl, Nat.le_refl _, fun y z c e1 e2 => (cells1 e1).1.trans (cells1 e2).1.symm, fun y hy => ?_, fun y c z _ => ?_, fun _ => hd, Around.frames_deeper e0.frames, .inr ⟨rfl, rfl⟩, fun b z => absurd z (noA b), e0.bs, e0.bsz, fun b _ _ => noA b, fun b z => absurd z (noA b), e0.funs, e0.frf⟩,
    rfl, e0.bare, Un.kept kp, ⟨_, hns, fun i z v' e1 e2 e3 => ?_⟩, fun y c e => ?_, e0.hok.fresh (Nat.le_refl _), fun y c e => ?_, fun q hq => absurd (show q ∈ ([] : List (Addr × Obj)) ++ [] from hq) (by simp), e0.hok.kept kp, rfl⟩
  · have hy : (sc n).names.lookup y = some .cell ∨ (sc n).names.lookup y = some .free := hy
    have key : ∀ k, (sc n).names.lookup y = some k → k ≠ .local → k ≠ .globalImplicit → y = "__class__" := fun k hk n1 n2 => by
      have hm : (y, k) ∈ (sc n).names := PySem.mem_of_lookup hk
      simp only [List.mem_cons, Prod.mk.injEq, List.mem_nil_iff, or_false] at hm
      rcases hm with ⟨_, z⟩ | ⟨_, z⟩ | ⟨z, _⟩ | ⟨_, z⟩
      · exact absurd z n1
      · exact absurd z n1
      · exact z
      · exact absurd z n2
    have ey : y = "__class__" := by
      rcases hy with hy | hy
      · exact key _ hy (fun z => by cases z) (fun z => by cases z)
      · exact key _ hy (fun z => by cases z) (fun z => by cases z)
    exact ⟨cc, by subst ey; show List.lookup _ [(("__class__" : Str), cc)] = _; simp only [List.lookup, beq_self_eq_true]⟩
  · have z : false = true := z
    cases z
  · have e1 : (["self", n] : List Str)[i]? = some z := e1
    match i, e1, e2 with
    | 0, e1, e2 =>
      cases e1
      cases e2
      refine ⟨a, ra, .inl ⟨rfl, ?_⟩⟩
      show List.lookup ("self" : Str) [(n, b), (("self" : Str), a)] = some a
      have e := hn.h4
      simp only [List.lookup, e, beq_self_eq_true]
    | 1, e1, e2 =>
      cases e1
      cases e2
      refine ⟨b, rb, .inl ⟨l_n hn, ?_⟩⟩
      show List.lookup n [(n, b), (("self" : Str), a)] = some b
      simp only [List.lookup, beq_self_eq_true]
    | i + 2, e1, _ => simp at e1
  · have ec := (cells1 (show List.lookup y [(("__class__" : Str), cc)] = some c from e)).2
    subst ec
    exact ⟨v, _, kp _ _ hK.1, rfl⟩
  · have ec := (cells1 (show List.lookup y [(("__class__" : Str), cc)] = some c from e)).2
    subst ec
    exact hK.2
end
/-- None, an int, as a text -/
def tFmtN (te : TE) : TE := fun σ H Q => te σ H fun x H1 => (x = .non ∧ Q (.str "None") H1) ∨ ∃ i : Int, x = .int i ∧ i.natAbs.log2 < 1920 ∧ Q (.str (toString i)) H1
theorem pe_fmtN {X : Cx} {e : Expr} {te : TE} {pos : Pos} (he : PE X e te) : PE X (.FormattedValue e (-1) none pos) (tFmtN te) := by
  refine ⟨fun pins s σ H Q I h => ?_⟩
  refine wpAny_FormattedValue_plain (thn (he.run pins s σ H _ I h) fun v s1 hv => ?_)
  obtain ⟨x, H1, I1, r1, q⟩ := hv
  rcases q with ⟨rfl, q⟩ | ⟨i, rfl, hz, q⟩
  · obtain rfl : v = Value.none := r1
    exact wpAny_formatField_none ⟨.str "None", H1, I1.tok _, ⟨_, rfl⟩, q⟩
  · obtain ⟨t, rfl⟩ := r1
    exact wpAny_formatField_int hz ⟨.str (toString i), H1, I1.tok _, ⟨_, rfl⟩, q⟩
/-- what an index may be -/
def Ix (y : V) : Prop := y = .non ∨ ∃ i : Int, y = .int i ∧ i.natAbs.log2 < 1920
theorem js_run {X : Cx} {n t : Str} {j : Nat} {q1 q2 q3 q4 : Pos} (hN : X.N[1]? = some n) (hv : Vis X.env.scope n) (hn : Nm n) (ht : t.length ≤ 1000) :
    ∃ ta, PE X (js n t j q1 q2 q3 q4) ta ∧ ∀ (x y : V) (H : Hp) (Q : VK), Ix y → (∀ z : Str, Q (.str z) H) → ta [some x, some y] H Q := by
  refine ⟨_, pe_joined (.cons pe_str (.cons (pe_fmtN (pe_var (i := 1) hN hv hn.h5 hn.h6)) .nil)), fun x y H Q hy q => ?_⟩
  refine ⟨t, rfl, ?_, y, rfl, ?_⟩
  · rw [show (Str.empty ++ t).length = t.length by simp [Str.length_append] <;> rfl, sizeLine_eq]
    omega
  rcases hy with rfl | ⟨i, rfl, hi⟩
  · refine .inl ⟨rfl, "None", rfl, ?_, q _⟩
    rw [Str.length_append, show (Str.empty ++ t).length = t.length by simp [Str.length_append] <;> rfl, sizeLine_eq]
    have : (("None" : Str)).length = 4 := by decide
    omega
  · refine .inr ⟨i, rfl, hi, toString i, rfl, ?_, q _⟩
    rw [Str.length_append, show (Str.empty ++ t).length = t.length by simp [Str.length_append] <;> rfl]
    have e := int_text_length_le (k := 1920) (by decide) hi
    rw [PySem.ofString_length, sizeLine_eq]
    omega
/-- what the written part says of the class at C -/
structure Txt (P : Program) (K : PySem.W.Frag) (C : Addr) (n : Str) : Prop where
  ox : OexC K C
  noN : PySem.W.findIn K (.ref C) n = some none
  opq : PySem.W.nsIn K cStatics "thirdparty.any" = some none
  sup : PySem.W.ks_superIn K C C "__init__" = some (some (.builtin "ValueError.__init__"))
  subV : PySem.W.subIn K (.ref C) (.type "ValueError") = some true
  mro : PySem.W.mroIn K C (.ref C) = some true
  fn : ∃ (fI cda cc : Addr) (oc : Value) (od : Option Addr) (osl : Array (Option Value)) (qual t : Str) (kV doc pm ct : Value) (an : Option Addr) (p1 p2 : Pos) (j : Nat) (q1 q2 q3 q4 r0 r1 r2 r3 r4 u1 u2 u3 u4 : Pos) (cl ccl : Value) (cld ccd : Option Addr) (csl ccs : Array (Option Value)) (vs : Array Value) (file : Str) (tf : Tok),
    PySem.W.findIn K (.ref C) "__init__" = some (some (.ref fI)) ∧ PySem.W.typeIn K (.ref fI) = some (.type "function") ∧
    K.lookup fI = some ⟨oc, od, .func (ksFn "__init__" qual (ar n p1 p2) (bd n t j q1 q2 q3 q4 r0 r1 r2 r3 r4 u1 u2 u3 u4) (sc n) .none kV doc pm an (.ref cda) ct cc), osl⟩ ∧ PySem.W.codeIn K (.ref cda) qual = true ∧
    K.lookup cda = some ⟨ccl, ccd, .fields vs, ccs⟩ ∧ vs[2]? = some (.str file tf) ∧ ((P.main.file : Str) == file) = true ∧ K.lookup cc = some ⟨cl, cld, .cell (some (.ref C)), csl⟩ ∧ t.length ≤ 1000 ∧ (r2.endLine == r3.line) = true
theorem pinAdd {X : Cx} {pins : List (Addr × Obj)} {σ : L2.St} {H : Hp} {s : Shared} (I : Inv X pins σ H s) {u : Addr} {o : Obj} (h1 : s.heap.get? u = some o) (h2 : H u = none) (h3 : u ≠ X.env.locals) (h4 : u ∉ X.fs) (h5 : ∀ v, o.data ≠ .cell v) : Inv X ((u, o) :: pins) σ H s :=
  ⟨I.ok, I.os, I.bare, I.base, I.loc, I.cell, I.free, I.freeC, fun p hp => by
    rcases List.mem_append.mp hp with hp | hp
    · exact I.pin p (List.mem_append_left _ hp)
    rcases List.mem_cons.mp hp with rfl | hp
    · exact ⟨h1, h2, h3, h4, h5⟩
    · exact I.pin p (List.mem_append_right _ hp), I.hok, I.len⟩
theorem pinDrop {X : Cx} {pins : List (Addr × Obj)} {p0 : Addr × Obj} {σ : L2.St} {H : Hp} {s : Shared} (I : Inv X (p0 :: pins) σ H s) : Inv X pins σ H s :=
  ⟨I.ok, I.os, I.bare, I.base, I.loc, I.cell, I.free, I.freeC, fun p hp => by
    rcases List.mem_append.mp hp with hp | hp
    · exact I.pin p (List.mem_append_left _ hp)
    · exact I.pin p (List.mem_append_right _ (List.mem_cons_of_mem _ hp)), I.hok, I.len⟩
theorem exo_eq {e C t1 : Addr} : (PySem.W.excRec (.ref C) t1 none .none .none (.bool false)) = ({ cls := .ref C, dict := none, data := .fields #[.ref t1, .none, .none, .none, .bool false, .none] } : Obj) := rfl
/-- the bound built-in is called: the exception's args are laid anew -/
theorem mw_call {X : Cx} {pins : List (Addr × Obj)} {σ : L2.St} {H : Hp} {s : Shared} {u e C : Addr} {rest : List Value} {E : Value → Shared → Prop} {A : Around} {Q : Value → Shared → Prop} (T : OexC X.K C) (I : Inv X pins σ H s) (he : H e = some (exo e C none)) (hu : s.heap.get? u = some (PySem.W.kxs_mw "ValueError.__init__" e))
    (hz : rest.length ≤ sizeLine) (h : ∀ s', Inv X pins σ H s' → Q .none s') : wpAny (model X.prog X.w) A (call (.ref u) rest) Q E s := by
  obtain ⟨nm, q, N, bs, bm, sn, sub, ab, col, dd, k0, k1, k2, k3, k5, hC, hbm⟩ := T.cls
  obtain ⟨t1, ho⟩ := exo_at I.hok he
  obtain ⟨hh, g, d, tk, os⟩ := s
  have FB := PySem.F.excBase_ValueError
  have hC' := I.kIn _ _ hC
  refine wpAny_call (codeAny_of_tree ?_)
  show wpAny _ A.in1 (callAny (.ref u) ⟨rest, []⟩) _ _ _
  simp only [callAny]
  refine wpAny_bind (wpAny_load hu ?_)
  simp only [PySem.W.kxs_mw, show (Value.type "method-wrapper" == Value.type "method" || Value.type "method-wrapper" == Value.type "builtin_function_or_method" || Value.type "method-wrapper" == Value.type "method-wrapper") = true by decide, if_true]
  refine PySem.W.KFB.if_so (by decide) ?_
  refine wpAny_bind (PySem.W.check_bound_init FB.toExcCallFacts hC' ho rfl ?_)
  refine wpAny_bind (wpAny_pure (wpAny_pure ?_))
  refine ⟨plainId_quiet FB.init.plain _, codeAny_builtin FB.initEntry ?_⟩
  refine PySem.W.exc_init_tree (cls := .ref C) (t0 := t1) (dv := none) (c2 := .none) (c3 := .none) (b4 := .bool false) ho hz fun h' k hx _ => ?_
  have J := I.write (t' := tk) (x := e) (e := e) (o := exo e C none) (by rw [he]; exact True.intro) (.inl rfl) k ⟨_, hx⟩ (exo_ok hx)
  have eu : upd H e (exo e C none) = H := by
    funext b
    by_cases hb : b = e
    · rw [hb, upd_same, he]
    · rw [upd_ne hb]
  rw [eu] at J
  exact h _ J
end Su

set_option maxHeartbeats 4000000
namespace Su
open PySem PySem.Spec PyProof.Rows L2
open PySem.W (ksFn ksEnv)
section
variable {P : Program} {w : World} {K : PySem.W.Frag} {mg : Str → Option Value} {base : Heap} {n : Str}
theorem body_ok {X : Cx} {pins : List (Addr × Obj)} {H : Hp} {s : Shared} {e C fI cda cc : Addr} {y : V} {E : Value → Shared → Prop} {Q : Flow → Shared → Prop}
    {oc cl ccl : Value} {od cld ccd : Option Addr} {osl csl ccs : Array (Option Value)} {qual t : Str} {kV doc pm ct : Value} {an : Option Addr} {p1 p2 : Pos} {j : Nat} {q1 q2 q3 q4 r0 r1 r2 r3 r4 u1 u2 u3 u4 : Pos} {vs : Array Value} {file : Str} {tf : Tok} {L : Addr}
    (I : Inv X pins [some (.ref e), some y] H s) (T : Txt X.prog X.K C n) (hn : Nm n) (hN : X.N = [("self" : Str), n]) (henv : X.env = ksEnv qual (sc n) L fI (.ref cda) cc)
    (lk : X.K.lookup fI = some ⟨oc, od, .func (ksFn "__init__" qual (ar n p1 p2) (bd n t j q1 q2 q3 q4 r0 r1 r2 r3 r4 u1 u2 u3 u4) (sc n) .none kV doc pm an (.ref cda) ct cc), osl⟩)
    (hcode : X.K.lookup cda = some ⟨ccl, ccd, .fields vs, ccs⟩) (hvs : vs[2]? = some (.str file tf)) (hfile : ((X.prog.main.file : Str) == file) = true) (hcell : X.K.lookup cc = some ⟨cl, cld, .cell (some (.ref C)), csl⟩) (ht : t.length ≤ 1000) (hline : (r2.endLine == r3.line) = true)
    (htop : (X.prog.main.scope.names.lookup ("super" : Str)).isSome = false) (hsup : X.mg "super" = none) (hy : Ix y) (he : H e = some (exo e C none)) (hxe : X.xe = fun _ _ => False)
    (hq : ∀ s' dx, H dx = none → dx ≠ e → Inv X pins [some (.ref e), some y] (upd (upd H dx (exd dx [(n, y)])) e (exo e C (some dx))) s' → Q .next s') :
    _root_.PySem.wpAt (model X.prog X.w) X.A (.func (bd n t j q1 q2 q3 q4 r0 r1 r2 r3 r4 u1 u2 u3 u4) X.env) (execs (bd n t j q1 q2 q3 q4 r0 r1 r2 r3 r4 u1 u2 u3 u4) X.env) Q E s := by
  have kf : X.env.scope.kind = .function := by rw [henv]
  have k_sup : X.env.kindOf "super" = some .globalImplicit := by rw [henv]; exact l_super hn
  have k_cls : X.env.kindOf "__class__" = some .free := by rw [henv]; exact l_cls hn
  have k_self : X.env.kindOf "self" = some .local := by rw [henv]; rfl
  have k_n : X.env.kindOf n = some .local := by rw [henv]; exact l_n hn
  obtain ⟨nm, q, N, bs, bm, sn, sub, ab, col, dd, k0, k1, k2, k3, k5, hC, hbm⟩ := T.ox.cls
  have hcl : PySem.W.clsIn X.K C = some { name := nm, bases := bs, mro := .ref C :: bm, ns := N, qualname := q, hasDict := true, slotNames := sn, subclasses := sub, abstract := ab, collection := col, hasDel := false } := by unfold PySem.W.clsIn; rw [hC] <;> rfl
  obtain ⟨ta, hta, hta2⟩ := js_run (X := X) (n := n) (t := t) (j := j) (q1 := q1) (q2 := q2) (q3 := q3) (q4 := q4) (by rw [hN]; rfl) (.inl k_n) hn ht
  refine ks_wpAt_execs_cons (ks_wpAt_Expr_any ?_ (by rw [henv]; rfl) (by rw [henv]; rfl))
  obtain ⟨pl, hpl⟩ : ∃ pl : Sem Bool, eval (.Call (.Attribute (.Call (.Name "super" r0) [] [] r1) "__init__" r2) [js n t j q1 q2 q3 q4] [] r3) X.env = (do
      let ov ← attributeBase (.Call (.Name "super" r0) [] [] r1) "__init__" X.env (eval (.Call (.Name "super" r0) [] [] r1) X.env)
      standAt r2.atName
      let (f, first) ← holding [ov] (getMethod ov "__init__" pl)
      callWith r3 f first (backTo r3 (starEach [js n t j q1 q2 q3 q4] X.env)) []) := by
    have hpos : ∀ b o env, methodCallPos b o env r2 r3 = pure r3 := fun b o env => by unfold methodCallPos; rw [hline, Bool.or_true]; rfl
    refine ⟨(do return (← importBound (.Call (.Name "super" r0) [] [] r1) X.env).getD true), ?_⟩
    rw [arm_eval_Call]
    unfold methodCall
    simp only [hpos, pure_bind]
    rw [henv]
    rfl
  refine ks_wpAt_MethodCall (pl := pl) ?_ hpl
  -- super()
  obtain ⟨hp, g, d, tk, os⟩ := s
  have IK : X.K.In hp := I.kIn
  obtain ⟨mb, b1, b2⟩ := I.mod.blt
  have lk' := IK _ _ lk
  have lc' := IK _ _ hcode
  refine ks_wpAt_super_base (s := ⟨hp, g, d, tk, os⟩) (prog := X.prog) (w := X.w) (env := X.env) (oc := ⟨ccl, ccd, .fields vs, ccs⟩) (vs := vs) (fd := ksFn "__init__" qual (ar n p1 p2) (bd n t j q1 q2 q3 q4 r0 r1 r2 r3 r4 u1 u2 u3 u4) (sc n) .none kV doc pm an (.ref cda) ct cc) (body := bd n t j q1 q2 q3 q4 r0 r1 r2 r3 r4 u1 u2 u3 u4) (f := fI) (cc := cda) k_sup k_cls (show (("__init__" : Str) == ("__class__" : Str)) = false by decide) (show X.env.func = some fI by rw [henv]) lk' rfl (ar := { arg := "self", annotation := none, pos := p1 }) (by rfl) (show X.env.code = .ref cda by rw [henv]) lc' rfl hvs hfile htop ?_
  refine PySem.W.ks_loadName_global kf k_sup (Calls.loadGlobal_builtin (by rw [I.ok.glob]; exact I.mod.glob.keeps I.bk) hsup (by rw [I.ok.blt]; exact b1.keeps I.bk) ((b2 _ (by decide)).trans PyProof.Rows.Boot.«super») ⟨rfl, ?_⟩)
  refine wpAny_loadName_free kf k_cls (by rw [henv]; show List.lookup _ _ = _; simp only [List.lookup, beq_self_eq_true]) ⟨_, IK _ _ hcell, rfl⟩ ?_
  obtain ⟨m, hns, hl⟩ := id I.loc
  obtain ⟨u0, ru, lu⟩ := hl 0 ("self" : Str) (.ref e) (by rw [hN]; rfl) rfl (.inl k_self)
  obtain rfl : u0 = Value.ref e := ru
  have hms : m ("self" : Str) = some (.ref e) := by
    rcases lu with ⟨_, z⟩ | ⟨z, _⟩
    · exact z
    · rw [k_self] at z
      rcases z with z | z <;> cases z
  refine wpAny_loadName_local kf k_self hns hms ?_
  refine ks_wpAny_isType_cls (IK _ _ hC) rfl ⟨rfl, ?_⟩
  obtain ⟨t1, ho⟩ := exo_at I.hok he
  refine ks_wpAny_call_super (C := C) (IK _ _ hC) rfl ho rfl (fun _ z => by cases z) (PySem.W.looks_mroIn IK T.mro) fun h' hso k => ?_
  have I1 : Inv X pins [some (.ref e), some y] H ⟨h', g, d, tk, os⟩ := I.kept (t' := tk) k
  have IK1 : X.K.In h' := I1.kIn
  have J : PySem.W.InstAt h' e _ C none := ⟨k _ _ ho, rfl, rfl, trivial⟩
  -- .__init__
  refine PySem.W.kxs_getMethod PySem.W.kxs_ValueError hso (PySem.W.looks_opaque IK1 T.opq) (l₀ := .ref C :: bm) (fun A Q E s k q => wpAny_bind ((PySem.W.looks_clsIn IK1 hcl) A _ E s k (wpAny_pure q))) rfl IK1 (by have z := T.sup; unfold PySem.W.ks_superIn at z; rw [hcl] at z; exact z) (J.type.andThen (PySem.W.looks_subIn IK1 T.subV)) (PySem.W.ks_ne IK1 J hcl) (by decide) ?_
  have kp : ∀ b o, h'.get? b = some o → (h'.push (PySem.W.kxs_mw "ValueError.__init__" e)).get? b = some o := fun b o q => Heap.get?_push_of_some _ q
  have I2 : Inv X pins [some (.ref e), some y] H ⟨h'.push (PySem.W.kxs_mw "ValueError.__init__" e), g, d, tk + 1, os⟩ := I1.kept (t' := tk + 1) kp
  have hu : (h'.push (PySem.W.kxs_mw "ValueError.__init__" e)).get? h'.objs.size = some (PySem.W.kxs_mw "ValueError.__init__" e) := Heap.get?_push_size _ rfl
  have I3 := pinAdd I2 hu (I1.hok.fresh (Nat.le_refl _)) (Nat.ne_of_gt I1.lt) (I1.nofs (Nat.le_refl _)) (fun _ z => by cases z)
  have pA : PA X [js n t j q1 q2 q3 q4] (tCons ta tNil) := pa_cons hta pa_nil
  have run := pA.run r3 _ _ _ H (fun vs H1 => H1 = H ∧ ∃ z : Str, vs = [.str z]) I3 (hta2 _ _ _ _ hy fun z => ⟨rfl, z, rfl⟩)
  have hst : starEach [js n t j q1 q2 q3 q4] X.env = (false, eval (js n t j q1 q2 q3 q4) X.env) :: starEach [] X.env := by rfl
  show wpAny _ _ (callWith r3 (.ref h'.objs.size) [] (backTo r3 (starEach [js n t j q1 q2 q3 q4] X.env)) []) _ _ _
  rw [hst] at run ⊢
  refine PySem.W.kxs_callWith (i := "ValueError.__init__") (x := e) (by rfl) (Calls.evalArgs_plain ?_)
  refine wpAny_mono run (fun us s1 ⟨vs1, H1, I4, rv, eH, z, ev⟩ => ?_) (fun _ _ z => by rw [hxe] at z; exact z.elim)
  subst ev
  rw [eH] at I4
  have hu4 := (I4.pin _ (List.mem_append_right _ List.mem_cons_self)).1
  refine ⟨hu4, mw_call T.ox I4 he hu4 (by rw [List.nil_append, ← rv.length, sizeLine_eq]; show 1 ≤ 16777216; decide) fun s5 I5 => ?_⟩
  -- self.n = n
  have I6 := pinDrop I5
  refine wpAt_of_wpAny ?_
  have ps : PSs X [.Assign [.Attribute (.Name "self" u1) n u2] (.Name n u3) u4] _ := pss_one (ps_ost (f := n) (p' := u2) (pos := u4) (pe_var (pos := u1) (i := 0) (x := ("self" : Str)) (by rw [hN]; rfl) (.inl k_self)) (pe_var (pos := u3) (i := 1) (x := n) (by rw [hN]; rfl) (.inl k_n) hn.h5 hn.h6) (by rw [henv]; rfl))
  refine wpAny_mono (ps.run _ _ _ _ { nx := fun σ' H' => σ' = [some (.ref e), some y] ∧ ∃ dx, H dx = none ∧ dx ≠ e ∧ H' = upd (upd H dx (exd dx [(n, y)])) e (exo e C (some dx)), rt := fun _ _ => False } I6 ⟨y, rfl, .ref e, rfl, e, C, rfl, T.ox, T.noN, .inl ⟨he, fun dx h1 h2 => ⟨rfl, dx, h1, h2, rfl⟩⟩⟩) (fun fl s7 hs => ?_) (fun _ _ z => by rw [hxe] at z; exact z.elim)
  cases fl with
  | next =>
    obtain ⟨σ', H', J7, e7, dx, n1, n2, e8⟩ := hs
    subst e7; subst e8
    exact hq s7 dx n1 n2 J7
  | ret u => obtain ⟨_, _, _, _, _, z⟩ := hs; exact z.elim
  | brk => obtain ⟨_, _, _, z⟩ := hs; exact z.elim
  | cont => obtain ⟨_, _, _, z⟩ := hs; exact z.elim

/-- __init__ run: the exception gets its dict -/
theorem init_ok {A : Around} {outer : List Env} {s : Shared} {H : Hp} {e C fI cda cc : Addr} {y : V} {b : Value} {k : Nat} {R : Result → Shared → Prop}
    {oc cl ccl : Value} {od cld ccd : Option Addr} {osl csl ccs : Array (Option Value)} {qual t : Str} {kV doc pm ct : Value} {an : Option Addr} {p1 p2 : Pos} {j : Nat} {q1 q2 q3 q4 r0 r1 r2 r3 r4 u1 u2 u3 u4 : Pos} {vs : Array Value} {file : Str} {tf : Tok}
    (T : Txt P K C n) (hn : Nm n)
    (lk : K.lookup fI = some ⟨oc, od, .func (ksFn "__init__" qual (ar n p1 p2) (bd n t j q1 q2 q3 q4 r0 r1 r2 r3 r4 u1 u2 u3 u4) (sc n) .none kV doc pm an (.ref cda) ct cc), osl⟩)
    (hcd : PySem.W.codeIn K (.ref cda) qual = true) (hcode : K.lookup cda = some ⟨ccl, ccd, .fields vs, ccs⟩) (hvs : vs[2]? = some (.str file tf)) (hfile : ((P.main.file : Str) == file) = true) (hcell : K.lookup cc = some ⟨cl, cld, .cell (some (.ref C)), csl⟩) (ht : t.length ≤ 1000) (hline : (r2.endLine == r3.line) = true)
    (htop : (P.main.scope.names.lookup ("super" : Str)).isSome = false) (hsup : mg "super" = none) (hr : Room (k + 1) A) (e0 : Env0 P w K mg base A outer s H) (rb : RelV y b) (hy : Ix y) (he : H e = some (exo e C none))
    (hq : ∀ s' dx, H dx = none → dx ≠ e → s'.os = s.os → AllBare s'.gens → Un (L2.frs outer) [] H (upd (upd H dx (exd dx [(n, y)])) e (exo e C (some dx))) s.heap s'.heap → HOk P w (upd (upd H dx (exd dx [(n, y)])) e (exo e C (some dx))) s'.heap → R (.ok (.ret .none)) s') :
    codeAny (model P w) A (.call (.ref fI) ⟨[.ref e, b], []⟩) R s := by
  have KX : K.In s.heap := e0.mod.kin.keeps fun b o e => (e0.bs b o e).1
  have lim : s.heap.NoLimit := e0.mod.nolimit.keeps fun b o e => (e0.bs b o e).1
  have hb : ∀ a b : Value, bindArgs (ksFn "__init__" qual (ar n p1 p2) (bd n t j q1 q2 q3 q4 r0 r1 r2 r3 r4 u1 u2 u3 u4) (sc n) .none kV doc pm an (.ref cda) ct cc) ⟨[a, b], []⟩ = pure [(("self" : Str), a), (n, b)] := fun a b => hn.h8 _ _ _ _ _ _ _ _ _ _ _ a b
  refine ks_codeAny_call_defAt hr.depth (KX _ _ lk) rfl lim (PySem.W.codeRec_of KX hcd) rfl (BindsTo.of_eq (hb _ _)) (fun x hx => ?_) (fun x hx => ?_) (fun h₁ hns kp => ?_) rfl rfl rfl
  · simp only [List.mem_cons, List.mem_nil_iff, or_false] at hx
    rcases hx with rfl | rfl | rfl | rfl <;> (intro z; cases z)
  · simp only [List.mem_cons, List.mem_nil_iff, or_false] at hx
    rcases hx with rfl | rfl
    · rfl
    · exact l_n hn
  have I := start (w := w) (qual := qual) (f := fI) (cd := .ref cda) hn hr.hd e0 (a := .ref e) (b := b) (x := .ref e) (y := y) rfl rb hcell hns kp (tk := s.toks + 2)
  refine ks_wpAt_mono (body_ok (X := cx P w K mg base n qual fI (.ref cda) cc A outer s H) (e := e) (C := C) I T hn rfl rfl lk hcode hvs hfile hcell ht hline htop hsup hy he rfl (Q := fun fl s' => R (.ok (.ret (match fl with | .ret v => v | _ => .none))) s') (E := fun _ _ => False) fun s' dx n1 n2 J => ?_) (fun _ _ z => z) (fun _ _ z => z.elim)
  exact hq s' dx n1 n2 J.os J.bare J.base J.hok
end
section
variable {X : Cx} {e : Expr} {ta : TA} {p pos : Pos}
def tSup (ta : TA) (C : Addr) (n : Str) : L2.St → Hp → XK → Prop := fun σ H Q => ta σ H fun vs H1 => ∃ v, vs = [v] ∧ Ix v ∧ ∀ d, H1 d = none → Q (.ref C) (some d) (upd H1 d (.xd [(n, v)]))
/-- C(e), C of this kind -/
theorem pmk_sup {x n : Str} {C : Addr} {k : Nat} (T : Txt X.prog X.K C n) (hn : Nm n) (htop : (X.prog.main.scope.names.lookup ("super" : Str)).isSome = false) (hsup : X.mg "super" = none) (hr : Room (k + 2) X.A) (hg : Gl X x) (hm : X.mg x = some (.ref C)) (pA : PA X [e] ta)
    (hdb : (x == ("__debug__" : Str)) = false := by decide) (hst : starEach [e] X.env = (false, eval e X.env) :: starEach [] X.env := by rfl) (hpl : (backTo pos (starEach [] X.env)).any (·.1) = false := by rfl) :
    PMk X (.Call (.Name x p) [e] [] pos) (tSup ta C n) := by
  intro pins s σ H Q I h
  obtain ⟨nm, q, N, bs, bm, sn, sub, ab, col, dd, k0, k1, k2, k3, k5, hC, hbm⟩ := T.ox.cls
  obtain ⟨fI, cda, cc, oc, od, osl, qual, t, kV, doc, pm, ct, an, p1, p2, j, q1, q2, q3, q4, r0, r1, r2, r3, r4, u1, u2, u3, u4, cl, ccl, cld, ccd, csl, ccs, vs, file, tf, iC, tI, lk, hcd, hcode, hvs, hfile, hcell, ht, hline⟩ := T.fn
  refine wpAny_Call_Name_kw (ld_glob I hg hm ?_ hdb)
  refine PySem.W.callWith_K (h₀ := X.base) I.ok.mod.kin T.ox.kC (thn (pA.run pos pins s σ H _ I h) fun us s1 hh => ?_) hst hpl
  obtain ⟨vs1, H1, I1, rv, v, ev, hix, hQ⟩ := hh
  subst ev
  refine ⟨I1.kIn, ?_⟩
  cases rv with
  | cons ru rn =>
    rename_i u us'
    cases rn
    show wpAny _ _ (call (.ref C) [u]) _ _ _
    obtain ⟨hp, g, dr, tk, os⟩ := s1
    have hsz : hp.objs.size ≤ hp.objs.size + 1 := Nat.le_succ _
    have hnA : H1 (hp.objs.size + 1) = none := I1.hok.fresh hsz
    have kk : ∀ b o, hp.get? b = some o → ((hp.push (PySem.W.kdv_tup [u])).push (PySem.HandSPX.excO C hp.objs.size)).get? b = some o := fun b o e => Heap.get?_push_of_some _ (Heap.get?_push_of_some _ e)
    have hget : ((hp.push (PySem.W.kdv_tup [u])).push (PySem.HandSPX.excO C hp.objs.size)).get? (hp.objs.size + 1) = some (PySem.HandSPX.excO C hp.objs.size) := by heap_get
    have I2 : Inv X pins σ (upd H1 (hp.objs.size + 1) (exo (hp.objs.size + 1) C none)) ⟨(hp.push (PySem.W.kdv_tup [u])).push (PySem.HandSPX.excO C hp.objs.size), g, dr, tk, os⟩ :=
      I1.laid (t' := tk) (a := hp.objs.size + 1) (o := exo (hp.objs.size + 1) C none) (h' := (hp.push (PySem.W.kdv_tup [u])).push (PySem.HandSPX.excO C hp.objs.size)) kk hsz (exo_ok hget)
    refine wpAny_call (PySem.HandSPX.call_own PySem.F.excBase_ValueError (fun Y => PySem.HandSPX.refsVE_contains Y bm hbm) (I1.kIn _ _ hC) (PySem.W.looks_findIn I1.kIn iC) (fun self => PySem.W.bind_fn I1.kIn self tI) (show ([u] : List Value).length ≤ sizeLine by rw [sizeLine_eq]; show 1 ≤ 16777216; decide) ?_)
    refine init_ok (k := k) T hn lk hcd hcode hvs hfile hcell ht hline htop hsup (hr.make C [u] []) (I2.env0.make C [u] []) ru hix upd_same fun s' dx n1 n2 os2 bare2 un2 hok2 => ?_
    obtain ⟨h2, g2, d2, t2, os'⟩ := s'
    have n1' : H1 dx = none := by rw [upd_ne n2] at n1; exact n1
    have eH : upd (del (upd (upd (upd H1 (hp.objs.size + 1) (exo (hp.objs.size + 1) C none)) dx (exd dx [(n, v)])) (hp.objs.size + 1) (exo (hp.objs.size + 1) C (some dx))) (hp.objs.size + 1)) dx (.xd [(n, v)]) = upd H1 dx (.xd [(n, v)]) := by
      funext b
      by_cases h1 : b = dx
      · rw [h1, upd_same, upd_same]
      · rw [upd_ne h1, upd_ne h1]
        by_cases h2 : b = hp.objs.size + 1
        · rw [h2, del_same, hnA]
        · rw [del_ne h2, upd_ne h2, upd_ne h1, upd_ne h2]
    refine ⟨rfl, mk_end (d := dx) (fs := [(n, v)]) (raises_own T.ox.exC T.ox.tyC) I1 hsz kk un2 hok2 os2 bare2 upd_same (by rw [upd_ne n2, upd_same]) n1' ?_⟩
    rw [eH]
    exact hQ dx n1'
end
end Su

set_option maxHeartbeats 4000000
/-! ### defs that raise -/
namespace Fv
variable [LC : LamC]
open PySem L2
open PyProof.Rows (envOfC)
/-- what an error's field may be -/
def okIx : D → Bool
  | .non => true
  | .int i => decide (i.natAbs.log2 < 1920)
  | _ => false
theorem okIx_ix {K : PySem.W.Frag} {c : Cf} {d : D} {v : V} (h : okIx d = true) (q : Den K c d v) : Su.Ix v := by
  cases d with
  | non => exact .inl q
  | int i => exact .inr ⟨i, q, of_decide_eq_true h⟩
  | _ => cases h
def hRaise (x n : Str) (gs : Gm → Rs (List D)) : Gm → Out := fun γ => (gs γ).out fun l γ1 => match l with
  | [d] => if okIx d then .ex x [(n, d)] γ1 else .no
  | _ => .no
section
variable {X : Cx} {W : WX} {p pos pos' : Pos} {e : Expr} {es : List Expr} {ga : Gm → Rs D} {gs : Gm → Rs (List D)} {x n : Str} {C : Addr} {k : Nat}
/-- raise C(e), C's own __init__ lays e by -/
theorem ms_raiseS (hc : X.calm = true) (tk : Takes X W) (T : Su.Txt X.prog X.K C n) (hn : Su.Nm n) (htop : (X.prog.main.scope.names.lookup ("super" : Str)).isSome = false) (hsup : X.mg "super" = none) (hr : Room k X.A) (hk : 2 ≤ k) (hg : Gl X x) (hm : X.mg x = some (.ref C)) (ha : MD X W [e] gs)
    (hdb : (x == ("__debug__" : Str)) = false := by decide) (hst : starEach [e] X.env = (false, eval e X.env) :: starEach [] X.env := by rfl) (hpl : (backTo pos (starEach [] X.env)).any (·.1) = false := by rfl) :
    MS X W (.Raise (some (.Call (.Name x p) [e] [] pos)) none pos') (hRaise x n gs) := by
  obtain ⟨⟨t, ht, s⟩, hl⟩ := ha
  refine ⟨_, ps_raise hc tk (Su.pmk_sup (k := 0) T hn htop hsup (hr.mono hk) hg hm ht hdb hst hpl), fun f c σ γ T' R hp => ?_⟩
  refine s.out R hp fun l γ1 vs c1 e0 x1 R1 k1 q1 h3 => ?_
  match l, q1, h3 with
  | [d], q1, h3 =>
    simp only at h3
    by_cases ho : okIx d = true
    · rw [if_pos ho] at h3
      obtain ⟨v, r, rfl, hd, hr⟩ := q1
      have er : r = [] := hr
      subst er
      refine ⟨v, rfl, okIx_ix ho hd, fun dd nd => ?_⟩
      exact h3 C (some dd) σ ⟨c1.M, upd c1.H dd (.xd [(n, v)])⟩ hm ((Ext.new nd).p R1.wf) (R1.step (Ext.new nd) (R1.wf.new nd)) (.inr ⟨dd, [(n, v)], List.cons_ne_nil _ _, rfl, upd_same, rfl, ⟨v, [], rfl, hd.ext R1.wf (Ext.new nd), rfl⟩⟩)
    · rw [if_neg ho] at h3; exact h3.elim
  | [], _, h3 => exact h3.elim
  | _ :: _ :: _, _, h3 => exact h3.elim
/-- arguments that are texts made of what may be shown: nothing is told of them -/
structure MQ (X : Cx) (W : WX) (es : List Expr) (g : Gm → Rs Unit) : Prop where
  ex : ∃ t, PA X es t ∧ Sim X W (fun _ _ _ _ vs => vs.length ≤ 1) t g
theorem mq_str {m : Str} {j : Nat} {p2 : Pos} : MQ X W [.Constant (.str m) j p2] (fun γ => .ok () γ) :=
  ⟨_, pa_cons pe_str pa_nil, fun f S c σ γ Q R hp => hp [.str m] c .refl R .refl (Nat.le_refl _)⟩
/-- the parts of an f-string -/
structure MJ (X : Cx) (W : WX) (es : List Expr) (g : Gm → Rs Unit) : Prop where
  ex : ∃ ts, PJ X es ts ∧ ∀ acc : Str, acc.length + 2000 * es.length ≤ 1000000 → Sim X W (fun _ _ _ _ (_ : Str) => True) (tJs ts acc) g
theorem mj_nil : MJ X W [] (fun γ => .ok () γ) := ⟨_, .nil, fun acc _ f S c σ γ Q R hp => hp acc c .refl R .refl trivial⟩
theorem mj_str {m : Str} {j : Nat} {p2 : Pos} {g : Gm → Rs Unit} (h : MJ X W es g) (hm : m.length ≤ 1000 := by decide) : MJ X W (.Constant (.str m) j p2 :: es) g := by
  obtain ⟨ts, h1, s1⟩ := h
  refine ⟨_, .cons pe_str h1, fun acc ha f S c σ γ Q R hp => ?_⟩
  rw [List.length_cons] at ha
  have e := Str.length_append (a := acc) (b := m)
  exact ⟨m, rfl, by rw [e, sizeLine_eq]; omega, s1 (acc ++ m) (by rw [e]; omega) f S c σ γ Q R hp⟩
def gFmt (ga : Gm → Rs D) (g : Gm → Rs Unit) : Gm → Rs Unit := fun γ => (ga γ).bind fun d γ1 => if okIx d then g γ1 else .no
theorem mj_fmt {p2 : Pos} {g : Gm → Rs Unit} (ha : MP X W e ga) (h : MJ X W es g) : MJ X W (.FormattedValue e (-1) none p2 :: es) (gFmt ga g) := by
  obtain ⟨ta, h0, s0⟩ := ha
  obtain ⟨ts, h1, s1⟩ := h
  refine ⟨_, .cons (Su.pe_fmtN h0) h1, fun acc ha f S c σ γ Q R hp => ?_⟩
  rw [List.length_cons] at ha
  refine s0.bind (fun _ _ _ _ _ _ _ _ _ _ => trivial) R hp fun d γ1 v c1 _ x1 R1 k1 q1 h2 => ?_
  by_cases ho : okIx d = true
  · rw [if_pos ho] at h2
    have step : ∀ y : Str, y.length ≤ 2000 → ∃ y' : Str, V.str y = .str y' ∧ (acc ++ y').length ≤ sizeLine ∧ tJs ts (acc ++ y') σ c1.H Q := fun y hy => by
      have e := Str.length_append (a := acc) (b := y)
      exact ⟨y, rfl, by rw [e, sizeLine_eq]; omega, s1 (acc ++ y) (by rw [e]; omega) f S c1 σ γ1 Q R1 h2⟩
    rcases okIx_ix ho q1 with rfl | ⟨i, rfl, hi⟩
    · exact .inl ⟨rfl, step "None" (by decide)⟩
    · refine .inr ⟨i, rfl, hi, step (toString i) ?_⟩
      have e := int_text_length_le (k := 1920) (by decide) hi
      rw [PySem.ofString_length]
      omega
  · rw [if_neg ho] at h2; exact h2.elim
theorem mq_js {v1 v2 : Expr} {rest : List Expr} {g : Gm → Rs Unit} (h : MJ X W (v1 :: v2 :: rest) g) (hl : 2000 * (v1 :: v2 :: rest).length ≤ 1000000 := by decide) (hs : starEach [.JoinedStr (v1 :: v2 :: rest) pos] X.env = (false, eval (.JoinedStr (v1 :: v2 :: rest) pos) X.env) :: starEach [] X.env := by rfl) : MQ X W [.JoinedStr (v1 :: v2 :: rest) pos] g := by
  obtain ⟨ts, h1, s1⟩ := h
  refine ⟨_, pa_cons (pe_joined h1) pa_nil hs, fun f S c σ γ Q R hp => ?_⟩
  refine s1 Str.empty (by show 0 + _ ≤ _; omega) f S c σ γ _ R ?_
  cases e : g γ with
  | no => rw [e] at hp; exact hp
  | ex n fs g1 => rw [e] at hp; exact hp
  | ok u g1 =>
    rw [e] at hp
    exact fun v c1 x1 R1 k1 _ => hp [.str v] c1 x1 R1 k1 (Nat.le_refl _)
/-- C(e, ..), C without own __init__ -/
theorem pmk_ownA {t : TA} {bmB : List Value} {B newId initId : String} (F : ExcBaseFacts B newId initId bmB) (q : PySem.W.excIn X.K C bmB newId = true) (gC : X.mg x = some (.ref C)) (kC : PySem.W.keepIn X.K (.ref C) = true) (r : Raises X (.ref C)) (hg : Gl X x) (ha : PA X (e :: es) t)
    (hdb : (x == ("__debug__" : Str)) = false := by decide) (hst : starEach (e :: es) X.env = (false, eval e X.env) :: starEach es X.env := by rfl) (hpl : (backTo pos (starEach es X.env)).any (·.1) = false := by rfl) :
    PMk X (.Call (.Name x p) (e :: es) [] pos) (fun σ H Q => t σ H fun vs H1 => vs.length ≤ 1 ∧ Q (.ref C) none H1) := by
  intro pins s σ H Q I h
  refine wpAny_Call_Name_kw (ld_glob I hg gC ?_ hdb)
  refine PySem.W.callWith_K (h₀ := X.base) I.ok.mod.kin kC (thn (ha.run pos pins s σ H _ I h) fun us s1 hh => ?_) hst hpl
  obtain ⟨vs, H1, I1, r1, hz, hQ⟩ := hh
  refine ⟨I1.kIn, ?_⟩
  show wpAny _ _ (call (.ref C) us) _ _ _
  obtain ⟨bm, N, nm, qn, bs, hdct, sn, sub, ab, col, dd, k0, k1, k2, k3, k5, mN, hC, hN, hni, T⟩ := exc_obj I1.kIn q
  refine wpAny_call_exc_subT F T hC hN hni (fun h' e hm => ?_) (by rw [← r1.length, sizeLine_eq]; omega)
  exact mk_of I1 hm r hQ (I1.hok.gone hm.new)
def hRaiseQ (x : Str) (g : Gm → Rs Unit) : Gm → Out := fun γ => (g γ).out fun _ γ1 => .ex x [] γ1
/-- raise C(..): the text is not told -/
theorem ms_raiseQ {g : Gm → Rs Unit} (hc : X.calm = true) (tk : Takes X W) (q : PySem.W.excIn X.K C He.veBase "ValueError.__new__" = true) (hm : X.mg x = some (.ref C)) (kC : PySem.W.keepIn X.K (.ref C) = true) (h1 : PySem.W.subIn X.K (.ref C) (.type "BaseException") = some true) (h2 : PySem.W.typeIn X.K (.ref C) = some (.type "type"))
    (hg : Gl X x) (ha : MQ X W [e] g) (hdb : (x == ("__debug__" : Str)) = false := by decide) (hst : starEach [e] X.env = (false, eval e X.env) :: starEach [] X.env := by rfl) (hpl : (backTo pos (starEach [] X.env)).any (·.1) = false := by rfl) :
    MS X W (.Raise (some (.Call (.Name x p) [e] [] pos)) none pos') (hRaiseQ x g) := by
  obtain ⟨t, ht, s⟩ := ha
  refine ⟨_, ps_raise hc tk (pmk_ownA PySem.F.excBase_ValueError q hm kC (raises_own h1 h2) hg ht hdb hst hpl), fun f c σ γ T' R hp => ?_⟩
  refine s.out R hp fun l γ1 vs c1 e0 x1 R1 k1 q1 h3 => ⟨q1, ?_⟩
  exact h3 C none σ c1 hm .refl R1 (.inl ⟨rfl, rfl⟩)
end
/-- a def's end, an exception may leave -/
def runX (n : Nat) (h : Gm → Out) : List SV → Rs D := fun ps => match h (ps ++ List.replicate (n - ps.length) .un) with
  | .rt d g => match finR ps g with
    | some qs => .ok d qs
    | none => .no
  | .nx g => match finR ps g with
    | some qs => .ok .non qs
    | none => .no
  | .ex x fs g => match finR ps g with
    | some qs => .ex x fs qs
    | none => .no
  | _ => .no
section
variable {P : Program} {w : World} {K : PySem.W.Frag} {mg : Str → Option Value} {base : Heap}
abbrev WL (E : XK) : WX := fun cls d _ H' => E cls d H'
theorem fokX {x qual : Str} {params : Arguments} {body : List Stmt} {scope : Scope} {f : Addr} {fd : FuncData} {N ps : List Str} {k : Nat} {h : Gm → Out} (F : FunD K x qual params body scope [] [] f fd) (S : FnScope N ps scope)
    (hb : ∀ (cdv : Value) (A : Around) (outer : List Env) (s : Shared) (H : Hp) (E : XK), Room k (A.deeper (envOfC qual scope s.heap.objs.size f cdv)) → Takes (cxOf (L2.CX P w) P w K mg base N qual scope f cdv A outer s H E) (WL E) →
      PassesOwn (model P w) (cxOf (L2.CX P w) P w K mg base N qual scope f cdv A outer s H E).A (cxOf (L2.CX P w) P w K mg base N qual scope f cdv A outer s H E).env (cxOf (L2.CX P w) P w K mg base N qual scope f cdv A outer s H E).xe → MSs (cxOf (L2.CX P w) P w K mg base N qual scope f cdv A outer s H E) (WL E) body h) :
    FnOk P w K mg base (L2.CX P w) (k + 1) f fd ps (spF K mg ps.length (runX N.length h)) := by
  refine F.ok S (fun vs H Q E z => z.1) fun cdv A outer s H vs Q E hr z => ?_
  obtain ⟨t, h1, s1⟩ := hb cdv A outer s H E hr (takes_of (E₁ := fun e' s'' => L2.CX P w outer H s E e' s'') rfl rfl rfl rfl) (passes_of (E₁ := fun e' s'' => L2.CX P w outer H s E e' s'') rfl)
  refine ⟨t, h1, ?_⟩
  obtain ⟨hl, g, γ, rfl, R, hp⟩ := z
  have hlen : γ.length = vs.length := by rw [← R.len, List.length_map]
  have R' := start_rel R (N.length - vs.length)
  refine s1 g g.c0 (start N vs) (γ ++ List.replicate (N.length - vs.length) SV.un) _ (show Rel K g g.S g.c0 (start N vs) (γ ++ List.replicate (N.length - vs.length) SV.un) from R') ?_
  unfold runX at hp
  rw [hlen] at hp
  cases e : h (γ ++ List.replicate (N.length - vs.length) .un) with
  | rt d g' =>
    rw [e] at hp
    simp only at hp
    cases e2 : finR γ g' with
    | none => rw [e2] at hp; exact hp.elim
    | some qs =>
      rw [e2] at hp
      exact fun v σ' c' px R2 hd => hp v c' (fin_rel R px R2 e2) hd
  | nx g' =>
    rw [e] at hp
    simp only at hp
    cases e2 : finR γ g' with
    | none => rw [e2] at hp; exact hp.elim
    | some qs =>
      rw [e2] at hp
      exact fun σ' c' px R2 => hp .non c' (fin_rel R px R2 e2) rfl
  | ex n fs g' =>
    rw [e] at hp
    simp only at hp
    cases e2 : finR γ g' with
    | none => rw [e2] at hp; exact hp.elim
    | some qs =>
      rw [e2] at hp
      exact fun C d σ' c' hm px R2 hx => hp C d c' hm (fin_rel R px R2 e2) hx
  | _ => rw [e] at hp; exact hp.elim
theorem def_mkX {CX : CXT} {x : Str} {params : Arguments} {body : List Stmt} {scope : Scope} {f : Addr} {fd : FuncData} {ps : List Str} {k : Nat} {F : List SV → Rs D} (FD : FunD K x x params body scope [] [] f fd) (hF : FnOk P w K mg base CX k f fd ps (spF K mg ps.length F)) (hm : mg x = some (.ref f))
    (hb : ∀ (kV doc pm : Value) (an : Option Addr) (cdv ct : Value) (us : List Value), us.length = ps.length → bindArgs (PySem.W.fnOf x x params body scope .none kV doc pm an cdv ct) ⟨us, []⟩ = pure (ps.zip us)) : Def P w K mg base CX k x ps F :=
  ⟨f, fd, hF, hm, FD.kp, FD.bindsN hb⟩
end
end Fv

set_option maxHeartbeats 4000000
/-! ### a lambda without parameters, handed to a def that calls it in a try -/
namespace Fv
variable [LC : LamC]
open PySem PySem.Spec PyProof.Rows L2 LamX
/-- the widest reading of a denotation -/
def tcan (K : PySem.W.Frag) (mg : Str → Option Value) (W : WX) (g : Gm → Rs D) : TE := fun σ H Q => ∃ f S c γ, Rel K f S c σ γ ∧ c.H = H ∧ Post K mg (vP K) W f S c σ γ Q (g γ)
theorem pe_can {X : Cx} {W : WX} {e : Expr} {g : Gm → Rs D} (h : MP X W e g) : PE X e (tcan X.K X.mg W g) := by
  obtain ⟨t, h1, s1⟩ := h
  refine ⟨fun pins s σ H Q I ⟨f, S, c, γ, R, e, hp⟩ => ?_⟩
  subst e
  exact h1.run pins s σ c.H Q I (s1 f S c σ γ Q R hp)
/-- an error's fields as the handler sees them -/
abbrev FO : Type := Option (Str × Option Int)
def cvF : List (Str × D) → Option FO
  | [] => some none
  | [(f, .non)] => some (some (f, none))
  | [(f, .int i)] => some (some (f, some i))
  | _ => none
theorem cvF_exo {K : PySem.W.Frag} {c : Cf} {d : Option Addr} {fs : List (Str × D)} {fo : FO} (h : ExF K c d fs) (e : cvF fs = some fo) : ExO c.H d fo := by
  match fs, e, h with
  | [], e, .inl ⟨_, hd⟩ => cases e; exact hd
  | [], e, .inr ⟨a, ys, h0, hd, ha, hm, hr⟩ => exact (h0 rfl).elim
  | [(f, .non)], e, .inl ⟨z, _⟩ => cases z
  | [(f, .int i)], e, .inl ⟨z, _⟩ => cases z
  | [(f, .non)], e, .inr ⟨a, ys, h0, hd, ha, hm, hr⟩ =>
    cases e
    match ys, hm, hr with
    | [(f', v)], hm, hr =>
      obtain ⟨x, r, e1, e2, e3⟩ := hr
      have e4 : v = x := by injection e1
      have e5 : f' = f := by injection hm
      have e6 : x = .non := e2
      subst e4; subst e5; subst e6
      exact ⟨a, hd, ha⟩
  | [(f, .int i)], e, .inr ⟨a, ys, h0, hd, ha, hm, hr⟩ =>
    cases e
    match ys, hm, hr with
    | [(f', v)], hm, hr =>
      obtain ⟨x, r, e1, e2, e3⟩ := hr
      have e4 : v = x := by injection e1
      have e5 : f' = f := by injection hm
      have e6 : x = .int i := e2
      subst e4; subst e5; subst e6
      exact ⟨a, hd, ha⟩
/-- the def that gets the lambda gives, of what the call makes, what Q asks -/
def Gives (P : Program) (w : World) (K : PySem.W.Frag) (mg : Str → Option Value) (base : Heap) (Ng : List Str) (x : Str) (sg : Scope) (g : Addr) (cdg : Value) (bg : List Stmt) (a : Str) (frm : D → D) (hand : Str → List (Str × D) → Option D) : Prop :=
  ∀ (A : Around) (outer : List Env) (f c' : Addr) (q : Str) (s : Shared) (H : Hp) (Q : VK) (tl : XK → Hp → VK → Prop),
    (∀ (W : WX) (pn : List (Addr × Obj)) (xe : Value → Shared → Prop) (E : XK) (p1 p2 : Pos), Takes ((cxOf C8.CX0 P w K mg base Ng x sg g cdg A outer s H C8.E0).tr pn xe) W → (∀ cls d σ' H', E cls d H' → W cls d σ' H') →
      PE ((cxOf C8.CX0 P w K mg base Ng x sg g cdg A outer s H C8.E0).tr pn xe) (.Call (.Name a p1) [] [] p2) (fun σZ HZ Q => σZ[0]? = some (some (.ref f)) ∧ HZ c' = some (CodeO c' q) ∧ tl E HZ Q)) →
    H c' = some (CodeO c' q) → Room 1 (A.deeper (PyProof.Rows.envOfC x sg s.heap.objs.size g cdg)) →
    tl (fun cls d H' => ∃ n fs C c1 r, cls = .ref C ∧ mg n = some (.ref C) ∧ c1.H = H' ∧ WF0 K c1 ∧ ExF K c1 d fs ∧ hand n fs = some r ∧ ∀ v c2, Ext Nop c1 c2 → WF c2 → Den K c2 r v → Q v c2.H)
      H (fun v H' => ∃ d c1, c1.H = H' ∧ WF0 K c1 ∧ Den K c1 d v ∧ ∀ v c2, Ext Nop c1 c2 → WF c2 → Den K c2 (frm d) v → Q v c2.H) →
    ∃ t, PSs (cxOf C8.CX0 P w K mg base Ng x sg g cdg A outer s H C8.E0).nox bg t ∧ t { nx := fun _ H' => Q .non H', rt := Q } (L2.start Ng [.ref f]) H
/-- such a def, as callers know it -/
structure Told (P : Program) (w : World) (K : PySem.W.Frag) (mg : Str → Option Value) (base : Heap) (x : Str) (frm : D → D) (hand : Str → List (Str × D) → Option D) : Prop where
  ex : ∃ g params bg sg fd Ng a, FunD K x x params bg sg [] [] g fd ∧ mg x = some (.ref g) ∧ FnScope Ng [a] sg ∧ Ng[0]? = some a ∧ Vis sg a ∧ (a == ("__debug__" : Str)) = false ∧ (a == ("__classdict__" : Str)) = false ∧
    (∀ (kV doc pm : Value) (an : Option Addr) (cdv ct : Value) (us : List Value), us.length = [a].length → bindArgs (PySem.W.fnOf x x params bg sg .none kV doc pm an cdv ct) ⟨us, []⟩ = pure ([a].zip us)) ∧
    ∀ cdg, Gives P w K mg base Ng x sg g cdg bg a frm hand
def gTold (frm : D → D) (hand : Str → List (Str × D) → Option D) (g : Gm → Rs D) : Gm → Rs D := fun γ => match g γ with
  | .ok d γ1 => .ok (frm d) γ1
  | .ex n fs γ1 => ofO (hand n fs) γ1
  | .no => .no
section
variable {X : Cx} {W : WX}
theorem lam_takes {A : Around} {outer : List Env} {s : Shared} {H : Hp} {E : XK} {scope : Scope} {f c' : Addr} : Takes (lamCx X A outer s H E scope f c') (fun cls d _ H' => E cls d H') :=
  takes_of (E₁ := fun e' s'' => L2.CX X.prog X.w outer H s E e' s'') rfl rfl rfl rfl
/-- x(lambda: body) -/
theorem mp_told {x : Str} {frm : D → D} {hand : Str → List (Str × D) → Option D} {k : Nat} {params : Arguments} {body : Expr} {scope : Scope} {g : Gm → Rs D} {p lpos pos : Pos} (T : Told X.prog X.w X.K X.mg X.base x frm hand) (hL : LamHere X) (hr : Room (k + 2) X.A) (hg : Gl X x) (L : LamS X.env.scope scope)
    (hbody : ∀ (A : Around) (outer : List Env) (s : Shared) (H : Hp) (E : XK) (f c' : Addr), Room k (A.deeper (lamEnv X scope s.heap.objs.size f c')) → Takes (lamCx X A outer s H E scope f c') (fun cls d _ H' => E cls d H') → MP (lamCx X A outer s H E scope f c') (fun cls d _ H' => E cls d H') body g)
    (hdef : defaultsOf params X.env = ([], []) := by rfl)
    (hbind : ∀ (q : Str) (cl : List (Str × Addr)) (pm cv ctv : Value), bindArgs (PySem.W.kla_fn "<lambda>" q params body scope cl pm cv ctv) ⟨[], []⟩ = pure [] := by intros; rfl)
    (hdb : (x == ("__debug__" : Str)) = false := by decide) :
    MP X W (.Call (.Name x p) [.Lambda params body scope lpos] [] pos) (gTold frm hand g) := by
  obtain ⟨gA, pg, bg, sg, fd, Ng, a, FD, hm, Sg, hNg, hva, hd, hcd, hbA, gives⟩ := T.ex
  refine mp_raw fun f S c σ γ Q pins s R hp I => ?_
  obtain ⟨oc, od, dV, kV, doc, pm, an, cdv, ct, osl, efd, lk, hcg, _, _⟩ := FD.ex
  have hb := FD.bindsN hbA
  subst efd
  refine wpAny_Call_Name_kw (ld_glob I hg hm ?_ hdb)
  refine PySem.W.callWith_K (h₀ := X.base) I.ok.mod.kin FD.kp ?_ (by rfl) (by rfl)
  show wpAny _ _ (spliced ((false, eval (.Lambda params body scope lpos) X.env) :: backTo pos (starEach [] X.env))) _ _ s
  obtain ⟨cc, P, TB, hcode, hmem, hu⟩ := hL
  obtain ⟨ps, hP, ht, hcs⟩ := R.ext.tb (P, X.env.qual ++ "<lambda>") hmem (R.wf0.tab _ hmem)
  refine Calls.spliced_cons (lam_make3 I TB hcode hP ht hcs hdef (L.has I.ok) fun f0 c' pm' ctv H2 s2 I2 md hf hfn hfr hlt hco => ?_)
  refine Calls.spliced_nil ⟨I2.kIn, ?_⟩
  have x2 : ∀ {S}, Ext S c ⟨c.M, H2⟩ := made_ext md hP ht hcs hu
  have w2 : WF ⟨c.M, H2⟩ := made_wf md hP R.wf
  have R2 : Rel X.K f S ⟨c.M, H2⟩ σ γ := R.step x2 w2
  have w0 : ∀ {c1 γ1}, Rel X.K f S c1 σ γ1 → WF0 X.K c1 := fun R1 => R1.wf0.ext R1.ext R1.wf
  have rc : codeAny (model X.prog X.w) X.A (.call (.ref gA) ⟨[.ref f0], []⟩) (CR C8.CX0 X.stack X.prog X.w H2 s2 Q C8.E0) s2 := by
    refine run_ofS (N := Ng) (ps := [a]) (us := [.ref f0]) (vs := [.ref f0]) lk hcg Sg hr I2.env0 (hb s2 [.ref f0] I2.kIn rfl) (.cons rfl .nil) rfl fun hr' => ?_
    have key : tcan X.K X.mg (fun cls d _ H' => ∃ n fs C c1 r, cls = .ref C ∧ X.mg n = some (.ref C) ∧ c1.H = H' ∧ WF0 X.K c1 ∧ ExF X.K c1 d fs ∧ hand n fs = some r ∧ ∀ v c2, Ext Nop c1 c2 → WF c2 → Den X.K c2 r v → Q v c2.H) g σ H2
        (fun v H' => ∃ d c1, c1.H = H' ∧ WF0 X.K c1 ∧ Den X.K c1 d v ∧ ∀ v c2, Ext Nop c1 c2 → WF c2 → Den X.K c2 (frm d) v → Q v c2.H) := by
      refine ⟨f, S, ⟨c.M, H2⟩, γ, R2, rfl, ?_⟩
      replace hp : Post X.K X.mg (vP X.K) W f S c σ γ Q (gTold frm hand g γ) := hp
      unfold gTold at hp
      cases eg : g γ with
      | no => rw [eg] at hp; exact hp.elim
      | ok d γ1 =>
        rw [eg] at hp
        exact fun v c1 x1 R1 k1 q1 => ⟨d, c1, rfl, w0 R1, q1, fun v' c3 x3 w3 q3 => hp v' c3 (x2.trans w2 (x1.trans R1.wf x3.nop)) (R1.step x3 w3) k1 q3⟩
      | ex n fs γ1 =>
        rw [eg] at hp
        simp only at hp
        cases eh : hand n fs with
        | none => rw [eh] at hp; exact hp.elim
        | some r =>
          rw [eh] at hp
          exact fun C d c1 hmn x1 R1 k1 q1 => ⟨n, fs, C, c1, r, rfl, hmn, rfl, w0 R1, q1, eh, fun v' c3 x3 w3 q3 => hp v' c3 (x2.trans w2 (x1.trans R1.wf x3.nop)) (R1.step x3 w3) k1 q3⟩
    obtain ⟨t', ht', hq'⟩ := gives cdv X.A X.stack f0 c' (X.env.qual ++ "<lambda>") s2 H2 Q (fun E H' Q' => tcan X.K X.mg (fun cls d _ H' => E cls d H') g σ H' Q')
      (fun W pn xe E p1 p2 tk hW => pe_act (i := 0) I2 L hf hfn hfr (hbind _ _ _ _ _) tk hW hr' (fun A outer s H hr2 => pe_can (hbody A outer s H E f0 c' hr2 lam_takes)) hNg hva hd hcd) hco (hr'.mono (by omega)) key
    exact ⟨t', ht'.nox, hq'⟩
  refine wpAny_call (codeAny_mono rc fun r s3 hq => ?_)
  cases r with
  | error e => exact (show False from hq).elim
  | ok fl =>
    cases fl with
    | ret u => exact I2.after hq
    | next => exact False.elim hq
    | brk => exact False.elim hq
    | cont => exact False.elim hq
end
end Fv

set_option maxHeartbeats 4000000
/-! ### the handler -/
namespace Fv
variable [LC : LamC]
open PySem PySem.Spec PyProof.Rows L2 LamX
/-- isinstance(e, c), also where e has a dict -/
def rIsE2 (K : PySem.W.Frag) (C a : Addr) (d : Option Addr) : List V → Hp → VK → Prop := fun xs H Q => ∃ (c : V) (cv : Value) (b : Bool), xs = [.ref a, c] ∧ (∀ u, RelV c u → u = cv) ∧ PySem.W.kitOne K (.ref C) cv = some b ∧ (d = none ∨ ∃ dd fs, d = some dd ∧ H dd = some (.xd fs)) ∧ Q (.bl b) H
theorem exc_get_class {prog : Program} {w : World} {A : Around} {E : Value → Shared → Prop} {s : Shared} {K : PySem.W.Frag} {x D : Addr} {ox : Obj} {odx : Option Obj} {Q : Option Value → Shared → Prop} (T : ExcC K D)
    (X : K.In s.heap) (I : PySem.W.InstAt s.heap x ox D odx) (h : Q (some (.ref D)) { s with toks := s.toks + 1 }) : wpAny (model prog w) A (getAttr? (.ref x) "__class__") Q E s := by
  have hf : PySem.W.findObj K D odx "__class__" = some (.bind (.builtin "getset_descriptor.__get__") (.builtin "object.__class__")) := by
    obtain ⟨cd, hc, _⟩ := PySem.W.any_some T.hd
    have h1 := T.ha
    have h2 := T.hn
    have h3 := T.ht
    unfold PySem.W.findObj
    rw [hc, Option.bind_some, h1, Option.bind_some]
    simp [h2, h3]
  obtain ⟨hp, g, d, t, os⟩ := s
  have q0 := I.type (M := model prog w)
  have q1 := PySem.W.looks_findIn (M := model prog w) X T.hg
  have q2 := PySem.W.looks_findIn (M := model prog w) X T.hk
  have q3 := PySem.W.looks_find (M := model prog w) X I hf
  have sub : PySem.W.Looks (model prog w) hp (isInstance (.ref x) (.type "BaseException")) true := q0.andThen (PySem.W.looks_subIn X T.hs)
  have e2 : (Value.builtin "BaseException.__getattribute__" == Value.builtin "object.__getattribute__") = false := by decide +kernel
  have e1 : (onTheHeap (Value.ref D) && Value.builtin "BaseException.__getattribute__" == Value.builtin "object.__getattribute__") = false := by rw [e2]; rfl
  have e0 : (false && onTheHeap (Value.builtin "BaseException.__getattribute__")) = false := rfl
  unfold getAttr? getAttrBy? getAttrBy
  refine wpAny_bind (wpAny_mkText (wpAny_bind (wpAny_attempt (wpAny_holding (wpAny_bind (q0.at (wpAny_bind (q1.at ?_))))))))
  show wpAny _ _ (if (onTheHeap (Value.ref D) && Value.builtin "BaseException.__getattribute__" == Value.builtin "object.__getattribute__") = true then _ else _) _ _ _
  rw [e1, if_neg Bool.false_ne_true]
  unfold getAttrByItsOwn hookBefore
  refine wpAny_bind ?_
  rw [if_pos (show onTheHeap (Value.ref D) = true from rfl)]
  refine q2.at (wpAny_bind (wpAny_attempt (wpAny_holding ?_)))
  unfold callGetattribute
  rw [e0, if_neg Bool.false_ne_true]
  unfold boundAndCalled
  rw [PySem.F.excAttr_ValueError.ga.bind (.ref x)]
  refine wpAny_bind (wpAny_pure ?_)
  show wpAny _ _ (call (.builtin "BaseException.__getattribute__") [.ref x, .str "__class__" t]) _ _ _
  refine wpAny_call (codeAny_call_builtin PySem.F.excAttr_ValueError.ga.plain PySem.F.entry_bexc_ga ?_)
  refine @PySem.W.check_slot (model prog w) _ _ ⟨hp, g, d, t + 1, os⟩ "BaseException.__getattribute__" "BaseException" "__getattribute__" (.ref x) [.str "__class__" t] [] _ (by decide +kernel) (by decide +kernel) sub (PySem.F.args_bexc_ga (.ref x) (.str "__class__" t)) ?_
  unfold Builtin.«object.__getattribute__»
  refine wpAny_bind (wpAny_of_eq (a := ((Value.ref x : Value), [Value.str "__class__" t])) (by first | rfl | (simp only [slotArgs]; rfl)) ?_)
  refine wpAny_bind (wpAny_pure (wpAny_bind (q0.at (wpAny_bind (q3.at ?_)))))
  show wpAny _ _ (holding [Value.builtin "object.__class__"] (call (.builtin "getset_descriptor.__get__") [.builtin "object.__class__", .ref x, .ref D]) >>= ret) _ _ _
  refine wpAny_bind (wpAny_holding (wpAny_call (PySem.W.class_get (s := ⟨hp, g, d, t + 1, os⟩) (ox := ox) (od := odx) X I T.hm ?_)))
  refine wpAny_pure ?_
  show wpAny _ _ (handedOut (.ref D)) _ _ _
  rw [PySem.W.handedOut_of (v := Value.ref D) rfl]
  first
    | exact wpAny_pure (wpAny_pure h)
    | exact wpAny_pure h
    | exact wpAny_pure (wpAny_bind (wpAny_pure (wpAny_pure h)))
theorem kit_exc {K : PySem.W.Frag} {x D : Addr} {ox : Obj} {odx : Option Obj} (T : ExcC K D) : PySem.W.KitX K (.ref x) (.ref D) (fun h => PySem.W.InstAt h x ox D odx) where
  ty := fun _ _ _ I => I.type
  it := fun _ _ k _ => by
    obtain ⟨cd, hcd, _⟩ := PySem.W.any_some T.hd
    unfold PySem.W.clsIn at hcd
    split at hcd
    · rename_i z1 z2 z3 z4 hq
      intro A1 Q1 E1 s1 k1 q1
      unfold isType
      unfold loadHead
      exact wpAny_bind (wpAny_loadPart (k1 _ _ (k _ _ hq)) (wpAny_pure q1))
    · cases hcd
  ne := fun h tp dd its n sl k htp => by
    obtain ⟨cd, hcd, _⟩ := PySem.W.any_some T.hd
    refine Bool.eq_false_iff.mpr fun hq => ?_
    have eq : D = tp := Value.ref.inj (beq_iff_eq.mp hq)
    subst eq
    unfold PySem.W.clsIn at hcd
    split at hcd
    · rename_i z1 z2 z3 z4 ho
      cases (k _ _ ho).symm.trans htp
    · cases hcd
  ca := fun X I k => exc_get_class T X I k
theorem call_isE2 {X : Cx} {a C : Addr} {d : Option Addr} {oe : Obj} {pn : List (Addr × Obj)} (T : ExcC X.K C) (hz : Zc (.ref C) d oe) (hf : ∃ vs, oe.data = .fields vs) : CallR (X.suite a ((a, oe) :: pn)) (.builtin "isinstance") (rIsE2 X.K C a d) := by
  intro pins s σ H xs us Q I r h
  obtain ⟨c, cv, b, rfl, hcv, e, hd, q⟩ := h
  cases r with
  | cons rx rr =>
    cases rr with
    | cons rt rr =>
      cases rr
      cases rx
      have ec := hcv _ rt
      subst ec
      obtain ⟨hget, _⟩ := I.pin (a, oe) (List.mem_append.mpr (.inl List.mem_cons_self))
      obtain ⟨vs, hv⟩ := hf
      have J : ∃ odx, PySem.W.InstAt s.heap a oe C odx := by
        rcases hd with rfl | ⟨dd, fs, rfl, hdd⟩
        · exact ⟨none, hget, hz.1, by unfold PySem.W.notCls; rw [hv] <;> rfl, by rw [hz.2]; trivial⟩
        · have hx : ObjOk X.prog X.w H s.heap dd (.xd fs) := I.hok dd _ hdd
          obtain ⟨mA, hns, _⟩ := hx
          obtain ⟨od, ho, _⟩ := lookIn_ns hns
          exact ⟨some od, hget, hz.1, by unfold PySem.W.notCls; rw [hv] <;> rfl, by rw [hz.2]; exact ho⟩
      obtain ⟨odx, J⟩ := J
      exact PySem.W.kia_one (kit_exc T) I.kIn J e (fun z => nomatch z) fun tk => ⟨.bl b, H, I.kept (t' := tk) fun _ _ z => z, rfl, q⟩
def dIsE (a : Addr) (d : Option Addr) (b : Bool) : D → Option D
  | .ob (.exn a' d' _) => if a' = a ∧ d' = d then some (.bl b) else none
  | _ => none
def oD : Option Int → D
  | none => .non
  | some i => .int i
def dXf (a : Addr) (d : Option Addr) (f : Str) : D → Option D
  | .ob (.exn a' d' (some (f', i))) => if a' = a ∧ d' = d ∧ f' = f then some (oD i) else none
  | _ => none
section
variable {X : Cx} {W : WX} {a C CT : Addr} {d : Option Addr} {oe : Obj} {pn : List (Addr × Obj)} {e : Expr} {ge : Gm → Rs D} {T f : Str} {b : Bool} {p p2 pos : Pos}
theorem mp_isE (E : ExcC X.K C) (hz : Zc (.ref C) d oe) (hf : ∃ vs, oe.data = .fields vs) (hg : Gl X "isinstance") (hm : X.mg "isinstance" = none) (hgT : Gl X T) (hmT : X.mg T = some (.ref CT)) (hk : PySem.W.kitOne X.K (.ref C) (.ref CT) = some b) (ha : MP (X.suite a ((a, oe) :: pn)) W e ge)
    (h2 : (T == ("__debug__" : Str)) = false := by decide)
    (h3 : starEach [e, .Name T p2] X.env = (false, eval e X.env) :: starEach [.Name T p2] X.env := by rfl) (h4 : (backTo pos (starEach [.Name T p2] X.env)).any (·.1) = false := by rfl)
    (h5 : starEach [.Name T p2] X.env = (false, eval (.Name T p2) X.env) :: starEach [] X.env := by rfl) : MP (X.suite a ((a, oe) :: pn)) W (.Call (.Name "isinstance" p) [e, .Name T p2] [] pos) (g1 (dIsE a d b) ge) := by
  obtain ⟨ta, t1, s1⟩ := ha
  refine ⟨_, pe_callB (X := X.suite a ((a, oe) :: pn)) (call_isE2 E hz hf) hg hm (by decide +kernel) (pa_cons t1 (pa_cons (pe_glob (v := .ref CT) hgT hmT rfl h2) pa_nil h5) h3) (he := h3) (hpl := h4), ?_⟩
  refine sim1 (r := fun x H Q => rIsE2 X.K C a d [x, .ref CT] H Q) (fun c dd z v Q wf q1 q2 q4 => ?_) s1
  unfold dIsE at q1
  split at q1
  · rename_i a' d' fo
    obtain ⟨⟨rfl, rfl⟩, rfl⟩ := ite_of q1
    obtain ⟨rfl, hx⟩ := q2
    refine ⟨.ref CT, .ref CT, b, rfl, fun u hu => hu, hk, ?_, q4 _ c .refl wf rfl⟩
    match fo, hx with
    | none, hx => exact .inl hx
    | some (f, i), ⟨dd, h1, h2⟩ => exact .inr ⟨dd, _, h1, h2⟩
  · cases q1
theorem mp_xf (E : XfC X.K C) (hz : Zc (.ref C) d oe) (hf : ∃ vs, oe.data = .fields vs) (hno : PySem.W.findIn X.K (.ref C) f = some none) (ha : MP (X.suite a ((a, oe) :: pn)) W e ge) (hb : attributeBase e f X.env (eval e X.env) = eval e X.env := by rfl) :
    MP (X.suite a ((a, oe) :: pn)) W (.Attribute e f pos) (g1 (dXf a d f) ge) := by
  obtain ⟨ta, t1, s1⟩ := ha
  refine ⟨_, pe_xf E hno hz hf t1 hb, ?_⟩
  refine sim1 (r := fun x H1 Q => x = .ref a ∧ (Value.ref C) = .ref C ∧ ∃ (dd : Addr) (fs : List (Str × V)) (v : V), d = some dd ∧ H1 dd = some (.xd fs) ∧ fs.lookup f = some v ∧ Q v H1) (p := dXf a d f) (fun c dd z v Q wf q1 q2 q4 => ?_) s1
  unfold dXf at q1
  split at q1
  · rename_i a' d' f' i
    obtain ⟨⟨rfl, rfl, rfl⟩, rfl⟩ := ite_of q1
    obtain ⟨rfl, dd, h1, h2⟩ := q2
    refine ⟨rfl, rfl, dd, _, oiV i, h1, h2, by simp [List.lookup], q4 _ c .refl wf ?_⟩
    cases i <;> rfl
  · cases q1
end
/-! the classes -/
structure ClsF (K : PySem.W.Frag) (mg : Str → Option Value) (ev : Str) (cs fds : List Str) : Prop where
  ec : ∀ n, n ∈ cs → ∀ C, mg n = some (.ref C) → ExcC K C
  xf : ∀ n, n ∈ cs → ∀ C, mg n = some (.ref C) → XfC K C
  no : ∀ n, n ∈ cs → ∀ f, f ∈ fds → ∀ C, mg n = some (.ref C) → PySem.W.findIn K (.ref C) f = some none
  kit : ∀ n, n ∈ cs → ∀ m, m ∈ cs → ∃ C, mg m = some (.ref C) ∧ ∀ C', mg n = some (.ref C') → PySem.W.kitOne K (.ref C') (.ref C) = some (decide (n = m))
  exm : ∃ CS, mg ev = some (.ref CS) ∧ ∀ n, n ∈ cs → ∀ C, mg n = some (.ref C) → PySem.W.exmOne K (.ref C) (.ref CS) = some true
/-- the handler's first slots -/
def hStart (N i : Nat) (a : Addr) (d : Option Addr) (fo : FO) : Gm := (List.replicate N SV.un).set i (.pu (.ob (.exn a d fo)))
def outD : Out → Option D
  | .rt d _ => some d
  | _ => none
def d0 : FO → Option Addr
  | none => none
  | some _ => some 0
def handOf (cs : List Str) (N i : Nat) (h : Addr → Option Addr → Str → Gm → Out) : Str → List (Str × D) → Option D := fun n fs => if n ∈ cs then (cvF fs).bind fun fo => outD (h 0 (d0 fo) n (hStart N i 0 (d0 fo) fo)) else none
def Par (cs : List Str) (N i : Nat) (h : Addr → Option Addr → Str → Gm → Out) : Prop := ∀ a d n fo, n ∈ cs → outD (h a d n (hStart N i a d fo)) = outD (h 0 (d0 fo) n (hStart N i 0 (d0 fo) fo))
theorem hStart_rel {K : PySem.W.Frag} {c : Cf} (w : WF0 K c) {Ng : List Str} {i : Nat} {σ : L2.St} {a : Addr} {d : Option Addr} {fo : FO} (hi : i < Ng.length) (hl : σ.length = Ng.length) (hx : ExO c.H d fo) :
    Rel K ⟨c, fun _ => 0, Nop, Kp.nil⟩ (Fx.S ⟨c, fun _ => 0, Nop, Kp.nil⟩) c (σ.set i (some (.ref a))) (hStart Ng.length i a d fo) where
  wf0 := w
  inv := trivial
  sub := fun _ z => z.2
  wf := w.wf
  ext := Ext.refl
  len := by unfold hStart; simp [hl]
  pu := fun j e hj => by
    unfold hStart at hj
    by_cases h : i = j
    · subst h
      rw [List.getElem?_set_self (by simpa using hi)] at hj
      cases hj
      refine ⟨.ref a, List.getElem?_set_self (by omega), rfl, hx⟩
    · rw [List.getElem?_set_ne h, List.getElem?_replicate] at hj
      split at hj <;> cases hj
  ow := fun j l hj => by
    unfold hStart at hj
    by_cases h : i = j
    · subst h
      rw [List.getElem?_set_self (by simpa using hi)] at hj
      cases hj
    · rw [List.getElem?_set_ne h, List.getElem?_replicate] at hj
      split at hj <;> cases hj
  bo := fun j l hj => by
    unfold hStart at hj
    by_cases h : i = j
    · subst h
      rw [List.getElem?_set_self (by simpa using hi)] at hj
      cases hj
    · rw [List.getElem?_set_ne h, List.getElem?_replicate] at hj
      split at hj <;> cases hj
  ne := fun j k s t a' _ hj _ os _ => by
    unfold hStart at hj
    by_cases h : i = j
    · subst h
      rw [List.getElem?_set_self (by simpa using hi)] at hj
      cases hj; cases os
    · rw [List.getElem?_set_ne h, List.getElem?_replicate] at hj
      split at hj
      · cases hj; cases os
      · cases hj
/-- what the suite reads -/
def tHand (K : PySem.W.Frag) (mg : Str → Option Value) (cs : List Str) (h : Addr → Option Addr → Str → Gm → Out) (a : Addr) (cls : Value) (d : Option Addr) : TS := fun D σ H => ∃ n C f c γ, cls = .ref C ∧ mg n = some (.ref C) ∧ n ∈ cs ∧ Rel K f f.S c σ γ ∧ c.H = H ∧ SPost K mg Wn f c D (h a d n γ)
section
variable {P : Program} {w : World} {K : PySem.W.Frag} {mg : Str → Option Value} {base : Heap} {Ng : List Str} {x : Str} {sg : Scope} {g : Addr} {cdg : Value} {A : Around} {outer : List Env} {s : Shared} {H : Hp}
abbrev tcx (P : Program) (w : World) (K : PySem.W.Frag) (mg : Str → Option Value) (base : Heap) (Ng : List Str) (x : Str) (sg : Scope) (g : Addr) (cdg : Value) (A : Around) (outer : List Env) (s : Shared) (H : Hp) : Cx := cxOf C8.CX0 P w K mg base Ng x sg g cdg A outer s H C8.E0
/-- the handler's text, in whichever suite -/
def HandOk (P : Program) (w : World) (K : PySem.W.Frag) (mg : Str → Option Value) (base : Heap) (Ng : List Str) (x : Str) (sg : Scope) (cs : List Str) (hs : List Stmt) (h : Addr → Option Addr → Str → Gm → Out) : Prop :=
  ∀ (g : Addr) (cdg : Value) (A : Around) (outer : List Env) (s : Shared) (H : Hp) (a : Addr) (oe : Obj) (C : Addr) (d : Option Addr) (pn : List (Addr × Obj)) (n : Str), Zc (.ref C) d oe → (∃ vs, oe.data = .fields vs) → mg n = some (.ref C) → n ∈ cs →
    Room 1 (A.deeper (PyProof.Rows.envOfC x sg s.heap.objs.size g cdg)) →
    MSs (((tcx P w K mg base Ng x sg g cdg A outer s H).nox).suite a ((a, oe) :: pn)) Wn hs (h a d n)
theorem hand_pss {cs : List Str} {b₀ : Stmt} {suite : List Stmt} {h : Addr → Option Addr → Str → Gm → Out} (hk : HandOk P w K mg base Ng x sg cs (b₀ :: suite) h) (hr : Room 1 (A.deeper (PyProof.Rows.envOfC x sg s.heap.objs.size g cdg)))
    (a : Addr) (oe : Obj) (cls : Value) (d : Option Addr) (pn : List (Addr × Obj)) (hz : Zc cls d oe) (hf : ∃ vs, oe.data = .fields vs) : PSs (((tcx P w K mg base Ng x sg g cdg A outer s H).nox).suite a ((a, oe) :: pn)) (b₀ :: suite) (tHand K mg cs h a cls d) := by
  refine ⟨fun pins s1 σ H1 D I hh => ?_⟩
  obtain ⟨n, C, f, c, γ, rfl, hm, hn, R, rfl, hp⟩ := hh
  obtain ⟨t, p, sim⟩ := hk g cdg A outer s H a oe C d pn n hz hf hm hn hr
  exact p.run pins s1 σ c.H D I (sim f c σ γ D R hp)
/-- an error of the body, the handler behind it -/
theorem hand_wish {ev : Str} {cs fds : List Str} (F : ClsF K mg ev cs fds) {h : Addr → Option Addr → Str → Gm → Out} {i : Nat} {Q : VK} {D : Ends} (hD : D.rt = Q) (hpar : Par cs Ng.length i h) (hi : i < Ng.length) {CS : Addr} (hCS : mg ev = some (.ref CS)) {σ : L2.St} (hl : σ.length = Ng.length)
    {cls : Value} {d : Option Addr} {H' : Hp} (z : ∃ n fs C c1 r, cls = .ref C ∧ mg n = some (.ref C) ∧ c1.H = H' ∧ WF0 K c1 ∧ ExF K c1 d fs ∧ handOf cs Ng.length i h n fs = some r ∧ ∀ v c2, Ext Nop c1 c2 → WF c2 → Den K c2 r v → Q v c2.H) :
    wAs K (.ref CS) i (tHand K mg cs h) (fun _ _ _ _ => False) D cls d σ H' := by
  obtain ⟨n, fs, C, c1, r, rfl, hm, rfl, w1, hx, hh, hQ⟩ := z
  have hn : n ∈ cs := by
    unfold handOf at hh
    by_cases q : n ∈ cs
    · exact q
    · rw [if_neg q] at hh; cases hh
  unfold handOf at hh
  rw [if_pos hn] at hh
  cases ec : cvF fs with
  | none => rw [ec] at hh; cases hh
  | some fo =>
    rw [ec, Option.bind_some] at hh
    obtain ⟨CS', h1, h2⟩ := F.exm
    rw [hCS] at h1
    cases h1
    refine ⟨true, h2 n hn C hm, fun _ a ha => ⟨n, C, _, c1, _, rfl, hm, hn, hStart_rel w1 hi hl (cvF_exo hx ec), rfl, ?_⟩, fun z => nomatch z⟩
    have ep := hpar a d n fo hn
    rw [hh] at ep
    cases eo : h a d n (hStart Ng.length i a d fo) with
    | rt r' γ' =>
      rw [eo] at ep
      cases ep
      intro v σ c2 px R2 q2
      show D.rt v c2.H
      rw [hD]
      exact hQ v c2 R2.ext R2.wf q2
    | _ => rw [eo] at ep; cases ep
theorem takes_len {X : Cx} {W : WX} (t : Takes X W) : Takes X (fun c d σ H => σ.length = X.N.length → W c d σ H) := fun u s' ⟨a, B, sI, pins, σ, H, cls, d, e, I, nb, up, sky, na, os, ag, w⟩ => t u s' ⟨a, B, sI, pins, σ, H, cls, d, e, I, nb, up, sky, na, os, ag, w I.len⟩
theorem pe_weak {X : Cx} {e : Expr} {t : TE} (h : PE X e t) : PE X e (fun σ H Q => ∃ Q1, t σ H Q1 ∧ ∀ v H', Q1 v H' → Q v H') := by
  refine ⟨fun pins s σ H Q I ⟨Q1, h1, h2⟩ => wpAny_mono (h.run pins s σ H Q1 I h1) (fun v s1 ⟨x, H1, I1, r1, q1⟩ => ⟨x, H1, I1, r1, h2 _ _ q1⟩) fun _ _ z => z⟩
variable {ev en : Str} {cs fds : List Str} {i : Nat} {a : Str} {b₀ : Stmt} {suite : List Stmt} {h : Addr → Option Addr → Str → Gm → Out} {p1 p2 p3 p4 p5 p6 p7 : Pos} {bg : List Stmt}
/-- try: return a() / except ev as en: .. -/
theorem gives_ret (hb : bg = [.Try [.Return (some (.Call (.Name a p1) [] [] p2)) p3] [.ExceptHandler (some (.Name ev p4)) (some en) (b₀ :: suite) p5] [] [] p6]) (F : ClsF K mg ev cs fds) (hk : HandOk P w K mg base Ng x sg cs (b₀ :: suite) h) (hpar : Par cs Ng.length i h) (hN : Ng.Nodup) (hi : Ng[i]? = some en)
    (hln : sg.names.lookup en = some .local) (hgl : sg.names.lookup ev = some .globalImplicit) (hde : (ev == ("__debug__" : Str)) = false := by decide) : Gives P w K mg base Ng x sg g cdg bg a id (handOf cs Ng.length i h) := by
  subst hb
  intro A outer f c' q s H Q tl act hc hr h1
  obtain ⟨CS, hCS, _⟩ := F.exm
  have hil : i < Ng.length := (List.getElem?_eq_some_iff.mp hi).1
  have hg' : Gl (tcx P w K mg base Ng x sg g cdg A outer s H).nox ev := hgl
  have s0 : (L2.start Ng [V.ref f])[0]? = some (some (V.ref f)) := by unfold L2.start; rfl
  refine ⟨_, pss_one (ps_try_as (X := (tcx P w K mg base Ng x sg g cdg A outer s H).nox) (c := .ref CS) (i := i) (Wout := fun _ _ _ _ => False)
    (tb := fun W D σ H => ∃ (E : XK) (Q1 : VK), (∀ cls d σ' H', E cls d H' → σ'.length = Ng.length → W cls d σ' H') ∧ σ[0]? = some (some (V.ref f)) ∧ H c' = some (CodeO c' q) ∧ tl E H Q1 ∧ ∀ v H', Q1 v H' → D.rt v H') rfl rfl hN hi hln ⟨hg', hde, .inl hCS⟩ L2.takes0 (fun W pn xe tk _ => ?_) (hand_pss hk hr)), ?_⟩
  · refine ⟨fun pins s' σ H' D I hh => ?_⟩
    obtain ⟨E, Q1, hW, e1, e2, e3, e4⟩ := hh
    have hp := act _ pn xe E p1 p2 (takes_len tk) fun cls d σ' H' hE hl => hW cls d σ' H' hE hl
    exact (pss_one (ps_ret (pos := p3) (pe_weak hp))).run pins s' σ H' D I ⟨Q1, ⟨e1, e2, e3⟩, e4⟩
  · exact ⟨_, _, fun cls d σ' H' hE hl => hand_wish F rfl hpar hil hCS hl hE, s0, hc, h1, fun v H' ⟨d, c1, e1, w1, hd, hQ⟩ => e1 ▸ hQ v c1 .refl w1.wf hd⟩
/-- try: a() / except ev as en: .. / return None -/
theorem gives_drop {jn : Nat} {p8 p9 : Pos} (hb : bg = [.Try [.Expr (.Call (.Name a p1) [] [] p2) p3] [.ExceptHandler (some (.Name ev p4)) (some en) (b₀ :: suite) p5] [] [] p6, .Return (some (.Constant .none jn p8)) p9]) (F : ClsF K mg ev cs fds) (hk : HandOk P w K mg base Ng x sg cs (b₀ :: suite) h) (hpar : Par cs Ng.length i h) (hN : Ng.Nodup) (hi : Ng[i]? = some en)
    (hln : sg.names.lookup en = some .local) (hgl : sg.names.lookup ev = some .globalImplicit) (hde : (ev == ("__debug__" : Str)) = false := by decide)
    : Gives P w K mg base Ng x sg g cdg bg a (fun _ => .non) (handOf cs Ng.length i h) := by
  subst hb
  intro A outer f c' q s H Q tl act hc hr h1
  obtain ⟨CS, hCS, _⟩ := F.exm
  have hil : i < Ng.length := (List.getElem?_eq_some_iff.mp hi).1
  have hg' : Gl (tcx P w K mg base Ng x sg g cdg A outer s H).nox ev := hgl
  have s0 : (L2.start Ng [V.ref f])[0]? = some (some (V.ref f)) := by unfold L2.start; rfl
  refine ⟨_, pss_cons (ps_try_as (X := (tcx P w K mg base Ng x sg g cdg A outer s H).nox) (c := .ref CS) (i := i) (Wout := fun _ _ _ _ => False)
    (tb := fun W D σ H => ∃ (E : XK) (Q1 : VK), (∀ cls d σ' H', E cls d H' → σ'.length = Ng.length → W cls d σ' H') ∧ σ[0]? = some (some (V.ref f)) ∧ H c' = some (CodeO c' q) ∧ tl E H Q1 ∧ ∀ v H', Q1 v H' → D.nx σ H') rfl rfl hN hi hln ⟨hg', hde, .inl hCS⟩ L2.takes0 (fun W pn xe tk _ => ?_) (hand_pss hk hr)) (pss_one (ps_ret pe_non)), ?_⟩
  · refine ⟨fun pins s' σ H' D I hh => ?_⟩
    obtain ⟨E, Q1, hW, e1, e2, e3, e4⟩ := hh
    have hp := act _ pn xe E p1 p2 (takes_len tk) fun cls d σ' H' hE hl => hW cls d σ' H' hE hl
    exact (pss_one (ps_expr (pos := p3) (pe_weak hp) (by rfl))).run pins s' σ H' D I ⟨Q1, ⟨e1, e2, e3⟩, e4⟩
  · exact ⟨_, _, fun cls d σ' H' hE hl => hand_wish F rfl hpar hil hCS hl hE, s0, hc, h1, fun v H' ⟨d, c1, e1, w1, hd, hQ⟩ => e1 ▸ hQ .non c1 .refl w1.wf rfl⟩
end
end Fv

set_option maxHeartbeats 4000000
/-! ### [f, g, ..][i](..); xs.index(True), xs.count(True) -/
namespace Fv
variable [LC : LamC]
open PySem PySem.Spec PyProof.Rows L2 LamX
structure Pk (X : Cx) (W : WX) (j n : Nat) (es : List Expr) (Fs : List (List SV → Rs D)) : Prop where
  ex : ∃ (t : TA) (fs : List Addr), PA X es t ∧ (∀ σ H Q, Q (fs.map V.ref) H → t σ H Q) ∧ fs.length = Fs.length ∧ fs.length = es.length ∧ ∀ (i : Nat) (f : Addr) (F : List SV → Rs D), fs[i]? = some f → Fs[i]? = some F →
    ∃ (CX : CXT) (k : Nat) (ps : List Str) (fd : FuncData), FnOk X.prog X.w X.K X.mg X.base CX k f fd ps (spF X.K X.mg ps.length F) ∧ k ≤ j ∧ ps.length = n ∧ PySem.W.keepIn X.K (.ref f) = true ∧ Binds X.K fd ps [] ∧ ∀ σ, PassesAt CX X σ (WE W σ)
section
variable {X : Cx} {W : WX} {j n : Nat} {es : List Expr} {Fs : List (List SV → Rs D)}
theorem pk_nil : Pk X W j n [] [] := ⟨_, [], pa_nil, fun σ H Q h => h, rfl, rfl, fun i f F h => by simp at h⟩
theorem pk_cons {CX : CXT} {k : Nat} {x : Str} {ps : List Str} {F : List SV → Rs D} {p : Pos} (hF : Def X.prog X.w X.K X.mg X.base CX k x ps F) (hk : k ≤ j) (hn : ps.length = n) (hg : Gl X x) (hx : ∀ σ, PassesAt CX X σ (WE W σ)) (h : Pk X W j n es Fs)
    (h2 : (x == ("__debug__" : Str)) = false := by decide) (h3 : starEach (.Name x p :: es) X.env = (false, eval (.Name x p) X.env) :: starEach es X.env := by rfl) : Pk X W j n (.Name x p :: es) (F :: Fs) := by
  obtain ⟨t, fs, h5, h6, h7, h8, h9⟩ := h.ex
  obtain ⟨f, fd, a1, a2, a3, a4⟩ := hF.ex
  refine ⟨_, f :: fs, pa_cons (pe_glob (v := .ref f) hg a2 rfl h2) h5 h3, fun σ H Q h => h6 σ H _ h, by simp [h7], by simp [h8], fun i f' F' e1 e2 => ?_⟩
  cases i with
  | zero =>
    cases (show some f = some f' from e1)
    cases (show some F = some F' from e2)
    exact ⟨CX, k, ps, fd, a1, hk, hn, a3, a4, hx⟩
  | succ i => exact h9 i f' F' (by simpa using e1) (by simpa using e2)
def gPick (Fs : List (List SV → Rs D)) (gi : Gm → Rs D) (gs : Gm → Rs (List Ar)) : Gm → Rs D := fun γ => (gi γ).bind fun d γ1 => match d with
  | .int i => match atI Fs i with
    | some F => gCall F gs γ1
    | none => .no
  | _ => .no
theorem Post.pre {K : PySem.W.Frag} {mg : Str → Option Value} {f : Fx} {S : Addr → Prop} {c c1 : Cf} {σ : L2.St} {γ γ1 : Gm} {Q : V → Hp → Prop} {r : Rs D} (w : WF c1) (x : Ext S c c1) (k : Kx γ γ1) (h : Post K mg (vP K) W f S c σ γ Q r) : Post K mg (vP K) W f S c1 σ γ1 Q r := by
  cases r with
  | no => exact h
  | ok d g => exact fun v c' x' R' k' q => h v c' (x.trans w x') R' (k.trans k') q
  | ex n fs g => exact fun C d c' hm x' R' k' q => h C d c' hm (x.trans w x') R' (k.trans k') q
theorem mp_pick {e i : Expr} {args : List Expr} {gi : Gm → Rs D} {gs : Gm → Rs (List Ar)} {lp sp pos : Pos} (P : Pk X W j n es Fs) (hr : Room j X.A) (hi : MP X W i gi) (ha : MA X W (e :: args) gs) (hn : (e :: args).length = n) (hes : es.length ≤ 1000 := by decide) (hp : PlainIx i := by exact fun _ _ => rfl)
    (h3 : starEach (e :: args) X.env = (false, eval e X.env) :: starEach args X.env := by rfl) (h4 : (backTo pos (starEach args X.env)).any (·.1) = false := by rfl) :
    MP X W (.Call (.Subscript (.List es lp) i sp) (e :: args) [] pos) (gPick Fs gi gs) := by
  obtain ⟨t, fs, h5, h6, h7, h8, h9⟩ := P.ex
  obtain ⟨ti, p1, s1⟩ := hi
  obtain ⟨⟨t2, p2, s2⟩, hlen⟩ := ha
  refine mp_raw fun f S c σ γ Q pins s R hp0 I => ?_
  show wpAny _ _ (do callWith pos (← eval (.Subscript (.List es lp) i sp) X.env) [] (backTo pos (starEach (e :: args) X.env)) (backToKw pos (keywordEach [] X.env))) _ _ s
  refine wpAny_bind (thn ((pe_ix ix_list (pe_lst h5) p1 hp).run pins s σ c.H (fun v H1 => ∃ (c1 : Cf) (γ1 : Gm) (fA : Addr) (F : List SV → Rs D) (jj : Nat), c1.H = H1 ∧ v = .ref fA ∧ fs[jj]? = some fA ∧ Fs[jj]? = some F ∧ Rel X.K f S c1 σ γ1 ∧ Post X.K X.mg (vP X.K) W f S c1 σ γ1 Q (gCall F gs γ1)) I ?_) fun u s3 hh => ?_)
  · refine h6 σ c.H _ ⟨?_, fun q hq => ?_⟩
    · rw [List.length_map, h8, sizeLine_eq]; omega
    · have w1 : WF ⟨c.M, upd c.H q (.lst (fs.map V.ref))⟩ := R.wf.new hq
      have x1 : ∀ {S}, Ext S c ⟨c.M, upd c.H q (.lst (fs.map V.ref))⟩ := (Ext.new hq).nop
      have R1 : Rel X.K f S ⟨c.M, upd c.H q (.lst (fs.map V.ref))⟩ σ γ := R.step x1 w1
      have hp1 := Post.pre w1 x1 .refl hp0
      refine s1.bind stab_vP R1 hp1 fun d γ2 v c2 _ x2 R2 k2 q2 h2 => ?_
      cases d with
      | int z =>
        cases (show v = .int z from q2)
        simp only at h2
        cases ea : atI Fs z with
        | none => rw [ea] at h2; exact h2.elim
        | some F =>
          rw [ea] at h2
          obtain ⟨jj, b1, b2, b3, b4, b5⟩ := atI_get ea
          have hjj : jj < fs.length := by rw [h7]; exact b3
          have hq2 : c2.H q = some (.lst (fs.map V.ref)) := x2.h q _ upd_same (fun z => by
            have : c.M q := z.1
            obtain ⟨xs, e⟩ := R.wf q this
            rw [hq] at e; cases e) (fun _ z => by cases z)
          refine ⟨q, fs.map V.ref, z, V.ref fs[jj], rfl, rfl, .inl (.inl hq2), ?_, c2, γ2, fs[jj], F, jj, rfl, rfl, List.getElem?_eq_getElem hjj, b2, R2, h2⟩
          unfold atI ixN at ea ⊢
          rw [List.length_map, h7]
          cases eq : ixN Fs.length z with
          | none => unfold ixN at eq; rw [eq] at ea; cases ea
          | some j2 =>
            unfold ixN at eq
            rw [eq] at ea ⊢
            have ej : j2 = jj := by
              have z1 : seqIndex? z Fs.length = some j2 := (ixN_seq (show ixN Fs.length z = some j2 from eq)).1
              rw [b1] at z1
              exact (Option.some.inj z1).symm
            subst ej
            show (fs.map V.ref)[j2]? = _
            rw [List.getElem?_map, List.getElem?_eq_getElem hjj]
            rfl
      | _ => exact h2.elim
  · obtain ⟨v, H1, I1, r1, c1, γ1, fA, F, jj, rfl, rfl, e1, e2, R1, hp1⟩ := hh
    obtain rfl : u = Value.ref fA := r1
    obtain ⟨CX, k, ps, fd, a1, a2, a3, a4, a5, a6⟩ := h9 jj fA F e1 e2
    have sim := sim_call s2 (F := F) (n := ps.length) fun γ l γ1 e => (hlen γ l γ1 e).trans (hn.trans a3.symm)
    have hA := sim f S c1 σ γ1 Q R1 hp1
    refine PySem.W.callWith_K (h₀ := X.base) I1.ok.mod.kin a4 (thn (p2.run pos pins s3 σ c1.H _ I1 hA) fun us s4 ⟨vs, H2, I2, r2, q2⟩ => ⟨I2.kIn, ?_⟩) h3 h4
    exact run_fnS a1 (hr.mono a2) a5 (a6 σ) I2 r2 q2
end
/-! lists of truths -/
theorem bools_of {bs : List Bool} : ∀ {us : List Value}, Vals (bs.map V.bl) us → us = bs.map Value.bool := by
  induction bs with
  | nil =>
    intro us r
    cases r
    rfl
  | cons b bs ih =>
    intro us r
    cases r with
    | cons rx rr =>
      rw [ih rr]
      have : _ = Value.bool b := rx
      rw [this]; rfl
def rIdxT (K : PySem.W.Frag) : V → List V → Hp → VK → Prop := fun x xs H Q => ∃ (p : Addr) (bs : List Bool), x = .ref p ∧ xs = [.bl true] ∧ SqL K H p (bs.map V.bl) ∧ true ∈ bs ∧ Q (.int ((bs.idxOf true : Nat) : Int)) H
def rCntT (K : PySem.W.Frag) : V → List V → Hp → VK → Prop := fun x xs H Q => ∃ (p : Addr) (bs : List Bool), x = .ref p ∧ xs = [.bl true] ∧ SqL K H p (bs.map V.bl) ∧ Q (.int ((bs.count true : Nat) : Int)) H
section
variable {X : Cx}
theorem mt_idxT : MtR X "list.index" (rIdxT X.K) := by
  intro pins s σ H x xs v us Q I rx rxs h
  obtain ⟨p, bs, rfl, rfl, hs, hm, q⟩ := h
  cases rx
  obtain ⟨u, rfl, ru⟩ := rxs.one
  obtain rfl : u = Value.bool true := ru
  obtain ⟨its, rv, hl, hz⟩ := I.list hs
  have ev := bools_of rv
  subst ev
  rw [List.length_map] at hz
  refine PySem.SeqAt.call_list_index hl.isList ⟨List.length_map _, fun j h1 h2 => ?_⟩ hz hm ⟨.int _, H, I.tok _, ⟨_, rfl⟩, q⟩
  have e : (bs.map Value.bool)[j] = Value.bool bs[j] := by rw [List.getElem_map]
  rw [e]
  have z := PySem.SeqAt.EqAt.bool_bool (A := X.A.in1) (s := s) bs[j] true
  cases hb : bs[j] <;> rw [hb] at z <;> simpa using z
theorem mt_cntT : MtR X "list.count" (rCntT X.K) := by
  intro pins s σ H x xs v us Q I rx rxs h
  obtain ⟨p, bs, rfl, rfl, hs, q⟩ := h
  cases rx
  obtain ⟨u, rfl, ru⟩ := rxs.one
  obtain rfl : u = Value.bool true := ru
  obtain ⟨its, rv, ⟨⟨cls, dd, data, sl⟩, n, ho, hc, hdn, hd⟩, hlen⟩ := I.list hs
  simp only at hc hd
  subst hc hd
  have ev := bools_of rv
  subst ev
  refine call_meets PySem.F.slot_list_count ⟨_, ho, rfl⟩ PySem.F.entry_list_count (PySem.F.args_list_count_2 _ _) (SeqAt.list_countAt p _ n dd sl (.bool true) (fun y => match y with | .bool b => b | _ => false)) ⟨ho, fun y hy => ?_, ?_⟩
  · have hy' : y ∈ bs.map Value.bool := by simpa using hy
    obtain ⟨b, _, rfl⟩ := List.mem_map.mp hy'
    have z := PySem.SeqAt.EqAt.bool_bool (A := X.A.in1) (s := s) b true
    cases b <;> simpa using z
  · have ec : (bs.map Value.bool).toArray.toList.countP (fun y => match y with | .bool b => b | _ => false) = bs.count true := by
      rw [List.toList_toArray, List.countP_map, List.count]
      congr 1
      funext b
      cases b <;> rfl
    refine ⟨.int ((bs.count true : Nat) : Int), H, I.tok _, ⟨s.toks, ?_⟩, q⟩
    rw [ec]
end
def blsD : List D → Option (List Bool)
  | [] => some []
  | .bl b :: l => (blsD l).map (b :: ·)
  | _ => none
theorem blsD_den {K : PySem.W.Frag} {c : Cf} : ∀ {l : List D} {bs : List Bool} {vs : List V}, blsD l = some bs → Dens K c l vs → vs = bs.map V.bl
  | [], bs, vs, e, q => by
    cases e
    exact q
  | .bl b :: l, bs, vs, e, q => by
    have e' : (blsD l).map (b :: ·) = some bs := e
    cases h : blsD l with
    | none => rw [h] at e'; cases e'
    | some bs' =>
      rw [h] at e'
      cases e'
      obtain ⟨x, r, rfl, h1, h2⟩ := q
      rw [blsD_den h h2]
      have : x = V.bl b := h1
      rw [this]; rfl
  | .non :: _, _, _, e, _ => by cases e
  | .int _ :: _, _, _, e, _ => by cases e
  | .str _ :: _, _, _, e, _ => by cases e
  | .lst _ :: _, _, _, e, _ => by cases e
  | .tup _ :: _, _, _, e, _ => by cases e
  | .ob _ :: _, _, _, e, _ => by cases e
def dIdxT : D → Option D
  | .lst l => match blsD l with
    | some bs => if true ∈ bs then some (.int ((bs.idxOf true : Nat) : Int)) else none
    | none => none
  | _ => none
def dCntT : D → Option D
  | .lst l => match blsD l with
    | some bs => some (.int ((bs.count true : Nat) : Int))
    | none => none
  | _ => none
section
variable {X : Cx} {W : WX} {o : Expr} {ga : Gm → Rs D} {apos cpos cp : Pos} {jn : Nat}
theorem mp_idxT (ha : MP X W o ga) (hbase : attributeBase o "index" X.env (eval o X.env) = eval o X.env := by rfl) (hline : (apos.endLine == cpos.line) = true := by rfl) : MP X W (.Call (.Attribute o "index" apos) [.Constant (.bool true) jn cp] [] cpos) (g1 dIdxT ga) := by
  obtain ⟨ta, h1, s1⟩ := ha
  refine ⟨_, pe_bm PySem.F.plainAttrs_list PySem.F.slot_list_index PySem.F.type_list_index mt_idxT h1 (pa_cons pe_bl pa_nil) hbase (by rfl) hline, ?_⟩
  refine sim1 (r := fun x H Q => tyV X.K "list" x H ∧ rIdxT X.K x [.bl true] H Q) (p := dIdxT) (fun c d z v Q wf q1 q2 q4 => ?_) s1
  unfold dIdxT at q1
  split at q1
  · rename_i l
    split at q1
    · rename_i bs eb
      obtain ⟨hm, rfl⟩ := ite_of q1
      obtain ⟨p, xs, rfl, h2, h3⟩ := q2
      have ex := blsD_den eb h3
      subst ex
      exact ⟨.inl ⟨rfl, _, h2.sq⟩, p, bs, rfl, rfl, h2.sq, hm, q4 _ c .refl wf rfl⟩
    · cases q1
  · cases q1
theorem mp_cntT (ha : MP X W o ga) (hbase : attributeBase o "count" X.env (eval o X.env) = eval o X.env := by rfl) (hline : (apos.endLine == cpos.line) = true := by rfl) : MP X W (.Call (.Attribute o "count" apos) [.Constant (.bool true) jn cp] [] cpos) (g1 dCntT ga) := by
  obtain ⟨ta, h1, s1⟩ := ha
  refine ⟨_, pe_bm PySem.F.plainAttrs_list PySem.F.slot_list_count PySem.F.type_list_count mt_cntT h1 (pa_cons pe_bl pa_nil) hbase (by rfl) hline, ?_⟩
  refine sim1 (r := fun x H Q => tyV X.K "list" x H ∧ rCntT X.K x [.bl true] H Q) (p := dCntT) (fun c d z v Q wf q1 q2 q4 => ?_) s1
  unfold dCntT at q1
  split at q1
  · rename_i l
    split at q1
    · rename_i bs eb
      cases q1
      obtain ⟨p, xs, rfl, h2, h3⟩ := q2
      have ex := blsD_den eb h3
      subst ex
      exact ⟨.inl ⟨rfl, _, h2.sq⟩, p, bs, rfl, rfl, h2.sq, q4 _ c .refl wf rfl⟩
    · cases q1
  · cases q1
end
/-- where no error may come -/
theorem atN {X : Cx} : ∀ σ, PassesAt (L2.CX X.prog X.w) X σ (WE Wn σ) := fun _ _ _ _ _ _ _ h => by
  obtain ⟨_, _, _, _, _, _, _, _, _, _, _, _, z⟩ := h
  exact z.elim
end Fv

set_option maxHeartbeats 4000000
/-! ### the head's facts of own error classes -/
namespace Fv
open PySem PySem.Spec PyProof.Rows L2
/-- an error class whose __init__ takes one field -/
structure CsD where
  x : Str
  n : Str
  qual : Str
  args : Arguments
  body : List Stmt
  scope : Scope
abbrev InV : Type := Option (Str × Str × Arguments × FuncBody × Scope × Addr × List Str × Value × Addr)
def inObs (K : PySem.W.Frag) (c : CsD) : InV := match K.lookup (He.fAd K (c.x, some "__init__")) with
  | some ⟨_, _, .func fd, _⟩ => some (fd.name, fd.qualname, fd.params, fd.body, fd.scope, fd.globals, fd.closure.map (·.1), fd.defaults, fd.builtins)
  | _ => none
def CsD.val (c : CsD) : InV := some ("__init__", c.qual, c.args, .stmts c.body, c.scope, mainGlobals, ["__class__"], .none, builtinsNs)
def oexB (K : PySem.W.Frag) (C : Addr) : Bool := match K.lookup C with
  | some ⟨.type t, _, .cls cd, sl⟩ => decide (t = "type") && !cd.hasDel && cd.hasDict && (match cd.mro with
    | .ref C' :: bm => decide (C' = C) && PySem.HandSPX.refsVE bm
    | _ => false) && (match sl.toList with
    | [_, _, _, _, some (.builtin b), _] => decide (b = "ValueError.__new__")
    | _ => false)
  | _ => false
theorem oexB_ok {K : PySem.W.Frag} {C : Addr} (h : oexB K C = true) : ∃ nm q N bs bm sn sub ab col dd k0 k1 k2 k3 k5, K.lookup C = some (excClassObj nm q C N bs bm true sn sub ab col dd k0 k1 k2 k3 k5 "ValueError.__new__") ∧ PySem.HandSPX.refsVE bm = true := by
  unfold oexB at h
  split at h
  · rename_i t dd cd sl ho
    simp only [Bool.and_eq_true, decide_eq_true_eq, Bool.not_eq_true'] at h
    obtain ⟨⟨⟨⟨h1, h2⟩, h3⟩, h4⟩, h5⟩ := h
    split at h4
    · rename_i C' bm hm
      simp only [Bool.and_eq_true, decide_eq_true_eq] at h4
      obtain ⟨rfl, h6⟩ := h4
      split at h5
      · rename_i k0 k1 k2 k3 b k5 hs
        have hb := of_decide_eq_true h5
        subst hb
        subst h1
        obtain ⟨nm, bs, mro, ns, qn, hd, sn, sb, ab, col, del⟩ := cd
        dsimp only at h2 h3 hm
        subst h2 h3 hm
        have es : sl = #[k0, k1, k2, k3, some (.builtin "ValueError.__new__"), k5] := by
          have : sl = sl.toList.toArray := by simp
          rw [this, hs]
        subst es
        exact ⟨nm, qn, ns, bs, bm, sn, sb, ab, col, dd, k0, k1, k2, k3, k5, ho, h6⟩
      · cases h5
    · cases h4
  · cases h
/-- the parts of such a class that are read off -/
def csB (file : Str) (K : PySem.W.Frag) (c : CsD) : Bool :=
  oexB K (He.ga K c.x) && He.eqO (PySem.W.findIn K (.ref (He.ga K c.x)) "__setattr__") (some (some (.builtin "object.__setattr__"))) && decide (PySem.W.subIn K (.ref (He.ga K c.x)) (.type "BaseException") = some true) &&
  decide (PySem.W.typeIn K (.ref (He.ga K c.x)) = some (.type "type")) && PySem.W.keepIn K (.ref (He.ga K c.x)) && He.eqO (PySem.W.findIn K (.ref (He.ga K c.x)) c.n) (some none) && He.eqO (PySem.W.nsIn K cStatics "thirdparty.any") (some none) &&
  He.eqO (PySem.W.ks_superIn K (He.ga K c.x) (He.ga K c.x) "__init__") (some (some (.builtin "ValueError.__init__"))) && decide (PySem.W.subIn K (.ref (He.ga K c.x)) (.type "ValueError") = some true) && decide (PySem.W.mroIn K (He.ga K c.x) (.ref (He.ga K c.x)) = some true) &&
  He.eqO (PySem.W.findIn K (.ref (He.ga K c.x)) "__init__") (some (some (.ref (He.fAd K (c.x, some "__init__"))))) && decide (PySem.W.typeIn K (.ref (He.fAd K (c.x, some "__init__"))) = some (.type "function")) &&
  (match K.lookup (He.fAd K (c.x, some "__init__")) with
    | some ⟨_, _, .func fd, _⟩ => (match fd.closure, fd.code with
      | [(_, cc)], .ref cda => PySem.W.codeIn K (.ref cda) c.qual && (match K.lookup cda with
        | some ⟨_, _, .fields vs, _⟩ => (match (vs[2]? : Option Value) with
          | some (.str f _) => decide (f = file)
          | _ => false)
        | _ => false) && (match K.lookup cc with
        | some ⟨_, _, .cell (some (.ref C')), _⟩ => decide (C' = He.ga K c.x)
        | _ => false)
      | _, _ => false)
    | _ => false)
/-- the class's text is of the kind that is served -/
def CsD.Is (c : CsD) : Prop := ∃ (t : Str) (p1 p2 : Pos) (j : Nat) (q1 q2 q3 q4 r0 r1 r2 r3 r4 u1 u2 u3 u4 : Pos), c.args = Su.ar c.n p1 p2 ∧ c.body = Su.bd c.n t j q1 q2 q3 q4 r0 r1 r2 r3 r4 u1 u2 u3 u4 ∧ c.scope = Su.sc c.n ∧ t.length ≤ 1000 ∧ (r2.endLine == r3.line) = true
theorem txt_of {P : Program} {K : PySem.W.Frag} {c : CsD} {file : Str} (hf : P.main.file = file) (hb : csB file K c = true) (ho : inObs K c = c.val) (hi : c.Is) : Su.Txt P K (He.ga K c.x) c.n := by
  unfold csB at hb
  simp only [Bool.and_eq_true, decide_eq_true_eq] at hb
  obtain ⟨⟨⟨⟨⟨⟨⟨⟨⟨⟨⟨⟨b1, b2⟩, b3⟩, b4⟩, b5⟩, b6⟩, b7⟩, b8⟩, b9⟩, b10⟩, b11⟩, b12⟩, b13⟩ := hb
  obtain ⟨t, p1, p2, j, q1, q2, q3, q4, r0, r1, r2, r3, r4, u1, u2, u3, u4, e1, e2, e3, e4, e5⟩ := hi
  refine ⟨⟨oexB_ok b1, He.eqO_ok b2, b3, b4, b5⟩, He.eqO_ok b6, He.eqO_ok b7, He.eqO_ok b8, b9, b10, ?_⟩
  unfold inObs CsD.val at ho
  cases q : K.lookup (He.fAd K (c.x, some "__init__")) with
  | none => rw [q] at b13; cases b13
  | some o =>
    obtain ⟨oc, od, dt, osl⟩ := o
    rw [q] at b13 ho
    cases dt with
    | func fd =>
      obtain ⟨n1, n2, n3, n4, n5, n6, n7, n8, n9, n10, n11, n12, n13, n14, n15⟩ := fd
      simp only [Option.some.injEq, Prod.mk.injEq] at ho
      obtain ⟨g1, g2, g3, g4, g5, g6, g7, g8, g9⟩ := ho
      subst g1 g2 g3 g4 g5 g6 g8 g9
      simp only at b13
      split at b13
      · rename_i z0 z1 x0 cc cda
        have ex : x0 = "__class__" := by simpa using g7
        subst ex
        simp only [Bool.and_eq_true] at b13
        obtain ⟨⟨c1, c2⟩, c3⟩ := b13
        split at c2
        · rename_i ccl ccd vs ccs hcda
          split at c2
          · rename_i f tf hvs
            have ef := of_decide_eq_true c2
            split at c3
            · rename_i cl cld C' csl hcc
              have eC := of_decide_eq_true c3
              subst eC
              rw [e1, e2, e3] at q
              exact ⟨_, cda, cc, oc, od, osl, c.qual, t, n9, n10, n11, n14, n12, p1, p2, j, q1, q2, q3, q4, r0, r1, r2, r3, r4, u1, u2, u3, u4, cl, ccl, cld, ccd, csl, ccs, vs, f, tf, He.eqO_ok b11, b12, q, c1, hcda, hvs, by rw [ef, ← hf]; exact beq_self_eq_true _, hcc, e4, e5⟩
            · cases c3
          · cases c2
        · cases c2
      · cases b13
    | _ => cases b13
/-! the classes that a handler tells apart -/
def ecB (K : PySem.W.Frag) (C : Addr) : Bool := He.eqO (PySem.W.findIn K (.ref C) "__class__") (some (some (.builtin "object.__class__"))) && He.eqO (PySem.W.specialIn K (.builtin "object.__class__") "__get__") (some (some (.builtin "getset_descriptor.__get__"))) && decide (PySem.W.takesIn K (.builtin "object.__class__") = some true) && decide (PySem.W.mroIn K C (.type "object") = some true)
theorem ecB_ok {K : PySem.W.Frag} {C : Addr} (x : XfC K C) (h : ecB K C = true) : ExcC K C := by
  unfold ecB at h
  simp only [Bool.and_eq_true, decide_eq_true_eq] at h
  obtain ⟨⟨⟨h1, h2⟩, h3⟩, h4⟩ := h
  exact ⟨x.ga, x.gg, x.exC, x.hdC, He.eqO_ok h1, He.eqO_ok h2, h3, h4⟩
def clsB (K : PySem.W.Frag) (ev : Str) (cs fds : List Str) : Bool :=
  (ev :: cs).all (fun n => He.eqO (PySem.W.nsIn K mainGlobals n) (some (some (.ref (He.ga K n))))) && cs.all fun n => xfB K (He.ga K n) && ecB K (He.ga K n) && fds.all (fun f => He.eqO (PySem.W.findIn K (.ref (He.ga K n)) f) (some none)) && decide (PySem.W.exmOne K (.ref (He.ga K n)) (.ref (He.ga K ev)) = some true) &&
    cs.all fun m => decide (PySem.W.kitOne K (.ref (He.ga K n)) (.ref (He.ga K m)) = some (decide (n = m)))
theorem clsF_of {K : PySem.W.Frag} {h : Heap} {mg : Str → Option Value} (X : K.In h) (G : h.Ns mainGlobals mg) {ev : Str} {cs fds : List Str} (hb : clsB K ev cs fds = true) : ClsF K mg ev cs fds := by
  unfold clsB at hb
  obtain ⟨h1, h2⟩ := Bool.and_eq_true_iff.mp hb
  have g : ∀ n, n ∈ ev :: cs → mg n = some (.ref (He.ga K n)) := fun n hn => PySem.W.mg_of X G (He.eqO_ok (List.all_eq_true.mp h1 n hn))
  have gc : ∀ n, n ∈ cs → ∀ C, mg n = some (.ref C) → C = He.ga K n := fun n hn C e => by
    rw [g n (List.mem_cons_of_mem _ hn)] at e
    cases e; rfl
  have each : ∀ n, n ∈ cs → xfB K (He.ga K n) = true ∧ ecB K (He.ga K n) = true ∧ (∀ f ∈ fds, He.eqO (PySem.W.findIn K (.ref (He.ga K n)) f) (some none) = true) ∧ PySem.W.exmOne K (.ref (He.ga K n)) (.ref (He.ga K ev)) = some true ∧ ∀ m ∈ cs, PySem.W.kitOne K (.ref (He.ga K n)) (.ref (He.ga K m)) = some (decide (n = m)) := fun n hn => by
    have z := List.all_eq_true.mp h2 n hn
    simp only [Bool.and_eq_true, decide_eq_true_eq] at z
    obtain ⟨⟨⟨⟨z1, z2⟩, z3⟩, z4⟩, z5⟩ := z
    exact ⟨z1, z2, fun f hf => List.all_eq_true.mp z3 f hf, z4, fun m hm => of_decide_eq_true (List.all_eq_true.mp z5 m hm)⟩
  refine ⟨fun n hn C e => ?_, fun n hn C e => ?_, fun n hn f hf C e => ?_, fun n hn m hm => ⟨He.ga K m, g m (List.mem_cons_of_mem _ hm), fun C' e => ?_⟩, He.ga K ev, g ev List.mem_cons_self, fun n hn C e => ?_⟩
  · rw [gc n hn C e]; exact ecB_ok (xfB_ok (each n hn).1) (each n hn).2.1
  · rw [gc n hn C e]; exact xfB_ok (each n hn).1
  · rw [gc n hn C e]; exact He.eqO_ok ((each n hn).2.2.1 f hf)
  · rw [gc n hn C' e]; exact (each n hn).2.2.2.2 m hm
  · rw [gc n hn C e]; exact (each n hn).2.2.2.1
/-! the Hook -/
def asY (g : Addr → Option Obj) (n : Nat) : List Addr := cStatics :: He.asD g n
def tabY (g : Addr → Option Obj) (K : PySem.W.Frag) (p : He.Defn) : Bool := PySem.W.codeHdIn K (He.cT K p).1 (He.cT K p).2 && match g (He.cT K p).2 with
  | some o => He.emptyTab o
  | none => false
abbrev AlY : Type := (He.AlT × Bool) × List InV
def obsY (n : Nat) (fa : List He.Fa) (fn : List He.DefD) (tf : List He.Defn) (ex : PySem.W.Frag → Bool) (cs : List CsD) (g : Addr → Option Obj) : AlY :=
  ((He.obsT fa fn [] (He.frT g (asY g n)), ex (He.frT g (asY g n)) && tf.all (tabY g (He.frT g (asY g n)))), cs.map (inObs (He.frT g (asY g n))))
def valY (fn : List He.DefD) (cs : List CsD) (w : World) : AlY := ((He.valT fn [] w, true), cs.map CsD.val)
theorem saysY_of {n : Nat} {fa : List He.Fa} {fn : List He.DefD} {tf : List He.Defn} {ex : PySem.W.Frag → Bool} {cs : List CsD} {w : World} {h : Heap} (e : obsY n fa fn tf ex cs h.get? = valY fn cs w) :
    He.SaysX fa fn [] tf ex w h (He.frT h.get? (asY h.get? n)) ∧ cs.map (inObs (He.frT h.get? (asY h.get? n))) = cs.map CsD.val := by
  have z1 := congrArg (fun z : AlY => z.1.1) e
  have z2 := congrArg (fun z : AlY => z.1.2) e
  have z3 := congrArg (fun z : AlY => z.2) e
  obtain ⟨y1, y2⟩ := Bool.and_eq_true_iff.mp (show (ex (He.frT h.get? (asY h.get? n)) && tf.all (tabY h.get? (He.frT h.get? (asY h.get? n)))) = true from z2)
  have key : ∀ p, p ∈ tf → PySem.W.codeHdIn (He.frT h.get? (asY h.get? n)) (He.cT (He.frT h.get? (asY h.get? n)) p).1 (He.cT (He.frT h.get? (asY h.get? n)) p).2 = true ∧ ∃ o, h.get? (He.cT (He.frT h.get? (asY h.get? n)) p).2 = some o ∧ He.emptyTab o = true := fun p hp => by
    obtain ⟨k1, k2⟩ := Bool.and_eq_true_iff.mp (List.all_eq_true.mp y2 p hp)
    refine ⟨k1, ?_⟩
    split at k2
    · rename_i o ho
      exact ⟨o, ho, k2⟩
    · cases k2
  exact ⟨⟨z1, y1, fun p hp => (key p hp).1, fun p hp => by obtain ⟨_, o, ho, he⟩ := key p hp; exact He.frT_none ho he, fun p hp => by obtain ⟨_, o, ho, he⟩ := key p hp; rw [ho, He.emptyTab_eq he]⟩, z3⟩
def hookY (n : Nat) (fa : List He.Fa) (fn : List He.DefD) (tf : List He.Defn) (ex : PySem.W.Frag → Bool) (cs : List CsD) : PySem.W.Hook where
  α := AlY
  obs := fun s => obsY n fa fn tf ex cs s.heap.get?
  val := fun w => valY fn cs w
  says := fun w h => ∃ K : PySem.W.Frag, K.In h ∧ He.SaysX fa fn [] tf ex w h K ∧ cs.map (inObs K) = cs.map CsD.val
  of := fun _ _ e => ⟨_, He.frT_in, (saysY_of e).1, (saysY_of e).2⟩
  keeps := fun _ _ _ ⟨K, hK, c, z⟩ k => ⟨K, PySem.W.Frag.In.keeps hK k, ⟨c.t, c.more, c.hd, c.out, fun p hp => k _ _ (c.empty p hp)⟩, z⟩
theorem obsY_tree {n : Nat} {fa : List He.Fa} {fn : List He.DefD} {tf : List He.Defn} {ex : PySem.W.Frag → Bool} {cs : List CsD} (s : PySem.W.SharedT) : obsY n fa fn tf ex cs (HandSHeadRun.getT s) = (hookY n fa fn tf ex cs).obs s.abs := by
  have e : HandSHeadRun.getT s = s.abs.heap.get? := funext fun a => HandSHeadRun.getT_eq s a
  rw [e]
  rfl
theorem cs_at {cs : List CsD} {K : PySem.W.Frag} (e : cs.map (inObs K) = cs.map CsD.val) (i : Nat) {c : CsD} (h : cs[i]? = some c) : inObs K c = c.val := by
  have e2 : (cs.map (inObs K))[i]? = (cs.map CsD.val)[i]? := by rw [e]
  rw [List.getElem?_map, List.getElem?_map, h] at e2
  exact Option.some.inj e2
/-- what is asked of the written part beside the imports and the tables -/
def exY (bx : List (Str × String)) (names : List Str) (file ev : Str) (cl fds : List Str) (cs : List CsD) (K : PySem.W.Frag) : Bool := exB bx names K && (clsB K ev cl fds && cs.all (csB file K))
end Fv

set_option maxHeartbeats 4000000
namespace Fv
variable [LC : LamC]
open PySem PySem.Spec PyProof.Rows L2 LamX
section
variable {X : Cx} {W : WX} {a C : Addr} {d : Option Addr} {oe : Obj} {pn : List (Addr × Obj)} {e : Expr} {ge : Gm → Rs D} {T f n ev : Str} {cs fds : List Str} {p p2 pos : Pos}
theorem mp_isF (F : ClsF X.K X.mg ev cs fds) (hn : n ∈ cs) (hmn : X.mg n = some (.ref C)) (hz : Zc (.ref C) d oe) (hf : ∃ vs, oe.data = .fields vs) (hg : Gl X "isinstance") (hm : X.mg "isinstance" = none) (hT : T ∈ cs) (hgT : Gl X T) (ha : MP (X.suite a ((a, oe) :: pn)) W e ge)
    (h2 : (T == ("__debug__" : Str)) = false := by decide)
    (h3 : starEach [e, .Name T p2] X.env = (false, eval e X.env) :: starEach [.Name T p2] X.env := by rfl) (h4 : (backTo pos (starEach [.Name T p2] X.env)).any (·.1) = false := by rfl)
    (h5 : starEach [.Name T p2] X.env = (false, eval (.Name T p2) X.env) :: starEach [] X.env := by rfl) : MP (X.suite a ((a, oe) :: pn)) W (.Call (.Name "isinstance" p) [e, .Name T p2] [] pos) (g1 (dIsE a d (decide (n = T))) ge) := by
  obtain ⟨CT, hmT, hk⟩ := F.kit n hn T hT
  exact mp_isE (F.ec n hn C hmn) hz hf hg hm hgT hmT (hk C hmn) ha h2 h3 h4 h5
theorem mp_xfF (F : ClsF X.K X.mg ev cs fds) (hn : n ∈ cs) (hmn : X.mg n = some (.ref C)) (hz : Zc (.ref C) d oe) (hf : ∃ vs, oe.data = .fields vs) (hfd : f ∈ fds) (ha : MP (X.suite a ((a, oe) :: pn)) W e ge) (hb : attributeBase e f X.env (eval e X.env) = eval e X.env := by rfl) :
    MP (X.suite a ((a, oe) :: pn)) W (.Attribute e f pos) (g1 (dXf a d f) ge) := mp_xf (F.xf n hn C hmn) hz hf (F.no n hn f hfd C hmn) ha hb
end
/-! how the handler's steps read on letters -/
@[simp] theorem d_isE {a : Addr} {d : Option Addr} {b : Bool} {fo : FO} : dIsE a d b (.ob (.exn a d fo)) = some (.bl b) := hide (if_pos ⟨rfl, rfl⟩)
@[simp] theorem d_xf {a : Addr} {d : Option Addr} {f f' : Str} {i : Option Int} : dXf a d f (.ob (.exn a d (some (f', i)))) = if f' = f then some (oD i) else none := hide (by
  unfold dXf
  by_cases h : f' = f <;> simp [h])
@[simp] theorem d_xfN {a : Addr} {d : Option Addr} {f : Str} : dXf a d f (.ob (.exn a d none)) = none := hide rfl
@[simp] theorem outD_rt {d : D} {g : Gm} : outD (.rt d g) = some d := hide rfl
@[simp] theorem outD_no : outD .no = none := hide rfl
@[simp] theorem outD_nx {g : Gm} : outD (.nx g) = none := hide rfl
theorem d_eqS {x y : Str} (hx : PyData.strOk x = true) (hy : PyData.strOk y = true) : dEq (.str x) (.str y) = some (.bl (decide (x = y))) := by
  unfold dEq; by_cases h : x = y <;> simp_all [eqOk, gds, dep, eqD]
theorem sz_lt : ∀ n : Nat, n < 100 → n < sizeLine := fun n h => Nat.lt_of_lt_of_le h (by decide)
end Fv

set_option maxHeartbeats 4000000
/-! ### a text times a number -/
namespace Fv
variable [LC : LamC]
open PySem PySem.Spec PyProof.Rows L2 LamX
def repS (x : Str) (n : Int) : Str := if n < 1 then Str.empty else if n = 1 then x else ⟨(List.replicate n.toNat x.cps).foldl (· ++ ·) #[]⟩
def rRepS : R2 := fun x y H Q => ∃ z n, x = .str z ∧ y = .int n ∧ -(2 ^ 62) ≤ n ∧ n ≤ 1000 ∧ 1 ≤ z.length ∧ z.length ≤ 1000 ∧ (repS z n).length ≤ 1000000 ∧ Q (.str (repS z n)) H
section
variable {X : Cx} {W : WX} {a b : Expr} {ga gb : Gm → Rs D} {pos : Pos}
theorem op_repS : OpR X (binaryOp .Mult) rRepS := by
  intro pins s σ H x y v u Q I rx ry h
  obtain ⟨z, n, rfl, rfl, h1, h2, h3, h4, h5, q⟩ := h
  obtain ⟨t, rfl⟩ := rx
  obtain ⟨t', rfl⟩ := ry
  refine PySem.P.mul_str ?_ (fun a1 a2 => ?_) (fun a1 a2 => ?_) ?_
  · have b1 : ¬ n < -(2 ^ 63 : Int) := by omega
    have b2 : ¬ n ≥ 2 ^ 63 := by omega
    rw [decide_eq_false b1, decide_eq_false b2]; rfl
  · intro hc
    have hn : 0 < n := by omega
    have hn2 : n ≤ 1000 := h2
    have : ((2 : Int) ^ 63 - 1) / 1000 ≤ (2 ^ 63 - 1) / n := by
      rw [Int.le_ediv_iff_mul_le hn]
      have : ((2 : Int) ^ 63 - 1) / 1000 * n ≤ ((2 : Int) ^ 63 - 1) / 1000 * 1000 := Int.mul_le_mul_of_nonneg_left hn2 (by decide)
      have e : ((2 : Int) ^ 63 - 1) / 1000 * 1000 ≤ 2 ^ 63 - 1 := by decide
      omega
    have e2 : ((2 : Int) ^ 63 - 1) / 1000 > 1000 := by decide
    have : (z.length : Int) ≤ 1000 := by exact_mod_cast h4
    omega
  · have hn : n.toNat ≤ 1000 := by omega
    have hm : z.length * n.toNat ≤ 1000 * 1000 := Nat.mul_le_mul h4 hn
    unfold PySem.Builtin.Str.tooLong
    rw [sizeLine_eq]
    simp
    omega
  · have hz : z.length ≠ 0 := by omega
    unfold repS at q h5
    by_cases c : n < 1
    · rw [if_pos c] at q h5 ⊢
      exact ⟨by decide, .str Str.empty, H, I.tok _, ⟨_, rfl⟩, q⟩
    · rw [if_neg c] at q h5 ⊢
      by_cases c2 : n = 1
      · subst c2
        rw [if_pos rfl] at q
        simp only [beq_self_eq_true, Bool.true_or, if_true]
        exact ⟨.str z, H, I, ⟨_, rfl⟩, q⟩
      · rw [if_neg c2] at q h5
        have e : (n == 1 || z.length == 0) = false := by simp [c2, hz]
        rw [e]
        simp only [Bool.false_eq_true, if_false]
        exact ⟨by rw [sizeLine_eq]; omega, .str _, H, I.tok _, ⟨_, rfl⟩, q⟩
def dRepS : D → D → Option D
  | .str x, .int n => if -(2 ^ 62) ≤ n ∧ n ≤ 1000 ∧ 1 ≤ x.length ∧ x.length ≤ 1000 ∧ (repS x n).length ≤ 1000000 then some (.str (repS x n)) else none
  | _, _ => none
theorem repS_meets {K : PySem.W.Frag} : Meet2 K rRepS dRepS := by
  intro c d e z v w Q wf q1 q2 q3 q4
  unfold dRepS at q1
  split at q1
  · obtain ⟨⟨h1, h2, h3, h4, h5⟩, h6⟩ := ite_of q1
    subst h6
    exact ⟨_, _, q2, q3, h1, h2, h3, h4, h5, q4 _ c .refl wf rfl⟩
  · cases q1
theorem mp_repS (ha : MP X W a ga) (hb : MP X W b gb) : MP X W (.BinOp a .Mult b pos) (g2 dRepS ga gb) := mp_op op_repS repS_meets ha hb
end
end Fv

set_option maxHeartbeats 4000000
/-! ### keys that can be computed -/
namespace Fv
variable [LC : LamC]
open PySem PySem.Spec PyProof.Rows L2 LamX
/-- leaves the slots as they are -/
def Pu (g : Gm → Rs D) : Prop := ∀ γ d γ1, g γ = .ok d γ1 → γ1 = γ
def PuA (g : Gm → Rs (List Ar)) : Prop := ∀ γ l γ1, g γ = .ok l γ1 → γ1 = γ ∧ slotsA l = []
theorem bind_okE {α β : Type} {r : Rs α} {k : α → Gm → Rs β} {b : β} {g : Gm} (h : r.bind k = .ok b g) : ∃ a g1, r = .ok a g1 ∧ k a g1 = .ok b g := by
  cases r with
  | ok a g1 => exact ⟨a, g1, rfl, h⟩
  | ex n fs g1 => cases h
  | no => cases h
theorem ofO_okE {α : Type} {o : Option α} {g g1 : Gm} {a : α} (h : ofO o g = .ok a g1) : g1 = g := by
  cases o with
  | none => cases h
  | some b => cases h; rfl
theorem pu_var {i : Nat} : Pu (gVar i) := fun γ d γ1 h => by
  unfold gVar at h
  split at h
  · cases h; rfl
  · cases h
theorem pu_c {d : D} : Pu (gC d) := fun γ _ γ1 h => by cases h; rfl
theorem pu_g1 {p : D → Option D} {ga : Gm → Rs D} (ha : Pu ga) : Pu (g1 p ga) := fun γ d γ1 h => by
  obtain ⟨a, g, e1, e2⟩ := bind_okE h
  have := ha _ _ _ e1
  subst this
  exact ofO_okE e2
theorem pu_g2 {p : D → D → Option D} {ga gb : Gm → Rs D} (ha : Pu ga) (hb : Pu gb) : Pu (g2 p ga gb) := fun γ d γ1 h => by
  obtain ⟨a, g, e1, e2⟩ := bind_okE h
  obtain ⟨b, g', e3, e4⟩ := bind_okE e2
  have := ha _ _ _ e1
  subst this
  have := hb _ _ _ e3
  subst this
  exact ofO_okE e4
theorem pu_index {ga gb : Gm → Rs D} (ha : Pu ga) (hb : Pu gb) : Pu (gIndex ga gb) := fun γ d γ1 h => by
  obtain ⟨a, g, e1, e2⟩ := bind_okE h
  have := ha _ _ _ e1
  subst this
  split at e2
  · obtain ⟨b, g', e3, e4⟩ := bind_okE e2
    have := hb _ _ _ e3
    subst this
    exact ofO_okE e4
  · cases e2
theorem pua_nil : PuA aNil := fun γ l γ1 h => by cases h; exact ⟨rfl, rfl⟩
theorem pua_cons {ga : Gm → Rs D} {gs : Gm → Rs (List Ar)} (ha : Pu ga) (hs : PuA gs) : PuA (aCons ga gs) := fun γ l γ1 h => by
  obtain ⟨a, g, e1, e2⟩ := bind_okE h
  obtain ⟨b, g', e3, e4⟩ := bind_okE e2
  have := ha _ _ _ e1
  subst this
  obtain ⟨h1, h2⟩ := hs _ _ _ e3
  subst h1
  cases e4
  exact ⟨rfl, h2⟩
theorem back_data : ∀ {γ γ1 : Gm} {l : List Ar} {q : List SV}, slotsA l = [] → backG γ l q = some γ1 → γ1 = γ
  | γ, γ1, [], q, _, h => by
    unfold backG at h
    cases h; rfl
  | γ, γ1, .d x :: l, [], _, h => by
    unfold backG at h; cases h
  | γ, γ1, .d x :: l, s :: q, hs, h => by
    unfold backG at h
    exact back_data (l := l) hs h
  | γ, γ1, .s j :: l, q, hs, h => by cases hs
theorem pu_call {F : List SV → Rs D} {gs : Gm → Rs (List Ar)} (hs : PuA gs) : Pu (gCall F gs) := fun γ d γ1 h => by
  obtain ⟨a, g, e1, e2⟩ := bind_okE h
  obtain ⟨h1, h2⟩ := hs _ _ _ e1
  subst h1
  split at e2
  · split at e2
    · cases e2
    · split at e2
      · split at e2
        · rename_i eb
          cases e2
          exact back_data h2 eb
        · cases e2
      · split at e2 <;> cases e2
      · cases e2
  · cases e2
def gKeysC (i : Nat) (ge : Gm → Rs D) (γ : Gm) : List D → Option (List Int)
  | [] => some []
  | d :: l => match ge (γ.set i (.pu d)) with
    | .ok (.int k) _ => (gKeysC i ge γ l).map (k :: ·)
    | _ => none
theorem gKeysC_are {i : Nat} {ge : Gm → Rs D} {γ : Gm} (hp : Pu ge) : ∀ {l : List D} {ks : List Int}, gKeysC i ge γ l = some ks → KeysAre i ge γ l ks
  | [], ks, h => by
    cases h
    exact ⟨rfl, fun j d k e => by simp at e⟩
  | d :: l, ks, h => by
    unfold gKeysC at h
    split at h
    · rename_i k g eg
      cases er : gKeysC i ge γ l with
      | none => rw [er] at h; cases h
      | some ks' =>
        rw [er] at h
        cases h
        obtain ⟨h1, h2⟩ := gKeysC_are hp er
        refine ⟨by simp [h1], fun j d' k' e1 e2 => ?_⟩
        cases j with
        | zero =>
          have e1' : d = d' := by simpa using e1
          have e2' : k = k' := by simpa using e2
          subst e1'; subst e2'
          rw [eg, hp _ _ _ eg]
        | succ j => exact h2 j d' k' (by simpa using e1) (by simpa using e2)
    · cases h
def gKeyRestC (mx : Bool) (i : Nat) (ge : Gm → Rs D) (df : Option D) : List D → Gm → Rs D := fun ds γ1 => match ds, γ1[i]? with
  | [d], some .un => match itemsD d with
    | some l => match gKeysC i ge γ1 l with
      | some ks => if l.isEmpty then ofO df γ1 else ofO l[bestK mx ks]? γ1
      | none => .no
    | none => .no
  | _, _ => .no
def gKeyC (mx : Bool) (i : Nat) (ga : Gm → Rs D) (ge : Gm → Rs D) (df : Option D) : Gm → Rs D := fun γ => (gCons ga gNil γ).bind (gKeyRestC mx i ge df)
theorem keyRestC_or {mx : Bool} {i : Nat} {ge : Gm → Rs D} {df : Option D} (hp : Pu ge) (ds : List D) (γ : Gm) : gKeyRestC mx i ge df ds γ = .no ∨ gKeyRest mx i ge df ds γ = gKeyRestC mx i ge df ds γ := by
  unfold gKeyRestC gKeyRest
  split
  · rename_i hu
    split
    · rename_i l el
      split
      · rename_i ks ek
        have e := gKeys_eq (gKeysC_are hp ek)
        right
        simp only [hu, el, e]
        cases l <;> rfl
      · left; rfl
    · left; rfl
  · left; rfl
theorem mp_keyC {X : Cx} {W : WX} {e : Expr} {mx : Bool} {i : Nat} {ga ge : Gm → Rs D} {df : Option D} (hp : Pu ge) (h : MP X W e (gKeyP mx i ga ge df)) : MP X W e (gKeyC mx i ga ge df) := by
  obtain ⟨t, h1, s1⟩ := h
  refine ⟨t, h1, fun f S c σ γ Q R hq => s1 f S c σ γ Q R ?_⟩
  replace hq : Post X.K X.mg (vP X.K) W f S c σ γ Q (gKeyC mx i ga ge df γ) := hq
  show Post X.K X.mg (vP X.K) W f S c σ γ Q (gKeyP mx i ga ge df γ)
  unfold gKeyC at hq
  unfold gKeyP
  cases eg : gCons ga gNil γ with
  | no => rw [eg] at hq; exact hq
  | ex n fs g => rw [eg] at hq; exact hq
  | ok ds γ1 =>
    rw [eg] at hq
    have hq' : Post X.K X.mg (vP X.K) W f S c σ γ Q (gKeyRestC mx i ge df ds γ1) := hq
    show Post X.K X.mg (vP X.K) W f S c σ γ Q (gKeyRest mx i ge df ds γ1)
    rcases keyRestC_or (mx := mx) (i := i) (df := df) hp ds γ1 with z | z
    · rw [z] at hq'; exact hq'.elim
    · rw [z]; exact hq'
end Fv

set_option maxHeartbeats 4000000
/-! ### a list of this frame's, looked at by a call that gives back another list of ints -/
namespace Fv
variable [LC : LamC]
open PySem L2
def okSee (l : List D) (d : D) : Bool := noLst d || match d with
  | .lst l' => match intL l, intL l' with
    | some a, some b => decide (a ≠ b)
    | _, _ => false
  | _ => false
theorem map_int_inj : ∀ {a b : List Int}, a.map V.int = b.map V.int → a = b
  | [], [], _ => rfl
  | [], _ :: _, h => by cases h
  | _ :: _, [], h => by cases h
  | x :: a, y :: b, h => by
    simp only [List.map_cons, List.cons.injEq, V.int.injEq] at h
    rw [h.1, map_int_inj h.2]
theorem ints_dens {K : PySem.W.Frag} {c c' : Cf} {l : List D} {ns : List Int} {xs : List V} (e : intL l = some ns) (h : Dens K c l xs) : Dens K c' l xs := by
  have ex := intL_den e h
  subst ex
  induction l generalizing ns with
  | nil =>
    have : ns.map V.int = [] := h
    exact this
  | cons d l ih =>
    obtain ⟨x, r, e1, h1, h2⟩ := h
    cases d with
    | int i =>
      have e' : (intL l).map (i :: ·) = some ns := e
      cases q : intL l with
      | none => rw [q] at e'; cases e'
      | some ns' =>
        rw [q] at e'
        cases e'
        simp only [List.map_cons, List.cons.injEq] at e1
        obtain ⟨rfl, rfl⟩ := e1
        exact ⟨_, _, rfl, h1, ih q h2⟩
    | _ => cases e
theorem okSee_den {K : PySem.W.Frag} {c2 : Cf} {p : Addr} {l : List D} {d : D} {vs : List V} {v : V} {c3 : Cf} (h : okSee l d = true) (hD : Dens K c3 l vs) (hp : c2.H p = some (.lst vs)) (hd : Den K c2 d v) : Den K ⟨fun a => c2.M a ∨ a = p, c2.H⟩ d v := by
  unfold okSee at h
  rcases Bool.or_eq_true_iff.mp h with h | h
  · exact den_flat (c := c2) (c' := ⟨fun a => c2.M a ∨ a = p, c2.H⟩) (fun _ _ z => z) d v h hd
  · split at h
    · rename_i l'
      split at h
      · rename_i a b ea eb
        have hne := of_decide_eq_true h
        obtain ⟨q, xs, rfl, h1, h2⟩ := hd
        refine ⟨q, xs, rfl, ?_, ints_dens eb h2⟩
        rcases h1 with ⟨h1, n⟩ | h1
        · refine .inl ⟨h1, fun z => ?_⟩
          rcases z with z | z
          · exact n z
          · subst z
            have exs : xs = vs := by
              rcases h1 with h1 | ⟨o, h1⟩
              · rw [hp] at h1; cases h1; rfl
              · rw [hp] at h1; cases h1
            subst exs
            have e1 := intL_den ea hD
            have e2 := intL_den eb h2
            exact hne (map_int_inj (e1.symm.trans e2))
        · exact .inr h1
      · cases h
    · cases h
def gSeeI (j : Nat) (g : Gm → Rs D) : Gm → Rs D := fun γ => match γ[j]? with
  | some (.ow l) => match g (γ.set j (.pu (.lst l))) with
    | .ok d γ2 => if okSee l d = true ∧ γ2.length = γ.length ∧ flatOwn j γ2 = true then .ok d (γ2.set j (.ow l)) else .no
    | _ => .no
  | _ => .no
theorem sim_seeI {X : Cx} {W : WX} {t : TE} {g : Gm → Rs D} (j : Nat) (s : Sim X W (vP X.K) t g) : Sim X W (vP X.K) t (gSeeI j g) := by
  intro f S c σ γ Q R hp
  replace hp : Post X.K X.mg (vP X.K) W f S c σ γ Q (gSeeI j g γ) := hp
  unfold gSeeI at hp
  split at hp
  · rename_i l ej
    obtain ⟨p, h1, h2, h3, hO⟩ := R.ow j l ej
    have hown : ownAt γ j = true := by unfold ownAt; rw [ej]; rfl
    have hj : j < γ.length := (List.getElem?_eq_some_iff.mp ej).1
    have R3 := R.see hown h1 hO h2
    have hO' := hO
    obtain ⟨hM, vs, hV, hD⟩ := hO'
    refine s f S (c.del p) σ (γ.set j (.pu (.lst l))) Q R3 ?_
    cases eg : g (γ.set j (.pu (.lst l))) with
    | no => rw [eg] at hp; exact hp.elim
    | ex _ _ _ => rw [eg] at hp; exact hp.elim
    | ok d γ2 =>
      rw [eg] at hp
      simp only at hp
      by_cases hc : okSee l d = true ∧ γ2.length = γ.length ∧ flatOwn j γ2 = true
      · rw [if_pos hc] at hp
        obtain ⟨c1, c2, c3⟩ := hc
        intro v c2' x2 R2 k2 hd
        have hV2 : c2'.H p = some (.lst vs) := x2.h p _ hV (fun z => z.1.2 rfl) (fun _ z => by cases z)
        have g1 : ∀ (i : Nat) (s : SV), i ≠ j → (γ.set j (.pu (.lst l)))[i]? = some s → γ[i]? = some s := fun i s hi q => by rw [List.getElem?_set_ne (Ne.symm hi)] at q; exact q
        have oj : ∀ (i : Nat) (s : SV), γ2[i]? = some s → s.own = true → i ≠ j := fun i s q o z => by
          subst z
          obtain ⟨s', e', o'⟩ := ownAt_some (k2.own i (by unfold ownAt; rw [q]; exact o))
          rw [List.getElem?_set_self hj] at e'
          cases e'; cases o'
        have x3 : Ext S c ⟨fun a => c2'.M a ∨ a = p, c2'.H⟩ := by
          refine ⟨fun a z => ?_, fun a z => ?_, fun a o e n nt => ?_, x2.ht, x2.tb⟩
          · by_cases ha : a = p
            · exact .inr ha
            · exact .inl (x2.m1 a ⟨z, ha⟩)
          · rcases z with z | z
            · rcases x2.m2 a z with q | q
              · exact .inl q.1
              · exact .inr q
            · exact .inl (by rw [z]; exact hM)
          · exact x2.h a o e (fun z => n ⟨z.1.1, z.2⟩) nt
        have w3 : WF ⟨fun a => c2'.M a ∨ a = p, c2'.H⟩ := fun a z => by
          rcases z with z | z
          · exact R2.wf a z
          · exact ⟨vs, by rw [z]; exact hV2⟩
        have flat : ∀ (i : Nat) (s : SV) (m : List D), i ≠ j → γ2[i]? = some s → (s = .ow m ∨ s = .bo m) → noLsts m = true := fun i s m hi q hs => by
          have hz := (List.getElem?_eq_some_iff.mp q).1
          have := List.all_eq_true.mp c3 i (List.mem_range.mpr hz)
          rw [q] at this
          rcases hs with rfl | rfl <;> simpa [hi] using this
        have own3 : ∀ (i : Nat) (s : SV) (m : List D) (a : Addr), i ≠ j → γ2[i]? = some s → (s = .ow m ∨ s = .bo m) → Own X.K c2' a m → Own X.K ⟨fun a => c2'.M a ∨ a = p, c2'.H⟩ a m := fun i s m a hi q hs ⟨m1, ws, m2, m3⟩ =>
          ⟨.inl m1, ws, m2, dens_flat (c := c2') (c' := ⟨fun a => c2'.M a ∨ a = p, c2'.H⟩) (fun _ _ z => z) m ws (flat i s m hi q hs) m3⟩
        have atj : (γ2.set j (.ow l))[j]? = some (.ow l) := List.getElem?_set_self (by rw [c2]; exact hj)
        have nej : ∀ (i : Nat) (s : SV), i ≠ j → (γ2.set j (.ow l))[i]? = some s → γ2[i]? = some s := fun i s hi q => by rw [List.getElem?_set_ne (Ne.symm hi)] at q; exact q
        have kx : Kx γ (γ2.set j (.ow l)) := by
          refine ⟨fun i q => ?_, fun i d' q => ?_⟩
          · by_cases hi : i = j
            · rw [hi]; exact hown
            · obtain ⟨s', e', o'⟩ := ownAt_some q
              obtain ⟨s2, e2, o2⟩ := ownAt_some (k2.own i (by unfold ownAt; rw [nej i s' hi e']; exact o'))
              unfold ownAt; rw [g1 i s2 hi e2]; exact o2
          · by_cases hi : i = j
            · subst hi; rw [atj] at q; cases q
            · exact g1 i _ hi (k2.pu i d' (nej i _ hi q))
        refine hp v ⟨fun a => c2'.M a ∨ a = p, c2'.H⟩ x3 ⟨R.wf0, w3, ⟨fun a z => .inl (R2.ext.m1 a z), fun a z => ?_, R2.ext.h, R2.ext.ht, R2.ext.tb⟩, by rw [List.length_set]; exact R2.len, fun i d' q => ?_, fun i m q => ?_, fun i m q => ?_, fun i i' t t' a hii q q' o1 o2 q3 => ?_, f.kp.stab S _ _ R.sub R.wf x3 R.inv, R.sub⟩ kx (okSee_den c1 (hD.ext R.wf x3) hV2 hd)
        · rcases z with z | z
          · exact R2.ext.m2 a z
          · exact .inr (by rw [z]; exact h2)
        · have hi : i ≠ j := fun z => by subst z; rw [atj] at q; cases q
          obtain ⟨u, h5, h6⟩ := R.pu i d' (kx.pu i d' q)
          exact ⟨u, h5, Den.ext R.wf x3 h6⟩
        · by_cases hi : i = j
          · subst hi
            rw [atj] at q
            cases q
            exact ⟨p, h1, h2, h3, .inr rfl, vs, hV2, Dens.ext R.wf x3 hD⟩
          · have q' := nej i _ hi q
            obtain ⟨a, h5, h6, h7, h8⟩ := R2.ow i m q'
            exact ⟨a, h5, h6, h7, own3 i _ m a hi q' (.inl rfl) h8⟩
        · have hi : i ≠ j := fun z => by subst z; rw [atj] at q; cases q
          have q' := nej i _ hi q
          obtain ⟨h5, h6, h7, h8, h9⟩ := R2.bo i m q'
          exact ⟨h5, h6, h7, h8, own3 i _ m _ hi q' (.inr rfl) h9⟩
        · have was : ∀ {i : Nat} {t : SV}, (γ2.set j (.ow l))[i]? = some t → t.own = true → ∃ t0, γ[i]? = some t0 ∧ t0.own = true := fun {i t} q o => ownAt_some (kx.own i (by unfold ownAt; rw [q]; exact o))
          obtain ⟨t0, f1, f2⟩ := was q o1
          obtain ⟨t1, f3, f4⟩ := was q' o2
          exact R.ne i i' t0 t1 a hii f1 f3 f2 f4 q3
      · rw [if_neg hc] at hp; exact hp.elim
  · exact hp.elim


theorem mp_seeI {X : Cx} {W : WX} {e : Expr} {g : Gm → Rs D} (j : Nat) (h : MP X W e g) : MP X W e (gSeeI j g) := let ⟨t, ht, s⟩ := h; ⟨t, ht, sim_seeI j s⟩
theorem mb_seeI {X : Cx} {W : WX} {e : Expr} {g : Gm → Rs D} (j : Nat) (h : MB X W e g) : MB X W e (gSeeI j g) := let ⟨t, ht, h2, s⟩ := h; ⟨t, ht, h2, sim_seeI j s⟩
end Fv

set_option maxHeartbeats 4000000
/-! ### a list comprehension whose element lets an exception out -/
namespace Fv
variable [LC : LamC]
open PySem PySem.Spec PyProof.Rows L2
/-- behind the block, where the exception's frame is known -/
def postE (M : Model) (A : Around) (E : Value → Shared → Prop) (use : Option (Value → Sem Unit)) (Q : Value → Shared → Prop) (acc : Value) (C : Addr) (fr : Option Addr) (r : Result) (s' : Shared) : Prop :=
  match r with
  | .ok _ => (match use with
    | none => ∃ m, s'.heap.Ns C m ∧ ∀ h', Heap.SameBut C s'.heap h' → Q acc { s' with heap := h' }
    | some u => wpAny M A (u acc) (fun _ s'' => ∃ m, s''.heap.Ns C m ∧ ∀ h', Heap.SameBut C s''.heap h' → Q .none { s'' with heap := h' }) E s')
  | .error x => ∃ m, s'.heap.Ns C m ∧ ∀ h' m', h'.Ns C m' → Heap.SameBut C s'.heap h' → ∀ cenv : Env, cenv.locals = C → cenv.frame = fr → wpAny M A (passOn "comprehension.variables-let-go" x cenv : Sem Value) (fun _ _ => False) E { s' with heap := h' }
/-- a comprehension whose block may let an exception out -/
theorem comp_lets {M : Model} {A : Around} {E : Value → Shared → Prop} {s : Shared} {env : Env} {e : Expr} {scope : Scope} {pos : Pos} {newAcc first : Sem Value} {g : Comprehension} {gs : List Comprehension} {cl : List (Str × Addr)} {use : Option (Value → Sem Unit)} {Q : Value → Shared → Prop}
    (hcl : clausesOf e = g :: gs) (hs : ∀ x, foldedSetIterable g.iter env x = pure x) (hclos : closureFor scope env = pure cl) (hkind : scope.kind = .function) (hnames : ∀ x ∈ scope.names, x.2 = .local → scope.names.lookup x.1 = some .local)
    (h : wpAny M A first (fun x s1 => wpAny M A (pyIter x) (fun it s2 => wpAny M A newAcc (fun acc s3 => wpAny M A (newFunctionEnv scope env.globals cl [] env.qual none .none (some env)) (fun cenv s4 =>
        codeAny M A (.compStart e 0 it acc { cenv with scope := relabel scope env }) (postE M A E use Q acc cenv.locals cenv.frame) s4) E s3) E s2) E s1) E s) :
    wpAny M A (comprehension e scope env pos newAcc false first use) Q E s := by
  have up : ∀ {α : Type} {m : Sem α} {P P' : α → Shared → Prop} {t : Shared}, wpAny M A m P E t → (∀ a t', P a t' → P' a t') → wpAny M A m P' E t := fun x k => wpAny_mono x k fun _ _ z => z
  have lk : ∀ (cenv : Env) (l : List (Str × NameKind)), (∀ x ∈ l, x ∈ (scope.names.filter fun x => (x.2 == .local || x.2 == .cell) && x.1 != (".0" : Str)).reverse) → ∀ x ∈ l, x.2 = .local → Env.kindOf { cenv with scope := relabel scope env } x.1 = some .local :=
    fun cenv l hl x hx he => lookup_relabel_local (hnames x (List.mem_filter.mp (List.mem_reverse.mp (hl x hx))).1 he)
  unfold comprehension
  rw [hclos, hcl]
  refine wpAny_bind (up h fun x s1 h1 => ?_)
  refine wpAny_bind (wpAny_standAt (wpAny_bind (wpAny_of_eq (hs x) ?_)))
  refine wpAny_bind (wpAny_holding (up h1 fun it s2 h2 => ?_))
  refine wpAny_standIf (wpAny_bind (up h2 fun acc s3 h3 => ?_))
  refine wpAny_bind (wpAny_pure (wpAny_bind (up h3 fun cenv s4 h4 => ?_)))
  dsimp only
  refine wpAny_holding (wpAny_bind (wpAny_attempt (wpAny_holding (wpAny_run (codeAny_mono h4 fun r s' hr => ?_)))))
  cases r with
  | ok f =>
    cases use with
    | none =>
      obtain ⟨m, hn, hr⟩ := hr
      exact wpAny_bind (wpAny_holding (wpAny_comp_letGo (cenv := { cenv with scope := relabel scope env }) hkind _ s' m (lk cenv _ fun _ z => z) hn fun h' m' _ hs' => wpAny_pure (hr h' hs')))
    | some u =>
      refine wpAny_bind (wpAny_rule (wpAny_bind (wpAny_holding (up hr fun _ s'' hr' => ?_))))
      obtain ⟨m, hn, hr'⟩ := hr'
      refine wpAny_bind (wpAny_comp_letGo (cenv := { cenv with scope := relabel scope env }) hkind _ s'' m (lk cenv _ fun x hx => ?_) hn fun h' m' _ hs' => wpAny_pure (hr' h' hs'))
      rcases List.mem_append.mp hx with z | z
      · exact List.mem_of_mem_drop z
      · exact List.mem_of_mem_take z
  | error x =>
    obtain ⟨m, hn, hr⟩ := hr
    exact wpAny_bind (wpAny_holding (wpAny_comp_letGo (cenv := { cenv with scope := relabel scope env }) hkind _ s' m (lk cenv _ fun _ z => z) hn fun h' m' hn' hs' => wpAny_mono (hr h' m' hn' hs' _ rfl rfl) (fun _ _ f => f.elim) fun _ _ y => y))
section
variable {X : Cx} {W : WX} {pins : List (Addr × Obj)} {σ : L2.St} {H : Hp} {s s' : Shared} {E : XK} {u : Value}
/-- a callee's exception, seen from here: the state without it, and what flies -/
theorem fly_of_call (I : Inv X pins σ H s) (c : L2.CX X.prog X.w X.stack H s E u s') :
    ∃ (a : Addr) (B : Heap) (sI : Shared) (H' : Hp) (cls : Value) (d : Option Addr), u = .ref a ∧ Inv X pins σ H' sI ∧ (∀ b o, sI.heap.get? b = some o → b ∉ L2.frs X.stack → B.get? b = some o) ∧ sI.heap.UpToSlots s'.heap ∧
      HandSPX.FlyingZ B X.stack a (L2.Zc cls d) s'.heap ∧ H' a = none ∧ s'.os = sI.os ∧ AllBare s'.gens ∧ E cls d H' := by
  obtain ⟨a, B, H', cls, d, rfl, fl, hok, ub, na, os, ag, hE⟩ := c
  obtain ⟨G, g1, g2⟩ := restrict s'.heap fun b => (B.get? b).isSome || decide (b ∈ L2.frs X.stack)
  have st : B.StaysIn s'.heap := fl.1
  have inB : ∀ b o, B.get? b = some o → G.get? b = some o := fun b o e => (g1 b (by simp [e])).trans (st b o e)
  have inF : ∀ b, b ∈ L2.frs X.stack → G.get? b = s'.heap.get? b := fun b hb => g1 b (by simp [hb])
  have out : ∀ b o, G.get? b = some o → s'.heap.get? b = some o ∧ ((∃ o', B.get? b = some o') ∨ b ∈ L2.frs X.stack) := fun b o e => by
    cases q : ((B.get? b).isSome || decide (b ∈ L2.frs X.stack)) with
    | false => rw [g2 b q] at e; cases e
    | true =>
      refine ⟨by rw [← g1 b q]; exact e, ?_⟩
      rcases Bool.or_eq_true _ _ |>.mp q with z | z
      · exact .inl (Option.isSome_iff_exists.mp z)
      · exact .inr (of_decide_eq_true z)
  refine ⟨a, B, { s with heap := G, gens := s'.gens, drawn := s'.drawn, toks := s'.toks }, H', cls, d, rfl, ?_, fun b o e hb => ?_, Heap.UpToSlots.of_keeps fun b o e => (out b o e).1, fl, na, os, ag, hE⟩
  · refine I.call (ch := []) ⟨fun b o e n hb _ => inB b o (ub.keep b o e n hb), fun b o e n hb _ => ?_, fun b o e n _ => ub.free b o e n, fun b o e _ => ?_, ub.tups, ub.frzs, ub.tbls⟩ (hok.kept inB) ag (fun _ z => nomatch z)
    · obtain ⟨sl, q⟩ := ub.slot b o e hb
      exact ⟨sl, (inF b hb).trans q⟩
    · by_cases hb : b ∈ L2.frs X.stack
      · obtain ⟨sl, q⟩ := ub.slot b o e hb
        exact ⟨_, (inF b hb).trans q⟩
      · obtain ⟨o', q⟩ := ub.there b o e hb
        exact ⟨o', inB b o' q⟩
  · obtain ⟨e', h⟩ := out b o e
    rcases h with ⟨o', q⟩ | h
    · rw [st b o' q] at e'
      cases e'
      exact q
    · exact (hb h).elim
theorem frames_same {h h' B B' : Heap} : ∀ {l : List Env}, (∀ b, B.get? b = none → B'.get? b = none ∧ h'.get? b = h.get? b) → h.FunFrames B l → h'.FunFrames B' l
  | [], _, _ => trivial
  | env :: l, k, ⟨hk, ⟨L, o, hf, hn, ho, hd⟩, hr⟩ => ⟨hk, ⟨L, o, hf, (k L hn).1, by rw [(k L hn).2]; exact ho, hd⟩, frames_same k hr⟩
theorem note_same {e : Addr} {env env' : Env} (h : env'.frame = env.frame) : noteFrame (.ref e) env' = noteFrame (.ref e) env := by
  unfold noteFrame PySem.frameOf
  rw [h]
/-- the exception leaves the block -/
theorem err_out {D : Value} {use : Option (Value → Sem Unit)} {Qf : Value → Shared → Prop} {σ8 : L2.St} {Hc : Hp} {sc s3 : Shared} {H3 : Hp} {scope : Scope} {ce : Env} {fp : List Addr} {pn pins8 : List (Addr × Obj)} {xe : Value → Shared → Prop}
    (hs : X.stack = X.env :: X.outer) (hf : X.env.frame = some X.env.locals) (tk : L2.Takes X W) (hW : ∀ c d σ σ' H, W c d σ' H → W c d σ H) (I3 : Inv X pins σ H3 s3)
    (hfp : ∀ b ∈ fp, (b ∈ X.ex ∨ X.s_0.heap.objs.size ≤ b) ∧ b ≠ X.env.locals ∧ (∀ x c, X.env.cells.lookup x = some c → c ≠ b) ∧ ∀ p ∈ X.pn ++ pins, p.1 ≠ b)
    (cL : ce.locals = s3.heap.objs.size) (cF : ce.frame = X.env.frame) (IY : Inv ((X.blk s3 H3 scope ce fp).tr pn xe) pins8 σ8 Hc sc) (c : L2.CX X.prog X.w X.stack Hc sc (L2.WE W σ8) u s') :
    notedBy (model X.prog X.w) X.A ce (fun e s' => postE (model X.prog X.w) X.A X.xe use Qf D s3.heap.objs.size X.env.frame (.error e) s') u s' := by
  obtain ⟨a, B, sI, H', cls, d, rfl, J, nb, up, fl, na, os, ag, w⟩ := fly_of_call IY c
  have J0 : Inv X pins σ H' sI := I3.call' (ch := fp) J.os J.base J.hok J.bare hfp
  have nC : H' s3.heap.objs.size = none := by
    have z : H' ce.locals = none := J.free
    rw [cL] at z; exact z
  have k0 := I3.fpOk (Nat.le_refl _) nC
  obtain ⟨f0, f1, f2, f3, f4, f5⟩ := k0
  have cS : s3.heap.objs.size ∉ L2.frs X.stack := fun hm => by
    rcases List.mem_cons.mp (I3.stkSub _ hm) with z | z
    · exact f1 z
    · exact f2 z
  show wpAny (model X.prog X.w) X.A (noteFrame (.ref a) ce) _ _ _
  rw [note_same cF]
  have fl' : HandSPX.FlyingZ B (X.env :: X.outer) a (L2.Zc cls d) s'.heap := by rw [← hs]; exact fl
  refine HandSPX.looks_onZ L2.Zc.steady (by rw [I3.ok.frames, hs]) hf fl' fun h1 hh up1 => ?_
  obtain ⟨m, hnC, _⟩ := J.loc
  have hnC : sI.heap.Ns s3.heap.objs.size m := by rw [← cL]; exact hnC
  refine ⟨m, Heap.UpToSlots.ns (up.trans up1) hnC, fun h' m' hns' sb cenv hcl hcf => ?_⟩
  obtain ⟨oC, es, ep, eC, dC, _⟩ := hns'
  obtain ⟨oI, _, _, eI, _⟩ := hnC
  have eB : B.get? s3.heap.objs.size = some oI := nb _ _ eI cS
  have nFr : oC.isFreed = false := Obj.isFreed_of_dict dC
  generalize hCd : s3.heap.objs.size = C at *
  have sbI : Heap.SameBut C sI.heap (sI.heap.update C fun _ => oC) := Heap.SameBut.update ..
  have sbB : Heap.SameBut C B (B.update C fun _ => oC) := Heap.SameBut.update ..
  have gI : (sI.heap.update C fun _ => oC).get? C = some oC := Heap.get?_update_self _ eI nFr
  have gB : (B.update C fun _ => oC).get? C = some oC := Heap.get?_update_self _ eB nFr
  have J2 : Inv X pins σ H' { sI with heap := sI.heap.update C fun _ => oC } := J0.turned (t' := sI.toks) (fun b o hb e => (sbI.2 b hb).trans e) f0 f1 f3 f4 f5
  have nc : ∀ b, B.get? b = none → b ≠ C := fun b e z => by rw [z, eB] at e; cases e
  have kk : ∀ b, B.get? b = none → (B.update C fun _ => oC).get? b = none ∧ h'.get? b = h1.get? b := fun b e => ⟨(sbB.2 b (nc b e)).trans e, sb.2 b (nc b e)⟩
  obtain ⟨h1s, h1n, h1f, oe, vs, T, oT, ts, he, hz, hd, hv1, hnT, hTe, hT, hdT, ht3⟩ := hh
  have hh' : HandSPX.HeldZ (B.update C fun _ => oC) (X.env :: X.outer) a (L2.Zc cls d) X.env.locals h' :=
    ⟨fun b o e => by
      by_cases hb : b = C
      · rw [hb, gB] at e
        rw [hb, eC]; exact e
      · rw [sbB.2 b hb] at e
        exact (sb.2 b hb).trans (h1s b o e), (kk a h1n).1, frames_same kk h1f, oe, vs, T, oT, ts, (kk a h1n).2.trans he, hz, hd, hv1, (kk T hnT).1, hTe, (kk T hnT).2.trans hT, hdT, ht3⟩
  have fin : wpAny (model X.prog X.w) X.A (setFlight (.ref a) cenv.frame) (fun _ s4 => wpAny (model X.prog X.w) X.A (throw (.ref a) : Sem Value) (fun _ _ => False) X.xe s4) X.xe { s' with heap := h' } := by
    rw [hcf, hf]
    refine HandSPX.setFlight_onZ hh' fun h4 hh4 up4 => wpAny_throw (tk _ _ ?_)
    refine ⟨a, B.update C fun _ => oC, { sI with heap := sI.heap.update C fun _ => oC }, pins, σ, H', cls, d, rfl, J2, fun b o e hb => ?_, ?_, .inr (.inr (by rw [hs]; exact hh4)), na, os, ag, hW _ _ _ _ _ w⟩
    · by_cases hbC : b = C
      · have e : (sI.heap.update C fun _ => oC).get? b = some o := e
        rw [hbC, gI] at e
        rw [hbC, gB]; exact e
      · have e : (sI.heap.update C fun _ => oC).get? b = some o := e
        rw [sbI.2 b hbC] at e
        exact (sbB.2 b hbC).trans (nb b o e hb)
    · refine Heap.UpToSlots.trans (h₂ := h') (fun b o e hnf => ?_) up4
      by_cases hbC : b = C
      · have e : (sI.heap.update C fun _ => oC).get? b = some o := e
        rw [hbC, gI] at e
        cases e
        exact ⟨oC.slots, by rw [hbC]; exact eC⟩
      · have e : (sI.heap.update C fun _ => oC).get? b = some o := e
        rw [sbI.2 b hbC] at e
        obtain ⟨sl, q⟩ := (up.trans up1) b o e hnf
        exact ⟨sl, (sb.2 b hbC).trans q⟩
  unfold PySem.passOn
  refine wpAny_bind (wpAny_field ((kk a h1n).2.trans he) hd hv1 ?_)
  rw [if_neg (show ¬ ((Value.ref T == Value.none) = true) from by simp)]
  first
    | exact wpAny_bind (wpAny_pure (wpAny_bind fin))
    | exact wpAny_bind fin
end
end Fv

set_option maxHeartbeats 4000000
/-! ### .. the block itself -/
namespace Fv
variable [LC : LamC]
open PySem PySem.Spec PyProof.Rows L2
/-- the element's parts, where exceptions pass -/
abbrev BlkE (X : Cx) (W : WX) (scope : Scope) (J : Cx → Prop) : Prop := ∀ (s : Shared) (H : Hp) (C : Addr) (cl : List (Str × Addr)) (fp : List Addr) (pn : List (Addr × Obj)) (xe : Value → Shared → Prop),
  (∀ σ, PassesAt (L2.CX X.prog X.w) ((X.blk s H scope (compEnvC scope cl C X.env) fp).tr pn xe) σ (WE W σ)) → J ((X.blk s H scope (compEnvC scope cl C X.env) fp).tr pn xe)
section
variable {X : Cx} {W : WX}
theorem lc_lets {pins : List (Addr × Obj)} {s : Shared} {σ : L2.St} {H : Hp} {Q : VK} {elt tg iter : Expr} {ifs : List Expr} {scope : Scope} {own : List (Str × Nat)} {pos pos' : Pos} {wi : TI} {g : TG} {tt : TT} {te : TE} {use : Option (Value → Sem Unit)} {Qf : Value → Shared → Prop}
    (hs : X.stack = X.env :: X.outer) (hf : X.env.frame = some X.env.locals) (tk : L2.Takes X W) (hW : ∀ c d σ σ' H, W c d σ' H → W c d σ H)
    (hc : X.calm = true) (hN : X.N.Nodup) (I : Inv X pins σ H s) (hi : PI X tg iter wi) (ok : BlkOk X.N X.env.scope scope own)
    (hg : Blk X scope fun Y => PG Y tg g) (ht : Blk X scope fun Y => PTs Y ifs tt) (he : BlkE X W scope fun Y => PE Y elt te) (hfs : ∀ x, foldedSetIterable iter X.env x = pure x)
    (h : tLc wi g tt te (own.map (·.2)) σ H Q)
    (hRR : ∀ D C fr s' m H', Inv X pins σ H' s' → Q (.ref D) H' → s'.heap.Ns C m → FpOk X pins H' C → postE (model X.prog X.w) X.A X.xe use Qf (.ref D) C fr (.ok .next) s') :
    wpAny (model X.prog X.w) X.A (comprehension (.ListComp elt [⟨tg, iter, ifs, 0⟩] scope pos) scope X.env pos' (newList []) false (eval iter X.env) use) Qf X.xe s := by
  have cells : ∀ y ∈ scope.names, y.2 = .free → ∃ c, X.env.cells.lookup y.1 = some c := fun y hy e => (ok.free y hy e).elim (fun k => I.ok.has _ (.inl k)) fun k => I.ok.has _ (.inr k)
  refine comp_lets (use := use) rfl hfs (closure_ok cells) ok.kind (fun y hy e => (ok.uniq y hy).trans (congrArg some e)) (thn (hi.run pins s σ H _ I h) fun xv s1 hx => thn hx fun itv s2 h2 => ?_)
  obtain ⟨it, fp, tn, J, H2, e, I2, T, st2, f2, q⟩ := h2
  subst e
  refine wpAny_newObj_type (newEnv_comp ?_) (by show 0 ≤ sizeLine; decide)
  generalize hD : s2.heap.objs.size = D
  obtain ⟨Ws, ⟨m0, w0⟩, turn⟩ := q D (I2.hok.fresh (Nat.le_of_eq hD))
  -- with the new list
  generalize hs3 : ({ s2 with heap := s2.heap.push { cls := .type "list", data := .seq ([] : List Value).toArray } } : Shared) = s3
  have h3 : s3.heap = s2.heap.push { cls := .type "list", data := .seq ([] : List Value).toArray } := by rw [← hs3]
  have I3 : Inv X pins σ (upd H2 D (.lst [])) s3 := by
    rw [← hs3]
    refine I2.laid (t' := s2.toks) (fun b o e => Heap.get?_push_of_some _ e) (Nat.le_of_eq hD) ⟨Nat.zero_le _, [], 0, .nil, ?_⟩
    rw [← hD]
    exact Heap.get?_push_size _ rfl
  have below : ∀ b ∈ fp, b < s2.heap.objs.size := fun b hb => let ⟨_, e, _⟩ := T.obj _ _ st2 b hb; Heap.lt_size e
  have f3 : ∀ b ∈ fp, FpOk X pins (upd H2 D (.lst [])) b ∧ b < s3.heap.objs.size := fun b hb => by
    have hlt := below b hb
    refine ⟨⟨?_, (f2 b hb).2⟩, by rw [h3, Heap.size_push]; exact Nat.lt_succ_of_lt hlt⟩
    rw [upd_ne (by rw [← hD]; exact Nat.ne_of_lt hlt)]
    exact (f2 b hb).1
  have st3 : tn 0 s3.heap := T.keep _ _ _ st2 fun b _ o e => by rw [h3]; exact Heap.get?_push_of_some _ e
  have I4 := block_start I3 ok hN f3
  have pg := hg s3 (upd H2 D (.lst [])) s3.heap.objs.size (cellsFrom (s3.heap.objs.size + 1) scope.names (cloFrom X.env.cells scope.names [])) fp
  have pt := ht s3 (upd H2 D (.lst [])) s3.heap.objs.size (cellsFrom (s3.heap.objs.size + 1) scope.names (cloFrom X.env.cells scope.names [])) fp
  have pe := he s3 (upd H2 D (.lst [])) s3.heap.objs.size (cellsFrom (s3.heap.objs.size + 1) scope.names (cloFrom X.env.cells scope.names [])) fp
  show codeAny _ _ (.compStart (.ListComp elt [⟨tg, iter, ifs, 0⟩] scope pos) 0 (.ref it) (.ref D) (compEnvC scope (cellsFrom (s3.heap.objs.size + 1) scope.names (cloFrom X.env.cells scope.names [])) s3.heap.objs.size X.env)) (postE (model X.prog X.w) X.A X.xe use Qf (.ref D) s3.heap.objs.size X.env.frame) { s3 with heap := pushCells (s3.heap.push { cls := .type "dict", data := .dict #[] }) scope.names }
  have nfp : ∀ b ∈ fp, (upd H2 D (.lst [])) b = none := fun b hb => (f3 b hb).1.1
  generalize hce : compEnvC scope (cellsFrom (s3.heap.objs.size + 1) scope.names (cloFrom X.env.cells scope.names [])) s3.heap.objs.size X.env = ce at I4 pg pt pe ⊢
  have cL : ce.locals = s3.heap.objs.size := by subst hce; rfl
  have cF : ce.frame = X.env.frame := by subst hce; rfl
  generalize hH3 : upd H2 D (.lst []) = H3 at I3 I4 pg pt pe w0 nfp f3
  generalize hs4 : ({ s3 with heap := pushCells (s3.heap.push { cls := .type "dict", data := .dict #[] }) scope.names } : Shared) = s4 at I4 ⊢
  have st4 : tn 0 s4.heap := T.keep _ _ _ st3 fun b _ o e => by rw [← hs4]; exact pushCells_keeps _ _ _ _ (Heap.get?_push_of_some _ e)
  have chs : ∀ b ∈ fp, (b ∈ X.ex ∨ X.s_0.heap.objs.size ≤ b) ∧ b ≠ X.env.locals ∧ (∀ x c, X.env.cells.lookup x = some c → c ≠ b) ∧ ∀ p ∈ X.pn ++ pins, p.1 ≠ b := fun b hb => ⟨(f3 b hb).1.2.2.2.1, (f3 b hb).1.2.1, (f3 b hb).1.2.2.2.2.1, (f3 b hb).1.2.2.2.2.2⟩
  have stat : ∀ {σ' : L2.St} {H' : Hp} {s' : Shared}, Inv (X.blk s3 H3 scope ce fp) [] σ' H' s' → (∀ b ∈ fp, H' b = none) → ∀ b ∈ fp, FpOk (X.blk s3 H3 scope ce fp) [] H' b := fun {σ' H' s'} I' hn b hb =>
    ⟨hn b hb, (I'.ok.exf b hb).1, I'.ok.exfs b hb, .inl hb, fun x c e => (I'.ok.exf b hb).2 x c e, fun p hp => absurd (show p ∈ ([] : List (Addr × Obj)) ++ [] from hp) (by simp)⟩
  have loop : codeAny (model X.prog X.w) X.A (.compLoop (.ListComp elt [⟨tg, iter, ifs, 0⟩] scope pos) 0 (.ref it) (.ref D) ce) (postE (model X.prog X.w) X.A X.xe use Qf (.ref D) s3.heap.objs.size X.env.frame) s4 := by
    refine compLoop_any (fun n s' => ∃ i H', Inv (X.blk s3 H3 scope ce fp) [] (wipe σ (own.map (·.2))) H' s' ∧ tn i s'.heap ∧ (∀ b ∈ fp, H' b = none) ∧ Ws i n H') ?_ m0 ⟨0, H3, I4, st4, nfp, w0⟩
    rintro n s5 ⟨i, H5, I5, st5, n5, w5⟩
    rcases turn i n H5 w5 with ⟨stop, qq⟩ | ⟨go, Nx, hNx, step⟩
    · refine thnF (T.done (X.blk s3 H3 scope ce fp) rfl rfl rfl hc i [] s5 _ H5 (fun _ _ => False) I5 (stat I5 n5) st5 stop) fun r s6 ⟨hr, I6⟩ => ?_
      subst hr
      have nC : H5 s3.heap.objs.size = none := by
        have z : H5 ce.locals = none := I6.free
        rw [cL] at z
        exact z
      obtain ⟨m, hn, _⟩ := I6.loc
      have hn : s6.heap.Ns s3.heap.objs.size m := by rw [← cL]; exact hn
      exact hRR D s3.heap.objs.size _ s6 m H5 (I3.call' (ch := fp) I6.os I6.base I6.hok I6.bare chs) qq hn (I3.fpOk (Nat.le_refl _) nC)
    · refine thnF (T.item (X.blk s3 H3 scope ce fp) rfl rfl rfl hc i [] s5 _ H5 (fun _ _ => False) I5 (stat I5 n5) st5 go) fun r s6 ⟨u, hr, h6⟩ => ?_
      subst hr
      refine thnF h6 fun _ s7 ⟨x, H7, I7, r7, y7, st7, n7⟩ => ?_
      have I7' := I7.pinned (stat I7 n7) (T.obj _ _ st7)
      refine thnF (pg.run _ s7 _ H7 x u _ I7' r7 (step x H7 y7)) fun _ s8 ⟨σ8, H8, I8, hw8, q8⟩ => ?_
      refine thnF (pt.run _ s8 σ8 H8 _ I8 q8) fun b s9 ⟨H9, I9, q9⟩ => ?_
      have fin : ∀ {s' : Shared} {H' : Hp}, Inv (X.blk s3 H3 scope ce fp) ([] ++ pinsAt fp s7.heap) σ8 H' s' → Nx H' → ∃ m, m < n ∧ ∃ i H', Inv (X.blk s3 H3 scope ce fp) [] (wipe σ (own.map (·.2))) H' s' ∧ tn i s'.heap ∧ (∀ b ∈ fp, H' b = none) ∧ Ws i m H' := fun {s' H'} I' nx => by
        obtain ⟨m', hm, w'⟩ := hNx H' nx
        have pin' : ∀ b ∈ fp, ∀ o, s7.heap.get? b = some o → s'.heap.get? b = some o ∧ H' b = none := fun b hb o e =>
          let z := I'.pin (b, o) (List.mem_append_right _ (List.mem_append_right _ (mem_pinsAt hb e)))
          ⟨z.1, z.2.1⟩
        refine ⟨m', hm, i + 1, H', (I'.unpinned (pins := [])).weak (by rw [← hw8, wipe_length]) (fun j v e => ?_), T.keep _ _ _ st7 fun b hb o e => (pin' b hb o e).1, fun b hb => ?_, w'⟩
        · rw [← hw8] at e
          exact (wipe_some e).1
        · obtain ⟨o, e, _⟩ := T.obj _ _ st7 b hb
          exact (pin' b hb o e).2
      cases b with
      | false =>
        simp only [Bool.false_eq_true, if_false] at q9 ⊢
        exact fin I9 q9
      | true =>
        simp only [if_true] at q9 ⊢
        -- the element, under a wish about its exceptions
        refine wpAny_mono ((pe _ (notedBy (model X.prog X.w) X.A ce fun e s' => postE (model X.prog X.w) X.A X.xe use Qf (.ref D) s3.heap.objs.size X.env.frame (.error e) s') fun σ' pins' H' sc e s' IY c => ?_).run [] s9 σ8 H9 _ (I9.toTry _) q9) (fun z s10 hz => ?_) fun _ _ z => z
        · exact err_out hs hf tk hW I3 chs cL cF IY c
        · obtain ⟨yv, H10, I10, r10, acc, hD10, hz10, nx⟩ := hz
          exact app_ok (X := X.blk s3 H3 scope ce fp) (I10.ofTry I9.ok) hD10 hz10 r10 fun s11 I11 => fin I11 nx
  exact codeAny_compStart_list loop (T.self X.A 0 _ _ _ st4 loop)
/-- name = [..], the name a local -/
theorem ps_setLcE {i : Nat} {y : Str} {py : Pos} {elt tg iter : Expr} {ifs : List Expr} {scope : Scope} {own : List (Str × Nat)} {pos spos : Pos} {wi : TI} {g : TG} {tt : TT} {te : TE}
    (hs : X.stack = X.env :: X.outer) (hf : X.env.frame = some X.env.locals) (tk : L2.Takes X W) (hW : ∀ c d σ σ' H, W c d σ' H → W c d σ H)
    (hc : X.calm = true) (hN : X.N.Nodup) (hy : X.N[i]? = some y) (hyl : X.env.scope.names.lookup y = some .local)
    (hsw : swapsWith (.ListComp elt [⟨tg, iter, ifs, 0⟩] scope pos) (some (.Name y py)) spos.line X.env = pure true) (hi : PI X tg iter wi) (ok : BlkOk X.N X.env.scope scope own)
    (hg : Blk X scope fun Y => PG Y tg g) (ht : Blk X scope fun Y => PTs Y ifs tt) (he : BlkE X W scope fun Y => PE Y elt te) (hfs : ∀ x, foldedSetIterable iter X.env x = pure x) :
    PS X (.Assign [.Name y py] (.ListComp elt [⟨tg, iter, ifs, 0⟩] scope pos) spos) (tAsg (tLc wi g tt te (own.map (·.2))) (gName i)) := by
  refine ⟨fun pins s σ H D I h => ?_⟩
  rw [exec_Assign_Name_used _ _ _ _ hsw]
  refine wpAny_bind (wpAny_standAt (wpAny_bind ?_))
  show wpAny _ X.A (do let _ ← comprehension (.ListComp elt [⟨tg, iter, ifs, 0⟩] scope pos) scope X.env (firstIterPos [⟨tg, iter, ifs, 0⟩] pos) (newList []) false (eval iter X.env) (some (assign (.Name y py) X.env))) _ _ s
  have h : tLc wi g tt te (own.map (·.2)) σ H (fun x H1 => gName i x σ H1 D.nx) := h
  refine wpAny_bind (thn (lc_lets (Qf := fun _ s' => SP X pins D .next s') hs hf tk hW hc hN I hi ok hg ht he hfs h fun L C fr s' m H' I' q hn f => ?_) fun _ s' hq => wpAny_pure (wpAny_pure hq))
  show wpAny _ _ (assign (.Name y py) X.env (.ref L)) _ _ _
  obtain ⟨f0, f1, f2, f3, f4, f5⟩ := f
  refine wpAny_assign_Name (store_ok2 (v := V.ref L) I' hN hy (.inl hyl) rfl (fun s2 I2 ⟨a, sb, ha⟩ => ?_) (.inr hyl))
  have away : C ≠ a := ha.elim (fun z => by rw [z]; exact f1) fun z => fun e => f4 y a z e.symm
  refine ⟨m, hn.sameBut sb away, fun h3 sb3 => ?_⟩
  exact ⟨_, H', I2.turned (t' := s2.toks) (fun b o hb e => (sb3.2 b hb).trans e) f0 f1 f3 f4 f5, q⟩
end
end Fv

set_option maxHeartbeats 4000000
/-! ### .. and what it answers -/
namespace Fv
variable [LC : LamC]
open PySem L2
def gLcE (gs : Gm → Rs (List D)) (k : Kt) (ge : Gm → Rs D) (vs : List Nat) : Gm → Rs (List D) := fun γ => (gs γ).bind fun l γ1 =>
  if l.length ≤ sizeLine ∧ vs.all (fun i => !ownAt γ1 i) = true then match lcL k gYes ge vs l (wipeG γ1 vs) with
    | .ok ys γ2 => .ok ys (restG γ1 γ2 vs)
    | .ex n fs γ2 => .ex n fs (restG γ1 (wipeG γ2 vs) vs)
    | .no => .no
  else .no
def comb (ys : List D) : Rs (List D) → Rs (List D)
  | .ok zs g => .ok (ys ++ zs) g
  | r => r
theorem comb_step {ys : List D} {y : D} {r : Rs (List D)} : comb ys (r.bind fun zs g => .ok (y :: zs) g) = comb (ys ++ [y]) r := by
  cases r with
  | ok zs g => show Rs.ok (ys ++ y :: zs) g = Rs.ok (ys ++ [y] ++ zs) g; rw [List.append_assoc]; rfl
  | ex n fs g => rfl
  | no => rfl
theorem sim_lcE {tb : Bool} {X : Cx} {W : WX} {wi : TI} {g : TG} {tt : TT} {te : TE} {gs : Gm → Rs (List D)} {k : Kt} {ge : Gm → Rs D} {ts vs : List Nat} (hW : ∀ c d σ σ' H, W c d σ' H → W c d σ H)
    (si : Sim X W (vI tb X.K) wi gs) (tg : TgOk tb X.K ts g k) (hts : ∀ j ∈ ts, j ∈ vs) (st : Sim X Wn vT tt gYes) (se : Sim X W (vP X.K) te ge) : Sim X W (vF X.K) (tLc wi g tt te vs) (gLcE gs k ge vs) := by
  intro f S c σ γ Q R hp
  refine si.bind stab_vF R hp fun l γ1 J c1 _ x1 R1 k1 q1 h1 => fun p n => ?_
  by_cases hno : l.length ≤ sizeLine ∧ vs.all (fun i => !ownAt γ1 i) = true
  · rw [if_pos hno] at h1
    obtain ⟨hz, hno⟩ := hno
    generalize eT : lcL k gYes ge vs l (wipeG γ1 vs) = RES at h1
    have h0 : f.c0.H p = none := R1.ext.noneS R1.wf n
    have RD : Rel X.K f (fun a => S a ∧ a ≠ p) (c1.add p []) (wipe σ vs) (wipeG γ1 vs) := by
      refine ((R1.wipe vs).step (Ext.add n) (R1.wf.add n)).lessS (fun i s a e o ea hs => ⟨hs, fun z => ?_⟩) fun a z => R1.sub a z.1
      obtain ⟨a', l', z1, _, ⟨_, vs', z2, _⟩, _⟩ := (R1.wipe vs).ownA e o
      rw [ea] at z1
      cases z1
      rw [z, n] at z2; cases z2
    have pD : PExt X.K c1 (c1.add p []) := (Ext.add (vs := []) n).p R1.wf
    have exit : ∀ (c2 : Cf) (γ2 : Gm), Ext (fun a => S a ∨ a = p) (c1.add p []) c2 → PExt X.K c1 c2 → Rel X.K f (fun a => S a ∧ a ≠ p) c2 (wipe σ vs) γ2 → Kw vs γ1 γ2 → Ext S c1 c2 ∧ Rel X.K f S c2 σ (restG γ1 γ2 vs) ∧ Kx γ1 (restG γ1 γ2 vs) := fun c2 γ2 xD p2 R2 kd2 => by
      refine ⟨?_, R1.rest hno p2 R2 fun a z => z.1, ⟨fun j hj => ?_, fun j d e => ?_⟩⟩
      · refine ⟨fun a z => xD.m1 a (.inl z), fun a z => ?_, fun a o e ne nt => ?_, fun a ps e => xD.ht a ps (by show upd c1.H p _ a = _; rw [upd_ne (ne_of_none e n)]; exact e), fun P q z => xD.tb P q ((Ext.add (vs := []) n : Ext Nop c1 _).tb P q z)⟩
        · rcases xD.m2 a z with (q | q) | q
          · exact .inl q
          · rw [q]; exact .inr n
          · exact .inr ((Ext.add (vs := []) n : Ext Nop c1 _).noneS (R1.wf.add n) q)
        · have ap : a ≠ p := ne_of_none e n
          refine xD.h a o (by show upd c1.H p _ a = some o; rw [upd_ne ap]; exact e) (fun z => ?_) nt
          rcases z.2 with z2 | z2
          · rcases z.1 with z1 | z1
            · exact ne ⟨z1, z2⟩
            · exact ap z1
          · exact ap z2
      · obtain ⟨s, e, o⟩ := ownAt_some hj
        by_cases hv : j ∈ vs
        · have hz : j < γ2.length := by
            have := (List.getElem?_eq_some_iff.mp e).1
            rw [restG_len] at this; exact this
          rw [restG_in hz hv] at e
          have hl : j < γ1.length := by rw [← R1.len, ← wipe_length σ vs, R2.len]; exact hz
          have h2 : γ1.getD j .un = γ1[j] := by rw [List.getD_eq_getElem?_getD, List.getElem?_eq_getElem hl]; rfl
          rw [h2] at e
          unfold ownAt
          rw [List.getElem?_eq_getElem hl, Option.some.inj e]; exact o
        · rw [restG_ne hv] at e
          exact kd2.own j (by unfold ownAt; rw [e]; exact o)
      · by_cases hv : j ∈ vs
        · have hz : j < γ2.length := by
            have := (List.getElem?_eq_some_iff.mp e).1
            rw [restG_len] at this; exact this
          rw [restG_in hz hv] at e
          have hl : j < γ1.length := by rw [← R1.len, ← wipe_length σ vs, R2.len]; exact hz
          have h2 : γ1.getD j .un = γ1[j] := by rw [List.getD_eq_getElem?_getD, List.getElem?_eq_getElem hl]; rfl
          rw [h2] at e
          rw [List.getElem?_eq_getElem hl]; exact e
        · rw [restG_ne hv] at e
          exact kd2.pu j d hv e
    refine ⟨fun i m H => ∃ c2 γ2 acc ys, c2.H = H ∧ m + i = l.length ∧ Ext (fun a => S a ∨ a = p) (c1.add p []) c2 ∧ PExt X.K c1 c2 ∧ Rel X.K f (fun a => S a ∧ a ≠ p) c2 (wipe σ vs) γ2 ∧ Kw vs γ1 γ2 ∧ c2.M p ∧ c2.H p = some (.lst acc) ∧ acc.length ≤ i ∧ Dens X.K c2 ys acc ∧
        comb ys (lcL k gYes ge vs (l.drop i) γ2) = RES, ⟨l.length, c1.add p [], wipeG γ1 vs, [], [], rfl, rfl, .refl, pD, RD, .wipe, .inr rfl, upd_same, Nat.le_refl _, Dens.nil, by rw [List.drop_zero, eT]; cases RES <;> rfl⟩, ?_⟩
    rintro i m H ⟨c2, γ2, acc, ys, rfl, em, xD, p2, R2, kd2, hM, hA, hAi, hD, eL⟩
    obtain ⟨it, stop⟩ := q1 c2 R2.wf p2
    cases ed : l[i]? with
    | none =>
      have hi : l.length ≤ i := List.getElem?_eq_none_iff.mp ed
      have ei : i = l.length := by omega
      rw [List.drop_eq_nil_of_le hi] at eL
      have eR : RES = .ok ys γ2 := by
        rw [← eL]
        show Rs.ok (ys ++ []) γ2 = _
        rw [List.append_nil]
      rw [eR] at h1
      obtain ⟨y1, y2, y3⟩ := exit c2 γ2 xD p2 R2 kd2
      rw [ei]
      exact .inl ⟨stop, h1 (.ref p) c2 y1 y2 y3 ⟨p, rfl, n, hM, acc, hA, hD⟩⟩
    | some d =>
      obtain ⟨hil, ed'⟩ := List.getElem?_eq_some_iff.mp ed
      have edrop : l.drop i = d :: l.drop (i + 1) := by rw [← ed']; exact List.drop_eq_getElem_cons hil
      rw [edrop] at eL
      unfold lcL at eL
      obtain ⟨go, yl⟩ := it i d ed
      refine .inr ⟨go, fun H' => ∃ c2 γ2 acc ys, c2.H = H' ∧ Ext (fun a => S a ∨ a = p) (c1.add p []) c2 ∧ PExt X.K c1 c2 ∧ Rel X.K f (fun a => S a ∧ a ≠ p) c2 (wipe σ vs) γ2 ∧ Kw vs γ1 γ2 ∧ c2.M p ∧ c2.H p = some (.lst acc) ∧ acc.length ≤ i + 1 ∧ Dens X.K c2 ys acc ∧
        comb ys (lcL k gYes ge vs (l.drop (i + 1)) γ2) = RES, fun H' ⟨c2, γ2, acc, ys, a1, a2, a3, a4, a5, a6, a7, a8, a9, b1⟩ => ⟨m - 1, by omega, c2, γ2, acc, ys, a1, by omega, a2, a3, a4, a5, a6, a7, a8, a9, b1⟩, fun x H' hy => ?_⟩
      obtain ⟨c3, rfl, x3, w3, hd⟩ := yl x H' hy
      have R3 := R2.step x3 w3
      cases ek : k d γ2 with
      | none =>
        rw [ek] at eL
        have eR : RES = .no := eL.symm
        rw [eR] at h1; exact h1.elim
      | some γ3 =>
        rw [ek] at eL
        simp only at eL
        refine tg.run f _ c3 (wipe σ vs) γ2 γ3 d x _ R3 hd ek fun σ4 R4 k4 l4 n4 => ?_
        have ew : wipe σ4 vs = wipe σ vs := by
          rw [wipe_same (σ := wipe σ vs) l4 fun j hj => n4 j fun z => hj (hts j z), wipe_wipe]
        refine ⟨ew, ?_⟩
        have k4w : Kw vs γ2 γ3 := ⟨k4, fun i d' hi z => by
          rw [tg.keep d γ2 γ3 ek i fun zz => hi (hts i zz)] at z; exact z⟩
        have eL' : comb ys ((ge γ3).bind fun y γ6 => (lcL k gYes ge vs (l.drop (i + 1)) (wipeG γ6 vs)).bind fun zs γ4 => .ok (y :: zs) γ4) = RES := eL
        refine st f _ c3 σ4 γ3 _ R4 ?_
        intro v c5 x5 R5 k5 (ev : true = v)
        subst ev
        rw [if_pos rfl]
        refine se f _ c5 σ4 γ3 _ R5 ?_
        cases e6 : ge γ3 with
        | no =>
          rw [e6] at eL'
          have eR : RES = .no := eL'.symm
          rw [eR] at h1; exact h1.elim
        | ex nm fs γ6 =>
          rw [e6] at eL'
          have eR : RES = .ex nm fs γ6 := eL'.symm
          rw [eR] at h1
          intro C dd c6 hm x6 R6 k6 hx
          have x26 : Ext (fun a => S a ∧ a ≠ p) c2 c6 := ((x3.nop (S := fun a => S a ∧ a ≠ p)).trans w3 x5).trans R5.wf x6
          have R8 := R6.wipe vs
          rw [ew] at R8
          obtain ⟨y1, y2, y3⟩ := exit c6 (wipeG γ6 vs) (xD.trans R2.wf (x26.mono fun a _ z => .inl z.1)) (p2.trans (x26.p R2.wf)) R8 (((kd2.trans k4w).trans k6.w).trans .wipe)
          exact hW _ _ _ _ _ (h1 C dd c6 hm y1 y2 y3 hx)
        | ok y γ6 =>
          rw [e6] at eL'
          rw [Rs.bind_ok, comb_step] at eL'
          intro v c6 x6 R6 k6 hv
          have x26 : Ext (fun a => S a ∧ a ≠ p) c2 c6 := ((x3.nop (S := fun a => S a ∧ a ≠ p)).trans w3 x5).trans R5.wf x6
          have hA6 : c6.H p = some (.lst acc) := x26.h p _ hA (fun z => z.2.2 rfl) (fun _ z => by cases z)
          have hM6 : c6.M p := x26.m1 p hM
          have hv' : Den X.K c6 y v := hv
          obtain ⟨x7, R7⟩ := Rel.touch (vs := acc ++ [v]) R6 (fun z => z.2 rfl) h0 (R1.notX n) hM6
          have hD6 : Dens X.K c6 ys acc := Dens.ext R2.wf x26 hD
          refine ⟨acc, hA6, by omega, ⟨c6.M, upd c6.H p (.lst (acc ++ [v]))⟩, wipeG γ6 vs, acc ++ [v], ys ++ [y], rfl, ?_, (p2.trans (x26.p R2.wf)).trans (x7.p R6.wf), ?_, ((kd2.trans k4w).trans k6.w).trans .wipe, hM6, upd_same, by rw [List.length_append]; exact Nat.succ_le_succ hAi, Dens.app (Dens.ext R6.wf x7 hD6) (Dens.cons (Den.ext R6.wf x7 hv') Dens.nil), eL'⟩
          · exact (xD.trans R2.wf (x26.mono fun a _ z => .inl z.1)).trans R6.wf (x7.mono fun a _ z => .inr z)
          · have R8 := R7.wipe vs
            rw [ew] at R8
            exact R8
  · rw [if_neg hno] at h1; exact h1.elim
theorem blk_peE {X : Cx} {W : WX} {scope : Scope} {e : Expr} {g : Gm → Rs D} (h : BlkE X W scope fun Y => MP Y W e g) : ∃ t, (BlkE X W scope fun Y => PE Y e t) ∧ Sim X W (vP X.K) t g :=
  ⟨fun σ H Q => ∀ t, (∃ s H C cl fp pn xe, PE ((X.blk s H scope (compEnvC scope cl C X.env) fp).tr pn xe) e t) → Sim X W (vP X.K) t g → t σ H Q,
    fun s H C cl fp pn xe pa => let ⟨t, h1, s1⟩ := h s H C cl fp pn xe pa; ⟨fun pn' sh σ Hh Q inv hw => h1.run pn' sh σ Hh Q inv (hw t ⟨s, H, C, cl, fp, pn, xe, h1⟩ s1)⟩,
    fun f S c σ γ Q R hp t _ s1 => s1 f S c σ γ Q R hp⟩
section
variable {X : Cx} {W : WX} {pos p2 : Pos} {elt tg iter : Expr} {scope : Scope} {own : List (Str × Nat)} {gs : Gm → Rs (List D)} {k : Kt} {ge : Gm → Rs D} {ts : List Nat}
/-- y = [..] -/
theorem ms_lcE {i : Nat} {y : Str} {sp : Pos} (tk : L2.Takes X W) (hW : ∀ c d σ σ' H, W c d σ' H → W c d σ H) (hc : X.calm = true) (hN : X.N.Nodup) (hy : X.N[i]? = some y) (hl : X.env.scope.names.lookup y = some .local)
    (hsw : swapsWith (.ListComp elt [{ target := tg, iter := iter, ifs := [], is_async := 0 }] scope pos) (some (.Name y p2)) sp.line X.env = pure true) (hi : MI X W tg iter gs) (hb : BlkOk X.N X.env.scope scope own) (hg : Blk X scope fun Y => MG Y tg ts k) (he : BlkE X W scope fun Y => MP Y W elt ge)
    (hts : ∀ j ∈ ts, j ∈ own.map (·.2)) (hst : X.stack = X.env :: X.outer := by rfl) (hf : X.env.frame = some X.env.locals := by rfl) (hs : ∀ x, foldedSetIterable iter X.env x = pure x := by intro _; rfl) : MS X W (.Assign [.Name y p2] (.ListComp elt [{ target := tg, iter := iter, ifs := [], is_async := 0 }] scope pos) sp) (hSetF i (gLcE gs k ge (own.map (·.2)))) := by
  obtain ⟨wi, h1, s1⟩ := hi
  obtain ⟨g, h2, s2⟩ := blk_pg hg
  obtain ⟨tt, h3, s3⟩ := blk_pt (X := X) (scope := scope) (ifs := []) (g := gYes) (fun _ _ _ _ _ => mts_nil)
  obtain ⟨te, h4, s4⟩ := blk_peE he
  exact ⟨_, ps_setLcE hst hf tk hW hc hN hy hl hsw h1 hb h2 h3 h4 hs, sim_setF i (sim_lcE hW s1 s2 hts s3 s4)⟩
end
end Fv

set_option maxHeartbeats 4000000
/-! ### a list of this frame's own lists, kept besides the slots -/
namespace Fv
variable [LC : LamC]
open PySem L2
structure Nest (K : PySem.W.Frag) (c : Cf) (p : Addr) (as : List Addr) (ls : List (List D)) : Prop where
  out : c.M p ∧ c.H p = some (.lst (as.map V.ref))
  nod : (p :: as).Nodup
  len : as.length = ls.length
  ins : ∀ (k : Nat) (b : Addr) (l : List D), as[k]? = some b → ls[k]? = some l → Own K c b l
section
variable {K : PySem.W.Frag} {c c' : Cf} {p : Addr} {as : List Addr} {ls : List (List D)}
theorem Nest.has (h : Nest K c p as ls) {b : Addr} (hb : b ∈ p :: as) : c.M b ∧ c.H b ≠ none := by
  rcases List.mem_cons.mp hb with e | e
  · rw [e]
    exact ⟨h.out.1, by rw [h.out.2]; exact fun z => by cases z⟩
  · obtain ⟨k, hk, e'⟩ := List.getElem_of_mem e
    obtain ⟨m, vs, q, _⟩ := h.ins k b (ls[k]'(by rw [← h.len]; exact hk)) (by rw [List.getElem?_eq_getElem hk, e']) (List.getElem?_eq_getElem _)
    exact ⟨m, by rw [q]; exact fun z => by cases z⟩
theorem Nest.step {S : Addr → Prop} (w : WF c) (x : Ext S c c') (n : ∀ b, b ∈ p :: as → ¬ S b) (h : Nest K c p as ls) : Nest K c' p as ls :=
  ⟨⟨x.m1 p h.out.1, x.h p _ h.out.2 (fun z => n p List.mem_cons_self z.2) (fun _ z => by cases z)⟩, h.nod, h.len, fun k b l e1 e2 => (h.ins k b l e1 e2).step w x (n b (List.mem_cons_of_mem _ (List.mem_of_getElem? e1)))⟩
theorem Nest.less {M' : Addr → Prop} (k : ∀ b, b ∈ p :: as → c.M b → M' b) (m : ∀ b, M' b → c.M b) (h : Nest K c p as ls) : Nest K ⟨M', c.H⟩ p as ls :=
  ⟨⟨k p List.mem_cons_self h.out.1, h.out.2⟩, h.nod, h.len, fun j b l e1 e2 => by
    obtain ⟨m1, vs, q1, q2⟩ := h.ins j b l e1 e2
    exact ⟨k b (List.mem_cons_of_mem _ (List.mem_of_getElem? e1)) m1, vs, q1, q2.less m⟩⟩
theorem Nest.putD {q : Addr} {l : DL} {o : HO} (e : c.H q = some (dctO q l)) (h : Nest K c p as ls) : Nest K ⟨c.M, upd c.H q o⟩ p as ls :=
  ⟨⟨h.out.1, by
    show upd c.H q o p = _
    rw [upd_ne (eq_dct (u := .lst (as.map V.ref)) e (fun φ z => nomatch z) h.out.2)]; exact h.out.2⟩, h.nod, h.len, fun j b l' e1 e2 => (h.ins j b l' e1 e2).putD e⟩
/-- the keeper of such a list, besides what was kept before -/
def Kp.nest (K : PySem.W.Frag) (kp : Kp) (p : Addr) (as : List Addr) (ls : List (List D)) : Kp where
  X := fun a => kp.X a ∨ a ∈ p :: as
  I := fun c => kp.I c ∧ Nest K c p as ls
  there := fun c a h x => x.elim (fun z => kp.there c a h.1 z) fun z => (h.2.has z).2
  stab := fun S c c' hS w x h => ⟨kp.stab S c c' (fun a z q => hS a z (.inl q)) w x h.1, h.2.step w x fun b hb z => hS b z (.inr hb)⟩
  less := fun c M' k m h => ⟨kp.less c M' (fun a z => k a (.inl z)) m h.1, h.2.less (fun b hb => k b (.inr hb)) m⟩
  put := fun c q l o e n h => ⟨kp.put c q l o e (fun z => n (.inl z)) h.1, h.2.putD e⟩
def Fx.nest (K : PySem.W.Frag) (f : Fx) (p : Addr) (as : List Addr) (ls : List (List D)) : Fx := ⟨f.c0, f.rho, f.B, f.kp.nest K p as ls⟩
/-- the nest is laid: its lists are new and in no slot -/
theorem Rel.lay {f : Fx} {σ : L2.St} {γ : Gm} (R : Rel K f f.S c σ γ) (h : Nest K c p as ls) (hn : ∀ i, ownAt γ i = true → ∀ b, b ∈ p :: as → σ[i]? ≠ some (some (.ref b))) : Rel K (f.nest K p as ls) (f.nest K p as ls).S c σ γ := by
  have up : ∀ (i : Nat) (s : SV) (a : Addr), γ[i]? = some s → s.own = true → σ[i]? = some (some (V.ref a)) → f.S a → (f.nest K p as ls).S a := fun i s a e o ea hs => ⟨hs.1, fun z => z.elim hs.2 fun q => hn i (by unfold ownAt; rw [e]; exact o) a q ea⟩
  exact ⟨R.wf0, R.wf, R.ext, R.len, R.pu, fun i l e => by
    obtain ⟨a, h1, h2, h3, h4⟩ := R.ow i l e
    exact ⟨a, h1, h2, up i _ a e rfl h1 h3, h4⟩, fun i l e => by
    obtain ⟨h1, h2, h3, h4, h5⟩ := R.bo i l e
    exact ⟨h1, h2, h3, up i _ _ e rfl h1 h4, h5⟩, R.ne, ⟨R.inv, h⟩, fun a z => z.2⟩
/-- the nest is let go -/
theorem Rel.unlay {f : Fx} {σ : L2.St} {γ : Gm} (R : Rel K (f.nest K p as ls) (f.nest K p as ls).S c σ γ) : Rel K f f.S c σ γ ∧ Nest K c p as ls := by
  have up : ∀ (a : Addr), (f.nest K p as ls).S a → f.S a := fun a h => ⟨h.1, fun z => h.2 (.inl z)⟩
  exact ⟨⟨R.wf0, R.wf, R.ext, R.len, R.pu, fun i l e => by
    obtain ⟨a, h1, h2, h3, h4⟩ := R.ow i l e
    exact ⟨a, h1, h2, up a h3, h4⟩, fun i l e => by
    obtain ⟨h1, h2, h3, h4, h5⟩ := R.bo i l e
    exact ⟨h1, h2, h3, up _ h4, h5⟩, R.ne, R.inv.1, fun a z => z.2⟩, R.inv.2⟩
/-- an inner list is written -/
theorem Rel.inner {f : Fx} {σ : L2.St} {γ : Gm} (R : Rel K (f.nest K p as ls) (f.nest K p as ls).S c σ γ) (h0 : ∀ b, b ∈ p :: as → f.c0.H b = none ∧ ¬ f.kp.X b) {k : Nat} {b : Addr} {l : List D} {vs : List V} (e : as[k]? = some b) (hd : Dens K c l vs) :
    Ext (fun a => a = b) c ⟨c.M, upd c.H b (.lst vs)⟩ ∧ Rel K (f.nest K p as (ls.set k l)) (f.nest K p as (ls.set k l)).S ⟨c.M, upd c.H b (.lst vs)⟩ σ γ := by
  have hN := R.inv.2
  have hb : b ∈ p :: as := List.mem_cons_of_mem _ (List.mem_of_getElem? e)
  have R1 : Rel K f (f.nest K p as ls).S c σ γ := ⟨R.wf0, R.wf, R.ext, R.len, R.pu, R.ow, R.bo, R.ne, R.inv.1, fun a z q => z.2 (.inl q)⟩
  obtain ⟨x, R2⟩ := Rel.touch (vs := vs) R1 (fun z => z.2 (.inr hb)) (h0 b hb).1 (h0 b hb).2 (hN.has hb).1
  have pb : p ≠ b := fun z => (List.nodup_cons.mp hN.nod).1 (z ▸ List.mem_of_getElem? e)
  have nd := (List.nodup_cons.mp hN.nod).2
  have hN2 : Nest K ⟨c.M, upd c.H b (.lst vs)⟩ p as (ls.set k l) := by
    refine ⟨⟨hN.out.1, ?_⟩, hN.nod, by rw [List.length_set]; exact hN.len, fun j b' m e1 e2 => ?_⟩
    · show upd c.H b _ p = _
      rw [upd_ne pb]; exact hN.out.2
    · by_cases hj : j = k
      · subst hj
        rw [e] at e1
        cases e1
        have hk : j < ls.length := by
          have := (List.getElem?_eq_some_iff.mp e2).1
          rw [List.length_set] at this; exact this
        rw [List.getElem?_set_self hk] at e2
        cases e2
        exact ⟨(hN.has hb).1, vs, upd_same, Dens.ext R.wf x hd⟩
      · rw [List.getElem?_set_ne (Ne.symm hj)] at e2
        have nb : b' ≠ b := fun z => by
          have h1 := (List.getElem?_eq_some_iff.mp e)
          have h2 := (List.getElem?_eq_some_iff.mp e1)
          obtain ⟨hk1, hk2⟩ := h1
          obtain ⟨hj1, hj2⟩ := h2
          have pw := List.pairwise_iff_getElem.mp nd
          rcases Nat.lt_trichotomy j k with q | q | q
          · exact pw j k hj1 hk1 q (by rw [hj2, hk2]; exact z)
          · exact hj q
          · exact pw k j hk1 hj1 q (by rw [hj2, hk2]; exact z.symm)
        exact (hN.ins j b' m e1 e2).step R.wf x fun z => nb z
  exact ⟨x, ⟨R2.wf0, R2.wf, R2.ext, R2.len, R2.pu, R2.ow, R2.bo, R2.ne, ⟨R2.inv, hN2⟩, fun a z => z.2⟩⟩
end
end Fv

set_option maxHeartbeats 4000000
namespace Fv
variable [LC : LamC]
open PySem L2
section
variable {X : Cx} {W : WX} {p p1 p2 ps : Pos} {b e : Expr} {ga gb : Gm → Rs D} {x : Str} {i : Nat}
/-- xs[b].append(e), xs a list of own lists -/
theorem pe_appN (ho : PE X (.Name x p) (tVar i)) (hb : MP X W b gb) (ha : MP X W e ga) (hpl0 : PlainIx b := by exact fun _ _ => rfl)
    (hbase : attributeBase (.Subscript (.Name x p) b ps) "append" X.env (eval (.Subscript (.Name x p) b ps) X.env) = eval (.Subscript (.Name x p) b ps) X.env := by rfl)
    (hfew : ((backTo p2 (starEach [e] X.env)).all (fun x => !x.1) && (backToKw p2 (keywordEach [] X.env)).all (fun x => x.1.isSome) && decide ([e].length + ([] : List Keyword).length + (if ([] : List Keyword).isEmpty then 0 else 1) < 30)) = true := by rfl)
    (hline : (p1.endLine == p2.line) = true := by rfl) (hs : starEach [e] X.env = (false, eval e X.env) :: starEach [] X.env := by rfl) (hpl : (backTo p2 (starEach [] X.env)).any (·.1) = false := by rfl) :
    ∃ t, PE X (.Call (.Attribute (.Subscript (.Name x p) b ps) "append" p1) [e] [] p2) t ∧ ∀ (f : Fx) (c : Cf) (σ : L2.St) (γ γ1 γ2 : Gm) (k : Nat) (d : D) (q : Addr) (as : List Addr) (ls : List (List D)) (Q : V → Hp → Prop),
      Rel X.K (f.nest X.K q as ls) (f.nest X.K q as ls).S c σ γ → (∀ b, b ∈ q :: as → f.c0.H b = none ∧ ¬ f.kp.X b) → σ[i]? = some (some (.ref q)) → gb γ = .ok (.int ((k : Nat) : Int)) γ1 → ga γ1 = .ok d γ2 → k < as.length → (∀ l, ls[k]? = some l → l.length < sizeLine) →
      (∀ (l : List D) (c' : Cf), ls[k]? = some l → PExt X.K c c' → Rel X.K (f.nest X.K q as (ls.set k (l ++ [d]))) (f.nest X.K q as (ls.set k (l ++ [d]))).S c' σ γ2 → Q .non c'.H) → t σ c.H Q := by
  obtain ⟨ta, h1, s1⟩ := ha
  obtain ⟨tb, h2, s2⟩ := hb
  refine ⟨_, pe_bm PySem.F.plainAttrs_list PySem.F.slot_list_append PySem.F.type_list_append mt_append (pe_ix ix_seq ho h2 hpl0) (pa_cons h1 pa_nil hs) hbase hfew hline hs hpl, fun f c σ γ γ1 γ2 k d q as ls Q R h0 hq e1 e2 hk hz hp => ?_⟩
  refine ⟨.ref q, hq, ?_⟩
  refine s2 _ _ c σ γ _ R ?_
  rw [e1]
  intro v c1 x1 R1 k1 q1
  cases (show v = .int ((k : Nat) : Int) from q1)
  have hN1 := R1.inv.2
  refine .inl ⟨q, as.map V.ref, _, .ref as[k], rfl, rfl, SqL.of hN1.out.2, ?_, ?_⟩
  · have hk' : k < (as.map V.ref).length := by rw [List.length_map]; exact hk
    have : atI (as.map V.ref) ((k : Nat) : Int) = (as.map V.ref)[k]? := by
      unfold atI ixN
      simp [hk]
    rw [this, List.getElem?_map, List.getElem?_eq_getElem hk]
    rfl
  · have hkl : k < ls.length := by rw [← hN1.len]; exact hk
    obtain ⟨_, vs1, f1, _⟩ := hN1.ins k as[k] ls[k] (List.getElem?_eq_getElem hk) (List.getElem?_eq_getElem hkl)
    refine ⟨own_ty f1, ?_⟩
    refine s1 _ _ c1 σ γ1 _ R1 ?_
    rw [e2]
    intro w c2 x2 R2 k2 q2
    have hN2 := R2.inv.2
    obtain ⟨_, vs2, f2, d2⟩ := hN2.ins k as[k] ls[k] (List.getElem?_eq_getElem hk) (List.getElem?_eq_getElem hkl)
    obtain ⟨x3, R3⟩ := R2.inner h0 (k := k) (b := as[k]) (l := ls[k] ++ [d]) (vs := vs2 ++ [w]) (List.getElem?_eq_getElem hk) (Dens.app d2 (Dens.cons q2 Dens.nil))
    exact ⟨as[k], vs2, w, rfl, rfl, f2, by rw [d2.length]; exact hz _ (List.getElem?_eq_getElem hkl), hp ls[k] _ (List.getElem?_eq_getElem hkl) (((x1.p R.wf).trans (x2.p R1.wf)).trans (x3.p R2.wf)) R3⟩
end
end Fv

set_option maxHeartbeats 4000000
namespace Fv
variable [LC : LamC]
open PySem L2
abbrev LS := List (List D)
/-- the slot that holds the list of lists at q -/
abbrev hdq (q : Addr) : SV := .pu (.ob (.exn q none none))
abbrev NR := Addr → Gm → LS → Gm → LS → Prop
def SimN (X : Cx) (W : WX) (t : TS) (r : NR) : Prop := ∀ (f : Fx) (c : Cf) (σ : L2.St) (γ : Gm) (ls : LS) (T : Ends) (q : Addr) (as : List Addr) (g : Gm) (ls' : LS),
  Rel X.K (f.nest X.K q as ls) (f.nest X.K q as ls).S c σ γ → (∀ b, b ∈ q :: as → f.c0.H b = none ∧ ¬ f.kp.X b) → r q γ ls g ls' →
  (∀ σ' c', PExt X.K c c' → Rel X.K (f.nest X.K q as ls') (f.nest X.K q as ls').S c' σ' g → T.nx σ' c'.H) → t T σ c.H
def NS (X : Cx) (W : WX) (st : Stmt) (r : NR) : Prop := ∃ t, PS X st t ∧ SimN X W t r
def NSs (X : Cx) (W : WX) (st : List Stmt) (r : NR) : Prop := ∃ t, PSs X st t ∧ SimN X W t r
def rSt (h : Gm → Out) : NR := fun _ γ ls g ls' => h γ = .nx g ∧ ls' = ls
def rSeq (r r' : NR) : NR := fun q γ ls g ls' => ∃ γ1 ls1, r q γ ls γ1 ls1 ∧ r' q γ1 ls1 g ls'
def rNil : NR := fun _ γ ls g ls' => g = γ ∧ ls' = ls
def rIf (ta : Gm → Rs Bool) (r r' : NR) : NR := fun q γ ls g ls' => (∃ γ1, ta γ = .ok true γ1 ∧ r q γ1 ls g ls') ∨ ∃ γ1, ta γ = .ok false γ1 ∧ r' q γ1 ls g ls'
def rApp (i : Nat) (gb ga : Gm → Rs D) : NR := fun q γ ls g ls' => ∃ (k : Nat) (d : D) (γ1 : Gm) (l : List D), γ[i]? = some (hdq q) ∧ gb γ = .ok (.int ((k : Nat) : Int)) γ1 ∧ ga γ1 = .ok d g ∧ ls[k]? = some l ∧ l.length < sizeLine ∧ ls' = ls.set k (l ++ [d])
def rLoop (k : Kt) (r : NR) : List D → NR
  | [] => rNil
  | d :: l => fun q γ ls g ls' => ∃ γ1 γ2 ls2, k d γ = some γ1 ∧ r q γ1 ls γ2 ls2 ∧ rLoop k r l q γ2 ls2 g ls'
def rFor (gs : Gm → Rs (List D)) (k : Kt) (r : NR) : NR := fun q γ ls g ls' => ∃ l γ1, gs γ = .ok l γ1 ∧ rLoop k r l q γ1 ls g ls'
section
variable {X : Cx} {W : WX} {pos p p1 p2 ps : Pos} {st : Stmt} {rest : List Stmt} {e b tg : Expr} {ga gb : Gm → Rs D} {h : Gm → Out} {ta : Gm → Rs Bool} {r r' : NR} {x : Str} {i : Nat} {gs : Gm → Rs (List D)} {k : Kt} {ts : List Nat} {body : List Stmt}
theorem ns_st (hs : MS X W st h) : NS X W st (rSt h) := by
  obtain ⟨t, h1, s1⟩ := hs
  refine ⟨t, h1, fun f c σ γ ls T q as g ls' R h0 hr hp => s1 (f.nest X.K q as ls) c σ γ T R ?_⟩
  rw [hr.1]
  intro σ' c' px R'
  rw [hr.2] at hp
  exact hp σ' c' px R'
theorem nss_nil : NSs X W [] rNil := ⟨_, pss_nil, fun f c σ γ ls T q as g ls' R h0 hr hp => by
  obtain ⟨rfl, rfl⟩ := hr
  exact hp σ c .refl R⟩
theorem nss_cons (h1 : NS X W st r) (h2 : NSs X W rest r') : NSs X W (st :: rest) (rSeq r r') := by
  obtain ⟨t, p1, s1⟩ := h1
  obtain ⟨t', p2, s2⟩ := h2
  refine ⟨_, pss_cons p1 p2, fun f c σ γ ls T q as g ls' R h0 hr hp => ?_⟩
  obtain ⟨γ1, ls1, e1, e2⟩ := hr
  refine s1 f c σ γ ls _ q as γ1 ls1 R h0 e1 fun σ1 c1 x1 R1 => ?_
  exact s2 f c1 σ1 γ1 ls1 T q as g ls' R1 h0 e2 fun σ' c' x2 R2 => hp σ' c' (x1.trans x2) R2
theorem ns_if {b1 b2 : List Stmt} (ht : MT X W e ta) (h1 : NSs X W b1 r) (h2 : NSs X W b2 r') : NS X W (.If e b1 b2 pos) (rIf ta r r') := by
  obtain ⟨t0, p0, s0⟩ := ht
  obtain ⟨t1, p1, s1⟩ := h1
  obtain ⟨t2, p2, s2⟩ := h2
  refine ⟨_, ps_if p0 p1 p2, fun f c σ γ ls T q as g ls' R h0 hr hp => ?_⟩
  rcases hr with ⟨γ1, e1, e2⟩ | ⟨γ1, e1, e2⟩
  · refine s0 _ _ c σ γ _ R ?_
    rw [e1]
    intro v c1 x1 R1 k1 (q1 : true = v)
    subst q1
    rw [if_pos rfl]
    exact s1 f c1 σ γ1 ls T q as g ls' R1 h0 e2 fun σ' c' x2 R2 => hp σ' c' ((x1.p R.wf).trans x2) R2
  · refine s0 _ _ c σ γ _ R ?_
    rw [e1]
    intro v c1 x1 R1 k1 (q1 : false = v)
    subst q1
    rw [if_neg Bool.false_ne_true]
    exact s2 f c1 σ γ1 ls T q as g ls' R1 h0 e2 fun σ' c' x2 R2 => hp σ' c' ((x1.p R.wf).trans x2) R2
theorem held {K : PySem.W.Frag} {f : Fx} {S : Addr → Prop} {c : Cf} {σ : L2.St} {γ : Gm} {q : Addr} (R : Rel K f S c σ γ) (e : γ[i]? = some (hdq q)) : σ[i]? = some (some (.ref q)) := by
  obtain ⟨v, h1, h2⟩ := R.pu i _ e
  have : v = .ref q := h2.1
  rw [h1, this]
/-- xs[b].append(e) -/
theorem ns_app (ho : PE X (.Name x p) (tVar i)) (hb : MP X W b gb) (ha : MP X W e ga) (hpl0 : PlainIx b := by exact fun _ _ => rfl)
    (hsw : swapsWith (.Call (.Attribute (.Subscript (.Name x p) b ps) "append" p1) [e] [] p2) none pos.line X.env = pure false := by rfl)
    (hbase : attributeBase (.Subscript (.Name x p) b ps) "append" X.env (eval (.Subscript (.Name x p) b ps) X.env) = eval (.Subscript (.Name x p) b ps) X.env := by rfl)
    (hfew : ((backTo p2 (starEach [e] X.env)).all (fun x => !x.1) && (backToKw p2 (keywordEach [] X.env)).all (fun x => x.1.isSome) && decide ([e].length + ([] : List Keyword).length + (if ([] : List Keyword).isEmpty then 0 else 1) < 30)) = true := by rfl)
    (hline : (p1.endLine == p2.line) = true := by rfl) (hs : starEach [e] X.env = (false, eval e X.env) :: starEach [] X.env := by rfl) (hpl : (backTo p2 (starEach [] X.env)).any (·.1) = false := by rfl) :
    NS X W (.Expr (.Call (.Attribute (.Subscript (.Name x p) b ps) "append" p1) [e] [] p2) pos) (rApp i gb ga) := by
  obtain ⟨t, h1, s1⟩ := pe_appN (ps := ps) (p1 := p1) (p2 := p2) ho hb ha hpl0 hbase hfew hline hs hpl
  refine ⟨_, ps_expr h1 hsw, fun f c σ γ ls T q as g ls' R h0 hr hp => ?_⟩
  obtain ⟨k, d, γ1, l, e0, e1, e2, e3, e4, rfl⟩ := hr
  have hk : k < as.length := by
    rw [R.inv.2.len]
    exact (List.getElem?_eq_some_iff.mp e3).1
  exact s1 f c σ γ γ1 g k d q as ls _ R h0 (held R e0) e1 e2 hk (fun m hm => by rw [e3] at hm; cases hm; exact e4) fun m c' hm px R' => by
    rw [e3] at hm
    cases hm
    exact hp σ c' px R'
theorem ns_for (hp : PassesOwn (model X.prog X.w) X.A X.env X.xe) (hc : X.calm = true) (hi : MI X W tg e gs) (hg : MG X tg ts k) (hb : NSs X W body r) (hs : ∀ x, foldedSetIterable e X.env x = pure x := by intro _; rfl) : NS X W (.For tg e body [] pos) (rFor gs k r) := by
  obtain ⟨ti, p1, s1⟩ := hi
  obtain ⟨g, p2, s2⟩ := hg
  obtain ⟨tb, p3, s3⟩ := hb
  refine ⟨_, ps_for hp hc p1 p2 p3 hs, fun f c σ γ ls T q as gE lsE R h0 hr hq => ?_⟩
  obtain ⟨l, γ1, eg, el⟩ := hr
  refine s1 _ _ c σ γ _ R ?_
  rw [eg]
  intro J c1 x1 R1 k1 q1
  refine ⟨fun i m σ H => ∃ c2 γ2 ls2, c2.H = H ∧ m + i = l.length ∧ PExt X.K c1 c2 ∧ Rel X.K (f.nest X.K q as ls2) (f.nest X.K q as ls2).S c2 σ γ2 ∧ rLoop k r (l.drop i) q γ2 ls2 gE lsE, ⟨l.length, c1, γ1, ls, rfl, rfl, .refl, R1, by rw [List.drop_zero]; exact el⟩, ?_⟩
  rintro i m σ2 H ⟨c2, γ2, ls2, rfl, em, px, R2, el2⟩
  obtain ⟨it, stop⟩ := q1 c2 R2.wf px
  cases ed : l[i]? with
  | none =>
    have hi : l.length ≤ i := List.getElem?_eq_none_iff.mp ed
    have ei : i = l.length := by omega
    rw [List.drop_eq_nil_of_le hi] at el2
    obtain ⟨rfl, rfl⟩ := el2
    rw [ei]
    exact .inl ⟨stop, hq σ2 c2 ((x1.p R.wf).trans px) R2⟩
  | some d =>
    obtain ⟨hil, ed'⟩ := List.getElem?_eq_some_iff.mp ed
    have edrop : l.drop i = d :: l.drop (i + 1) := by rw [← ed']; exact List.drop_eq_getElem_cons hil
    rw [edrop] at el2
    obtain ⟨γ3, γ4, ls4, ek, er, el3⟩ := el2
    obtain ⟨go, yl⟩ := it i d ed
    refine .inr ⟨go, fun σ' H' => ∃ c3 γ3 ls3, c3.H = H' ∧ PExt X.K c1 c3 ∧ Rel X.K (f.nest X.K q as ls3) (f.nest X.K q as ls3).S c3 σ' γ3 ∧ rLoop k r (l.drop (i + 1)) q γ3 ls3 gE lsE, fun σ' H' ⟨c3, γ3, ls3, e3, px3, R3, hq3⟩ => ⟨m - 1, by omega, c3, γ3, ls3, e3, by omega, px3, R3, hq3⟩, fun x H' hy => ?_⟩
    obtain ⟨c3, rfl, x3, w3, hd⟩ := yl x H' hy
    have R3 := R2.step x3 w3
    refine s2.run _ _ c3 σ2 γ2 γ3 d x _ R3 hd ek fun σ4 R4 _ _ _ => ?_
    exact s3 f c3 σ4 γ3 ls2 _ q as γ4 ls4 R4 h0 er fun σ5 c5 x5 R5 => ⟨c5, γ4, ls4, rfl, (px.trans (x3.p R2.wf)).trans x5, R5, el3⟩
end
end Fv

set_option maxHeartbeats 4000000
namespace Fv
variable [LC : LamC]
open PySem L2
def gNo : Gm → Rs D := fun γ => .ok .non γ
/-- [[] for .. in ..]: new lists in a new list -/
theorem sim_lcN {tb : Bool} {X : Cx} {W : WX} {wi : TI} {g : TG} {tt : TT} {te : TE} {gs : Gm → Rs (List D)} {k : Kt} {ts vs : List Nat} (si : Sim X W (vI tb X.K) wi gs) (tg : TgOk tb X.K ts g k) (hts : ∀ j ∈ ts, j ∈ vs) (st : Sim X Wn vT tt gYes) (se : Sim X Wn (vF X.K) te gNil)
    {f : Fx} {S : Addr → Prop} {c : Cf} {σ : L2.St} {γ γ1 γE : Gm} {Q : V → Hp → Prop} {l ys : List D} (R : Rel X.K f S c σ γ) (eg : gs γ = .ok l γ1) (hz : l.length ≤ sizeLine) (hno : vs.all (fun i => !ownAt γ1 i) = true) (eT : lcL k gYes gNo vs l (wipeG γ1 vs) = .ok ys γE)
    (hq : ∀ (p : Addr) (as : List Addr) (c' : Cf), PExt X.K c c' → Rel X.K f S c' σ (restG γ1 γE vs) → Kd γ (restG γ1 γE vs) → Nest X.K c' p as (l.map fun _ => []) → (∀ b, b ∈ p :: as → c.H b = none) → Q (.ref p) c'.H) : tLc wi g tt te vs σ c.H Q := by
  refine si _ _ c σ γ _ R ?_
  rw [eg]
  intro J c1 x1 R1 k1 q1 p n
  have h0 : f.c0.H p = none := R1.ext.noneS R1.wf n
  have RD : Rel X.K f (fun a => S a ∧ a ∉ [p]) (c1.add p []) (wipe σ vs) (wipeG γ1 vs) := by
    refine ((R1.wipe vs).step (Ext.add n) (R1.wf.add n)).lessS (fun i s a e o ea hs => ⟨hs, fun z => ?_⟩) fun a z => R1.sub a z.1
    obtain ⟨a', l', z1, _, ⟨_, vs', z2, _⟩, _⟩ := (R1.wipe vs).ownA e o
    rw [ea] at z1
    cases z1
    rw [List.mem_singleton.mp z, n] at z2; cases z2
  have pD : PExt X.K c1 (c1.add p []) := (Ext.add (vs := []) n).p R1.wf
  refine ⟨fun i m H => ∃ c2 γ2 as zs, c2.H = H ∧ m + i = l.length ∧ PExt X.K c1 c2 ∧ Rel X.K f (fun a => S a ∧ a ∉ p :: as) c2 (wipe σ vs) γ2 ∧ Kw vs γ1 γ2 ∧ as.length = i ∧ Nest X.K c2 p as (as.map fun _ => []) ∧ (∀ b, b ∈ p :: as → c1.H b = none) ∧ (∀ b, c2.H b = none → c1.H b = none) ∧
      lcL k gYes gNo vs (l.drop i) γ2 = .ok zs γE, ⟨l.length, c1.add p [], wipeG γ1 vs, [], ys, rfl, rfl, pD, RD, .wipe, rfl, ⟨⟨.inr rfl, upd_same⟩, by simp, rfl, fun _ _ _ e => by cases e⟩, fun b hb => by rw [List.mem_singleton.mp hb]; exact n, fun b hb => ?_, by rw [List.drop_zero]; exact eT⟩, ?_⟩
  · by_cases z : b = p
    · rw [z]; exact n
    · have : upd c1.H p (.lst []) b = none := hb
      rwa [upd_ne z] at this
  rintro i m H ⟨c2, γ2, as, zs, rfl, em, p2, R2, kd2, hlen, hN, hfr, hmono, eL⟩
  obtain ⟨it, stop⟩ := q1 c2 R2.wf p2
  cases ed : l[i]? with
  | none =>
    have hi : l.length ≤ i := List.getElem?_eq_none_iff.mp ed
    have ei : i = l.length := by omega
    rw [List.drop_eq_nil_of_le hi] at eL
    cases eL
    rw [ei]
    have els : (as.map fun _ => ([] : List D)) = l.map fun _ => [] := by
      rw [List.map_const', List.map_const', hlen, ei]
    rw [els] at hN
    refine .inl ⟨stop, hq p as c2 ((x1.p R.wf).trans p2) (R1.rest hno p2 R2 fun a z => z.1) ?_ hN fun b hb => x1.noneS R1.wf (hfr b hb)⟩
    refine k1.own.trans fun j hj => ?_
    obtain ⟨s, e, o⟩ := ownAt_some hj
    by_cases hv : j ∈ vs
    · have hz : j < γE.length := by
        have := (List.getElem?_eq_some_iff.mp e).1
        rw [restG_len] at this; exact this
      rw [restG_in hz hv] at e
      have hl : j < γ1.length := by rw [← R1.len, ← wipe_length σ vs, R2.len]; exact hz
      have h2 : γ1.getD j .un = γ1[j] := by rw [List.getD_eq_getElem?_getD, List.getElem?_eq_getElem hl]; rfl
      rw [h2] at e
      unfold ownAt
      rw [List.getElem?_eq_getElem hl, Option.some.inj e]; exact o
    · rw [restG_ne hv] at e
      exact kd2.own j (by unfold ownAt; rw [e]; exact o)
  | some d =>
    obtain ⟨hil, ed'⟩ := List.getElem?_eq_some_iff.mp ed
    have edrop : l.drop i = d :: l.drop (i + 1) := by rw [← ed']; exact List.drop_eq_getElem_cons hil
    rw [edrop] at eL
    unfold lcL at eL
    obtain ⟨go, yl⟩ := it i d ed
    refine .inr ⟨go, fun H' => ∃ c2 γ2 as zs, c2.H = H' ∧ PExt X.K c1 c2 ∧ Rel X.K f (fun a => S a ∧ a ∉ p :: as) c2 (wipe σ vs) γ2 ∧ Kw vs γ1 γ2 ∧ as.length = i + 1 ∧ Nest X.K c2 p as (as.map fun _ => []) ∧ (∀ b, b ∈ p :: as → c1.H b = none) ∧ (∀ b, c2.H b = none → c1.H b = none) ∧
        lcL k gYes gNo vs (l.drop (i + 1)) γ2 = .ok zs γE, fun H' ⟨c2, γ2, as, zs, a1, a2, a3, a4, a5, a6, a7, a8, a9⟩ => ⟨m - 1, by omega, c2, γ2, as, zs, a1, by omega, a2, a3, a4, a5, a6, a7, a8, a9⟩, fun x H' hy => ?_⟩
    obtain ⟨c3, rfl, x3, w3, hd⟩ := yl x H' hy
    have R3 := R2.step x3 w3
    cases ek : k d γ2 with
    | none => rw [ek] at eL; cases eL
    | some γ3 =>
      rw [ek] at eL
      have eL' : ((gNo γ3).bind fun y γ6 => (lcL k gYes gNo vs (l.drop (i + 1)) (wipeG γ6 vs)).bind fun ys γ4 => .ok (y :: ys) γ4) = .ok zs γE := eL
      have eL2 : ((lcL k gYes gNo vs (l.drop (i + 1)) (wipeG γ3 vs)).bind fun ys γ4 => Rs.ok (D.non :: ys) γ4) = .ok zs γE := eL'
      obtain ⟨zs', γ7, e7, e8⟩ := bind_ok eL2
      cases e8
      refine tg.run f _ c3 (wipe σ vs) γ2 γ3 d x _ R3 hd ek fun σ4 R4 k4 l4 n4 => ?_
      have ew : wipe σ4 vs = wipe σ vs := by
        rw [wipe_same (σ := wipe σ vs) l4 fun j hj => n4 j fun z => hj (hts j z), wipe_wipe]
      refine ⟨ew, ?_⟩
      have k4w : Kw vs γ2 γ3 := ⟨k4, fun i d' hi z => by
        rw [tg.keep d γ2 γ3 ek i fun zz => hi (hts i zz)] at z; exact z⟩
      refine st f _ c3 σ4 γ3 _ R4 ?_
      intro v c5 x5 R5 k5 (ev : true = v)
      subst ev
      rw [if_pos rfl]
      refine se f _ c5 σ4 γ3 _ R5 ?_
      intro v c6 x6 R6 k6 hv
      obtain ⟨b, rfl, nb, hO⟩ := hv
      have x26 : Ext (fun a => S a ∧ a ∉ p :: as) c2 c6 := ((x3.nop (S := fun a => S a ∧ a ∉ p :: as)).trans w3 x5).trans R5.wf x6
      have hN6 := hN.step R2.wf x26 fun b hb z => z.2 hb
      have nb2 : c2.H b = none := ((x3.nop (S := fun a => S a ∧ a ∉ p :: as)).trans w3 x5).noneS R5.wf nb
      have nb1 : c1.H b = none := hmono b nb2
      have bas : b ∉ p :: as := fun z => (hN.has z).2 nb2
      -- the new list goes into the list
      have R6' : Rel X.K f (fun a => S a ∧ a ∉ p :: (as ++ [b])) c6 σ4 γ3 := by
        refine R6.lessS (fun j s a e o ea hs => ⟨hs.1, fun z => ?_⟩) fun a z => R1.sub a z.1
        rcases List.mem_cons.mp z with z | z
        · exact hs.2 (by rw [z]; exact List.mem_cons_self)
        · rcases List.mem_append.mp z with z | z
          · exact hs.2 (List.mem_cons_of_mem _ z)
          · rw [List.mem_singleton.mp z] at ea
            exact fresh_slot R5 (Kd.refl) nb j (by unfold ownAt; rw [e]; exact o) ea
      obtain ⟨x7, R7⟩ := Rel.touch (vs := (as ++ [b]).map V.ref) R6' (fun z => z.2 List.mem_cons_self) h0 (R1.notX n) hN6.out.1
      have pb : b ≠ p := fun z => bas (by rw [z]; exact List.mem_cons_self)
      have hN7 : Nest X.K ⟨c6.M, upd c6.H p (.lst ((as ++ [b]).map V.ref))⟩ p (as ++ [b]) ((as ++ [b]).map fun _ => []) := by
        refine ⟨⟨hN6.out.1, upd_same⟩, ?_, by rw [List.length_map], fun j b' m e1 e2 => ?_⟩
        · have nd := List.nodup_cons.mp hN.nod
          refine List.nodup_cons.mpr ⟨fun z => ?_, List.nodup_append.mpr ⟨nd.2, by simp, fun a ha b' hb' => ?_⟩⟩
          · rcases List.mem_append.mp z with z | z
            · exact nd.1 z
            · exact pb (List.mem_singleton.mp z).symm
          · rw [List.mem_singleton.mp hb']
            exact fun z => bas (List.mem_cons_of_mem _ (z ▸ ha))
        · have em : m = [] := by
            rw [List.getElem?_map] at e2
            cases q : (as ++ [b])[j]? with
            | none => rw [q] at e2; cases e2
            | some _ => rw [q] at e2; exact (Option.some.inj e2).symm
          subst em
          by_cases hj : j < as.length
          · rw [List.getElem?_append_left hj] at e1
            have o := hN6.ins j b' [] e1 (by rw [List.getElem?_map, e1]; rfl)
            refine o.step R6.wf x7 fun z => ?_
            have : b' = p := z
            exact (List.nodup_cons.mp hN.nod).1 (this ▸ List.mem_of_getElem? e1)
          · rw [List.getElem?_append_right (by omega)] at e1
            have eb : b' = b := by
              have := List.mem_of_getElem? e1
              exact List.mem_singleton.mp this
            subst eb
            exact hO.step R6.wf x7 fun z => pb z
      refine ⟨as.map V.ref, hN6.out.2, by rw [List.length_map]; omega, ⟨c6.M, upd c6.H p (.lst ((as ++ [b]).map V.ref))⟩, wipeG γ3 vs, as ++ [b], zs', ?_, (p2.trans (x26.p R2.wf)).trans (x7.p R6.wf), ?_, ((kd2.trans k4w)).trans .wipe, by rw [List.length_append, hlen]; rfl, hN7, fun a ha => ?_, fun a ha => ?_, e7⟩
      · rw [List.map_append]; rfl
      · have R8 := R7.wipe vs
        rw [ew] at R8
        exact R8
      · rcases List.mem_cons.mp ha with z | z
        · rw [z]; exact n
        · rcases List.mem_append.mp z with z | z
          · exact hfr a (List.mem_cons_of_mem _ z)
          · rw [List.mem_singleton.mp z]; exact nb1
      · have h : upd c6.H p _ a = none := ha
        have ap : a ≠ p := fun z => by rw [z, upd_same] at h; cases h
        rw [upd_ne ap] at h
        exact hmono a (x26.noneS R6.wf h)
end Fv

set_option maxHeartbeats 4000000
namespace Fv
variable [LC : LamC]
open PySem L2
section
variable {K : PySem.W.Frag} {f : Fx} {c : Cf} {σ : L2.St} {γ : Gm} {q : Addr} {as : List Addr} {ls : LS}
theorem Rel.delL {S : Addr → Prop} (R : Rel K f S c σ γ) (h0 : ∀ b, b ∈ as → f.c0.H b = none) (hX : ∀ b, b ∈ as → ¬ f.kp.X b) (hn : ∀ i, ownAt γ i = true → ∀ b, b ∈ as → σ[i]? ≠ some (some (.ref b))) : Rel K f S ⟨fun a => c.M a ∧ a ∉ as, c.H⟩ σ γ where
  wf0 := R.wf0
  wf := fun a m => R.wf a m.1
  ext := ⟨fun a z => ⟨R.ext.m1 a z, fun e => by
      obtain ⟨xs, q⟩ := R.wf0.wf a z
      rw [h0 a e] at q; cases q⟩, fun a z => R.ext.m2 a z.1, R.ext.h, R.ext.ht, R.ext.tb⟩
  len := R.len
  pu := fun i d e => by
    obtain ⟨v, h1, h2⟩ := R.pu i d e
    exact ⟨v, h1, h2.less fun _ z => z.1⟩
  ow := fun i l e => by
    obtain ⟨a, h1, h2, h3, ⟨m, vs, e1, e2⟩⟩ := R.ow i l e
    exact ⟨a, h1, h2, h3, ⟨m, fun z => hn i (by unfold ownAt; rw [e]; rfl) a z h1⟩, vs, e1, e2.less fun _ z => z.1⟩
  bo := fun i l e => by
    obtain ⟨h1, h2, h3, h4, ⟨m, vs, e1, e2⟩⟩ := R.bo i l e
    exact ⟨h1, h2, h3, h4, ⟨m, fun z => hn i (by unfold ownAt; rw [e]; rfl) _ z h1⟩, vs, e1, e2.less fun _ z => z.1⟩
  ne := R.ne
  inv := f.kp.less c _ (fun a x m => ⟨m, fun z => hX a z x⟩) (fun a z => z.1) R.inv
  sub := R.sub
theorem dens_nest {M' : Addr → Prop} (hm : ∀ a, M' a → c.M a) : ∀ {as : List Addr} {ls : LS}, as.length = ls.length → (∀ (k : Nat) (b : Addr) (l : List D), as[k]? = some b → ls[k]? = some l → Own K c b l) → (∀ b, b ∈ as → ¬ M' b) → Dens K ⟨M', c.H⟩ (ls.map .lst) (as.map V.ref)
  | [], [], _, _, _ => Dens.nil
  | [], _ :: _, h, _, _ => by simp at h
  | _ :: _, [], h, _, _ => by simp at h
  | b :: as, l :: ls, h, ho, hn => by
    obtain ⟨_, vs, e1, e2⟩ := ho 0 b l rfl rfl
    exact Dens.cons ⟨b, vs, rfl, .inl ⟨.inl e1, hn b List.mem_cons_self⟩, e2.less hm⟩ (dens_nest hm (by simpa using h) (fun k b' l' q1 q2 => ho (k + 1) b' l' q1 q2) fun b' hb => hn b' (List.mem_cons_of_mem _ hb))
/-- the nest becomes plain data -/
theorem Rel.plain (R : Rel K (f.nest K q as ls) (f.nest K q as ls).S c σ γ) (h0 : ∀ b, b ∈ q :: as → f.c0.H b = none ∧ ¬ f.kp.X b) {i : Nat} (e : γ[i]? = some (hdq q)) :
    ∃ c1 : Cf, c1.H = c.H ∧ PExt K c c1 ∧ Rel K f f.S c1 σ (γ.set i (.pu (.lst (ls.map .lst)))) := by
  have hq := held R e
  obtain ⟨R0, hN⟩ := R.unlay
  have hn : ∀ j, ownAt γ j = true → ∀ b, b ∈ q :: as → σ[j]? ≠ some (some (.ref b)) := fun j hj b hb hs => by
    obtain ⟨s, e1, o⟩ := ownAt_some hj
    obtain ⟨a, l, h1, h2, _⟩ := R.ownA e1 o
    rw [hs] at h1
    cases h1
    exact h2.2 (.inr hb)
  have R1 := R0.delL (as := q :: as) (fun b hb => (h0 b hb).1) (fun b hb => (h0 b hb).2) hn
  have hd : Den K ⟨fun a => c.M a ∧ a ∉ q :: as, c.H⟩ (.lst (ls.map .lst)) (.ref q) :=
    ⟨q, as.map V.ref, rfl, .inl ⟨.inl hN.out.2, fun z => z.2 List.mem_cons_self⟩, dens_nest (fun _ z => z.1) hN.len hN.ins fun b hb z => z.2 (List.mem_cons_of_mem _ hb)⟩
  have R2 := R1.setP hd i
  have es : σ.set i (some (.ref q)) = σ := by
    refine List.ext_getElem? fun j => ?_
    by_cases hj : i = j
    · subst hj
      have hl := (List.getElem?_eq_some_iff.mp hq).1
      rw [List.getElem?_set_self hl, hq]
    · rw [List.getElem?_set_ne hj]
  rw [es] at R2
  exact ⟨⟨fun a => c.M a ∧ a ∉ q :: as, c.H⟩, rfl, fun d v h => h.less fun _ z => z.1, R2⟩
end
section
variable {X : Cx} {W : WX} {pos p2 sp epos : Pos} {tg iter : Expr} {scope : Scope} {own : List (Str × Nat)} {gs : Gm → Rs (List D)} {k : Kt} {ts : List Nat} {s : Stmt} {rest : List Stmt} {h : Gm → Out} {r : NR} {H : Gm → Out}
/-- y = [[] for .. in ..]; a statement that appends to the inner lists; what follows sees plain data -/
theorem mss_nest {i : Nat} {y : Str} (hc : X.calm = true) (hN : X.N.Nodup) (hy : X.N[i]? = some y) (hl : X.env.scope.names.lookup y = some .local)
    (hsw : swapsWith (.ListComp (.List [] epos) [{ target := tg, iter := iter, ifs := [], is_async := 0 }] scope pos) (some (.Name y p2)) sp.line X.env = pure true) (hi : MI X W tg iter gs) (hb : BlkOk X.N X.env.scope scope own) (hg : Blk X scope fun Y => MG Y tg ts k)
    (hts : ∀ j ∈ ts, j ∈ own.map (·.2)) (mid : NS X W s r) (tail : MSs X W rest h)
    (hH : ∀ γ, H γ ≠ .no → ∃ l γ1 ys γE, gs γ = .ok l γ1 ∧ l.length ≤ sizeLine ∧ (own.map (·.2)).all (fun i => !ownAt γ1 i) = true ∧ lcL k gYes gNo (own.map (·.2)) l (wipeG γ1 (own.map (·.2))) = .ok ys γE ∧
      ∀ q, ∃ g ls, r q ((restG γ1 γE (own.map (·.2))).set i (hdq q)) (l.map fun _ => []) g ls ∧ g[i]? = some (hdq q) ∧ H γ = h (g.set i (.pu (.lst (ls.map .lst)))))
    (hs : ∀ x, foldedSetIterable iter X.env x = pure x := by intro _; rfl) :
    MSs X W (.Assign [.Name y p2] (.ListComp (.List [] epos) [{ target := tg, iter := iter, ifs := [], is_async := 0 }] scope pos) sp :: s :: rest) H := by
  obtain ⟨wi, h1, s1⟩ := hi
  obtain ⟨g, h2, s2⟩ := blk_pg hg
  obtain ⟨tt, h3, s3⟩ := blk_pt (X := X) (scope := scope) (ifs := []) (g := gYes) (fun _ _ _ _ _ => mts_nil)
  obtain ⟨te, h4, s4⟩ : ∃ te, (Blk X scope fun Y => PE Y (.List [] epos) te) ∧ Sim X Wn (vF X.K) te gNil :=
    ⟨fun σ H Q => ∀ t, (∃ s H C cl fp, PE (X.blk s H scope (compEnvC scope cl C X.env) fp) (.List [] epos) t) → Sim X Wn (vF X.K) t gNil → t σ H Q,
      fun s H C cl fp => let ⟨t, h1, s1⟩ := (mf_lst (X := X.blk s H scope (compEnvC scope cl C X.env) fp) (W := Wn) md_nil : MF (X.blk s H scope (compEnvC scope cl C X.env) fp) Wn (.List [] epos) gNil); ⟨fun pn sh σ Hh Q inv hw => h1.run pn sh σ Hh Q inv (hw t ⟨s, H, C, cl, fp, h1⟩ s1)⟩,
      fun f S c σ γ Q R hp t _ s1 => s1 f S c σ γ Q R hp⟩
  obtain ⟨t2, p2', n2⟩ := mid
  obtain ⟨t3, p3, n3⟩ := tail
  refine ⟨_, pss_cons (ps_setLc hc hN hy hl hsw h1 hb h2 h3 h4 hs) (pss_cons p2' p3), fun f c σ γ T R hp => ?_⟩
  have hno : H γ ≠ .no := fun z => by rw [z] at hp; exact hp
  obtain ⟨l, γ1, ys, γE, eg, hz, hv, eT, hr⟩ := hH γ hno
  show tLc wi g tt te (own.map (·.2)) σ c.H (fun x H1 => t2 { T with nx := t3 T } (σ.set i (some x)) H1)
  refine sim_lcN s1 s2 hts s3 s4 (S := f.S) R eg hz hv eT fun p as c' px R' kd hNst hfr => ?_
  obtain ⟨g', ls, er, eg', eH⟩ := hr p
  have R1 := R'.lay hNst fun j hj b hb => fresh_slot R kd (hfr b hb) j hj
  have R2 := R1.setP (d := .ob (.exn p none none)) (v := .ref p) ⟨rfl, rfl⟩ i
  have h0 : ∀ b, b ∈ p :: as → f.c0.H b = none ∧ ¬ f.kp.X b := fun b hb => ⟨R.ext.noneS R.wf (hfr b hb), R.notX (hfr b hb)⟩
  refine n2 f c' _ _ _ _ p as g' ls R2 h0 er fun σ' c'' px2 R3 => ?_
  obtain ⟨c1, e1, px3, R4⟩ := R3.plain h0 eg'
  rw [eH] at hp
  have := n3 f c1 σ' _ T R4 (SPost.pre ((px.trans px2).trans px3) hp)
  rw [e1] at this
  exact this
end
end Fv

set_option maxHeartbeats 4000000
namespace Fv
variable [LC : LamC]
open PySem L2
/-! ### functions that do not look at a slot -/
def BlG {α : Type} (i : Nat) (g : Gm → Rs α) : Prop := ∀ γ a γ1 x, g γ = .ok a γ1 → γ1.length = γ.length ∧ g (γ.set i x) = .ok a (γ1.set i x)
def ParS (i : Nat) (h : Gm → Out) : Prop := ∀ γ γ1 x, h γ = .nx γ1 → γ1.length = γ.length ∧ h (γ.set i x) = .nx (γ1.set i x)
def ParK (i : Nat) (k : Kt) : Prop := ∀ d γ γ1 x, k d γ = some γ1 → γ1.length = γ.length ∧ k d (γ.set i x) = some (γ1.set i x)
def ParL (i : Nat) (k : List D → Gm → Option Gm) : Prop := ∀ d γ γ1 x, k d γ = some γ1 → γ1.length = γ.length ∧ k d (γ.set i x) = some (γ1.set i x)
section
variable {α β : Type} {i j : Nat} {ga gb : Gm → Rs D} {gs : Gm → Rs (List D)} {d : D}
theorem par_ok {a : α} : BlG i (fun γ => .ok a γ) := fun γ a' γ1 x h => by cases h; exact ⟨rfl, rfl⟩
theorem par_no : BlG (α := α) i (fun _ => .no) := fun γ a' γ1 x h => by cases h
theorem par_ofO {o : Option α} : BlG i (fun γ => ofO o γ) := by
  cases o with
  | none => exact par_no
  | some a => exact par_ok
theorem par_bind {g : Gm → Rs α} {k : α → Gm → Rs β} (h : BlG i g) (hk : ∀ a, BlG i (k a)) : BlG i (fun γ => (g γ).bind k) := fun γ b γ1 x e => by
  obtain ⟨a, γ2, e1, e2⟩ := bind_ok e
  obtain ⟨l1, q1⟩ := h γ a γ2 x e1
  obtain ⟨l2, q2⟩ := hk a γ2 b γ1 x e2
  exact ⟨l2.trans l1, by show (g (γ.set i x)).bind k = _; rw [q1, Rs.bind_ok, q2]⟩
theorem par_c : BlG i (gC d) := par_ok
theorem par_var (n : j ≠ i) : BlG i (gVar j) := fun γ a γ1 x h => by
  unfold gVar at h ⊢
  rw [List.getElem?_set_ne n.symm]
  split at h
  · rename_i d e
    cases h
    rw [e]
    exact ⟨rfl, rfl⟩
  · cases h
theorem par_own (n : j ≠ i) : BlG i (gOwn j) := fun γ a γ1 x h => by
  unfold gOwn at h ⊢
  rw [List.getElem?_set_ne n.symm]
  split at h
  · rename_i d e; cases h; rw [e]; exact ⟨rfl, rfl⟩
  · rename_i d e; cases h; rw [e]; exact ⟨rfl, rfl⟩
  · cases h
theorem par_g1 {p : D → Option D} (h : BlG i ga) : BlG i (g1 p ga) := par_bind h fun _ => par_ofO
theorem par_g2 {p : D → D → Option D} (h : BlG i ga) (h2 : BlG i gb) : BlG i (g2 p ga gb) := par_bind h fun _ => par_bind h2 fun _ => par_ofO
theorem par_tst (h : BlG i ga) : BlG i (gTst ga) := par_bind h fun a => by
  cases a <;> first | exact par_ok | exact par_no
theorem par_nil : BlG i gNil := par_ok
theorem par_cons (h : BlG i ga) (h2 : BlG i gs) : BlG i (gCons ga gs) := par_bind h fun _ => par_bind h2 fun _ => par_ok
theorem par_gB {p : List D → Option D} (h : BlG i gs) : BlG i (gB p gs) := par_bind h fun _ => par_ofO
theorem par_ixO (n : j ≠ i) (h : BlG i gb) : BlG i (gIxO j gb) := par_bind (par_own n) fun _ => par_bind h fun _ => par_bind (par_own n) fun _ => par_ofO
theorem par_enum (h : BlG i ga) : BlG i (gEnum ga) := par_bind h fun _ => par_ofO
theorem par_rng (h : BlG i ga) : BlG i (gRng1 ga) := par_bind h fun _ => par_ofO
theorem parK_set (n : j ≠ i) : ParK i (kSet j) := fun d γ γ1 x h => by
  cases h
  refine ⟨by rw [List.length_set], ?_⟩
  show some ((γ.set i x).set j (.pu d)) = some ((γ.set j (.pu d)).set i x)
  rw [List.set_comm _ _ n.symm]
theorem parL_nil : ParL i kNil := fun d γ γ1 x h => by
  cases d with
  | nil => cases h; exact ⟨rfl, rfl⟩
  | cons _ _ => cases h
theorem parL_cons {k : Kt} {ks : List D → Gm → Option Gm} (h1 : ParK i k) (h2 : ParL i ks) : ParL i (kCons k ks) := fun d γ γ1 x h => by
  cases d with
  | nil => cases h
  | cons d l =>
    have h' : (k d γ).bind (fun γ1 => ks l γ1) = some γ1 := h
    cases e : k d γ with
    | none => rw [e] at h'; cases h'
    | some γ2 =>
      rw [e] at h'
      obtain ⟨l1, q1⟩ := h1 d γ γ2 x e
      obtain ⟨l2, q2⟩ := h2 l γ2 γ1 x h'
      refine ⟨l2.trans l1, ?_⟩
      show (k d (γ.set i x)).bind (fun γ1 => ks l γ1) = _
      rw [q1]
      exact q2
theorem parK_tup {n : Nat} {ks : List D → Gm → Option Gm} (h : ParL i ks) : ParK i (kTup n ks) := fun d γ γ1 x e => by
  cases d with
  | tup l =>
    have e' : (if l.length = n then ks l γ else none) = some γ1 := e
    by_cases hl : l.length = n
    · rw [if_pos hl] at e'
      obtain ⟨l1, q1⟩ := h l γ γ1 x e'
      refine ⟨l1, ?_⟩
      show (if l.length = n then ks l (γ.set i x) else none) = _
      rw [if_pos hl, q1]
    · rw [if_neg hl] at e'; cases e'
  | _ => cases e
theorem parS_no : ParS i (fun _ => .no) := fun γ γ1 x h => by cases h
theorem parS_out {g : Gm → Rs α} {k : α → Gm → Out} (h : BlG i g) (hk : ∀ a, ParS i (k a)) : ParS i (fun γ => (g γ).out k) := fun γ γ1 x e => by
  cases e1 : g γ with
  | no =>
    have e' : (g γ).out k = .nx γ1 := e
    rw [e1] at e'; cases e'
  | ex n fs g' =>
    have e' : (g γ).out k = .nx γ1 := e
    rw [e1] at e'; cases e'
  | ok a γ2 =>
    have e' : (g γ).out k = .nx γ1 := e
    rw [e1] at e'
    obtain ⟨l1, q1⟩ := h γ a γ2 x e1
    obtain ⟨l2, q2⟩ := hk a γ2 γ1 x e'
    refine ⟨l2.trans l1, ?_⟩
    show (g (γ.set i x)).out k = _
    rw [q1]
    exact q2
theorem parS_putO (n : j ≠ i) {F : List D → Option (List D)} : ParS i (fun γ => match putO j F γ with
      | some γ5 => .nx γ5
      | none => .no) := fun γ γ1 x h => by
  cases e : putO j F γ with
  | none => simp only [e] at h; cases h
  | some γ2 =>
    simp only [e] at h
    cases h
    have key : γ1.length = γ.length ∧ putO j F (γ.set i x) = some (γ1.set i x) := by
      unfold putO at e ⊢
      rw [List.getElem?_set_ne n.symm]
      split at e
      · rename_i l q
        cases hF : F l with
        | none => rw [hF] at e; cases e
        | some m =>
          rw [hF] at e
          cases e
          refine ⟨by rw [List.length_set], ?_⟩
          simp only [q, hF, Option.map_some]
          rw [List.set_comm _ _ n.symm]
      · rename_i l q
        cases hF : F l with
        | none => rw [hF] at e; cases e
        | some m =>
          rw [hF] at e
          cases e
          refine ⟨by rw [List.length_set], ?_⟩
          simp only [q, hF, Option.map_some]
          rw [List.set_comm _ _ n.symm]
      · cases e
    exact ⟨key.1, by simp only [key.2]⟩
theorem parS_augS (n : j ≠ i) {F : Int → Int → Int} (hb : BlG i gb) (ha : BlG i ga) : ParS i (hAugS j F gb ga) := by
  have e : hAugS j F gb ga = fun γ => hAugS j F gb ga γ := rfl
  rw [e]
  simp only [e_hAugS]
  refine parS_out (par_own n) fun _ => parS_out hb fun a => parS_out (par_own n) fun o => ?_
  cases a with
  | int k =>
    by_cases hk : 0 ≤ k
    · simp only [if_pos hk]
      refine parS_out par_ofO fun d => parS_out ha fun e => ?_
      cases d with
      | int m => cases e with
        | int n' => exact parS_putO n
        | _ => exact parS_no
      | _ => exact parS_no
    · simp only [if_neg hk]
      exact parS_no
  | _ => exact parS_no
end
end Fv

set_option maxHeartbeats 4000000
namespace Fv
variable [LC : LamC]
open PySem L2
/-! ### what a statement over a nest does, computed -/
abbrev NX := Gm → LS → Option (Gm × LS)
def nSt (h : Gm → Out) : NX := fun γ ls => match h γ with
  | .nx g => some (g, ls)
  | _ => none
def nNil : NX := fun γ ls => some (γ, ls)
def nSeq (a b : NX) : NX := fun γ ls => (a γ ls).bind fun z => b z.1 z.2
def nIf (ta : Gm → Rs Bool) (a b : NX) : NX := fun γ ls => match ta γ with
  | .ok true g => a g ls
  | .ok false g => b g ls
  | _ => none
def nApp (gb ga : Gm → Rs D) : NX := fun γ ls => match gb γ with
  | .ok (.int k) γ1 => match ga γ1 with
    | .ok d g => if 0 ≤ k then match ls[k.toNat]? with
        | some l => if l.length < sizeLine then some (g, ls.set k.toNat (l ++ [d])) else none
        | none => none
      else none
    | _ => none
  | _ => none
def nLoop (k : Kt) (n : NX) : List D → NX
  | [] => nNil
  | d :: l => fun γ ls => (k d γ).bind fun γ1 => (n γ1 ls).bind fun z => nLoop k n l z.1 z.2
def nFor (gs : Gm → Rs (List D)) (k : Kt) (n : NX) : NX := fun γ ls => match gs γ with
  | .ok l γ1 => nLoop k n l γ1 ls
  | _ => none
def OkN (i : Nat) (n : NX) (r : NR) : Prop := ∀ γ ls g ls' q, γ[i]? = some .un → n γ ls = some (g, ls') → g[i]? = some .un ∧ r q (γ.set i (hdq q)) ls (g.set i (hdq q)) ls'
theorem set_un {γ : Gm} {i : Nat} (e : γ[i]? = some .un) : γ.set i .un = γ := by
  refine List.ext_getElem? fun j => ?_
  by_cases hj : i = j
  · subst hj
    rw [List.getElem?_set_self (List.getElem?_eq_some_iff.mp e).1, e]
  · rw [List.getElem?_set_ne hj]
theorem un_of {γ γ1 : Gm} {i : Nat} (e : γ[i]? = some .un) (hl : γ1.length = γ.length) (h : γ1 = γ1.set i .un) : γ1[i]? = some .un := by
  rw [h, List.getElem?_set_self (by rw [hl]; exact (List.getElem?_eq_some_iff.mp e).1)]
theorem BlG.un {α : Type} {i : Nat} {g : Gm → Rs α} (b : BlG i g) {γ γ1 : Gm} {a : α} (e : γ[i]? = some .un) (h : g γ = .ok a γ1) : γ1[i]? = some .un := by
  obtain ⟨h1, h2⟩ := b γ a γ1 .un h
  rw [set_un e, h] at h2
  injection h2 with _ h3
  exact un_of e h1 h3
theorem ParS.un {i : Nat} {h : Gm → Out} (b : ParS i h) {γ γ1 : Gm} (e : γ[i]? = some .un) (q : h γ = .nx γ1) : γ1[i]? = some .un := by
  obtain ⟨h1, h2⟩ := b γ γ1 .un q
  rw [set_un e, q] at h2
  injection h2 with h3
  exact un_of e h1 h3
theorem ParK.un {i : Nat} {k : Kt} (b : ParK i k) {γ γ1 : Gm} {d : D} (e : γ[i]? = some .un) (q : k d γ = some γ1) : γ1[i]? = some .un := by
  obtain ⟨h1, h2⟩ := b d γ γ1 .un q
  rw [set_un e, q] at h2
  exact un_of e h1 (Option.some.inj h2)
section
variable {i : Nat} {h : Gm → Out} {n n' : NX} {r r' : NR} {ta : Gm → Rs Bool} {ga gb : Gm → Rs D} {gs : Gm → Rs (List D)} {k : Kt}
theorem ok_st (b : ParS i h) : OkN i (nSt h) (rSt h) := fun γ ls g ls' q e hn => by
  unfold nSt at hn
  cases eh : h γ with
  | nx g' =>
    rw [eh] at hn
    cases hn
    exact ⟨b.un e eh, (b γ g (hdq q) eh).2, rfl⟩
  | _ => rw [eh] at hn; cases hn
theorem ok_nil : OkN i nNil rNil := fun γ ls g ls' q e hn => by
  cases hn
  exact ⟨e, rfl, rfl⟩
theorem ok_seq (a : OkN i n r) (b : OkN i n' r') : OkN i (nSeq n n') (rSeq r r') := fun γ ls g ls' q e hn => by
  have hn' : (n γ ls).bind (fun z => n' z.1 z.2) = some (g, ls') := hn
  cases e1 : n γ ls with
  | none => rw [e1] at hn'; cases hn'
  | some z =>
    rw [e1] at hn'
    obtain ⟨u1, q1⟩ := a γ ls z.1 z.2 q e e1
    obtain ⟨u2, q2⟩ := b z.1 z.2 g ls' q u1 hn'
    exact ⟨u2, _, _, q1, q2⟩
theorem ok_if (t : BlG i ta) (a : OkN i n r) (b : OkN i n' r') : OkN i (nIf ta n n') (rIf ta r r') := fun γ ls g ls' q e hn => by
  unfold nIf at hn
  cases et : ta γ with
  | no => rw [et] at hn; cases hn
  | ex _ _ _ => rw [et] at hn; cases hn
  | ok v γ1 =>
    rw [et] at hn
    have u := t.un e et
    have t2 := (t γ v γ1 (hdq q) et).2
    cases v with
    | true =>
      obtain ⟨u1, q1⟩ := a γ1 ls g ls' q u hn
      exact ⟨u1, .inl ⟨_, t2, q1⟩⟩
    | false =>
      obtain ⟨u1, q1⟩ := b γ1 ls g ls' q u hn
      exact ⟨u1, .inr ⟨_, t2, q1⟩⟩
theorem ok_app (hb : BlG i gb) (ha : BlG i ga) : OkN i (nApp gb ga) (rApp i gb ga) := fun γ ls g ls' q e hn => by
  unfold nApp at hn
  cases eb : gb γ with
  | no => rw [eb] at hn; cases hn
  | ex _ _ _ => rw [eb] at hn; cases hn
  | ok v γ1 =>
    rw [eb] at hn
    cases v with
    | int k =>
      simp only at hn
      cases ea : ga γ1 with
      | no => rw [ea] at hn; cases hn
      | ex _ _ _ => rw [ea] at hn; cases hn
      | ok d g' =>
        rw [ea] at hn
        simp only at hn
        by_cases hk : 0 ≤ k
        · rw [if_pos hk] at hn
          obtain ⟨m, rfl⟩ := Int.eq_ofNat_of_zero_le hk
          rw [Int.toNat_natCast] at hn
          cases el : ls[m]? with
          | none => rw [el] at hn; cases hn
          | some l =>
            rw [el] at hn
            simp only at hn
            by_cases hz : l.length < sizeLine
            · rw [if_pos hz] at hn
              cases hn
              have u1 := hb.un e eb
              have hi := (List.getElem?_eq_some_iff.mp e).1
              exact ⟨ha.un u1 ea, m, d, _, l, List.getElem?_set_self hi, (hb γ _ γ1 (hdq q) eb).2, (ha γ1 _ g (hdq q) ea).2, el, hz, rfl⟩
            · rw [if_neg hz] at hn; cases hn
        · rw [if_neg hk] at hn; cases hn
    | _ => cases hn
theorem ok_loop (hk : ParK i k) (a : OkN i n r) : ∀ l : List D, OkN i (nLoop k n l) (rLoop k r l)
  | [] => ok_nil
  | d :: l => fun γ ls g ls' q e hn => by
    have hn' : (k d γ).bind (fun γ1 => (n γ1 ls).bind fun z => nLoop k n l z.1 z.2) = some (g, ls') := hn
    cases ek : k d γ with
    | none => rw [ek] at hn'; cases hn'
    | some γ1 =>
      rw [ek] at hn'
      have hn2 : (n γ1 ls).bind (fun z => nLoop k n l z.1 z.2) = some (g, ls') := hn'
      cases e1 : n γ1 ls with
      | none => rw [e1] at hn2; cases hn2
      | some z =>
        rw [e1] at hn2
        obtain ⟨u1, q1⟩ := a γ1 ls z.1 z.2 q (hk.un e ek) e1
        obtain ⟨u2, q2⟩ := ok_loop hk a l z.1 z.2 g ls' q u1 hn2
        exact ⟨u2, _, _, _, (hk d γ γ1 (hdq q) ek).2, q1, q2⟩
theorem ok_for (hg : BlG i gs) (hk : ParK i k) (a : OkN i n r) : OkN i (nFor gs k n) (rFor gs k r) := fun γ ls g ls' q e hn => by
  unfold nFor at hn
  cases eg : gs γ with
  | no => rw [eg] at hn; cases hn
  | ex _ _ _ => rw [eg] at hn; cases hn
  | ok l γ1 =>
    rw [eg] at hn
    obtain ⟨u, q1⟩ := ok_loop hk a l γ1 ls g ls' q (hg.un e eg) hn
    exact ⟨u, l, _, (hg γ l γ1 (hdq q) eg).2, q1⟩
end
/-- both: what the statement is known to do, and its computation -/
def NE (X : Cx) (W : WX) (i : Nat) (st : Stmt) (n : NX) : Prop := ∃ r, NS X W st r ∧ OkN i n r
def NEs (X : Cx) (W : WX) (i : Nat) (st : List Stmt) (n : NX) : Prop := ∃ r, NSs X W st r ∧ OkN i n r
section
variable {X : Cx} {W : WX} {pos p p1 p2 ps sp epos : Pos} {st : Stmt} {rest : List Stmt} {e b tg iter : Expr} {ga gb : Gm → Rs D} {h : Gm → Out} {ta : Gm → Rs Bool} {n n' : NX} {x : Str} {i : Nat} {gs : Gm → Rs (List D)} {k : Kt} {ts : List Nat} {body : List Stmt} {scope : Scope} {own : List (Str × Nat)}
theorem ne_st (hs : MS X W st h) (hp : ParS i h) : NE X W i st (nSt h) := ⟨_, ns_st hs, ok_st hp⟩
theorem nes_nil : NEs X W i [] nNil := ⟨_, nss_nil, ok_nil⟩
theorem nes_cons (a : NE X W i st n) (c : NEs X W i rest n') : NEs X W i (st :: rest) (nSeq n n') := let ⟨_, a1, a2⟩ := a; let ⟨_, c1, c2⟩ := c; ⟨_, nss_cons a1 c1, ok_seq a2 c2⟩
theorem ne_if {b1 b2 : List Stmt} (ht : MT X W e ta) (hp : BlG i ta) (a : NEs X W i b1 n) (c : NEs X W i b2 n') : NE X W i (.If e b1 b2 pos) (nIf ta n n') := let ⟨_, a1, a2⟩ := a; let ⟨_, c1, c2⟩ := c; ⟨_, ns_if ht a1 c1, ok_if hp a2 c2⟩
theorem ne_for (hp : PassesOwn (model X.prog X.w) X.A X.env X.xe) (hc : X.calm = true) (hi : MI X W tg e gs) (hgp : BlG i gs) (hg : MG X tg ts k) (hkp : ParK i k) (hb : NEs X W i body n) (hs : ∀ x, foldedSetIterable e X.env x = pure x := by intro _; rfl) : NE X W i (.For tg e body [] pos) (nFor gs k n) :=
  let ⟨_, a1, a2⟩ := hb; ⟨_, ns_for hp hc hi hg a1 hs, ok_for hgp hkp a2⟩
theorem ne_app (ho : PE X (.Name x p) (tVar i)) (hb : MP X W b gb) (hbp : BlG i gb) (ha : MP X W e ga) (hap : BlG i ga) (hpl0 : PlainIx b := by exact fun _ _ => rfl)
    (hsw : swapsWith (.Call (.Attribute (.Subscript (.Name x p) b ps) "append" p1) [e] [] p2) none pos.line X.env = pure false := by rfl)
    (hbase : attributeBase (.Subscript (.Name x p) b ps) "append" X.env (eval (.Subscript (.Name x p) b ps) X.env) = eval (.Subscript (.Name x p) b ps) X.env := by rfl)
    (hfew : ((backTo p2 (starEach [e] X.env)).all (fun x => !x.1) && (backToKw p2 (keywordEach [] X.env)).all (fun x => x.1.isSome) && decide ([e].length + ([] : List Keyword).length + (if ([] : List Keyword).isEmpty then 0 else 1) < 30)) = true := by rfl)
    (hline : (p1.endLine == p2.line) = true := by rfl) (hs : starEach [e] X.env = (false, eval e X.env) :: starEach [] X.env := by rfl) (hpl : (backTo p2 (starEach [] X.env)).any (·.1) = false := by rfl) :
    NE X W i (.Expr (.Call (.Attribute (.Subscript (.Name x p) b ps) "append" p1) [e] [] p2) pos) (nApp gb ga) := ⟨_, ns_app ho hb ha hpl0 hsw hbase hfew hline hs hpl, ok_app hbp hap⟩
def hNest (i : Nat) (gs : Gm → Rs (List D)) (k : Kt) (vs : List Nat) (n : NX) (h : Gm → Out) : Gm → Out := fun γ => match gs γ with
  | .ok l γ1 => if l.length ≤ sizeLine ∧ vs.all (fun i => !ownAt γ1 i) = true then match lcL k gYes gNo vs l (wipeG γ1 vs) with
      | .ok _ γE => match (restG γ1 γE vs)[i]? with
        | some .un => match n (restG γ1 γE vs) (l.map fun _ => []) with
          | some z => h (z.1.set i (.pu (.lst (z.2.map .lst))))
          | none => .no
        | _ => .no
      | _ => .no
    else .no
  | _ => .no
theorem mss_nestX {y : Str} (hc : X.calm = true) (hN : X.N.Nodup) (hy : X.N[i]? = some y) (hl : X.env.scope.names.lookup y = some .local)
    (hsw : swapsWith (.ListComp (.List [] epos) [{ target := tg, iter := iter, ifs := [], is_async := 0 }] scope pos) (some (.Name y p2)) sp.line X.env = pure true) (hi : MI X W tg iter gs) (hb : BlkOk X.N X.env.scope scope own) (hg : Blk X scope fun Y => MG Y tg ts k)
    (hts : ∀ j ∈ ts, j ∈ own.map (·.2)) (mid : NE X W i st n) (tail : MSs X W rest h)
    (hs : ∀ x, foldedSetIterable iter X.env x = pure x := by intro _; rfl) :
    MSs X W (.Assign [.Name y p2] (.ListComp (.List [] epos) [{ target := tg, iter := iter, ifs := [], is_async := 0 }] scope pos) sp :: st :: rest) (hNest i gs k (own.map (·.2)) n h) := by
  obtain ⟨r, m1, m2⟩ := mid
  refine mss_nest hc hN hy hl hsw hi hb hg hts m1 tail (fun γ hne => ?_) hs
  unfold hNest at hne ⊢
  cases eg : gs γ with
  | no => rw [eg] at hne; exact (hne rfl).elim
  | ex _ _ _ => rw [eg] at hne; exact (hne rfl).elim
  | ok l γ1 =>
    rw [eg] at hne
    simp only at hne ⊢
    by_cases hz : l.length ≤ sizeLine ∧ (own.map (·.2)).all (fun i => !ownAt γ1 i) = true
    · rw [if_pos hz] at hne ⊢
      cases eT : lcL k gYes gNo (own.map (·.2)) l (wipeG γ1 (own.map (·.2))) with
      | no => rw [eT] at hne; exact (hne rfl).elim
      | ex _ _ _ => rw [eT] at hne; exact (hne rfl).elim
      | ok ys γE =>
        rw [eT] at hne
        simp only at hne ⊢
        split at hne
        · rename_i eu
          cases en : n (restG γ1 γE (own.map (·.2))) (l.map fun _ => []) with
          | none => rw [en] at hne; exact (hne rfl).elim
          | some z =>
            refine ⟨l, γ1, ys, γE, rfl, hz.1, hz.2, eT, fun q => ?_⟩
            obtain ⟨u, rr⟩ := m2 _ _ z.1 z.2 q eu en
            have hlen := (List.getElem?_eq_some_iff.mp u).1
            refine ⟨z.1.set i (hdq q), z.2, rr, List.getElem?_set_self hlen, ?_⟩
            rw [List.set_set]
        · exact (hne rfl).elim
    · rw [if_neg hz] at hne; exact (hne rfl).elim
end
end Fv
namespace Fv
variable [LC : LamC]
open PySem
theorem d_addS {l m : List D} : dAdd (.lst l) (.lst m) = if l.length + m.length ≤ sizeLine then some (.lst (l ++ m)) else none := hide rfl
theorem sz_le : ∀ n : Nat, n < 100 → n ≤ sizeLine := fun n h => Nat.le_of_lt (sz_lt n h)
end Fv

set_option maxHeartbeats 2000000
/-! ### itertools.combinations of a list, at the level of the library -/
namespace Cb
open PySem PySem.Spec
open Sem (wp)
theorem mro : mroOf (.type "itertools.combinations") = pure [.type "itertools.combinations", .type "object"] := by rw [mroOf_type]; kernel_rfl
theorem lk_new : typeLookup (.type "itertools.combinations") "__new__" = pure (some (.builtin "itertools.combinations.__new__")) := by rw [typeLookup_type, builtinLookup_eq_fast]; kernel_rfl
theorem sub : isSubtype (.type "itertools.combinations") (.type "itertools.combinations") = pure true := by rw [isSubtype_type]; kernel_rfl
theorem sl_init : Slot "itertools.combinations" "__init__" "object.__init__" := .of (owner := "object") (n := "__init__") (by rw [typeLookup_type, builtinLookup_eq_fast]; kernel_rfl) (by decide +kernel) (by decide +kernel) (by decide +kernel) (by first | exact .inl (by decide +kernel) | exact .inr (by decide +kernel)) (by rw [isSubtype_type]; kernel_rfl)
theorem called : TypeCalled "itertools.combinations" "itertools.combinations.__new__" "object.__init__" := ⟨by decide +kernel, by decide +kernel, ⟨_, _, mro⟩, madeBy_type mro lk_new (by decide +kernel), by decide +kernel, sub, sl_init⟩
theorem tc2 (a b : Value) : checkTypeCall "itertools.combinations" ⟨[a, b], []⟩ = pure () := by kernel_rfl
theorem nc2 (a b : Value) : checkBuiltinCall "itertools.combinations.__new__" ⟨[.type "itertools.combinations", a, b], []⟩ = pure () := by kernel_rfl
theorem en_new : entryFor table "itertools.combinations.__new__" = some Builtin.«itertools.combinations.__new__» := entryFor_of_tree (by kernel_rfl)
theorem sl_iter : Slot "itertools.combinations" "__iter__" "itertools.combinations.__iter__" := .of (owner := "itertools.combinations") (n := "__iter__") (by rw [typeLookup_type, builtinLookup_eq_fast]; kernel_rfl) (by decide +kernel) (by decide +kernel) (by decide +kernel) (by first | exact .inl (by decide +kernel) | exact .inr (by decide +kernel)) sub
theorem sl_next : Slot "itertools.combinations" "__next__" "itertools.combinations.__next__" := .of (owner := "itertools.combinations") (n := "__next__") (by rw [typeLookup_type, builtinLookup_eq_fast]; kernel_rfl) (by decide +kernel) (by decide +kernel) (by decide +kernel) (by first | exact .inl (by decide +kernel) | exact .inr (by decide +kernel)) sub
theorem en_iter : entryFor table "itertools.combinations.__iter__" = some Builtin.«dict_keyiterator.__iter__» := entryFor_alias (id' := "dict_keyiterator.__iter__") (by kernel_rfl) (by first | rfl | decide +kernel | (unfold String.splitOn; simp +decide [String.splitOnAux])) (by decide +kernel) (by kernel_rfl)
theorem en_next : entryFor table "itertools.combinations.__next__" = some Builtin.«itertools.combinations.__next__» := entryFor_of_tree (by kernel_rfl)
theorem noDict : typeHasDict (.type "itertools.combinations") = false := by decide +kernel
theorem owner : Manifest.owners.lookup (String.ofList ['s', 'n', 'o', 'i', 't', 'a', 'n', 'i', 'b', 'm', 'o', 'c', '.', 's', 'l', 'o', 'o', 't', 'r', 'e', 't', 'i'].reverse) = some Manifest.sig_itertools_combinations := by kernel_rfl
theorem ar_iter (a : Value) : argsOk "itertools.combinations.__iter__" ⟨[a], []⟩ := by unfold argsOk; rw [signature?_of (id := "itertools.combinations.__iter__") (n := ['_', '_', 'r', 'e', 't', 'i', '_', '_']) (o := ['s', 'n', 'o', 'i', 't', 'a', 'n', 'i', 'b', 'm', 'o', 'c', '.', 's', 'l', 'o', 'o', 't', 'r', 'e', 't', 'i']) (by kernel_rfl) owner]; kernel_rfl
theorem ar_next (a : Value) : argsOk "itertools.combinations.__next__" ⟨[a], []⟩ := by unfold argsOk; rw [signature?_of (id := "itertools.combinations.__next__") (n := ['_', '_', 't', 'x', 'e', 'n', '_', '_']) (o := ['s', 'n', 'o', 'i', 't', 'a', 'n', 'i', 'b', 'm', 'o', 'c', '.', 's', 'l', 'o', 'o', 't', 'r', 'e', 't', 'i']) (by kernel_rfl) owner]; kernel_rfl

/-- the next choice of places, in the order of itertools -/
def stepC (n : Nat) (l : List Nat) : Option (List Nat) :=
  match ((List.range l.length).reverse.find? fun j => l.getD j 0 != j + n - l.length) with
  | none => none
  | some j => some (l.take j ++ (List.range (l.length - j)).map (l.getD j 0 + 1 + ·))
/-- the object: the pool, how far it is, what it gave last, the places -/
abbrev IsC (h : Heap) (a p : Addr) (flag : Int) (last : Value) (l : List Nat) : Prop := h.get? a = some { cls := .type "itertools.combinations", dict := none, data := .fields ([.ref p, rawInt flag, last] ++ l.map fun (j : Nat) => rawInt j).toArray, slots := #[] }
abbrev IsP (h : Heap) (p : Addr) (its : List Value) : Prop := h.get? p = some { cls := .type "tuple", data := .seq its.toArray }
theorem nums (l : List Nat) : (l.map fun (j : Nat) => rawInt j).map (fun | .int n _ => n.toNat | _ => 0) = l := by
  rw [List.map_map]
  have : ((fun | .int n _ => n.toNat | _ => 0) ∘ fun (j : Nat) => rawInt j : Nat → Nat) = id := by funext j; simp [rawInt]
  rw [this, List.map_id]
section
variable {prog : Program} {w : World} {A : Around} {E : Value → Shared → Prop} {s : Shared}
theorem iter_c {a p : Addr} {flag : Int} {last : Value} {l : List Nat} {Q : Value → Shared → Prop} (hit : IsC s.heap a p flag last l) (h : Q (.ref a) s) : wpAny (model prog w) A (pyIter (.ref a)) Q E s := by
  have hT : s.TypeIs (.ref a) "itertools.combinations" := ⟨_, hit, rfl⟩
  refine wpAny_pyIter_slot hT sl_iter (wpAny_call_entry sl_iter hT en_iter ?_ (ar_iter _))
  show wpAny _ _ (ret (.ref a)) _ _ s
  exact wpAny_pure ⟨_, rfl, "itertools.combinations", _, hT, sl_next.lookup, h⟩
theorem nums_c {a p : Addr} {flag : Int} {last : Value} {l : List Nat} {Q : List Nat → Shared → Prop} (hit : IsC s.heap a p flag last l) (h : Q l s) : wpAny (model prog w) A (Builtin.Itertools.itNumbersFrom (.ref a) 3) Q E s := by
  unfold Builtin.Itertools.itNumbersFrom
  show wpAny _ _ (load a >>= _) _ _ s
  refine wpAny_bind (wpAny_load hit (wpAny_pure ?_))
  have e := nums l
  exact e.symm ▸ h
theorem flag_c {a p : Addr} {flag : Int} {last : Value} {l : List Nat} {Q : Int → Shared → Prop} (hit : IsC s.heap a p flag last l) (h : Q flag s) : wpAny (model prog w) A (Builtin.Itertools.itIntField (.ref a) 1) Q E s := by
  unfold Builtin.Itertools.itIntField
  exact wpAny_bind (wpAny_field hit rfl (x := rawInt flag) rfl (wpAny_pure h))
theorem pool_c {p : Addr} {its : List Value} {Q : Array Value → Shared → Prop} (hp : IsP s.heap p its) (h : Q its.toArray s) : wpAny (model prog w) A (Builtin.Itertools.itPoolItems (.ref p)) Q E s := by
  unfold Builtin.Itertools.itPoolItems
  exact wpAny_bind (wpAny_seqItems hp rfl (wpAny_pure h))
theorem setf {a p : Addr} {flag flag2 : Int} {last : Value} {l : List Nat} {Q : Unit → Shared → Prop} (hit : IsC s.heap a p flag last l)
    (h : ∀ h', IsC h' a p flag2 last l → Heap.SameBut a s.heap h' → Q () { s with heap := h' }) : wpAny (model prog w) A (setField (.ref a) 1 (rawInt flag2)) Q E s := by
  refine wpAny_setField hit rfl (by simp) (h _ ?_ (Heap.SameBut.update ..))
  exact Heap.get?_update_self _ hit rfl
theorem setl {a p : Addr} {flag : Int} {last last2 : Value} {l : List Nat} {Q : Unit → Shared → Prop} (hit : IsC s.heap a p flag last l)
    (h : ∀ h', IsC h' a p flag last2 l → Heap.SameBut a s.heap h' → Q () { s with heap := h' }) : wpAny (model prog w) A (setField (.ref a) 2 last2) Q E s := by
  refine wpAny_setField hit rfl (by simp) (h _ ?_ (Heap.SameBut.update ..))
  exact Heap.get?_update_self _ hit rfl
theorem setn {a p : Addr} {flag : Int} {last : Value} {l m : List Nat} {Q : Unit → Shared → Prop} (hit : IsC s.heap a p flag last l) (hz : m.length ≤ sizeLine)
    (h : ∀ h', IsC h' a p flag last m → Heap.SameBut a s.heap h' → Q () { s with heap := h' }) : wpAny (model prog w) A (Builtin.Itertools.itSetNumbersFrom (.ref a) 3 m) Q E s := by
  unfold Builtin.Itertools.itSetNumbersFrom
  show wpAny _ _ (updateFields a _) _ _ s
  refine wpAny_updateFields hit rfl (h _ ?_ (Heap.SameBut.update ..)) (by simp; omega)
  exact (Heap.get?_update_self _ hit rfl).trans (by simp [Obj.mapFields])
/-- the tuple is made and kept -/
theorem hand {a p : Addr} {flag : Int} {last : Value} {l m : List Nat} {its : List Value} {Q : Fin → Shared → Prop} (hit : IsC s.heap a p flag last l) (hp : IsP s.heap p its) (hz : m.length ≤ sizeLine)
    (hQ : ∀ h', IsC h' a p flag (.ref s.heap.objs.size) l → IsP h' s.heap.objs.size (m.map fun j => its.toArray.getD j .none) → (∀ b o, b ≠ a → s.heap.get? b = some o → h'.get? b = some o) → Q (.done (.ret (.ref s.heap.objs.size))) { s with heap := h' }) :
    wpAny (model prog w) A (newTuple (m.map fun j => its.toArray.getD j .none)) (fun r s1 => wpAny (model prog w) A (do
      let b ← field (.ref a) 2
      setField (.ref a) 2 r
      letGo [b] [r]
      ret r) Q E s1) E s := by
  refine wpAny_newTuple ?_ (by simpa using hz)
  have hit2 : IsC (s.heap.push { cls := .type "tuple", data := .seq (m.map fun j => its.toArray.getD j .none).toArray }) a p flag last l := Heap.get?_push_of_some _ hit
  refine wpAny_bind (wpAny_field (s := { s with heap := _ }) hit2 rfl (x := last) rfl ?_)
  refine wpAny_bind (setl (s := { s with heap := _ }) hit2 fun h' i2 sb => ?_)
  refine wpAny_bind (wpAny_letGo ?_)
  have hal : a ≠ s.heap.objs.size := Nat.ne_of_lt (Heap.lt_size hit)
  refine wpAny_pure (hQ h' i2 ?_ fun b o hb e => ?_)
  · exact (sb.2 _ (Ne.symm hal)).trans (Heap.get?_push_size _ rfl)
  · exact (sb.2 _ hb).trans (Heap.get?_push_of_some _ e)
theorem next_first {a p : Addr} {last : Value} {l : List Nat} {its : List Value} {Q : Option Value → Shared → Prop} (hit : IsC s.heap a p 0 last l) (hp : IsP s.heap p its) (hz : l.length ≤ sizeLine) (hne : p ≠ a)
    (hQ : ∀ h', IsC h' a p 1 (.ref s.heap.objs.size) l → IsP h' p its → IsP h' s.heap.objs.size (l.map fun j => its.toArray.getD j .none) → (∀ b o, b ≠ a → s.heap.get? b = some o → h'.get? b = some o) → Q (some (.ref s.heap.objs.size)) { s with heap := h' }) :
    wpAny (model prog w) A (pyNext (.ref a)) Q E s := by
  have hT : s.TypeIs (.ref a) "itertools.combinations" := ⟨_, hit, rfl⟩
  unfold pyNext
  refine wpAny_bind (wpAny_attempt (wpAny_callSpecial?_slot (name := Str.ofString "__next__") hT sl_next (wpAny_call_entry sl_next hT en_next ?_ (ar_next _))))
  show wpAny _ _ (field (.ref a) 0 >>= _) _ _ s
  refine wpAny_bind (wpAny_field hit rfl (x := .ref p) rfl ?_)
  show wpAny _ _ (Builtin.Itertools.itNumbersFrom (.ref a) 3 >>= _) _ _ s
  refine wpAny_bind (nums_c hit ?_)
  refine wpAny_bind (flag_c hit ?_)
  show wpAny _ _ (setField (.ref a) 1 (rawInt 1) >>= _) _ _ s
  refine wpAny_bind (setf hit fun h1 i1 sb => ?_)
  show wpAny _ _ ((Builtin.Itertools.itPoolItems (.ref p) >>= _) >>= _) _ _ _
  have ph1 : IsP h1 p its := (sb.2 _ hne).trans hp
  refine wpAny_bind (wpAny_bind (pool_c (s := { s with heap := h1 }) ph1 ?_))
  refine hand (s := { s with heap := h1 }) i1 ph1 hz fun h2 i2 t2 k2 => ?_
  refine ⟨_, rfl, wpAny_pure ?_⟩
  have ez : h1.objs.size = s.heap.objs.size := sb.1
  have q := hQ h2 (ez ▸ i2) (k2 _ _ hne ph1) (ez ▸ t2) fun b o hb e => k2 b o hb ((sb.2 _ hb).trans e)
  show Q (some (.ref h1.objs.size)) { s with heap := h2 }
  rw [ez]; exact q
theorem next_more {a p : Addr} {last : Value} {l m : List Nat} {its : List Value} {Q : Option Value → Shared → Prop} (hit : IsC s.heap a p 1 last l) (hp : IsP s.heap p its) (hs : stepC its.length l = some m) (hz : m.length ≤ sizeLine) (hne : p ≠ a)
    (hQ : ∀ h', IsC h' a p 1 (.ref s.heap.objs.size) m → IsP h' p its → IsP h' s.heap.objs.size (m.map fun j => its.toArray.getD j .none) → (∀ b o, b ≠ a → s.heap.get? b = some o → h'.get? b = some o) → Q (some (.ref s.heap.objs.size)) { s with heap := h' }) :
    wpAny (model prog w) A (pyNext (.ref a)) Q E s := by
  have hT : s.TypeIs (.ref a) "itertools.combinations" := ⟨_, hit, rfl⟩
  unfold pyNext
  refine wpAny_bind (wpAny_attempt (wpAny_callSpecial?_slot (name := Str.ofString "__next__") hT sl_next (wpAny_call_entry sl_next hT en_next ?_ (ar_next _))))
  show wpAny _ _ (field (.ref a) 0 >>= _) _ _ s
  refine wpAny_bind (wpAny_field hit rfl (x := .ref p) rfl ?_)
  show wpAny _ _ (Builtin.Itertools.itNumbersFrom (.ref a) 3 >>= _) _ _ s
  refine wpAny_bind (nums_c hit ?_)
  refine wpAny_bind (flag_c hit ?_)
  show wpAny _ _ (Builtin.Itertools.itPoolItems (.ref p) >>= _) _ _ s
  refine wpAny_bind (pool_c hp ?_)
  have hs' : stepC its.toArray.size l = some m := by rw [List.size_toArray]; exact hs
  split
  · rename_i next hn
    have e : next = m := by
      have : stepC its.toArray.size l = some next := hn
      rw [hs'] at this; exact (Option.some.inj this).symm
    subst e
    refine wpAny_bind (setn hit hz fun h1 i1 sb => ?_)
    have ph1 : IsP h1 p its := (sb.2 _ hne).trans hp
    show wpAny _ _ ((Builtin.Itertools.itPoolItems (.ref p) >>= _) >>= _) _ _ _
    refine wpAny_bind (wpAny_bind (pool_c (s := { s with heap := h1 }) ph1 ?_))
    refine hand (s := { s with heap := h1 }) i1 ph1 hz fun h2 i2 t2 k2 => ?_
    refine ⟨_, rfl, wpAny_pure ?_⟩
    have ez : h1.objs.size = s.heap.objs.size := sb.1
    have q := hQ h2 (ez ▸ i2) (k2 _ _ hne ph1) (ez ▸ t2) fun b o hb e => k2 b o hb ((sb.2 _ hb).trans e)
    show Q (some (.ref h1.objs.size)) { s with heap := h2 }
    rw [ez]; exact q
  · rename_i hn
    have : stepC its.toArray.size l = none := hn
    rw [hs'] at this; cases this
theorem next_end {a p : Addr} {last : Value} {l : List Nat} {its : List Value} {Q : Option Value → Shared → Prop} (hh : A.handled = none) (hit : IsC s.heap a p 1 last l) (hp : IsP s.heap p its) (hs : stepC its.length l = none)
    (hQ : ∀ h', Heap.ExtBut a s.heap h' → Q none { s with heap := h' }) :
    wpAny (model prog w) A (pyNext (.ref a)) Q E s := by
  have hT : s.TypeIs (.ref a) "itertools.combinations" := ⟨_, hit, rfl⟩
  unfold pyNext
  refine wpAny_bind (wpAny_attempt (wpAny_callSpecial?_slot (name := Str.ofString "__next__") hT sl_next (wpAny_call_entry sl_next hT en_next ?_ (ar_next _))))
  show wpAny _ _ (field (.ref a) 0 >>= _) _ _ s
  refine wpAny_bind (wpAny_field hit rfl (x := .ref p) rfl ?_)
  show wpAny _ _ (Builtin.Itertools.itNumbersFrom (.ref a) 3 >>= _) _ _ s
  refine wpAny_bind (nums_c hit ?_)
  refine wpAny_bind (flag_c hit ?_)
  show wpAny _ _ (Builtin.Itertools.itPoolItems (.ref p) >>= _) _ _ s
  refine wpAny_bind (pool_c hp ?_)
  have hs' : stepC its.toArray.size l = none := by rw [List.size_toArray]; exact hs
  split
  · rename_i next hn
    have : stepC its.toArray.size l = some next := hn
    rw [hs'] at this; cases this
  · refine wpAny_bind (setf hit fun h1 i1 sb => ?_)
    (show wpAny _ _ (newExc (.type "StopIteration") [] >>= _) _ _ _; refine wpAny_bind ?_; simp only [newExc, newTuple]; refine wpAny_bind (wpAny_newObj_type ?_ (by size_fits)); refine wpAny_bind (m := firstArgMember _ _) (wpAny_of_eq (a := Value.none) (by first | rfl | (simp only [firstArgMember]; rfl)) ?_); refine wpAny_newObj_type ?_ (by size_fits); simp only [raiseNew]; refine wpAny_bind (wpAny_handled ?_); first | rw [show A.in1.handled = none from hh] | rw [hh])
    (refine wpAny_bind (wpAny_pure (wpAny_throw ?_)); refine wpAny_bind (wpAny_isInstance (T := "StopIteration") (b := true) ⟨_, Heap.get?_push_size _ rfl, rfl⟩ isSubtype_stop ?_))
    exact wpAny_pure (hQ _ ((sb.extBut.push _).push _))
theorem next_over {a p : Addr} {last : Value} {l : List Nat} {Q : Option Value → Shared → Prop} (hh : A.handled = none) (hit : IsC s.heap a p 2 last l)
    (hQ : ∀ h', Heap.ExtBut a s.heap h' → Q none { s with heap := h' }) :
    wpAny (model prog w) A (pyNext (.ref a)) Q E s := by
  have hT : s.TypeIs (.ref a) "itertools.combinations" := ⟨_, hit, rfl⟩
  unfold pyNext
  refine wpAny_bind (wpAny_attempt (wpAny_callSpecial?_slot (name := Str.ofString "__next__") hT sl_next (wpAny_call_entry sl_next hT en_next ?_ (ar_next _))))
  show wpAny _ _ (field (.ref a) 0 >>= _) _ _ s
  refine wpAny_bind (wpAny_field hit rfl (x := .ref p) rfl ?_)
  show wpAny _ _ (Builtin.Itertools.itNumbersFrom (.ref a) 3 >>= _) _ _ s
  refine wpAny_bind (nums_c hit ?_)
  refine wpAny_bind (flag_c hit ?_)
  refine wpAny_bind (wpAny_rule ?_)
  (show wpAny _ _ (newExc (.type "StopIteration") [] >>= _) _ _ _; refine wpAny_bind ?_; simp only [newExc, newTuple]; refine wpAny_bind (wpAny_newObj_type ?_ (by size_fits)); refine wpAny_bind (m := firstArgMember _ _) (wpAny_of_eq (a := Value.none) (by first | rfl | (simp only [firstArgMember]; rfl)) ?_); refine wpAny_newObj_type ?_ (by size_fits); simp only [raiseNew]; refine wpAny_bind (wpAny_handled ?_); first | rw [show A.in1.handled = none from hh] | rw [hh])
  (refine wpAny_bind (wpAny_pure (wpAny_throw ?_)); refine wpAny_bind (wpAny_isInstance (T := "StopIteration") (b := true) ⟨_, Heap.get?_push_size _ rfl, rfl⟩ isSubtype_stop ?_))
  exact wpAny_pure (hQ _ (((Heap.ExtBut.refl a s.heap).push _).push _))
end
theorem bindN (x y : Value) : Builtin.Itertools.itBindNamed "combinations" ["iterable", "r"] 2 2 [x, y] [] = pure [some x, some y] := by kernel_rfl
/-- the object is made: the list copied, the pool laid, the first places -/
theorem meets_new (l : Addr) (o : Obj) (items : Array Value) (nn : Nat) (r : Int) (t : Tok) (hc : o.cls = .type "list") (hd : o.data = .seq items nn) (h0 : 0 ≤ r) (h1 : r ≤ 1000) (hsz : items.size ≤ sizeLine) :
    Meets (Builtin.«itertools.combinations.__new__» ⟨[.type "itertools.combinations", .ref l, .int r t], []⟩)
      (fun _ R s => s.heap.get? l = some o ∧ ∀ (h1 h' : Heap) (p a : Addr), (∀ b ob, s.heap.get? b = some ob → h1.get? b = some ob) → IsC h' a p (if items.size < r.toNat then 2 else 0) .none (List.range r.toNat) → IsP h' p items.toList → p ≠ a → h1.objs.size ≤ p → h1.objs.size ≤ a → (∀ b ob, h1.get? b = some ob → h'.get? b = some ob) → R (.ok (.ret (.ref a))) { s with heap := h' }) :=
  .of_wp fun prog w A R s h => by
    obtain ⟨hp, g, dd, tk, os⟩ := s
    obtain ⟨ho, h⟩ := h
    have hsub := sub
    have hdict := noDict
    repeat wp_step
    refine wpAny_of_eq (a := true) (by rw [show ("itertools." ++ "combinations") = "itertools.combinations" from by decide +kernel]; exact sub) ?_
    refine wpAny_ite_false rfl ?_
    refine wpAny_pure ?_
    refine wpAny_bind (wpAny_of_eq (bindN _ _) ?_)
    refine wpAny_bind (m := Builtin.Itertools.itSsizeArg (.int r t)) ?_
    have hr : (decide (r < -(2 ^ 63 : Int)) || decide (r ≥ 2 ^ 63)) = false := by rw [decide_eq_false (by omega), decide_eq_false (by omega)]; rfl
    refine wpAny_ite_false (by rw [hr]; rfl) ?_
    refine wpAny_pure ?_
    refine wpAny_bind (wpAny_collect_seq l (.inl rfl) ho hc hd (fun h1 k1 => ?_) hsz)
    refine wpAny_ite_false (decide_eq_false (by omega)) ?_
    have tm : Builtin.Itertools.itTooMany r = false := by unfold Builtin.Itertools.itTooMany; exact decide_eq_false (by omega)
    refine wpAny_ite_false (by rw [tm]; rfl) ?_
    refine wpAny_bind (wpAny_newTuple ?_ (by simpa using hsz))
    refine wpAny_pure ?_
    refine wpAny_bind ?_
    refine wpAny_ite_true (by rw [hdict]; rfl) ?_
    refine wpAny_newObj_type ?_ (by show (_ : Array Value).size ≤ sizeLine + 2; rw [List.size_toArray, sizeLine_eq]; simp only [List.length_append, List.length_map, List.length_range, List.length_cons, List.length_nil]; omega)
    refine wpAny_pure ⟨_, rfl, ?_⟩
    have zs : (h1.push { cls := .type "tuple", data := .seq items.toList.toArray }).objs.size = h1.objs.size + 1 := Heap.size_push ..
    refine h h1 _ h1.objs.size _ k1 (Heap.get?_push_size _ rfl) ?_ ?_ (Nat.le_refl _) ?_ fun b ob e => ?_
    · exact Heap.get?_push_of_some _ (Heap.get?_push_size _ rfl)
    · exact Nat.ne_of_lt (by rw [zs]; exact Nat.lt_succ_self _)
    · rw [zs]; exact Nat.le_succ _
    · exact Heap.get?_push_of_some _ (Heap.get?_push_of_some _ e)
theorem call_c {prog : Program} {w : World} {A : Around} {E : Value → Shared → Prop} {s : Shared} {l : Addr} {items : Array Value} {r : Int} {t : Tok} {Q : Value → Shared → Prop} (hl : s.heap.IsList l items) (h0 : 0 ≤ r) (h1 : r ≤ 1000) (hsz : items.size ≤ sizeLine)
    (h : ∀ (h1 h' : Heap) (p a : Addr), (∀ b ob, s.heap.get? b = some ob → h1.get? b = some ob) → IsC h' a p (if items.size < r.toNat then 2 else 0) .none (List.range r.toNat) → IsP h' p items.toList → p ≠ a → h1.objs.size ≤ p → h1.objs.size ≤ a → (∀ b ob, h1.get? b = some ob → h'.get? b = some ob) → Q (.ref a) { s with heap := h' }) :
    wpAny (model prog w) A (call (.type "itertools.combinations") [.ref l, .int r t]) Q E s := by
  obtain ⟨o, ho, hc, nn, hd⟩ := id hl
  refine callType_new called (by decide +kernel) (tc2 _ _) (nc2 _ _) (fun obj => F.args_object_init_3 obj _ _) en_new (meets_new l o items nn r t hc hd h0 h1 hsz) ⟨ho, fun h1 h' p a k1 q1 q2 q3 q4 q5 k2 => ?_⟩
  show _ ∧ _
  exact ⟨⟨_, q1, rfl⟩, h h1 h' p a k1 q1 q2 q3 q4 q5 k2⟩
end Cb

/-! ### itertools.combinations of a list -/
namespace Fv
variable [LC : LamC]
open PySem PySem.Spec L2 PyProof.Rows
/-- all choices from one on, None if they do not end -/
def runC (n : Nat) : Nat → List Nat → Option (List (List Nat))
  | 0, _ => none
  | f + 1, l => match Cb.stepC n l with
    | none => some [l]
    | some m => (runC n f m).map (l :: ·)
def allC (n r : Nat) : Option (List (List Nat)) := if n < r then some [] else match runC n 3000 (List.range r) with
  | some ls => if ls.all (fun l => decide (l.length = r) && l.all fun j => decide (j < n)) then some ls else none
  | none => none
theorem runC_head {n : Nat} : ∀ {f : Nat} {l : List Nat} {ls : List (List Nat)}, runC n f l = some ls → ls[0]? = some l
  | 0, _, _, h => by cases h
  | f + 1, l, ls, h => by
    unfold runC at h
    split at h
    · cases h; rfl
    · obtain ⟨k, e1, e2⟩ := Option.map_eq_some_iff.mp h
      rw [← e2]; rfl
theorem runC_step {n : Nat} : ∀ {f : Nat} {l : List Nat} {ls : List (List Nat)}, runC n f l = some ls → ∀ i x, ls[i]? = some x → Cb.stepC n x = ls[i + 1]?
  | 0, _, _, h, _, _, _ => by cases h
  | f + 1, l, ls, h, i, x, hx => by
    unfold runC at h
    split at h
    · rename_i hn
      cases h
      cases i with
      | zero =>
        have : l = x := by simpa using hx
        rw [← this, hn]; rfl
      | succ i => simp at hx
    · rename_i m hn
      obtain ⟨k, e1, e2⟩ := Option.map_eq_some_iff.mp h
      rw [← e2] at hx ⊢
      cases i with
      | zero =>
        have : l = x := by simpa using hx
        rw [← this, hn]
        exact (runC_head e1).symm
      | succ i =>
        have hx' : k[i]? = some x := by simpa using hx
        rw [runC_step e1 i x hx']; simp
structure OkC (n r : Nat) (ls : List (List Nat)) : Prop where
  few : n < r → ls = []
  head : ¬ n < r → ls[0]? = some (List.range r)
  step : ∀ (i : Nat) (x : List Nat), ls[i]? = some x → Cb.stepC n x = ls[i + 1]?
  good : ∀ (i : Nat) (x : List Nat), ls[i]? = some x → x.length = r ∧ ∀ j, j ∈ x → j < n
theorem allC_ok {n r : Nat} {ls : List (List Nat)} (h : allC n r = some ls) : OkC n r ls := by
  unfold allC at h
  split at h
  · rename_i hlt
    cases h
    exact ⟨fun _ => rfl, fun z => (z hlt).elim, fun i x z => by simp at z, fun i x z => by simp at z⟩
  · rename_i hlt
    split at h
    · rename_i ks hk
      split at h
      · rename_i ha
        cases h
        refine ⟨fun z => (hlt z).elim, fun _ => runC_head hk, runC_step hk, fun i x hx => ?_⟩
        have h1 := List.all_eq_true.mp ha x (List.mem_of_getElem? hx)
        obtain ⟨h2, h3⟩ := Bool.and_eq_true_iff.mp h1
        exact ⟨of_decide_eq_true h2, fun j hj => of_decide_eq_true (List.all_eq_true.mp h3 j hj)⟩
      · cases h
    · cases h
def Icb (xs : List V) (ls : List (List Nat)) : It :=
  ⟨fun i H => i < ls.length, fun i H v H' => ∃ (q : Addr) (o : Obj) (ix : List Nat), v = .ref q ∧ H q = none ∧ o.dict = none ∧ ls[i]? = some ix ∧ H' = upd H q (.frz o (.tup (ix.map fun j => xs.getD j (.int 0)))), fun i H => i = ls.length⟩
theorem vals_pick {xs : List V} {its : List Value} (h : Vals xs its) : ∀ {ix : List Nat}, (∀ j, j ∈ ix → j < xs.length) → Vals (ix.map fun j => xs.getD j (.int 0)) (ix.map fun j => its.toArray.getD j .none)
  | [], _ => .nil
  | j :: ix, hj => by
    have h1 := hj j (List.mem_cons_self ..)
    obtain ⟨u, hu, ru⟩ := h.get (i := j) (x := xs[j]) (by simp [h1])
    refine .cons ?_ (vals_pick h fun k hk => hj k (List.mem_cons_of_mem _ hk))
    have e1 : xs.getD j (.int 0) = xs[j] := by simp [List.getD, h1]
    have e2 : its.toArray.getD j .none = u := by simp [Array.getD_eq_getD_getElem?, hu]
    show RelV (xs.getD j (.int 0)) (its.toArray.getD j .none)
    rw [e1, e2]; exact ru
theorem turn_c {P : Program} {w : World} {K : PySem.W.Frag} {tg : Expr} {a p : Addr} {xs : List V} {its : List Value} {n r : Nat} {ls : List (List Nat)} (rv : Vals xs its) (hn : its.length = n) (ok : OkC n r ls) (hr : r ≤ 1000) (hap : p ≠ a) :
    Turn P w K tg (Icb xs ls) [a, p] a (fun i h => Cb.IsP h p its ∧ ∃ (flag : Int) (last : Value) (l : List Nat), Cb.IsC h a p flag last l ∧ ((i = 0 ∧ flag = 0 ∧ ls[0]? = some l) ∨ (0 < i ∧ flag = 1 ∧ ls[i - 1]? = some l) ∨ (flag = 2 ∧ ls = []))) where
  mem := by simp
  obj := fun i h st c hc => by
    obtain ⟨hp, flag, last, l, hi, _⟩ := st
    rcases (show c = a ∨ c = p by simpa using hc) with q | q
    · rw [q]; exact ⟨_, hi, fun v q => nomatch q⟩
    · rw [q]; exact ⟨_, hp, fun v q => nomatch q⟩
  keep := fun i h h' st k => by
    obtain ⟨hp, flag, last, l, hi, z⟩ := st
    exact ⟨k p (by simp) _ hp, flag, last, l, k a (by simp) _ hi, z⟩
  item := by
    intro X hP hw hK hc i pins s σ H E I hf st hg
    subst hP hw hK
    obtain ⟨hp, flag, last, l, hi, z⟩ := st
    have hlt : i < ls.length := hg
    obtain ⟨ix, hix⟩ : ∃ ix, ls[i]? = some ix := ⟨ls[i], List.getElem?_eq_getElem hlt⟩
    have good := ok.good i ix hix
    have hzl : ix.length ≤ sizeLine := by rw [good.1, sizeLine_eq]; omega
    have hlen : xs.length = n := by rw [← hn]; exact rv.length
    have rvp := vals_pick rv (ix := ix) fun j hj => by rw [hlen]; exact good.2 j hj
    have hal : a < s.heap.objs.size := Heap.lt_size hi
    have hpl : p < s.heap.objs.size := Heap.lt_size hp
    have fin : ∀ h' : Heap, Cb.IsC h' a p 1 (.ref s.heap.objs.size) ix → Cb.IsP h' p its → Cb.IsP h' s.heap.objs.size (ix.map fun j => its.toArray.getD j .none) → (∀ b o, b ≠ a → s.heap.get? b = some o → h'.get? b = some o) →
        ∃ u, some (Value.ref s.heap.objs.size) = some u ∧ wpAny (model X.prog X.w) X.A (letOwnedTupleGo tg (.ref a) u) (fun _ s2 => ∃ x H', Inv X pins σ H' s2 ∧ RelV x u ∧ (Icb xs ls).yld i H x H' ∧ (Cb.IsP s2.heap p its ∧ ∃ (flag : Int) (last : Value) (l : List Nat), Cb.IsC s2.heap a p flag last l ∧ ((i + 1 = 0 ∧ flag = 0 ∧ ls[0]? = some l) ∨ (0 < i + 1 ∧ flag = 1 ∧ ls[i + 1 - 1]? = some l) ∨ (flag = 2 ∧ ls = []))) ∧ ∀ b ∈ [a, p], H' b = none) E { s with heap := h' } := by
      intro h' i1 p1 t1 k1
      refine ⟨_, rfl, go_of (s := { s with heap := h' }) i1 rfl rfl (by decide) ?_⟩
      have new : ObjOk X.prog X.w (upd H s.heap.objs.size (.frz (tupO (ix.map fun j => its.toArray.getD j .none)) (.tup (ix.map fun j => xs.getD j (.int 0))))) h' s.heap.objs.size (.frz (tupO (ix.map fun j => its.toArray.getD j .none)) (.tup (ix.map fun j => xs.getD j (.int 0)))) :=
        ⟨t1, by simpa using hzl, _, rvp, ⟨_, t1, rfl, _, rfl⟩⟩
      have I1 := I.turnedNew (t' := s.toks) (ch := [a, p]) (fun b o hb q => k1 b o (fun e => hb (by simp [e])) q) hf (Nat.le_refl _) new
      refine ⟨.ref s.heap.objs.size, _, I1, rfl, ⟨_, _, ix, rfl, I.hok.fresh (Nat.le_refl _), rfl, hix, rfl⟩, ⟨p1, 1, _, ix, i1, .inr (.inl ⟨Nat.succ_pos _, rfl, by simpa using hix⟩)⟩, fun b hb => ?_⟩
      have hb' : b < s.heap.objs.size := by
        rcases (show b = a ∨ b = p by simpa using hb) with q | q
        · rw [q]; exact hal
        · rw [q]; exact hpl
      rw [upd_ne (Nat.ne_of_lt hb')]
      exact (hf b hb).1
    rcases z with ⟨rfl, rfl, e⟩ | ⟨h0, rfl, e⟩ | ⟨rfl, e⟩
    · have : l = ix := by rw [hix] at e; exact (Option.some.inj e).symm
      subst this
      exact Cb.next_first hi hp hzl hap fun h' i1 p1 t1 k1 => fin h' i1 p1 t1 k1
    · have st := ok.step (i - 1) l e
      rw [show i - 1 + 1 = i by omega, hix] at st
      exact Cb.next_more hi hp (by rw [hn]; exact st) hzl hap fun h' i1 p1 t1 k1 => fin h' i1 p1 t1 k1
    · rw [e] at hlt; exact absurd hlt (Nat.not_lt_zero _)
  done := by
    intro X hP hw hK hc i pins s σ H E I hf st hg
    subst hP hw hK
    obtain ⟨hp, flag, last, l, hi, z⟩ := st
    have he : i = ls.length := hg
    have fin : ∀ h' : Heap, Heap.ExtBut a s.heap h' → (none : Option Value) = none ∧ Inv X pins σ H { s with heap := h' } := fun h' eb => ⟨rfl, I.turnedL (t' := s.toks) (ch := [a, p]) (fun b o hb q => eb b o (fun e => hb (by simp [e])) q) hf⟩
    rcases z with ⟨rfl, rfl, e⟩ | ⟨h0, rfl, e⟩ | ⟨rfl, e⟩
    · rw [List.length_eq_zero_iff.mp he.symm] at e; cases e
    · have st := ok.step (i - 1) l e
      rw [show i - 1 + 1 = i by omega, he, List.getElem?_eq_none (Nat.le_refl _)] at st
      exact Cb.next_end (I.ok.hd hc) hi hp (by rw [hn]; exact st) fin
    · exact Cb.next_over (I.ok.hd hc) hi fin
  self := fun A i s Q E st h => by
    obtain ⟨hp, flag, last, l, hi, z⟩ := st
    exact Cb.iter_c hi h
def iCb (K : PySem.W.Frag) (ta : TA) : TI := fun σ H R => ta σ H fun vs H1 => ∃ (a : Addr) (r : Int) (xs : List V) (ls : List (List Nat)), vs = [.ref a, .int r] ∧ SqL K H1 a xs ∧ 0 ≤ r ∧ r ≤ 1000 ∧ allC xs.length r.toNat = some ls ∧ R (Icb xs ls) H1
section
variable {X : Cx} {W : WX} {pos p tpos : Pos} {tg a b : Expr} {ga gb : Gm → Rs D}
theorem pi_comb {ta : TA} (hg : Gl X "combinations") (hm : X.mg "combinations" = some (.type "itertools.combinations")) (ha : PA X [a, b] ta)
    (hs : starEach [a, b] X.env = (false, eval a X.env) :: starEach [b] X.env := by rfl) (hpl : (backTo pos (starEach [b] X.env)).any (·.1) = false := by rfl) :
    PI X tg (.Call (.Name "combinations" p) [a, b] [] pos) (iCb X.K ta) := by
  refine ⟨fun pins s σ H R I h => ?_⟩
  refine Call_ (ld_glob I hg hm (PyProof.Rows.callWith_type1 (thn (ha.run pos pins s σ H _ I h) fun us s1 ⟨vs, H1, I1, r1, q1⟩ => ?_) hs hpl))
  obtain ⟨k, r, xs, ls, ex, hq, h0, h1, hc, q⟩ := q1
  subst ex
  obtain ⟨u, v, rfl, ru, rv⟩ := vals2 r1
  cases ru
  obtain ⟨t, rfl⟩ := rv
  obtain ⟨its, rv, pl, hz⟩ := I1.list hq
  have hl := rv.length
  refine Cb.call_c pl.isList h0 h1 (by rw [List.size_toArray, ← hl]; exact hz) fun g1 g2 q1 a1 k1 c1 p1 ne l1 l2 k2 => ?_
  have I2 : Inv X pins σ H1 { s1 with heap := g1 } := I1.kept (t' := s1.toks) k1
  have I3 : Inv X pins σ H1 { s1 with heap := g2 } := I1.kept (t' := s1.toks) fun b o e => k2 b o (k1 b o e)
  have ok := allC_ok hc
  refine Cb.iter_c c1 ⟨a1, [a1, q1], _, _, H1, rfl, I3, turn_c (n := xs.length) (r := r.toNat) rv hl.symm ok (by omega) ne, ⟨p1, _, _, _, c1, ?_⟩, fun b hb => ?_, q⟩
  · rw [List.size_toArray, ← hl]
    by_cases hlt : xs.length < r.toNat
    · rw [if_pos hlt]; exact .inr (.inr ⟨rfl, ok.few hlt⟩)
    · rw [if_neg hlt]; exact .inl ⟨rfl, rfl, ok.head hlt⟩
  · have hle : g1.objs.size ≤ b := by
      rcases (show b = a1 ∨ b = q1 by simpa using hb) with z | z
      · rw [z]; exact l2
      · rw [z]; exact l1
    have f := I2.fpOk hle (I2.hok.fresh hle)
    exact f
def dComb : D → D → Option (List D)
  | .lst l, .int r => if 0 ≤ r ∧ r ≤ 1000 then (allC l.length r.toNat).map fun ls => ls.map fun ix => .tup (ix.map fun j => l.getD j .non) else none
  | _, _ => none
theorem dens_pick {K : PySem.W.Frag} {c : Cf} {l : List D} {xs : List V} (h : Dens K c l xs) : ∀ {ix : List Nat}, (∀ j, j ∈ ix → j < l.length) → Dens K c (ix.map fun j => l.getD j .non) (ix.map fun j => xs.getD j (.int 0))
  | [], _ => by exact rfl
  | j :: ix, hj => by
    have h1 := hj j (List.mem_cons_self ..)
    obtain ⟨v, hv, hd⟩ := h.get (i := j) (d := l[j]) (by simp [h1])
    have e1 : l.getD j .non = l[j] := by simp [List.getD, h1]
    have e2 : xs.getD j (.int 0) = v := by simp [List.getD, hv]
    exact ⟨v, _, by show xs.getD j (.int 0) :: _ = _; rw [e2], by show Den K c (l.getD j .non) v; rw [e1]; exact hd, dens_pick h fun k hk => hj k (List.mem_cons_of_mem _ hk)⟩
theorem IterOk.comb {tb : Bool} {K : PySem.W.Frag} {c : Cf} {l : List D} {xs : List V} {n : Nat} {ls : List (List Nat)} (h : ∀ c1, PExt K c c1 → Dens K c1 l xs) (ok : OkC l.length n ls) : IterOk tb K c (Icb xs ls) (ls.map fun ix => .tup (ix.map fun j => l.getD j .non)) := by
  intro c1 wf x
  refine ⟨fun i d hi => ?_, by show _ = _; rw [List.length_map]⟩
  rw [List.getElem?_map] at hi
  obtain ⟨ix, e1, e2⟩ := map_some hi
  have hlt := (List.getElem?_eq_some_iff.mp e1).1
  refine ⟨hlt, fun y H' hy => ?_⟩
  obtain ⟨k, o, jx, rfl, n0, hd, e3, rfl⟩ := hy
  rw [e1] at e3
  cases e3
  refine ⟨⟨c1.M, upd c1.H k (.frz o (.tup (ix.map fun j => xs.getD j (.int 0))))⟩, rfl, (Ext.new n0).nop, wf.new n0, .inl ?_⟩
  rw [← e2]
  exact Den.tup wf n0 hd (dens_pick (h c1 x) (ok.good i ix e1).2)
theorem dens_mono {K : PySem.W.Frag} {c c1 : Cf} (x : PExt K c c1) : ∀ {l : List D} {vs : List V}, Dens K c l vs → Dens K c1 l vs
  | [], _, h => h
  | d :: l, _, h => by
    obtain ⟨v, ws, rfl, hd, ht⟩ := h
    exact ⟨v, ws, rfl, x _ _ hd, dens_mono x ht⟩
def gComb (ga gb : Gm → Rs D) : Gm → Rs (List D) := fun γ => (ga γ).bind fun d γ1 => (gb γ1).bind fun e γ2 => ofO (dComb d e) γ2
@[simp] theorem e_gComb {γ : Gm} : gComb ga gb γ = (ga γ).bind fun d γ1 => (gb γ1).bind fun e γ2 => ofO (dComb d e) γ2 := hide rfl
theorem mi_comb (hg : Gl X "combinations") (hm : X.mg "combinations" = some (.type "itertools.combinations")) (ha : MP X W a ga) (hb : MP X W b gb) (hs3 : starEach [a, b] X.env = (false, eval a X.env) :: starEach [b] X.env := by rfl) (hs4 : starEach [b] X.env = (false, eval b X.env) :: starEach [] X.env := by rfl) (hpl : (backTo pos (starEach [b] X.env)).any (·.1) = false := by rfl) :
    MI X W tg (.Call (.Name "combinations" p) [a, b] [] pos) (gComb ga gb) := by
  obtain ⟨ta, h1, s1⟩ := ha
  obtain ⟨tb, h2, s2⟩ := hb
  refine ⟨_, pi_comb hg hm (pa_cons h1 (pa_cons h2 pa_nil hs4) hs3) hs3 hpl, fun f S c σ γ Q R hp => s1.bind stab_vI R hp fun d γ1 v c1 _ x1 R1 k1 q1 h3 => s2.bind stab_vI R1 h3 fun e γ2 w c2 _ x2 R2 k2 q2 h4 => ?_⟩
  obtain ⟨z, e1, h7⟩ := h4.fin R2
  have q1' := Den.ext R1.wf x2 q1
  cases d with
  | lst l =>
    cases e with
    | int r =>
      have e1' : (if 0 ≤ r ∧ r ≤ 1000 then (allC l.length r.toNat).map fun ls => ls.map fun ix => D.tup (ix.map fun j => l.getD j .non) else none) = some z := e1
      have rb : 0 ≤ r ∧ r ≤ 1000 := by
        by_cases hb : 0 ≤ r ∧ r ≤ 1000
        · exact hb
        · rw [if_neg hb] at e1'; cases e1'
      rw [if_pos rb] at e1'
      obtain ⟨r0, r1⟩ := rb
      have e2 := e1'
      obtain ⟨ls, e3, e4⟩ := Option.map_eq_some_iff.mp e2
      subst e4
      obtain ⟨k, xs, rfl, q, rr⟩ := q1'
      have hl : xs.length = l.length := rr.length
      refine ⟨k, r, xs, ls, ?_, q.sq, r0, r1, by rw [hl]; exact e3, h7 _ c2 .refl R2.wf (IterOk.comb (n := r.toNat) (fun c1 x => dens_mono x rr) (allC_ok e3))⟩
      rw [show w = .int r from q2]
    | _ => cases e1
  | _ => cases e1
end
end Fv

/-! ### tuple(range(a, b, c)) -/
namespace Fv
variable [LC : LamC]
open PySem PySem.Spec L2 PyProof.Rows
section
variable {X : Cx} {W : WX} {pos p pos2 p2 : Pos} {a b c : Expr} {ga gb gc : Gm → Rs D}
def PRg3 (X : Cx) (e : Expr) (t : L2.St → Hp → (Int → Int → Int → Hp → Prop) → Prop) : Prop :=
  ∀ (pins : List (Addr × Obj)) (s : Shared) (σ : L2.St) (H : Hp) (Q : Int → Int → Int → Hp → Prop), L2.Inv X pins σ H s → t σ H Q →
    wpAny (model X.prog X.w) X.A (eval e X.env) (fun x s' => ∃ r i j k t u v H', x = .ref r ∧ IsRange s'.heap r i j k t u v ∧ L2.Inv X pins σ H' s' ∧ Q i j k H') X.xe s
def tRg3 (ta : TA) : L2.St → Hp → (Int → Int → Int → Hp → Prop) → Prop := fun σ H Q => ta σ H fun vs H1 => ∃ i j k, vs = [.int i, .int j, .int k] ∧ k ≠ 0 ∧ k.natAbs < 1073741824 ∧ Q i j k H1
theorem prg_3 {ta : TA} (hg : Gl X "range") (hm : X.mg "range" = none) (ha : PA X [a, b, c] ta)
    (hs : starEach [a, b, c] X.env = (false, eval a X.env) :: starEach [b, c] X.env := by rfl) (hpl : (backTo pos (starEach [b, c] X.env)).any (·.1) = false := by rfl) :
    PRg3 X (.Call (.Name "range" p) [a, b, c] [] pos) (tRg3 ta) := by
  intro pins s σ H Q I h
  refine Call_ (ld_blt I hg hm boot_range (PyProof.Rows.callWith_type1 (thn (ha.run pos pins s σ H _ I h) fun us s1 ⟨vs, H1, I1, r1, q1⟩ => ?_) hs hpl))
  obtain ⟨i, j, k, e, c0, c1, q⟩ := q1
  subst e
  cases r1 with
  | cons r rr =>
    cases rr with
    | cons r' rr =>
      cases rr with
      | cons r'' rr =>
        cases rr
        obtain ⟨t, rfl⟩ := r
        obtain ⟨t', rfl⟩ := r'
        obtain ⟨t'', rfl⟩ := r''
        exact call_range_3 c0 ⟨_, i, j, k, _, _, _, H1, rfl, IsRange.new _ _ _ _ _ _ _, I1.kept fun b u e => Heap.get?_push_of_some _ e, q⟩ (.inl (PyProof.noPylong_small c1))
def stV (i k : Int) (n : Nat) : List V := (List.range n).map fun j => V.int (i + (j : Nat) * k)
theorem vals_st {i k : Int} {n : Nat} {acc : Array Value} (h : ItemsOf (fun j v => ∃ t, v = .int (i + j * k) t) acc n) : Vals (stV i k n) acc.toList := by
  have e : acc.toList.length = n := by rw [Array.length_toList]; exact h.1
  unfold stV
  rw [← e]
  refine vals_of_get acc.toList _ fun j u hj => ?_
  obtain ⟨t, rfl⟩ := h.2 j u (by rw [← hj, Array.getElem?_toList])
  exact ⟨t, rfl⟩
def tTupR3 (te : L2.St → Hp → (Int → Int → Int → Hp → Prop) → Prop) : TE := fun σ H Q => te σ H fun i j k H1 => ∃ n : Nat, Builtin.Range.small i j k = true ∧ Builtin.Range.rangeSize i j k = (n : Int) ∧ n ≤ 2 ^ 24 ∧ MkT H1 (stV i k n) Q
theorem pe_tupR3 {e : Expr} {te : L2.St → Hp → (Int → Int → Int → Hp → Prop) → Prop} (hc : X.calm = true) (hg : Gl X "tuple") (hm : X.mg "tuple" = none) (he : PRg3 X e te) (na : starEach [e] X.env = (false, eval e X.env) :: starEach [] X.env := by rfl) : PE X (.Call (.Name "tuple" p) [e] [] pos) (tTupR3 te) := by
  refine ⟨fun pins s σ H Q I h => ?_⟩
  refine Call_ (ld_blt I hg hm boot_tuple (PyProof.Rows.callWith_type1 (args_cons (thn (he pins s σ H _ I h) fun x s1 ⟨r, i, j, k, t, u, v, H1, ex, hr, I1, n, c1, c2, c3, q⟩ => args_nil ?_) na) na))
  subst ex
  refine call_tuple_range (n := n) (I1.ok.hd hc) hr c1 c2 c3 fun h' tk acc hk hi => ?_
  have I2 : L2.Inv X pins σ H1 { s1 with heap := h', toks := tk } := I1.kept hk
  have hl : (stV i k n).length ≤ sizeLine := by unfold stV; rw [List.length_map, List.length_range, sizeLine_eq]; omega
  have I3 := laidF (t' := tk) I2 hl (vals_st hi)
  have ea : acc.toList.toArray = acc := Array.toArray_toList
  rw [show tupO acc.toList = { cls := .type "tuple", data := .seq acc } by unfold tupO; rw [ea]] at I3
  exact ⟨.ref h'.objs.size, _, I3, rfl, q _ _ rfl (I2.hok.fresh (Nat.le_refl _))⟩
def dTR (d e h : D) : Option D := (dRng3 d e h).bind fun l => if l.length ≤ 2 ^ 24 then some (.tup l) else none
def gTupR3 (ga gb gc : Gm → Rs D) : Gm → Rs D := fun γ => (ga γ).bind fun d γ1 => (gb γ1).bind fun e γ2 => (gc γ2).bind fun h γ3 => ofO (dTR d e h) γ3
@[simp] theorem e_gTupR3 {γ : Gm} : gTupR3 ga gb gc γ = (ga γ).bind fun d γ1 => (gb γ1).bind fun e γ2 => (gc γ2).bind fun h γ3 => ofO (dTR d e h) γ3 := hide rfl
theorem mp_csts {x : Str} {z : Str} (hg : Gl X x) (hm : ∃ t, X.mg x = some (.str z t)) (h2 : (x == ("__debug__" : Str)) = false := by decide) : MP X W (.Name x pos) (gC (.str z)) := by
  obtain ⟨t, e⟩ := hm
  exact mp_glob hg e (show RelV (.str z) (.str z t) from ⟨t, rfl⟩) (fun c => rfl) h2
theorem dens_st {K : PySem.W.Frag} {c : Cf} {i k : Int} : ∀ {l : List Nat}, Dens K c (l.map fun j => D.int (i + (j : Nat) * k)) (l.map fun j => V.int (i + (j : Nat) * k))
  | [] => rfl
  | j :: l => ⟨_, _, rfl, rfl, dens_st⟩
theorem mp_tupR3 (hcm : X.calm = true) (hg : Gl X "tuple") (hm : X.mg "tuple" = none) (hg2 : Gl X "range") (hm2 : X.mg "range" = none) (ha : MP X W a ga) (hb : MP X W b gb) (hc : MP X W c gc)
    (hs : starEach [a, b, c] X.env = (false, eval a X.env) :: starEach [b, c] X.env := by rfl) (hs2 : starEach [b, c] X.env = (false, eval b X.env) :: starEach [c] X.env := by rfl) (hs3 : starEach [c] X.env = (false, eval c X.env) :: starEach [] X.env := by rfl) (hpl : (backTo pos2 (starEach [b, c] X.env)).any (·.1) = false := by rfl)
    (hs4 : starEach [.Call (.Name "range" p2) [a, b, c] [] pos2] X.env = (false, eval (.Call (.Name "range" p2) [a, b, c] [] pos2) X.env) :: starEach [] X.env := by rfl) :
    MP X W (.Call (.Name "tuple" p) [.Call (.Name "range" p2) [a, b, c] [] pos2] [] pos) (gTupR3 ga gb gc) := by
  obtain ⟨ta, h1, s1⟩ := ha
  obtain ⟨tb, h2, s2⟩ := hb
  obtain ⟨tc, h3, s3⟩ := hc
  refine ⟨_, pe_tupR3 hcm hg hm (prg_3 hg2 hm2 (pa_cons h1 (pa_cons h2 (pa_cons h3 pa_nil hs3) hs2) hs) hs hpl) hs4, fun f S c σ γ Q R hp => s1.bind stab_vP R hp fun d γ1 v c1 _ x1 R1 k1 q1 h4 => s2.bind stab_vP R1 h4 fun e γ2 w c2 _ x2 R2 k2 q2 h5 => s3.bind stab_vP R2 h5 fun z γ3 u c3 _ x3 R3 k3 q3 h6 => ?_⟩
  obtain ⟨l, e1, h7⟩ := h6.fin R3
  obtain ⟨l0, e2, e3⟩ := Option.bind_eq_some_iff.mp e1
  cases d with
  | int i =>
    cases e with
    | int j =>
      cases z with
      | int k =>
        cases (show v = .int i from q1)
        cases (show w = .int j from q2)
        cases (show u = .int k from q3)
        obtain ⟨⟨b1, b2, b3, b4⟩, rfl⟩ := ite_of e2
        obtain ⟨b5, rfl⟩ := ite_of e3
        have hl : (stepD i k (Builtin.Range.rangeSize i j k).toNat).length = (Builtin.Range.rangeSize i j k).toNat := by unfold stepD; rw [List.length_map, List.length_range]
        rw [hl] at b5
        refine ⟨i, j, k, rfl, b1, b2, _, b3, b4, b5, fun q o hd n => ?_⟩
        exact h7 (.ref q) ⟨c3.M, upd c3.H q (.frz o (.tup (stV i k _)))⟩ (Ext.new n).nop (R3.wf.new n) (Den.tup R3.wf n hd dens_st)
      | _ => cases e2
    | _ => cases e2
  | _ => cases e2
end
end Fv

set_option maxHeartbeats 4000000
/-! ### sorted(.., key=f), whatever is told of the state while f runs -/
namespace Sk
open PySem PySem.Calls PyProof.Rows PySem.W
section
variable {prog : Program} {w : World} {A : Around} {E : Value → Shared → Prop} {s : Shared} {a kS : Addr} {vs : List Value} {keys : Array Value} {e e1 : Nat} {P : PySem.Fin → Shared → Prop}
theorem tail_ {st : SortSt} {out : List Value} (nk : s.heap.get? kS = some (seqObj "list" keys e)) (na : s.heap.get? a = some (seqObj "list" #[] e1)) (hka : kS ≠ a)
    (hsz : keys.size ≤ sizeLine) (hz : out.length ≤ sizeLine) (hfl : failedOf st = none) (ho : (if false = true then ((arrOf st).map (·.2)).reverse else (arrOf st).map (·.2)) = out.toArray)
    (h : ∀ h' c, (∀ b o, b ≠ a → b ≠ kS → s.heap.get? b = some o → h'.get? b = some o) → h'.get? a = some (seqObj "list" out.toArray c) → P (.done (.ret .none)) { s with heap := h' }) :
    wpAny (model prog w) A (ksk_tail a false e1 (.ref kS) st) P E s := by
  have s1 := Heap.SameBut.update s.heap kS (Obj.mapSeq fun _ => (#[] : Array Value))
  have na1 := (s1.2 a hka.symm).trans na
  have s2 := Heap.SameBut.update (s.heap.update kS (Obj.mapSeq fun _ => (#[] : Array Value))) a (Obj.mapSeq fun _ => out.toArray)
  obtain ⟨c2, hc2⟩ : ∃ c2, ((s.heap.update kS (Obj.mapSeq fun _ => (#[] : Array Value))).update a (Obj.mapSeq fun _ => out.toArray)).get? a = some (seqObj "list" out.toArray c2) := ⟨_, get?_update_seq na1 fun _ => out.toArray⟩
  have hz2 : out.toArray.size ≤ sizeLine + 1 := by rw [List.size_toArray]; exact Nat.le_succ_of_le hz
  unfold ksk_tail
  try dsimp only
  rw [ho]
  refine wpAny_bind (listUpdate_at nk rfl (wpAny_bind (wpAny_letGo (wpAny_bind (seqEpoch_at na1 rfl (wpAny_bind (listUpdate_at na1 rfl ?_ (Nat.zero_le _) hz2)))))) hsz (Nat.zero_le _))
  rw [hfl]
  simp only [bne_self_eq_false, Bool.false_eq_true, if_false]
  exact wpAny_pure (h _ c2 (fun b o h1 h2 q => (s2.2 b h1).trans ((s1.2 b h2).trans q)) hc2)
theorem end_ {κ : PyProof.Rows.KeyKind} (nk : s.heap.get? kS = some (seqObj "list" keys e)) (na : s.heap.get? a = some (seqObj "list" #[] e1)) (hka : kS ≠ a)
    (S : SortsAt prog w A s κ keys.toList) (hsz : keys.size = vs.length) (hZ : vs.length ≤ sizeLine)
    (h : ∀ h' c, (∀ b o, b ≠ a → b ≠ kS → s.heap.get? b = some o → h'.get? b = some o) → h'.get? a = some (seqObj "list" (sortVals κ false keys.toList vs).toArray c) → P (.done (.ret .none)) { s with heap := h' }) :
    wpAny (model prog w) A (ksk_end a false vs.toArray e1 (.ref kS) keys) P E s := by
  obtain ⟨kd, h1, h2⟩ := S.kind
  have hkl : keys.toList.length = vs.length := by rw [Array.length_toList]; exact hsz
  have hK : PyProof.Rows.KeysOf κ (keys.zip vs.toArray) := keysOf_zip S.keys
  have hol : (sortVals κ false keys.toList vs).length = vs.length := sortVals_length false hkl
  have hss : (keys.zip vs.toArray).size = vs.length := by rw [Array.size_zip, hsz, List.size_toArray, Nat.min_self]
  have fin : ∀ st' : SortSt, (arrOf st').Perm (keys.zip vs.toArray) → SortedToK κ (arrOf st') (keys.zip vs.toArray).size → Stable κ (arrOf st') (keys.zip vs.toArray) → (if false = true then ((arrOf st').map (·.2)).reverse else (arrOf st').map (·.2)) = (sortVals κ false keys.toList vs).toArray := by
    intro st' hp hs ht
    have e := congrArg List.toArray (sort_out (rev := false) (keys := keys) (items := vs.toArray) (xs := arrOf st') (κ := κ) hK hp hs ht)
    rw [Array.toArray_toList] at e
    exact e
  unfold ksk_end
  try dsimp only
  simp only [Bool.false_eq_true, if_false]
  by_cases hl2 : vs.toArray.size < 2
  · rw [if_pos hl2, if_pos hl2]
    refine wpAny_bind (wpAny_pure ?_)
    rw [StateT.run_pure]
    refine wpAny_bind (wpAny_pure ?_)
    try dsimp only
    refine tail_ (st := SortSt.mk' general' (keys.zip vs.toArray) #[] 7 none) nk na hka (by rw [hsz]; exact hZ) (by rw [hol]; exact hZ) rfl (fin _ (Array.Perm.refl _) (fun i j hij hj => ?_) (Stable.refl _)) h
    rw [hss] at hj
    rw [List.size_toArray] at hl2
    have : i = j := by omega
    subst this
    exact KeyOrd.kle_refl _
  · rw [if_neg hl2, if_neg hl2]
    rw [List.size_toArray] at hl2
    refine wpAny_bind (h2 (by omega) _ ?_)
    refine wpAny_bind (wpAny_mono (H.wpS_sortRunsSt (κ := κ) (kd := kd) (a₀ := keys.zip vs.toArray) (st := SortSt.mk' kd (keys.zip vs.toArray) #[] 7 none) (Q := fun _ st' => failedOf st' = none ∧ (if false = true then ((arrOf st').map (·.2)).reverse else (arrOf st').map (·.2)) = (sortVals κ false keys.toList vs).toArray)
      h1 hK ⟨Array.Perm.refl _, rfl, rfl⟩ rfl (Stable.refl _) (by rw [hss]; omega) fun st' a1 a2 a3 a4 => ⟨a2, fin st' a1 a3 a4⟩) ?_ fun _ _ e => e)
    rintro ⟨⟨⟩, st'⟩ s' ⟨rfl, hf, ho⟩
    try dsimp only at ho ⊢
    exact tail_ nk na hka (by rw [hsz]; exact hZ) (by rw [hol]; exact hZ) hf ho h
/-- what stands while the keys are asked for -/
structure Turns (prog : Program) (w : World) (A : Around) (f : Value) (a kS : Addr) (vs : List Value) (ks : List Int) (J : Shared → Prop) : Prop where
  keep : ∀ s' h', J s' → (∀ b o, b ≠ a → b ≠ kS → s'.heap.get? b = some o → h'.get? b = some o) → J { s' with heap := h' }
  turn : ∀ (i : Nat) (v : Value) (k : Int), vs[i]? = some v → ks[i]? = some k → ∀ (s' : Shared) (oa ok : Obj), J s' → s'.heap.get? a = some oa → s'.heap.get? kS = some ok →
    wpAny (model prog w) A (call f [v]) (fun r s'' => ∃ t, r = .int k t ∧ J s'' ∧ s''.heap.get? a = some oa ∧ s''.heap.get? kS = some ok) (fun _ _ => False) s'
theorem rest_ {f : Value} {ks : List Int} {J : Shared → Prop} (T : Turns prog w A f a kS vs ks J) (hJ : J s) (nk : s.heap.get? kS = some (seqObj "list" #[] 0)) (na : s.heap.get? a = some (seqObj "list" #[] e1)) (hka : kS ≠ a)
    (hlen : ks.length = vs.length) (hZ : vs.length ≤ sizeLine) (hu : A.units < cLine)
    (h : ∀ s' out c, J s' → s'.heap.get? a = some (seqObj "list" (List.toArray out) c) → KeyedOut false (ks.map PyData.int) vs out → P (.done (.ret .none)) s') :
    wpAny (model prog w) A (ksk_rest a f false vs.toArray e1 (.ref kS)) P E s := by
  unfold ksk_rest
  refine wpAny_bind (wpAny_rule ?_)
  first
    | rw [List.forIn_toArray]
    | (rw [← Array.forIn_toList]; simp only [List.toList_toArray])
    | rw [← Array.forIn_toList]
  refine wpAny_bind (ksk_fold (fun i s' => ∃ kA e, J s' ∧ s'.heap.get? kS = some (seqObj "list" kA e) ∧ s'.heap.get? a = some (seqObj "list" #[] e1) ∧ EachIs (fun v (k : Int) => ∃ t, v = .int k t) kA.toList (ks.take i)) vs 0 s ⟨#[], 0, hJ, nk, na, by rw [List.take_zero]; exact EachIs.nil⟩ ?step ?done)
  case step =>
    rintro j x s' hx ⟨kA, e, J1, nk, na, hk⟩
    simp only [Nat.zero_add] at hk ⊢
    have hj : j < vs.length := (List.getElem?_eq_some_iff.mp hx).1
    obtain ⟨k, hkj⟩ : ∃ k, ks[j]? = some k := ⟨_, List.getElem?_eq_getElem (by omega)⟩
    have hz : kA.size ≤ vs.length := by
      have h1 := hk.length
      rw [Array.length_toList, List.length_take] at h1
      omega
    refine wpAny_bind (wpAny_attempt (wpAny_mono (T.turn j x k hx hkj s' _ _ J1 na nk) (fun v s'' he => ?_) fun _ _ hF => hF.elim))
    obtain ⟨t, rfl, J2, na2, nk2⟩ := he
    try dsimp only
    have s1 := Heap.SameBut.update s''.heap kS (Obj.mapSeq (·.push (Value.int k t)))
    obtain ⟨c2, hc2⟩ : ∃ c2, (s''.heap.update kS (Obj.mapSeq (·.push (Value.int k t)))).get? kS = some (seqObj "list" (kA.push (Value.int k t)) c2) := ⟨_, get?_update_seq nk2 (·.push (Value.int k t))⟩
    have ek : ks.take (j + 1) = ks.take j ++ [k] := by rw [List.take_add_one, hkj]; simp
    have ea : (kA.push (Value.int k t)).toList = kA.toList ++ [Value.int k t] := by simp
    refine wpAny_bind (listUpdate_at nk2 rfl ?_ (Nat.le_trans hz hZ) (Nat.le_trans (Nat.le_of_eq (Array.size_push ..)) (Nat.succ_le_succ (Nat.le_trans hz hZ))))
    refine wpAny_pure ⟨rfl, kA.push (Value.int k t), c2, T.keep _ _ J2 fun b o _ hb q => (s1.2 b hb).trans q, hc2, (s1.2 a hka.symm).trans na2, ?_⟩
    rw [ea, ek]
    exact each_snoc ⟨t, rfl⟩ hk
  case done =>
    rintro s' ⟨kA, e, J1, nk, na, hk⟩
    have e3 : ks.take (0 + vs.length) = ks := List.take_of_length_le (by omega)
    rw [e3] at hk
    have hsz : kA.size = vs.length := by
      have h1 := hk.length
      rw [Array.length_toList] at h1
      omega
    have hk' : ∀ {as : List Value} {bs : List Int}, EachIs (fun v (k : Int) => ∃ t, v = .int k t) as bs → EachIs (fun v k => ∃ as, Reads s'.heap v k as) as (bs.map PyData.int) := by
      intro as bs h
      induction h with
      | nil => exact .nil
      | cons h1 _ ih =>
        obtain ⟨t, rfl⟩ := h1
        exact .cons ⟨[], .int _ t⟩ ih
    have hal : AllAlike (ks.map PyData.int) := by
      intro d hd d' hd'
      obtain ⟨x, _, rfl⟩ := List.mem_map.mp hd
      obtain ⟨y, _, rfl⟩ := List.mem_map.mp hd'
      rfl
    have hsk : Sortable (ks.map PyData.int) := .inr fun d hd => by
      obtain ⟨x, _, rfl⟩ := List.mem_map.mp hd
      exact ⟨nofun, fun xs => nofun⟩
    have hu' : ∀ d, d ∈ ks.map PyData.int → A.units + d.depth < cLine := fun d hd => by
      obtain ⟨x, _, rfl⟩ := List.mem_map.mp hd
      exact hu
    try dsimp only
    refine wpAny_bind (listItems_at nk rfl ?_)
    exact end_ (κ := dataKind s'.heap (ks.map PyData.int)) nk na hka (SortsAt.data (hk' hk) hal hsk hu') hsz hZ fun h' c kp ha => h _ _ c (T.keep _ _ J1 kp) ha ⟨s'.heap, kA.toList, hal, rfl, hk' hk⟩
theorem tree_ {f : Value} {n : Nat} {ks : List Int} {J : Addr → Shared → Prop} (ho : s.heap.get? a = some (seqObj "list" vs.toArray n)) (hlen : ks.length = vs.length) (hZ : vs.length ≤ sizeLine) (hu : A.units < cLine)
    (T : ∀ kS, kS = s.heap.objs.size + 1 → Turns prog w A f a kS vs ks (J kS)) (hJ : ∀ h' kS, kS = s.heap.objs.size + 1 → (∀ b o, b ≠ a → s.heap.get? b = some o → h'.get? b = some o) → J kS { s with heap := h' })
    (h : ∀ kS s' out c, J kS s' → s'.heap.get? a = some (seqObj "list" (List.toArray out) c) → KeyedOut false (ks.map PyData.int) vs out → P (.done (.ret .none)) s') :
    wpAny (model prog w) A (ksk_tree a f false) P E s := by
  have ha : a < s.heap.objs.size := Heap.lt_size ho
  have s1 := Heap.SameBut.update s.heap a (Obj.mapSeq fun _ => (#[] : Array Value))
  obtain ⟨e1, ho1⟩ : ∃ e1, (s.heap.update a (Obj.mapSeq fun _ => (#[] : Array Value))).get? a = some (seqObj "list" #[] e1) := ⟨_, get?_update_seq ho fun _ => #[]⟩
  have hkS : ((s.heap.update a (Obj.mapSeq fun _ => (#[] : Array Value))).push (seqObj "tuple" vs.toArray 0)).objs.size = s.heap.objs.size + 1 := by rw [size_push', Heap.size_update]
  unfold ksk_tree
  refine wpAny_bind (listItems_at ho rfl (wpAny_bind (listUpdate_at ho rfl (wpAny_bind (seqEpoch_at ho1 rfl (wpAny_bind (wpAny_newTuple (wpAny_bind (wpAny_newList (wpAny_holding ?_) (Nat.zero_le _))) (by show vs.length ≤ _; exact hZ))))) (by rw [List.size_toArray]; exact hZ) (Nat.zero_le _))))
  refine rest_ (s := { s with heap := ((s.heap.update a (Obj.mapSeq fun _ => (#[] : Array Value))).push (seqObj "tuple" vs.toArray 0)).push (seqObj "list" #[] 0) }) (kS := ((s.heap.update a (Obj.mapSeq fun _ => (#[] : Array Value))).push (seqObj "tuple" vs.toArray 0)).objs.size) (T _ hkS) (hJ _ _ hkS fun b o hb q => ?_) (Heap.get?_push_size _ rfl) (Heap.get?_push_of_some _ (Heap.get?_push_of_some _ ho1)) (by rw [hkS]; exact Nat.ne_of_gt (Nat.lt_succ_of_lt ha)) hlen hZ hu (h _)
  exact Heap.get?_push_of_some _ (Heap.get?_push_of_some _ ((s1.2 b hb).trans q))
/-- sorted(v, key=f), v anything that can be collected -/
theorem sorted_ {v f : Value} {ks : List Int} {G : List Value → Prop} {J : Addr → Addr → Shared → Prop} {Q : Value → Shared → Prop} (hk : ∀ x, Builtin.«list.sort» ⟨[.ref x], [(Str.ofString "key", f)]⟩ = ksk_tree x f false) (hu : A.units + 2 < cLine)
    (col : ∀ (Q' : List Value → Shared → Prop) (E' : Value → Shared → Prop), (∀ (h' : Heap) (tk : Nat) (vs : List Value), (∀ b o, s.heap.get? b = some o → h'.get? b = some o) → G vs → Q' vs { s with heap := h', toks := tk }) → wpAny (model prog w) A.in1 (collect v) Q' E' s)
    (hG : ∀ vs, G vs → ks.length = vs.length ∧ vs.length ≤ sizeLine)
    (T : ∀ a kS vs, G vs → a ≠ kS → Turns prog w A.in1.in1 f a kS vs ks (J a kS)) (hJ : ∀ (h1 h2 : Heap) (tk : Nat) (a kS : Addr), (∀ b o, s.heap.get? b = some o → h1.get? b = some o) → (∀ b o, b ≠ a → h1.get? b = some o → h2.get? b = some o) → a = h1.objs.size → kS = a + 2 → J a kS { s with heap := h2, toks := tk })
    (h : ∀ a kS s' vs out c, G vs → J a kS s' → s'.heap.get? a = some (seqObj "list" (List.toArray out) c) → KeyedOut false (ks.map PyData.int) vs out → Q (.ref a) s') :
    wpAny (model prog w) A (call (.builtin "sorted") [v] [(Str.ofString "key", f)]) Q E s := by
  refine call_function_entry_kw kind_sorted plain_sorted entry_sorted (ksk_s1 _ _) ?_
  unfold Builtin.«sorted»
  refine wpAny_bind (m := checkCount "sorted" 1 1 _) (wpAny_pure ?_)
  refine wpAny_bind (col _ _ fun h1 tk vs k1 g => ?_)
  obtain ⟨hlen, hZ⟩ := hG vs g
  refine wpAny_bind (wpAny_newList ?_ hZ)
  have hoL : (h1.push (seqObj "list" vs.toArray 0)).get? h1.objs.size = some (seqObj "list" vs.toArray 0) := Heap.get?_push_size _ rfl
  have hsz : (h1.push (seqObj "list" vs.toArray 0)).objs.size = h1.objs.size + 1 := size_push' ..
  refine wpAny_bind (wpAny_holding (wpAny_call_entry_kw slot_list_sort ⟨_, hoL, rfl⟩ entry_list_sort ?body (ksk_l1 _ _)))
  case body =>
    show wpAny (model prog w) A.in1.in1 (Builtin.«list.sort» ⟨[.ref h1.objs.size], [(Str.ofString "key", f)]⟩) _ _ _
    rw [hk]
    refine tree_ (s := { s with heap := h1.push (seqObj "list" vs.toArray 0), toks := tk }) (J := J h1.objs.size) hoL hlen hZ hu (fun kS e => T _ _ _ g ?_) (fun h' kS e kp => hJ h1 h' tk _ _ k1 (fun b o hb q => kp b o hb (Heap.get?_push_of_some _ q)) rfl ?_) fun kS s' out c j1 ha ko => ⟨_, rfl, wpAny_pure ⟨_, rfl, h _ kS s' vs out c g j1 ha ko⟩⟩
    · rw [e]; show h1.objs.size ≠ (h1.push (seqObj "list" vs.toArray 0)).objs.size + 1; rw [hsz]; omega
    · rw [e]; show (h1.push (seqObj "list" vs.toArray 0)).objs.size + 1 = _; rw [hsz]
end
end Sk

set_option maxHeartbeats 2000000
/-! ### sorted(xs, key=lambda x: int), xs a list, a tuple or a range -/
namespace Fv
variable [LC : LamC]
open PySem PySem.Spec PyProof.Rows L2 LamX
/-- a pair is put ahead of the first whose key is not smaller -/
def insK (p : D × Int) : List (D × Int) → List (D × Int)
  | [] => [p]
  | q :: r => if p.2 ≤ q.2 then p :: q :: r else q :: insK p r
def srtK : List (D × Int) → List (D × Int)
  | [] => []
  | p :: r => insK p (srtK r)
def leK (a b : D × Int) : Bool := decide (a.2 ≤ b.2)
theorem insK_at {p : D × Int} : ∀ {l₁ l₂ : List (D × Int)}, (∀ b, b ∈ l₁ → leK p b = false) → (∀ b, b ∈ l₂ → leK p b = true) → insK p (l₁ ++ l₂) = l₁ ++ p :: l₂
  | [], [], _, _ => rfl
  | [], q :: r, _, h => by
    have := of_decide_eq_true (h q (List.mem_cons_self ..))
    show (if p.2 ≤ q.2 then p :: q :: r else q :: insK p r) = _
    rw [if_pos this]; rfl
  | q :: l₁, l₂, h1, h2 => by
    have := of_decide_eq_false (h1 q (List.mem_cons_self ..))
    show (if p.2 ≤ q.2 then p :: q :: (l₁ ++ l₂) else q :: insK p (l₁ ++ l₂)) = _
    rw [if_neg this, insK_at (fun b hb => h1 b (List.mem_cons_of_mem _ hb)) h2]; rfl
theorem srtK_eq : ∀ l : List (D × Int), srtK l = l.mergeSort leK
  | [] => by simp [srtK]
  | p :: r => by
    have tr : ∀ a b c : D × Int, leK a b = true → leK b c = true → leK a c = true := fun a b c h1 h2 => decide_eq_true (Int.le_trans (of_decide_eq_true h1) (of_decide_eq_true h2))
    have to : ∀ a b : D × Int, (leK a b || leK b a) = true := fun a b => by
      rcases Int.le_total a.2 b.2 with h | h
      · simp [leK, h]
      · simp [leK, h]
    obtain ⟨l₁, l₂, e1, e2, e3⟩ := List.mergeSort_cons tr to p r
    have hp := List.pairwise_mergeSort tr to (p :: r)
    rw [e1] at hp ⊢
    unfold srtK
    rw [srtK_eq r, e2]
    refine insK_at (fun b hb => by have := e3 b hb; cases z : leK p b <;> simp_all) fun b hb => ?_
    have h1 := (List.pairwise_append.mp hp).2.1
    exact (List.pairwise_cons.mp h1).1 b hb
/-- what is walked: a range too -/
def seqD : D → Option (List D)
  | .ob (.rng lo hi) => if -(2 ^ 62) ≤ lo ∧ lo < 2 ^ 62 ∧ -(2 ^ 62) ≤ hi ∧ hi < 2 ^ 62 ∧ (hi - lo).toNat ≤ 2 ^ 24 then some (rangeD lo (hi - lo).toNat) else none
  | d => itemsD d
def gSortRest (i : Nat) (ge : Gm → Rs D) : List D → Gm → Rs (List D) := fun ds γ1 => match ds, γ1[i]? with
  | [d], some .un => match seqD d with
    | some l => match gKeysC i ge γ1 l with
      | some ks => .ok ((srtK (l.zip ks)).map (·.1)) γ1
      | none => .no
    | none => .no
  | _, _ => .no
def gSortK (i : Nat) (ga : Gm → Rs D) (ge : Gm → Rs D) : Gm → Rs (List D) := fun γ => (gCons ga gNil γ).bind (gSortRest i ge)
section
variable {X : Cx} {W : WX}
theorem mf_raw {e : Expr} {g : Gm → Rs (List D)} (h : ∀ f S c σ γ Q pins s, Rel X.K f S c σ γ → Post X.K X.mg (vF X.K) W f S c σ γ Q (g γ) → L2.Inv X pins σ c.H s → wpAny (model X.prog X.w) X.A (eval e X.env) (EP X pins σ Q) X.xe s) : MF X W e g :=
  ⟨fun σ H Q => ∀ pins s, L2.Inv X pins σ H s → wpAny (model X.prog X.w) X.A (eval e X.env) (EP X pins σ Q) X.xe s, ⟨fun pins s σ H Q I h => h pins s I⟩, fun f S c σ γ Q R hp pins s I => h f S c σ γ Q pins s R hp I⟩
theorem sortRest_post {i : Nat} {ge : Gm → Rs D} {ds : List D} {γ1 : Gm} {f : Fx} {S : Addr → Prop} {c1 : Cf} {σ : L2.St} {Q : V → Hp → Prop} (hp : Pu ge) (h : Post X.K X.mg (vF X.K) W f S c1 σ γ1 Q (gSortRest i ge ds γ1)) :
    ∃ d l ks, ds = [d] ∧ seqD d = some l ∧ KeysAre i ge γ1 l ks ∧ γ1[i]? = some .un ∧ Post X.K X.mg (vF X.K) W f S c1 σ γ1 Q (.ok ((srtK (l.zip ks)).map (·.1)) γ1) := by
  unfold gSortRest at h
  split at h
  · rename_i d hu
    split at h
    · rename_i l hl
      split at h
      · rename_i ks hk
        exact ⟨d, l, ks, rfl, hl, gKeysC_are hp hk, hu, h⟩
      · exact h.elim
    · exact h.elim
  · exact h.elim
variable {pins : List (Addr × Obj)} {σ : L2.St} {s : Shared}
theorem sort_turns {f : Fx} {S : Addr → Prop} {c1 : Cf} {γ : Gm} {l : List D} {xs : List V} {vs : List Value} {ks : List Int} {ge : Gm → Rs D} {i k : Nat} {x : Str} {params : Arguments} {body : Expr} {scope : Scope} {f0 cf a kS : Addr} {pm ctv : Value}
    (hd : Dens X.K c1 l xs) (rvs : Vals xs vs) (hk : KeysAre i ge γ l ks) (hun : γ[i]? = some .un) (wf1 : WF c1) (hr : Room (k + 3) X.A) (L : LamP X.env.scope scope x) (hN : X.N.Nodup) (hi : X.N[i]? = some x)
    (hbind : ∀ u, bindArgs (PySem.W.kla_fn "<lambda>" (X.env.qual ++ "<lambda>") params body scope (cloFrom X.env.cells scope.names []) pm (.ref cf) ctv) ⟨[u], []⟩ = pure [(x, u)])
    (hbody : ∀ (A : Around) (s : Shared) (H : Hp), Room k (A.deeper (lamEnv X scope s.heap.objs.size f0 cf)) → MP (lamCx X A X.stack s H C8.E0 scope f0 cf) Wn body ge)
    (hfr : f0 ∉ L2.frs X.stack) :
    Sk.Turns X.prog X.w X.A.in1.in1 (.ref f0) a kS vs ks (fun s => f0 ≠ a ∧ f0 ≠ kS ∧ KJ X pins σ f S c1 γ f0 (PySem.W.kla_obj "<lambda>" (X.env.qual ++ "<lambda>") params body scope (cloFrom X.env.cells scope.names []) pm cf ctv) cf a kS s) where
  keep := fun s' h' ⟨n1, n2, c', I, x1, R, hc, hf, hn, f1, f2⟩ m => by
    have I' := I.turnedL (h' := h') (t' := s'.toks) (ch := [kS, a]) (fun b o hb e => m b o (fun z => hb (by simp [z])) (fun z => hb (by simp [z])) e) fun b hb => by
      rcases List.mem_cons.mp hb with rfl | hb
      · exact f2
      · rw [List.mem_singleton.mp hb]
        exact f1
    exact ⟨n1, n2, c', I', x1, R, hc, m f0 _ n1 n2 hf, hn, f1, f2⟩
  turn := fun j v kk hv hkk s oa ok ⟨n1, n2, c', I, x1, R, hco, hf, hn, f1, f2⟩ ha hS => by
    obtain ⟨x0, hx0, rv⟩ : ∃ x0, xs[j]? = some x0 ∧ RelV x0 v := vals_at rvs (by simpa using hv)
    obtain ⟨d, hd0, den⟩ := (hd.ext wf1 x1).getv hx0
    have ek := hk.2 j d kk hd0 hkk
    have hr1 : Room (k + 1) X.A.in1.in1 := hr.in1.in1
    obtain ⟨tb, pe, sim⟩ := hbody X.A.in1.in1 s c'.H (hr1.deeper _)
    refine key_call (A' := X.A.in1.in1) I L hN hi rv I.env0.in1.in1 hf hco (hbind v) hr1 (fun _ => pe)
      (Q := fun w H' => w = .int kk ∧ ∃ c2 : Cf, c2.H = H' ∧ Ext S c' c2 ∧ Rel X.K f S c2 (σ.set i (some x0)) (γ.set i (.pu d))) ?_ ?_
    · refine sim f S c' _ (γ.set i (.pu d)) _ (R.setP den i) ?_
      rw [ek]
      intro w c2 x2 R2 _ q2
      exact ⟨q2, c2, rfl, x2, R2⟩
    · intro k' s' ⟨w, H', I', rw', ⟨ew, c2, eH, x2, R2⟩, un⟩
      subst eH
      subst ew
      obtain ⟨t, rfl⟩ := rw'
      have nS := fp_nofr I f2
      have nA := fp_nofr I f1
      have kS' : s'.heap.get? kS = some ok := un.keep kS ok hS f2.1 nS (by simp)
      have kA : s'.heap.get? a = some oa := un.keep a oa ha f1.1 nA (by simp)
      have x3 : Ext S c1 c2 := x1.trans R.wf x2
      refine ⟨t, rfl, ⟨n1, n2, c2, I', x3, R2.unset hun, x2.h cf _ hco (fun z => ?_) codeO_ne, un.keep f0 _ hf hn hfr (by simp), un.free f0 _ hf hn (by simp), ⟨un.free a _ ha f1.1 (by simp), f1.2⟩, ⟨un.free kS _ hS f2.1 (by simp), f2.2⟩⟩, kA, kS'⟩
      obtain ⟨ys, q⟩ := R.wf cf z.1
      rw [hco] at q
      unfold CodeO at q
      cases q
theorem dens_st0 {K : PySem.W.Frag} {c : Cf} {lo hi : Int} : Dens K c (rangeD lo (hi - lo).toNat) (rgV lo hi) := by
  have : ∀ l : List Nat, Dens K c (l.map fun i => D.int (lo + (i : Nat))) (l.map fun i => V.int (lo + (i : Nat))) := by
    intro l
    induction l with
    | nil => rfl
    | cons j l ih => exact ⟨_, _, rfl, rfl, ih⟩
  exact this _
theorem zip_keys : ∀ {l : List D} {xs : List V} {ks : List Int}, xs.length = l.length → ks.length = l.length → (l.zip (xs.zip ks)).map (fun b => PyData.int b.2.2) = ks.map PyData.int ∧ (l.zip (xs.zip ks)).map (fun b => (b.1, b.2.2)) = l.zip ks
  | [], [], [], _, _ => ⟨rfl, rfl⟩
  | d :: l, x :: xs, k :: ks, h1, h2 => by
    obtain ⟨e1, e2⟩ := zip_keys (l := l) (xs := xs) (ks := ks) (by simpa using h1) (by simpa using h2)
    exact ⟨by simp [e1], by simp [e2]⟩
  | [], _ :: _, _, h, _ => by simp at h
  | [], [], _ :: _, _, h => by simp at h
  | _ :: _, [], _, h, _ => by simp at h
  | _ :: _, _ :: _, [], _, h => by simp at h
theorem each_trip : ∀ {l : List D} {xs : List V} {ks : List Int} {vs : List Value}, xs.length = l.length → ks.length = l.length → Vals xs vs → PySem.W.EachIs (fun v (b : D × V × Int) => RelV b.2.1 v) vs (l.zip (xs.zip ks))
  | [], [], [], _, _, _, .nil => .nil
  | d :: l, x :: xs, k :: ks, _, h1, h2, .cons r t => .cons r (each_trip (by simpa using h1) (by simpa using h2) t)
  | [], _ :: _, _, _, h, _, _ => by simp at h
  | [], [], _ :: _, _, _, h, _ => by simp at h
  | _ :: _, [], _, _, h, _, _ => by simp at h
  | _ :: _, _ :: _, [], _, _, h, _ => by simp at h
theorem mem_trip {K : PySem.W.Frag} {c : Cf} : ∀ {l : List D} {xs : List V} {ks : List Int}, Dens K c l xs → ∀ b, b ∈ l.zip (xs.zip ks) → Den K c b.1 b.2.1
  | [], _, _, _, b, hb => by simp at hb
  | d :: l, _, [], ⟨x, r, e, q, z⟩, b, hb => by subst e; simp at hb
  | d :: l, _, k :: ks, ⟨x, r, e, q, z⟩, b, hb => by
    subst e
    rw [List.zip_cons_cons, List.zip_cons_cons] at hb
    rcases List.mem_cons.mp hb with rfl | hb
    · exact q
    · exact mem_trip z b hb
theorem vals_of_trip : ∀ {ts : List (D × V × Int)} {out : List Value}, PySem.W.EachIs (fun v (b : D × V × Int) => RelV b.2.1 v) out ts → Vals (ts.map (·.2.1)) out
  | _, _, .nil => .nil
  | _, _, .cons h t => .cons h (vals_of_trip t)
theorem dens_trip {K : PySem.W.Frag} {c : Cf} : ∀ (ts : List (D × V × Int)), (∀ b, b ∈ ts → Den K c b.1 b.2.1) → Dens K c (ts.map (·.1)) (ts.map (·.2.1))
  | [], _ => rfl
  | b :: ts, h => ⟨b.2.1, ts.map (·.2.1), rfl, h b List.mem_cons_self, dens_trip ts fun q hq => h q (List.mem_cons_of_mem _ hq)⟩
/-- the call, when the value and the lambda have come -/
theorem sort_call {f : Fx} {S : Addr → Prop} {c1 : Cf} {γ : Gm} {d : D} {l : List D} {v : V} {u : Value} {ks : List Int} {ge : Gm → Rs D} {i k : Nat} {x : Str} {params : Arguments} {body : Expr} {scope : Scope} {f0 cf : Addr} {pm ctv : Value} {Q : V → Hp → Prop}
    (I : L2.Inv X pins σ c1.H s) (R : Rel X.K f S c1 σ γ) (hv : Den X.K c1 d v) (ru : RelV v u) (ei : seqD d = some l) (hk : KeysAre i ge γ l ks) (hun : γ[i]? = some .un) (hr : Room (k + 3) X.A) (L : LamP X.env.scope scope x) (hN : X.N.Nodup) (hi : X.N[i]? = some x)
    (hbind : ∀ u, bindArgs (PySem.W.kla_fn "<lambda>" (X.env.qual ++ "<lambda>") params body scope (cloFrom X.env.cells scope.names []) pm (.ref cf) ctv) ⟨[u], []⟩ = pure [(x, u)])
    (hbody : ∀ (A : Around) (s : Shared) (H : Hp), Room k (A.deeper (lamEnv X scope s.heap.objs.size f0 cf)) → MP (lamCx X A X.stack s H C8.E0 scope f0 cf) Wn body ge)
    (hf : s.heap.get? f0 = some (PySem.W.kla_obj "<lambda>" (X.env.qual ++ "<lambda>") params body scope (cloFrom X.env.cells scope.names []) pm cf ctv)) (hn : c1.H f0 = none) (hfr : f0 ∉ L2.frs X.stack) (hco : c1.H cf = some (CodeO cf (X.env.qual ++ "<lambda>")))
    (h : Post X.K X.mg (vF X.K) W f S c1 σ γ Q (.ok ((srtK (l.zip ks)).map (·.1)) γ)) :
    wpAny (model X.prog X.w) X.A (call (.builtin "sorted") [u] [(Str.ofString "key", .ref f0)]) (EP X pins σ Q) X.xe s := by
  have hfl : f0 < s.heap.objs.size := Heap.lt_size hf
  -- the items
  obtain ⟨xs, hd, hz, col⟩ : ∃ xs, Dens X.K c1 l xs ∧ xs.length ≤ sizeLine ∧ ∀ (Q' : List Value → Shared → Prop) (E' : Value → Shared → Prop), (∀ (h' : Heap) (tk : Nat) (vs : List Value), (∀ b o, s.heap.get? b = some o → h'.get? b = some o) → Vals xs vs → Q' vs { s with heap := h', toks := tk }) → wpAny (model X.prog X.w) X.A.in1 (collect u) Q' E' s := by
    by_cases hrg : ∃ lo hi, d = .ob (.rng lo hi)
    · obtain ⟨lo, hi, rfl⟩ := hrg
      have ei' : (if -(2 ^ 62) ≤ lo ∧ lo < 2 ^ 62 ∧ -(2 ^ 62) ≤ hi ∧ hi < 2 ^ 62 ∧ (hi - lo).toNat ≤ 2 ^ 24 then some (rangeD lo (hi - lo).toNat) else none) = some l := ei
      have hb : -(2 ^ 62) ≤ lo ∧ lo < 2 ^ 62 ∧ -(2 ^ 62) ≤ hi ∧ hi < 2 ^ 62 ∧ (hi - lo).toNat ≤ 2 ^ 24 := by
        by_cases z : -(2 ^ 62) ≤ lo ∧ lo < 2 ^ 62 ∧ -(2 ^ 62) ≤ hi ∧ hi < 2 ^ 62 ∧ (hi - lo).toNat ≤ 2 ^ 24
        · exact z
        · rw [if_neg z] at ei'; cases ei'
      rw [if_pos hb] at ei'
      cases ei'
      obtain ⟨p, rfl, ep⟩ : ∃ p, v = .ref p ∧ c1.H p = some (.rng lo hi) := hv
      obtain rfl : u = Value.ref p := ru
      obtain ⟨t1, t2, t3, ir⟩ := I.hok p _ ep
      obtain ⟨b1, b2, b3, b4, b5⟩ := hb
      refine ⟨rgV lo hi, dens_st0, by rw [rgV_length, sizeLine_eq]; omega, fun Q' E' hq => ?_⟩
      exact collect_range (n := (hi - lo).toNat) hr.hd ir (small_one b1 b2 b3 b4) (rangeSize_nat lo hi) b5 fun h' tk acc k1 hi => hq h' tk _ k1 (vals_rg hi)
    · have ei' : itemsD d = some l := by
        cases d with
        | ob o =>
          cases o with
          | rng lo hi => exact (hrg ⟨lo, hi, rfl⟩).elim
          | _ => exact ei
        | _ => exact ei
      obtain ⟨p, xs, rfl, hd, hs⟩ := den_ref hv ei'
      obtain rfl : u = Value.ref p := ru
      rcases hs with ⟨m, rfl, hs, hat⟩ | ⟨m, rfl, hs⟩
      · obtain ⟨its, r, hl, hz⟩ := I.list hs
        obtain ⟨ob, ho, hc, nn, hdd⟩ := hl.isList
        exact ⟨xs, hd, hz, fun Q' E' hq => wpAny_collect_seq p (.inl rfl) ho hc hdd (fun h' k1 => hq h' s.toks _ k1 (by simpa using r)) (by rw [List.size_toArray, ← r.length]; exact hz)⟩
      · obtain ⟨its, r, hl, hz⟩ := I.tuple hs.sq
        obtain ⟨ob, ho, hc, nn, hdd⟩ := hl
        exact ⟨xs, hd, hz, fun Q' E' hq => wpAny_collect_seq p (.inr rfl) ho hc hdd (fun h' k1 => hq h' s.toks _ k1 (by simpa using r)) (by rw [List.size_toArray, ← r.length]; exact hz)⟩
  have hlen : xs.length = l.length := hd.length
  refine Sk.sorted_ (ks := ks) (G := fun vs => Vals xs vs) (J := fun a kS s => f0 ≠ a ∧ f0 ≠ kS ∧ KJ X pins σ f S c1 γ f0 (PySem.W.kla_obj "<lambda>" (X.env.qual ++ "<lambda>") params body scope (cloFrom X.env.cells scope.names []) pm cf ctv) cf a kS s) (fun x => ksk_t1 f0 x) (by have := hr.units66; omega) col (fun vs g => ?_) (fun a kS vs g ne => sort_turns hd g hk hun R.wf hr L hN hi hbind hbody hfr) (fun h1 h2 tk a kS k1 k2 ea eS => ?_) fun a kS s' vs out cc g ⟨n1, n2, c', I', x1, R', hc, hf', hn', f1, f2⟩ ha ko => ?_
  · have := g.length
    exact ⟨by rw [hk.1]; omega, by omega⟩
  · have I1 : L2.Inv X pins σ c1.H { s with heap := h1, toks := tk } := I.kept k1
    have k3 : ∀ b o, h1.get? b = some o → h2.get? b = some o := fun b o e => k2 b o (by rw [ea]; exact Nat.ne_of_lt (Heap.lt_size e)) e
    have I2 : L2.Inv X pins σ c1.H { s with heap := h2, toks := tk } := I.kept fun b o e => k3 b o (k1 b o e)
    have hle : f0 < h1.objs.size := Heap.lt_size (k1 _ _ hf)
    have la : h1.objs.size ≤ a := by rw [ea]; exact Nat.le_refl _
    have lS : h1.objs.size ≤ kS := by rw [eS, ea]; exact Nat.le_add_right _ _
    exact ⟨Nat.ne_of_lt (Nat.lt_of_lt_of_le hle la), Nat.ne_of_lt (Nat.lt_of_lt_of_le hle lS), c1, I2, .refl, R, hco, k3 _ _ (k1 _ _ hf), hn, I1.fpOk la (I1.hok.fresh la), I1.fpOk lS (I1.hok.fresh lS)⟩
  · -- the sorted list is ours
    have hkl : ks.length = l.length := hk.1
    obtain ⟨em, ez⟩ := zip_keys hlen hkl
    rw [← em] at ko
    have eo := PySem.W.keyedOut_each (fun b : D × V × Int => PyData.int b.2.2) ko (each_trip hlen hkl g)
    have ele : PySem.W.dataLe false (fun b : D × V × Int => PyData.int b.2.2) = fun a b => leK (a.1, a.2.2) (b.1, b.2.2) := by
      rw [PySem.W.dataLe_int]; rfl
    rw [ele] at eo
    have el : (srtK (l.zip ks)).map (·.1) = ((l.zip (xs.zip ks)).mergeSort fun a b => leK (a.1, a.2.2) (b.1, b.2.2)).map (·.1) := by
      rw [srtK_eq, ← ez, ← List.map_mergeSort (r := fun a b : D × V × Int => leK (a.1, a.2.2) (b.1, b.2.2)) (fun a _ b _ => rfl), List.map_map]
      rfl
    have hm : ∀ b, b ∈ ((l.zip (xs.zip ks)).mergeSort fun a b => leK (a.1, a.2.2) (b.1, b.2.2)) → Den X.K c1 b.1 b.2.1 := fun b hb => mem_trip hd b ((List.mergeSort_perm _ _).mem_iff.mp hb)
    have hlz : ((l.zip (xs.zip ks)).mergeSort fun a b => leK (a.1, a.2.2) (b.1, b.2.2)).length ≤ sizeLine := by
      rw [List.length_mergeSort, List.length_zip, List.length_zip]; omega
    generalize ((l.zip (xs.zip ks)).mergeSort fun a b => leK (a.1, a.2.2) (b.1, b.2.2)) = ts at eo el hm hlz
    have rv : Vals (ts.map (·.2.1)) out := vals_of_trip eo
    have d1 : Dens X.K c1 (ts.map (·.1)) (ts.map (·.2.1)) := dens_trip ts hm
    have d2 := d1.ext R.wf x1
    have I3 := Inv.take (t' := s'.toks) (h' := s'.heap) I' (o := .lst (ts.map (·.2.1))) (fun b o _ e => e) f1 ⟨by rw [List.length_map]; exact hlz, out, cc, rv, ha⟩
    refine ⟨.ref a, _, I3, rfl, ?_⟩
    rw [el] at h
    have na : c'.H a = none := f1.1
    exact h (.ref a) (c'.add a (ts.map (·.2.1))) (x1.trans R'.wf (Ext.add na).nop) (R'.step (Ext.add na) (R'.wf.add na)) .refl ⟨a, rfl, x1.noneS R'.wf na, Own.add R'.wf na d2⟩
theorem mf_sortK {i k : Nat} {a body : Expr} {ga ge : Gm → Rs D} {x : Str} {params : Arguments} {scope : Scope} {p lpos kpos pos : Pos} (hpu : Pu ge)
    (hr : Room (k + 3) X.A) (hL : LamHere X) (hg : Gl X "sorted") (hm : X.mg "sorted" = none) (hN : X.N.Nodup) (hi : X.N[i]? = some x) (ha : MP X W a ga) (L : LamP X.env.scope scope x)
    (hbody : ∀ (f0 cf : Addr) (A : Around) (s : Shared) (H : Hp), Room k (A.deeper (lamEnv X scope s.heap.objs.size f0 cf)) → MP (lamCx X A X.stack s H C8.E0 scope f0 cf) Wn body ge)
    (hbind : ∀ (q : Str) (cl : List (Str × Addr)) (pm cv ctv u : Value), bindArgs (PySem.W.kla_fn "<lambda>" q params body scope cl pm cv ctv) ⟨[u], []⟩ = pure [(x, u)] := by intros; rfl)
    (hdef : defaultsOf params X.env = ([], []) := by rfl)
    (h3 : starEach [a] X.env = (false, eval a X.env) :: starEach [] X.env := by rfl)
    (he : backTo pos (starEach [a] X.env) = (false, eval a X.env) :: backTo pos (starEach [] X.env) := by rfl) (hpl : (backTo pos (starEach [a] X.env)).any (·.1) = false := by rfl) :
    MF X W (.Call (.Name "sorted" p) [a] (⟨some "key", .Lambda params body scope lpos, kpos⟩ :: []) pos) (gSortK i ga ge) := by
  obtain ⟨⟨ta, pa, sa⟩, _⟩ := md_cons ha md_nil h3
  refine mf_raw fun f S c σ γ Q pins s R hp I => ?_
  refine wpAny_Call_Name_kw (ld_blt I hg hm (show bootBuiltins "sorted" = some (.builtin "sorted") by decide +kernel) ?_ (by decide) (by decide))
  refine callWith_kw (thn (pa.run pos pins s σ c.H (fun vs H' => ∃ (c1 : Cf) (ds : List D) (γ1 : Gm), c1.H = H' ∧ Rel X.K f S c1 σ γ1 ∧ Dens X.K c1 ds vs ∧ Post X.K X.mg (vF X.K) W f S c1 σ γ1 Q (gSortRest i ge ds γ1)) I ?_) fun us s1 h => ?_) he hpl rfl rfl
  · exact sa.bind stab_vF R hp fun ds γ1 vs c1 e0 x1 R1 k1 q1 h1 => ⟨c1, ds, γ1, rfl, R1, q1, h1⟩
  · obtain ⟨vs, H1, I1, rv, c1, ds, γ1, rfl, R1, q1, h1⟩ := h
    obtain ⟨d, l, ks, rfl, ei, hk, hun, hp1⟩ := sortRest_post hpu h1
    obtain ⟨v, rfl, hv⟩ := dens1 q1
    obtain ⟨u, rfl, ru⟩ := vals1 rv
    obtain ⟨cc, P, TB, hcode, hmem, hu⟩ := hL
    obtain ⟨ps, hP, ht, hcs⟩ := R1.ext.tb (P, X.env.qual ++ "<lambda>") hmem (R1.wf0.tab _ hmem)
    refine kws_cons (lam_make3 I1 TB hcode hP ht hcs hdef (L.has I1.ok) fun f0 cf pm ctv H2 s2 I2 md hf hn hfr hlt hco => ?_)
    have x2 : ∀ {S}, Ext S c1 ⟨c1.M, H2⟩ := made_ext md hP ht hcs hu
    have w2 : WF ⟨c1.M, H2⟩ := made_wf md hP R1.wf
    have R2 : Rel X.K f S ⟨c1.M, H2⟩ σ γ1 := R1.step x2 w2
    refine kws_nil ?_
    refine sort_call (W := W) (k := k) I2 R2 (hv.ext R1.wf (x2 (S := Nop))) ru ei hk hun hr L hN hi (fun u => hbind _ _ _ _ _ u) (fun A s H => hbody f0 cf A s H) hf hn hfr hco ?_
    exact fun v c' x R k q => hp1 v c' (x2.trans w2 x) R k (by obtain ⟨p, e, n, o⟩ := q; exact ⟨p, e, (x2 (S := Nop)).noneS w2 n, o⟩)
end
end Fv

set_option maxHeartbeats 2000000
/-! ### itertools.combinations of anything that can be collected -/
namespace Cb
open PySem PySem.Spec
open Sem (wp)
theorem plain_new : plainId "itertools.combinations.__new__" = true := by decide +kernel
section
variable {prog : Program} {w : World} {A : Around} {E : Value → Shared → Prop} {s : Shared}
theorem code_new {v : Value} {r : Int} {t : Tok} {G : List Value → Prop} {Q₁ : Value → Shared → Prop} (h0 : 0 ≤ r) (h1 : r ≤ 1000)
    (col : ∀ (Q' : List Value → Shared → Prop) (E' : Value → Shared → Prop), (∀ (h' : Heap) (tk : Nat) (vs : List Value), (∀ b o, s.heap.get? b = some o → h'.get? b = some o) → G vs → Q' vs { s with heap := h', toks := tk }) → wpAny (model prog w) A.in1 (collect v) Q' E' s)
    (hG : ∀ vs, G vs → vs.length ≤ sizeLine)
    (h : ∀ (g1 g2 : Heap) (tk : Nat) (p a : Addr) (vs : List Value), G vs → (∀ b o, s.heap.get? b = some o → g1.get? b = some o) → IsC g2 a p (if vs.length < r.toNat then 2 else 0) .none (List.range r.toNat) → IsP g2 p vs → p ≠ a → g1.objs.size ≤ p → g1.objs.size ≤ a → (∀ b o, g1.get? b = some o → g2.get? b = some o) → Q₁ (.ref a) { s with heap := g2, toks := tk }) :
    codeAny (model prog w) A (.call (.builtin "itertools.combinations.__new__") ⟨[.type "itertools.combinations", v, .int r t], []⟩) (wants Q₁ E) s := by
  refine codeAny_of_tree ?_
  show wpAny _ A.in1 (do checkBuiltinCall "itertools.combinations.__new__" ⟨[.type "itertools.combinations", v, .int r t], []⟩; again (.builtin "itertools.combinations.__new__" ⟨[.type "itertools.combinations", v, .int r t], []⟩)) _ _ s
  refine wpAny_bind (wpAny_of_eq (nc2 _ _) (wpAny_pure ⟨plainId_quiet plain_new _, codeAny_builtin en_new ?_⟩))
  rw [Around.under_plainId plain_new _]
  have hdict := noDict
  repeat wp_step
  refine wpAny_of_eq (a := true) (by rw [show ("itertools." ++ "combinations") = "itertools.combinations" from by decide +kernel]; exact sub) ?_
  refine wpAny_ite_false rfl ?_
  refine wpAny_pure ?_
  refine wpAny_bind (wpAny_of_eq (bindN _ _) ?_)
  refine wpAny_bind (m := Builtin.Itertools.itSsizeArg (.int r t)) ?_
  have hr : (decide (r < -(2 ^ 63 : Int)) || decide (r ≥ 2 ^ 63)) = false := by rw [decide_eq_false (by omega), decide_eq_false (by omega)]; rfl
  refine wpAny_ite_false (by rw [hr]; rfl) ?_
  refine wpAny_pure ?_
  refine wpAny_bind (col _ _ fun g1 tk vs k1 g => ?_)
  have hsz := hG vs g
  refine wpAny_ite_false (decide_eq_false (by omega)) ?_
  have tm : Builtin.Itertools.itTooMany r = false := by unfold Builtin.Itertools.itTooMany; exact decide_eq_false (by omega)
  refine wpAny_ite_false (by rw [tm]; rfl) ?_
  refine wpAny_bind (wpAny_newTuple ?_ (by simpa using hsz))
  refine wpAny_pure ?_
  refine wpAny_bind ?_
  refine wpAny_ite_true (by rw [hdict]; rfl) ?_
  refine wpAny_newObj_type ?_ (by show (_ : Array Value).size ≤ sizeLine + 2; rw [List.size_toArray, sizeLine_eq]; simp only [List.length_append, List.length_map, List.length_range, List.length_cons, List.length_nil]; omega)
  refine wpAny_pure ?_
  have zs : (g1.push { cls := .type "tuple", data := .seq vs.toArray }).objs.size = g1.objs.size + 1 := Heap.size_push ..
  refine h g1 _ tk g1.objs.size _ vs g k1 (Heap.get?_push_size _ rfl) ?_ ?_ (Nat.le_refl _) ?_ fun b ob e => ?_
  · exact Heap.get?_push_of_some _ (Heap.get?_push_size _ rfl)
  · exact Nat.ne_of_lt (by rw [zs]; exact Nat.lt_succ_self _)
  · rw [zs]; exact Nat.le_succ _
  · exact Heap.get?_push_of_some _ (Heap.get?_push_of_some _ e)
theorem call_g {v : Value} {r : Int} {t : Tok} {G : List Value → Prop} {Q : Value → Shared → Prop} (h0 : 0 ≤ r) (h1 : r ≤ 1000)
    (col : ∀ (Q' : List Value → Shared → Prop) (E' : Value → Shared → Prop), (∀ (h' : Heap) (tk : Nat) (vs : List Value), (∀ b o, s.heap.get? b = some o → h'.get? b = some o) → G vs → Q' vs { s with heap := h', toks := tk }) → wpAny (model prog w) A.in1.in1 (collect v) Q' E' s)
    (hG : ∀ vs, G vs → vs.length ≤ sizeLine)
    (h : ∀ (g1 g2 : Heap) (tk : Nat) (p a : Addr) (vs : List Value), G vs → (∀ b o, s.heap.get? b = some o → g1.get? b = some o) → IsC g2 a p (if vs.length < r.toNat then 2 else 0) .none (List.range r.toNat) → IsP g2 p vs → p ≠ a → g1.objs.size ≤ p → g1.objs.size ≤ a → (∀ b o, g1.get? b = some o → g2.get? b = some o) → Q (.ref a) { s with heap := g2, toks := tk }) :
    wpAny (model prog w) A (call (.type "itertools.combinations") [v, .int r t]) Q E s := by
  refine callType_codes (Q₁ := fun obj s₁ => s₁.TypeIs obj "itertools.combinations" ∧ Q obj s₁) called (tc2 _ _) F.entry_object_init
    (code_new (A := A.in1) h0 h1 col hG fun g1 g2 tk p a vs g k1 q1 q2 q3 q4 q5 k2 => ⟨⟨_, q1, rfl⟩, h g1 g2 tk p a vs g k1 q1 q2 q3 q4 q5 k2⟩) fun obj s₁ h₁ => ?_
  exact ⟨h₁.1, F.args_object_init_3 obj _ _, object_init_meets called.init.lookup called.made (by decide) prog w A.in1 _ s₁ ⟨h₁.1, rfl, h₁.2⟩⟩
end
end Cb
namespace Fv
variable [LC : LamC]
open PySem PySem.Spec L2 PyProof.Rows
/-- what can be collected, and what then comes -/
def ColOk (X : Cx) (σ : L2.St) (H : Hp) (v : V) (xs : List V) : Prop := ∀ (pins : List (Addr × Obj)) (s : Shared) (u : Value), L2.Inv X pins σ H s → RelV v u → xs.length ≤ sizeLine ∧ ∀ (A : Around), A.handled = none → ∀ (Q' : List Value → Shared → Prop) (E' : Value → Shared → Prop), (∀ (h' : Heap) (tk : Nat) (vs : List Value), (∀ b o, s.heap.get? b = some o → h'.get? b = some o) → Vals xs vs → Q' vs { s with heap := h', toks := tk }) → wpAny (model X.prog X.w) A (collect u) Q' E' s
theorem col_of {X : Cx} {σ : L2.St} {c1 : Cf} {d : D} {l : List D} {v : V} (hv : Den X.K c1 d v) (ei : seqD d = some l) : ∃ xs, Dens X.K c1 l xs ∧ ColOk X σ c1.H v xs := by
  by_cases hrg : ∃ lo hi, d = .ob (.rng lo hi)
  · obtain ⟨lo, hi, rfl⟩ := hrg
    have ei' : (if -(2 ^ 62) ≤ lo ∧ lo < 2 ^ 62 ∧ -(2 ^ 62) ≤ hi ∧ hi < 2 ^ 62 ∧ (hi - lo).toNat ≤ 2 ^ 24 then some (rangeD lo (hi - lo).toNat) else none) = some l := ei
    have hb : -(2 ^ 62) ≤ lo ∧ lo < 2 ^ 62 ∧ -(2 ^ 62) ≤ hi ∧ hi < 2 ^ 62 ∧ (hi - lo).toNat ≤ 2 ^ 24 := by
      by_cases z : -(2 ^ 62) ≤ lo ∧ lo < 2 ^ 62 ∧ -(2 ^ 62) ≤ hi ∧ hi < 2 ^ 62 ∧ (hi - lo).toNat ≤ 2 ^ 24
      · exact z
      · rw [if_neg z] at ei'; cases ei'
    rw [if_pos hb] at ei'
    cases ei'
    obtain ⟨p, rfl, ep⟩ : ∃ p, v = .ref p ∧ c1.H p = some (.rng lo hi) := hv
    refine ⟨rgV lo hi, dens_st0, fun pins s u I ru => ?_⟩
    obtain rfl : u = Value.ref p := ru
    obtain ⟨t1, t2, t3, ir⟩ := I.hok p _ ep
    obtain ⟨b1, b2, b3, b4, b5⟩ := hb
    refine ⟨by rw [rgV_length, sizeLine_eq]; omega, fun A hA Q' E' hq => ?_⟩
    exact collect_range (n := (hi - lo).toNat) hA ir (small_one b1 b2 b3 b4) (rangeSize_nat lo hi) b5 fun h' tk acc k1 hi => hq h' tk _ k1 (vals_rg hi)
  · have ei' : itemsD d = some l := by
      cases d with
      | ob o =>
        cases o with
        | rng lo hi => exact (hrg ⟨lo, hi, rfl⟩).elim
        | _ => exact ei
      | _ => exact ei
    obtain ⟨p, xs, rfl, hd, hs⟩ := den_ref hv ei'
    refine ⟨xs, hd, fun pins s u I ru => ?_⟩
    obtain rfl : u = Value.ref p := ru
    rcases hs with ⟨m, rfl, hs, hat⟩ | ⟨m, rfl, hs⟩
    · obtain ⟨its, r, hl, hz⟩ := I.list hs
      obtain ⟨ob, ho, hc, nn, hdd⟩ := hl.isList
      exact ⟨hz, fun A hA Q' E' hq => wpAny_collect_seq p (.inl rfl) ho hc hdd (fun h' k1 => hq h' s.toks _ k1 (by simpa using r)) (by rw [List.size_toArray, ← r.length]; exact hz)⟩
    · obtain ⟨its, r, hl, hz⟩ := I.tuple hs.sq
      obtain ⟨ob, ho, hc, nn, hdd⟩ := hl
      exact ⟨hz, fun A hA Q' E' hq => wpAny_collect_seq p (.inr rfl) ho hc hdd (fun h' k1 => hq h' s.toks _ k1 (by simpa using r)) (by rw [List.size_toArray, ← r.length]; exact hz)⟩
def dCombG : D → D → Option (List D)
  | d, .int r => (seqD d).bind fun l => if 0 ≤ r ∧ r ≤ 1000 then (allC l.length r.toNat).map fun ls => ls.map fun ix => .tup (ix.map fun j => l.getD j .non) else none
  | _, _ => none
def gCombG (ga gb : Gm → Rs D) : Gm → Rs (List D) := fun γ => (ga γ).bind fun d γ1 => (gb γ1).bind fun e γ2 => ofO (dCombG d e) γ2
section
variable {X : Cx} {W : WX} {pos p tpos : Pos} {tg a b : Expr} {ga gb : Gm → Rs D}
@[simp] theorem e_gCombG {γ : Gm} : gCombG ga gb γ = (ga γ).bind fun d γ1 => (gb γ1).bind fun e γ2 => ofO (dCombG d e) γ2 := hide rfl
def iCbG (X : Cx) (ta : TA) : TI := fun σ H R => ta σ H fun vs H1 => ∃ (v : V) (r : Int) (xs : List V) (ls : List (List Nat)), vs = [v, .int r] ∧ ColOk X σ H1 v xs ∧ 0 ≤ r ∧ r ≤ 1000 ∧ allC xs.length r.toNat = some ls ∧ R (Icb xs ls) H1
theorem pi_combG {ta : TA} (hcm : X.calm = true) (hg : Gl X "combinations") (hm : X.mg "combinations" = some (.type "itertools.combinations")) (ha : PA X [a, b] ta)
    (hs : starEach [a, b] X.env = (false, eval a X.env) :: starEach [b] X.env := by rfl) (hpl : (backTo pos (starEach [b] X.env)).any (·.1) = false := by rfl) :
    PI X tg (.Call (.Name "combinations" p) [a, b] [] pos) (iCbG X ta) := by
  refine ⟨fun pins s σ H R I h => ?_⟩
  refine Call_ (ld_glob I hg hm (PyProof.Rows.callWith_type1 (thn (ha.run pos pins s σ H _ I h) fun us s1 ⟨vs, H1, I1, r1, q1⟩ => ?_) hs hpl))
  obtain ⟨v, r, xs, ls, ex, col0, h0, h1, hc, q⟩ := q1
  subst ex
  obtain ⟨u, v', rfl, ru, rv⟩ := vals2 r1
  obtain ⟨t, rfl⟩ := rv
  obtain ⟨hz, col⟩ := col0 pins s1 u I1 ru
  refine Cb.call_g (G := fun vs => Vals xs vs) h0 h1 (col _ (I1.ok.hd hcm)) (fun vs g => by rw [← g.length]; exact hz) fun g1 g2 tk q1 a1 vs g k1 c1 p1 ne l1 l2 k2 => ?_
  have hl := g.length
  have I2 : L2.Inv X pins σ H1 { s1 with heap := g1, toks := tk } := I1.kept k1
  have I3 : L2.Inv X pins σ H1 { s1 with heap := g2, toks := tk } := I1.kept fun b o e => k2 b o (k1 b o e)
  have ok := allC_ok hc
  refine Cb.iter_c c1 ⟨a1, [a1, q1], _, _, H1, rfl, I3, turn_c (n := xs.length) (r := r.toNat) g hl.symm ok (by omega) ne, ⟨p1, _, _, _, c1, ?_⟩, fun b hb => ?_, q⟩
  · rw [← hl]
    by_cases hlt : xs.length < r.toNat
    · rw [if_pos hlt]; exact .inr (.inr ⟨rfl, ok.few hlt⟩)
    · rw [if_neg hlt]; exact .inl ⟨rfl, rfl, ok.head hlt⟩
  · have hle : g1.objs.size ≤ b := by
      rcases (show b = a1 ∨ b = q1 by simpa using hb) with z | z
      · rw [z]; exact l2
      · rw [z]; exact l1
    have f := I2.fpOk hle (I2.hok.fresh hle)
    exact f
theorem mi_combG (hcm : X.calm = true) (hg : Gl X "combinations") (hm : X.mg "combinations" = some (.type "itertools.combinations")) (ha : MP X W a ga) (hb : MP X W b gb) (hs3 : starEach [a, b] X.env = (false, eval a X.env) :: starEach [b] X.env := by rfl) (hs4 : starEach [b] X.env = (false, eval b X.env) :: starEach [] X.env := by rfl) (hpl : (backTo pos (starEach [b] X.env)).any (·.1) = false := by rfl) :
    MI X W tg (.Call (.Name "combinations" p) [a, b] [] pos) (gCombG ga gb) := by
  obtain ⟨ta, h1, s1⟩ := ha
  obtain ⟨tb, h2, s2⟩ := hb
  refine ⟨_, pi_combG hcm hg hm (pa_cons h1 (pa_cons h2 pa_nil hs4) hs3) hs3 hpl, fun f S c σ γ Q R hp => s1.bind stab_vI R hp fun d γ1 v c1 _ x1 R1 k1 q1 h3 => s2.bind stab_vI R1 h3 fun e γ2 w c2 _ x2 R2 k2 q2 h4 => ?_⟩
  obtain ⟨z, e1, h7⟩ := h4.fin R2
  have q1' := Den.ext R1.wf x2 q1
  cases e with
  | int r =>
    have e1' : ((seqD d).bind fun l => if 0 ≤ r ∧ r ≤ 1000 then (allC l.length r.toNat).map fun ls => ls.map fun ix => D.tup (ix.map fun j => l.getD j .non) else none) = some z := by
      cases d <;> exact e1
    obtain ⟨l, el, e1''⟩ := Option.bind_eq_some_iff.mp e1'
    have rb : 0 ≤ r ∧ r ≤ 1000 := by
      by_cases hb : 0 ≤ r ∧ r ≤ 1000
      · exact hb
      · rw [if_neg hb] at e1''; cases e1''
    rw [if_pos rb] at e1''
    obtain ⟨ls, e3, e4⟩ := Option.map_eq_some_iff.mp e1''
    subst e4
    obtain ⟨xs, hd, hcol⟩ := col_of (σ := σ) q1' el
    have hl : xs.length = l.length := hd.length
    refine ⟨v, r, xs, ls, by rw [show w = .int r from q2], hcol, rb.1, rb.2, by rw [hl]; exact e3, ?_⟩
    exact h7 _ c2 .refl R2.wf (IterOk.comb (n := r.toNat) (fun c1 x => dens_mono x hd) (allC_ok e3))
  | _ => cases d <;> cases e1
end
end Fv

/-! ### a def with lambdas that lets exceptions out -/
namespace Fv
variable [LC : LamC]
open PySem L2
open PyProof.Rows (envOfC)
section
theorem fokLX {P : Program} {w : World} {K : PySem.W.Frag} {mg : Str → Option Value} {base : Heap} {x : Str} {params : Arguments} {body : List Stmt} {scope : Scope} {fd : FuncData} {N ps : List Str} {k : Nat} {h : Gm → Out} (F : FunD K x x params body scope [] [] (He.fAd K (x, none)) fd) (D : LamD K mg base x) (S : FnScope N ps scope)
    (hb : ∀ (cdv : Value) (A : Around) (outer : List Env) (s : Shared) (H : Hp) (E : XK), Room k (A.deeper (envOfC x scope s.heap.objs.size (He.fAd K (x, none)) cdv)) → Takes (cxOf (L2.CX P w) P w K mg base N x scope (He.fAd K (x, none)) cdv A outer s H E) (WL E) →
      PassesOwn (model P w) (cxOf (L2.CX P w) P w K mg base N x scope (He.fAd K (x, none)) cdv A outer s H E).A (cxOf (L2.CX P w) P w K mg base N x scope (He.fAd K (x, none)) cdv A outer s H E).env (cxOf (L2.CX P w) P w K mg base N x scope (He.fAd K (x, none)) cdv A outer s H E).xe → LamHere (cxOf (L2.CX P w) P w K mg base N x scope (He.fAd K (x, none)) cdv A outer s H E) → MSs (cxOf (L2.CX P w) P w K mg base N x scope (He.fAd K (x, none)) cdv A outer s H E) (WL E) body h) :
    FnOk P w K mg base (L2.CX P w) (k + 1) (He.fAd K (x, none)) fd ps (spF K mg ps.length (runX N.length h)) := by
  obtain ⟨oc, od, dV, kV, doc, pm, an, cdv0, ct, osl, rfl, lk, hcd, hdf, hkf⟩ := F.ex
  obtain ⟨c, rfl⟩ := He.codeIn_ref hcd
  have ec : He.codeOf K (x, none) = c := He.codeOf_eq lk rfl
  refine fn_of lk hcd S (fun vs H Q E z => z.1) fun A outer s H vs Q E hr z => ?_
  obtain ⟨t, h1, s1⟩ := hb (.ref c) A outer s H E hr (takes_of (E₁ := fun e' s'' => L2.CX P w outer H s E e' s'') rfl rfl rfl rfl) (passes_of (E₁ := fun e' s'' => L2.CX P w outer H s E e' s'') rfl) ⟨c, _, by have := D.tb; rw [show (He.cT K (x, none)).1 = c from ec] at this; exact this, rfl, D.mem, D.inj⟩
  refine ⟨t, h1, ?_⟩
  obtain ⟨hl, g, γ, rfl, R, hp⟩ := z
  have hlen : γ.length = vs.length := by rw [← R.len, List.length_map]
  have R' := start_rel R (N.length - vs.length)
  refine s1 g g.c0 (start N vs) (γ ++ List.replicate (N.length - vs.length) SV.un) _ (show Rel K g g.S g.c0 (start N vs) (γ ++ List.replicate (N.length - vs.length) SV.un) from R') ?_
  unfold runX at hp
  rw [hlen] at hp
  cases e : h (γ ++ List.replicate (N.length - vs.length) .un) with
  | rt d g' =>
    rw [e] at hp
    simp only at hp
    cases e2 : finR γ g' with
    | none => rw [e2] at hp; exact hp.elim
    | some qs =>
      rw [e2] at hp
      exact fun v σ' c' px R2 hd => hp v c' (fin_rel R px R2 e2) hd
  | nx g' =>
    rw [e] at hp
    simp only at hp
    cases e2 : finR γ g' with
    | none => rw [e2] at hp; exact hp.elim
    | some qs =>
      rw [e2] at hp
      exact fun σ' c' px R2 => hp .non c' (fin_rel R px R2 e2) rfl
  | ex n fs g' =>
    rw [e] at hp
    simp only at hp
    cases e2 : finR γ g' with
    | none => rw [e2] at hp; exact hp.elim
    | some qs =>
      rw [e2] at hp
      exact fun C d σ' c' hm px R2 hx => hp C d c' hm (fin_rel R px R2 e2) hx
  | _ => rw [e] at hp; exact hp.elim
end
end Fv

/-! ### sorted of a tuple of alike data -/
namespace Fv
variable [LC : LamC]
open PySem L2
open PyProof.Rows (seqObj sortedHeap list_sort_tree sortedHeap_at sortedHeap_old kind_sorted plain_sorted entry_sorted args_sorted1 slot_list_sort entry_list_sort args_list_sort)
def rSortTD (K : PySem.W.Frag) : List V → Hp → VK → Prop := fun vs H Q => ∃ (k : Addr) (xs : List V) (l : List D), vs = [V.ref k] ∧ SqT K H k xs ∧ DpAll K H xs (toPs l) ∧ xs.length = l.length ∧ sortOk l = true ∧ ∀ q, H q = none → Q (.ref q) (upd H q (.lst ((pairS l xs).map (·.2))))
section
variable {X : Cx}
mutual
theorem reads_in {h : Heap} : ∀ {v : Value} {d : PyData} {as : List Addr}, Reads h v d as → ∀ a, a ∈ as → ∃ o, h.get? a = some o
  | _, _, _, .none, a, m => nomatch m
  | _, _, _, .bool b, a, m => nomatch m
  | _, _, _, .int i t, a, m => nomatch m
  | _, _, _, .str x t, a, m => nomatch m
  | _, _, _, .list h1 h2 h3 h4, a, m => by
    rcases List.mem_cons.mp m with rfl | m
    · exact ⟨_, h1⟩
    · exact readsAll_in h4 a m
  | _, _, _, .tuple h1 h2 h3 h4, a, m => readsAll_in h4 a m
  | _, _, _, .dict h1 h2 h3 h4 h5, a, m => by
    rcases List.mem_append.mp m with m | m
    · rcases List.mem_cons.mp m with rfl | m
      · exact ⟨_, h1⟩
      · exact readsAll_in h4 a m
    · exact readsAll_in h5 a m
theorem readsAll_in {h : Heap} : ∀ {vs : List Value} {ds : List PyData} {as : List Addr}, ReadsAll h vs ds as → ∀ a, a ∈ as → ∃ o, h.get? a = some o
  | _, _, _, .nil, a, m => nomatch m
  | _, _, _, .cons h1 h2, a, m => by
    rcases List.mem_append.mp m with m | m
    · exact reads_in h1 a m
    · exact readsAll_in h2 a m
end
theorem each_off {h h' : Heap} {p : Addr} (keep : ∀ b o, h.get? b = some o → h'.get? b = some o) (hp : ∀ o, h.get? p ≠ some o) : ∀ {its : List Value} {ps : List (D × V)}, PySem.W.EachIs (fun v (p : D × V) => ∃ as, Reads h v (toP p.1) as) its ps → PySem.W.EachIs (fun v (q : D × V) => ∃ as, Reads h' v (toP q.1) as ∧ p ∉ as) its ps
  | _, _, .nil => .nil
  | _, _, .cons ⟨as, r⟩ t => .cons ⟨as, PyProof.Rows.Reads.keeps keep r, fun m => by
      obtain ⟨o, e⟩ := reads_in r p m
      exact hp o e⟩ (each_off keep hp t)
theorem cr_sortTD (hu : X.A.units + 66 < cLine) : CallR X (.builtin "sorted") (rSortTD X.K) := by
  intro pn s st hh vs us Q inv rv hw
  obtain ⟨k, xs, l, rfl, hs, hD, hlen, hok, q⟩ := hw
  rw [Vals.ref1 rv]
  obtain ⟨its, r, ⟨o, ho, hc, n, hd⟩, hz⟩ := inv.tuple hs
  obtain ⟨as, hr⟩ := Dp.readsAll inv (toPs l) xs its hD r
  unfold sortOk at hok
  simp only [Bool.and_eq_true, Bool.or_eq_true, decide_eq_true_eq] at hok
  obtain ⟨⟨⟨⟨⟨h1, h2⟩, h3⟩, h4⟩, h5⟩, h6⟩ := hok
  have hal := alikes_ok h1 h2
  have e1 : PySem.W.EachIs (fun v (p : D × V) => RelV p.2 v) its (l.zip xs) := each_pairs (R := fun v x => RelV x v) (fun _ _ z => z) r hlen
  have e2 := each_reads (xs := xs) hr hlen
  have em := map_zip_fst hlen
  have hzip : (l.zip xs).length = l.length := by rw [List.length_zip, hlen]; omega
  have hil : its.length = l.length := by rw [e1.length, hzip]
  refine Calls.call_function_entry kind_sorted plain_sorted entry_sorted (args_sorted1 _) ?_
  unfold Builtin.«sorted»
  refine wpAny_bind (m := checkCount "sorted" 1 1 _) (wpAny_pure ?_)
  refine wpAny_bind (wpAny_collect_seq k (.inr rfl) ho hc hd (fun h' hk => ?_) (by rw [List.size_toArray, hil]; exact h6))
  refine wpAny_bind (wpAny_newList ?_ (by rw [hil]; exact h6))
  have hoL : (h'.push (seqObj "list" its.toArray 0)).get? h'.objs.size = some (seqObj "list" its.toArray 0) := Heap.get?_push_size _ rfl
  have nH : ∀ o, s.heap.get? h'.objs.size ≠ some o := fun o e => absurd (Heap.lt_size (hk _ o e)) (Nat.lt_irrefl _)
  refine wpAny_bind (wpAny_holding (PySem.W.list_sort_data (enc := fun p : D × V => toP p.1) (R := fun v p => RelV p.2 v) hoL e1 (each_off (fun b o e => Heap.get?_push_of_some _ (hk b o e)) nH e2) ?_ ?_ (by rw [hzip]; exact h6) ?_ ?_))
  · rw [em]
    exact fun d hd d' hd' => by
      rw [toPs_map] at hd hd'
      obtain ⟨a, ha, rfl⟩ := List.mem_map.mp hd
      obtain ⟨b, hb, rfl⟩ := List.mem_map.mp hd'
      unfold alikesD at h1
      exact List.all_eq_true.mp (List.all_eq_true.mp h1 a ha) b hb
  · rw [em, toPs_map]
    rcases h3 with h3 | h3
    · refine .inl fun d hd => ?_
      obtain ⟨a, ha, rfl⟩ := List.mem_map.mp hd
      have := List.all_eq_true.mp h3 a ha
      cases a with
      | tup m =>
        cases m with
        | nil => cases this
        | cons x m => exact ⟨toP x, toPs m, by simp [toP, toPs]⟩
      | _ => cases this
    · refine .inr fun d hd => ?_
      obtain ⟨a, ha, rfl⟩ := List.mem_map.mp hd
      have := List.all_eq_true.mp h3 a ha
      cases a with
      | tup m => cases this
      | non => cases this
      | ob o => cases this
      | _ => exact ⟨by simp [toP], fun xs => by simp [toP]⟩
  · intro p hp
    have hm : p.1 ∈ l := (List.of_mem_zip hp).1
    have := dep_le hm
    show X.A.units + 1 + 1 + PyData.depth (toP p.1) < cLine
    rw [dep_toP]
    omega
  · intro out hlo hout
    refine wpAny_pure ?_
    have e3 : PySem.W.dataLe false (fun p : D × V => toP p.1) = fun a b => leD a.1 b.1 := PySem.W.dataLe_eq false _
    rw [e3] at hout
    have hv : Vals ((pairS l xs).map (·.2)) out := vals_of_each (its := its) hout
    obtain ⟨ep, he⟩ := sortedHeap_at (vs := its) (out := out.toArray) hoL
    have keep : ∀ b ob, s.heap.get? b = some ob → (sortedHeap (h'.push (seqObj "list" its.toArray 0)) h'.objs.size its out.toArray).get? b = some ob := fun b ob hb => by
      have h1 := hk b ob hb
      have hlt : b < h'.objs.size := Heap.lt_size h1
      rw [sortedHeap_old (Nat.ne_of_lt hlt) (by rw [PyProof.Rows.size_push']; exact Nat.lt_succ_of_lt hlt)]
      exact Heap.get?_push_of_some _ h1
    have nn : hh h'.objs.size = none := by
      cases z : hh h'.objs.size with
      | none => rfl
      | some u =>
        obtain ⟨ob, h1⟩ := ok_some (inv.hok _ u z)
        exact absurd (Heap.lt_size (hk _ ob h1)) (Nat.lt_irrefl _)
    have hz2 : ((pairS l xs).map (·.2)).length ≤ sizeLine := by
      rw [List.length_map]
      unfold pairS
      rw [List.length_mergeSort, hzip]
      exact h6
    exact ⟨_, rfl, .ref _, upd hh h'.objs.size (.lst ((pairS l xs).map (·.2))), laid_at (s := s) (h' := sortedHeap (h'.push (seqObj "list" its.toArray 0)) h'.objs.size its out.toArray) (t' := s.toks) inv keep (fun b ob hb => Nat.ne_of_lt (Heap.lt_size (hk b ob hb))) nn ⟨hz2, out, ep, hv, he⟩, rfl, q _ nn⟩
end
section
variable {X : Cx} {W : WX} {pos p : Pos} {a : Expr} {ga : Gm → Rs D}
/-- a list or a tuple of ints, a list or a tuple of alike data -/
def dSortX : List D → Option (List D) := fun l => match l with
  | [.tup m] => match dSorted [.tup m] with
    | some z => some z
    | none => if sortOk m then some (sortD m) else none
  | l => dSortA l
def rSortX (K : PySem.W.Frag) : List V → Hp → VK → Prop := fun vs H Q => rSortA K vs H Q ∨ rSortTD K vs H Q
theorem cr_sortX (hu : X.A.units + 66 < cLine) : CallR X (.builtin "sorted") (rSortX X.K) := by
  intro pn s st hh vs us Q inv rv hw
  rcases hw with hw | hw
  · exact cr_sortA hu pn s st hh vs us Q inv rv hw
  · exact cr_sortTD hu pn s st hh vs us Q inv rv hw
theorem mf_sortX (hu : X.A.units + 66 < cLine) (hg : Gl X "sorted") (hm : X.mg "sorted" = none) (ha : MP X W a ga) (h3 : starEach [a] X.env = (false, eval a X.env) :: starEach [] X.env := by rfl) : MF X W (.Call (.Name "sorted" p) [a] [] pos) (gBF dSortX (gCons ga gNil)) := by
  refine mf_callB (cr_sortX hu) (fun c l z vs Q wf h q k => ?_) hg hm (by decide +kernel) (md_cons ha md_nil h3) (h3 := h3)
  unfold dSortX at h
  split at h
  · rename_i m
    cases e : dSorted [.tup m] with
    | some z' =>
      rw [e] at h
      have h' : z' = z := Option.some.inj h
      subst h'
      refine .inl (.inl ?_)
      unfold dSorted at e
      obtain ⟨v, rfl, p1⟩ := dens1 q
      replace e : (match intL m with | some ns => if ns.length < 64 then some ((sortI ns).map D.int) else none | none => none) = some z' := e
      split at e
      · rename_i ns en
        obtain ⟨h64, e'⟩ := ite_of e
        cases e'
        obtain ⟨pp, ws, rfl, r1, r2⟩ := p1
        have := intL_den en r2
        subst this
        exact ⟨pp, ns, rfl, .inr r1.sq, h64, fun q n => k q _ n dens_ints⟩
      · cases e
    | none =>
      rw [e] at h
      replace h : (if sortOk m then some (sortD m) else none) = some z := h
      obtain ⟨hk, h'⟩ := ite_of h
      subst h'
      refine .inr ?_
      obtain ⟨v, rfl, p1⟩ := dens1 q
      obtain ⟨pp, ws, rfl, r1, r2⟩ := p1
      exact ⟨pp, ws, m, rfl, r1.sq, dens_dp _ _ (by unfold sortOk at hk; simp only [Bool.and_eq_true] at hk; exact hk.1.1.2) r2, r2.length, hk, fun q n => k q _ n (dens_sort r2)⟩
  · refine .inl ?_
    unfold dSortA at h
    cases e : dSorted l with
    | some z' =>
      rw [e] at h
      have h' : z' = z := Option.some.inj h
      subst h'
      refine .inl ?_
      unfold dSorted at e
      split at e
      · rename_i d _
        obtain ⟨v, rfl, p1⟩ := dens1 q
        split at e
        · rename_i l' ei
          split at e
          · rename_i ns en
            obtain ⟨h64, e'⟩ := ite_of e
            cases e'
            cases d with
            | lst m =>
              cases ei
              obtain ⟨pp, ws, rfl, r1, r2⟩ := p1
              have := intL_den en r2
              subst this
              exact ⟨pp, ns, rfl, .inl r1.sq, h64, fun q n => k q _ n dens_ints⟩
            | tup m =>
              cases ei
              obtain ⟨pp, ws, rfl, r1, r2⟩ := p1
              have := intL_den en r2
              subst this
              exact ⟨pp, ns, rfl, .inr r1.sq, h64, fun q n => k q _ n dens_ints⟩
            | _ => cases ei
          · cases e
        · cases e
      · cases e
    | none =>
      rw [e] at h
      replace h : dSortD l = some z := h
      refine .inr ?_
      unfold dSortD at h
      split at h
      · rename_i m _
        obtain ⟨v, rfl, p1⟩ := dens1 q
        split at h
        · rename_i hk
          cases h
          obtain ⟨pp, ws, rfl, r1, r2⟩ := p1
          exact ⟨pp, ws, m, rfl, r1.sq, dens_dp _ _ (by unfold sortOk at hk; simp only [Bool.and_eq_true] at hk; exact hk.1.1.2) r2, r2.length, hk, fun q n => k q _ n (dens_sort r2)⟩
        · cases h
      · cases h
end
end Fv

/-! ### xs[::-1] of a tuple -/
namespace Fv
variable [LC : LamC]
open PySem PySem.Spec PyProof.Rows L2 HT
section
variable {prog : Program} {w : World} {A : Around} {E : Value → Shared → Prop} {s : Shared}
theorem back_adjust (n : Nat) : Builtin.Slice.sliceAdjust none none (-1) (n : Int) = ((n : Int) - 1, -1) := by
  unfold Builtin.Slice.sliceAdjust
  rfl
theorem back_places (n : Nat) : Builtin.Slice.slicePlaces ((n : Int) - 1) (-1) (-1) = n := by
  unfold Builtin.Slice.slicePlaces
  have no : ¬ ((-1 : Int) > 0) := by omega
  have one : -(-1 : Int) = 1 := rfl
  simp only [no, if_false, one, Int.ediv_one]
  split <;> omega
theorem back_pick (a : Array Value) : ((List.range a.size).filterMap fun (k : Nat) => a[(((a.size : Nat) : Int) - 1 + (k : Int) * (-1)).toNat]?).toArray = a.toList.reverse.toArray := by
  have f : (fun (k : Nat) => a[(((a.size : Nat) : Int) - 1 + (k : Int) * (-1)).toNat]?) = (fun k => a[k]?) ∘ fun k => a.size - 1 - k := by
    funext k
    have : (((a.size : Nat) : Int) - 1 + (k : Int) * (-1)).toNat = a.size - 1 - k := by omega
    show a[(((a.size : Nat) : Int) - 1 + (k : Int) * (-1)).toNat]? = a[a.size - 1 - k]?
    rw [this]
  rw [f, ← List.filterMap_map, PySem.W.krv_range, List.filterMap_reverse, PySem.W.krv_all]
theorem back_applied {sl : Addr} {v1 v2 v3 : Value} {n : Nat} {Q : Int × Int × Nat → Shared → Prop} (hs : s.heap.IsSliceOf sl v1 v2 v3) (p1 : IsPart v1 none) (p2 : IsPart v2 none) (p3 : IsPart v3 (some (-1)))
    (h : Q ((n : Int) - 1, -1, n) s) : wpAny (model prog w) A (Builtin.Slice.sliceApplied (.ref sl) (pure (n : Int))) Q E s := by
  obtain ⟨ob, e1, e2, e3⟩ := id hs
  unfold Builtin.Slice.sliceApplied
  unfold Builtin.Slice.sliceFields
  refine wpAny_bind ?_
  refine wpAny_bind (wpAny_field e1 e3 (x := v1) rfl ?_)
  refine wpAny_bind (wpAny_field e1 e3 (x := v2) rfl ?_)
  refine wpAny_bind (wpAny_field e1 e3 (x := v3) rfl ?_)
  refine wpAny_pure (wpAny_bind (slicePart_ p3 ?_))
  show wpAny _ _ (if ((-1 : Int) == 0) = true then _ else _) _ _ s
  rw [if_neg (by decide)]
  refine wpAny_bind (slicePart_ p1 ?_)
  refine wpAny_bind (slicePart_ p2 ?_)
  refine wpAny_bind (wpAny_pure ?_)
  show wpAny _ _ (match Builtin.Slice.sliceAdjust none none (-1) (n : Int) with | (lo, hi) => pure (lo, (-1 : Int), Builtin.Slice.slicePlaces lo hi (-1))) _ _ s
  rw [back_adjust n]
  show wpAny _ _ (pure (((n : Int) - 1), (-1 : Int), Builtin.Slice.slicePlaces ((n : Int) - 1) (-1) (-1))) _ _ s
  rw [back_places]
  exact wpAny_pure h
theorem back_item {t sl : Addr} {a : Array Value} {v1 v2 v3 : Value} {Q : Value → Shared → Prop} (ht : IsTup s.heap t a) (hs : s.heap.IsSliceOf sl v1 v2 v3) (p1 : IsPart v1 none) (p2 : IsPart v2 none) (p3 : IsPart v3 (some (-1)))
    (h : Q (.ref s.heap.objs.size) { s with heap := s.heap.push { cls := .type "tuple", data := .seq a.toList.reverse.toArray } }) (hz : a.size ≤ sizeLine) : wpAny (model prog w) A (getItem (.ref t) (.ref sl)) Q E s := by
  have fit : sizeOk (.seq a.toList.reverse.toArray) := by
    show a.toList.reverse.toArray.size ≤ sizeLine
    rw [List.size_toArray, List.length_reverse, Array.length_toList]
    exact hz
  obtain ⟨ob, e1, e2, e3⟩ := id hs
  have ts : s.TypeIs (.ref sl) "slice" := ⟨ob, e1, e2⟩
  unfold getItem
  refine wpAny_holding ?_
  refine wpAny_bind (wpAny_sequenceKey ht.typeIs (by decide) ?_)
  refine wpAny_bind (wpAny_callSpecial?_slot (name := Str.ofString "__getitem__") ht.typeIs PyProof.Rows.slot_tuple_getitem (wpAny_call_entry PyProof.Rows.slot_tuple_getitem ht.typeIs entry_tuple_getitem ?_ (args_tuple_getitem _ _)))
  show wpAny _ _ (Builtin.Tuple.tupleItemsOf (.ref t) >>= _) _ _ s
  refine wpAny_bind (tupleItemsOf_ ht (wpAny_bind (wpAny_typeOf ts ?_)))
  rw [if_pos (by decide)]
  refine wpAny_bind (back_applied hs p1 p2 p3 ?_)
  have no : ¬ (((((a.size : Nat) : Int) - 1) == 0 && (-1 : Int) == 1 && a.size == a.size) = true) := by
    intro q
    rw [Bool.and_eq_true, Bool.and_eq_true] at q
    exact absurd q.1.2 (by decide)
  show wpAny _ _ (if ((((a.size : Nat) : Int) - 1) == 0 && (-1 : Int) == 1 && a.size == a.size) = true then _ else _) _ _ s
  rw [if_neg no, back_pick]
  first
    | exact wpAny_bind (m := Builtin.Tuple.tupleExact _) (wpAny_newObj_type (wpAny_pure ⟨_, rfl, wpAny_pure h⟩) fit)
    | exact wpAny_bind (m := Builtin.Tuple.tupleExact _) (wpAny_newObj_type (wpAny_bind (wpAny_pure (wpAny_pure ⟨_, rfl, wpAny_pure h⟩))) fit)
    | exact wpAny_bind (wpAny_bind (m := Builtin.Tuple.tupleExact _) (wpAny_newObj_type (wpAny_pure (wpAny_pure ⟨_, rfl, wpAny_pure h⟩)) fit))
    | exact wpAny_bind (wpAny_bind (m := Builtin.Tuple.tupleExact _) (wpAny_newObj_type (wpAny_pure ⟨_, rfl, wpAny_pure h⟩) fit))
end
section
variable {X : Cx} {W : WX} {pos p1 p2 p3 : Pos} {a : Expr} {ga : Gm → Rs D}
def tBack (K : PySem.W.Frag) (te : TE) : TE := fun σ H Q => te σ H fun x H1 => ∃ a xs, x = .ref a ∧ SqT K H1 a xs ∧ MkT H1 xs.reverse Q
def tBackX (K : PySem.W.Frag) (te : TE) : TE := fun σ H Q => te σ H fun x H1 => (∃ a xs, x = .ref a ∧ SqL K H1 a xs ∧ ∀ p, H1 p = none → Q (.ref p) (upd H1 p (.lst xs.reverse))) ∨ (∃ a xs, x = .ref a ∧ SqT K H1 a xs ∧ MkT H1 xs.reverse Q)
theorem pe_back {te : TE} {k : Nat} (he : PE X a te) : PE X (.Subscript a (.Slice none none (some (.UnaryOp .USub (.Constant (.int 1) k p1) p2)) p3) pos) (tBackX X.K te) := by
  refine ⟨fun pins s σ H Q I h => ?_⟩
  refine Subscript_ (thn (he.run pins s σ H _ I h) fun v s1 ⟨x, H1, I1, r1, q1⟩ => ?_)
  have hst : PO X (some (.UnaryOp .USub (.Constant (.int 1) k p1) p2)) (tPart (tUn (rU fun i => .int (-i)) (tC (.int 1)))) := po_some (pe_un un_neg pe_int)
  refine wpAny_Slice (thn (po_none.run pins s1 σ H1 (fun o H2 => o = none ∧ H2 = H1) I1 ⟨rfl, rfl⟩) fun v1 s2 ⟨l, H2, I2, q2, el, e2⟩ => ?_)
  subst el e2
  refine thn (po_none.run pins s2 σ H2 (fun o H3 => o = none ∧ H3 = H2) I2 ⟨rfl, rfl⟩) fun v2 s3 ⟨u, H3, I3, q3, eu, e3⟩ => ?_
  subst eu e3
  refine thn (hst.run pins s3 σ H3 (fun o H4 => o = some (-1) ∧ H4 = H3) I3 ⟨1, rfl, -1, rfl, rfl, rfl⟩) fun v3 s4 ⟨o, H4, I4, q4, eo, e4⟩ => ?_
  subst eo e4
  have I5 : Inv X pins σ H4 { s4 with heap := s4.heap.push { cls := .type "slice", data := .fields #[v1, v2, v3] } } := I4.kept (t' := s4.toks) fun b ob q => Heap.get?_push_of_some _ q
  rcases q1 with ⟨b, xs, ex, hx, q⟩ | ⟨b, xs, ex, hx, q⟩
  · subst ex
    cases r1
    obtain ⟨its, r, ht, hz⟩ := I5.list hx
    have hlen := r.length
    show wpAny (model X.prog X.w) X.A (subscriptTail a (.Slice none none (some (.UnaryOp .USub (.Constant (.int 1) k p1) p2)) p3) (.ref b) (.ref s4.heap.objs.size)) (EP X pins σ Q) X.xe { s4 with heap := s4.heap.push { cls := .type "slice", data := .fields #[v1, v2, v3] } }
    refine tail_any (ops := [.ref b, .ref s4.heap.objs.size]) ht.isList.typeIs (PySem.slot_list_getitem.lookup) ?_ (by with_unfolding_all rfl)
    refine wpAny_getItem_list_slice ht.isList (Heap.IsSliceOf.new _ v1 v2 v3) q2 q3 q4 (by decide) ?_ (by rw [List.size_toArray]; omega)
    rw [PySem.W.krv_pick]
    refine ⟨.ref _, _, I5.laid (t' := s4.toks) (o := .lst xs.reverse) (fun b ob q => Heap.get?_push_of_some _ q) (Nat.le_refl _) ?_, rfl, q _ (I5.hok.fresh (Nat.le_refl _))⟩
    exact ⟨by rw [List.length_reverse]; exact hz, _, 0, r.reverse, Heap.get?_push_size _ rfl⟩
  · subst ex
    cases r1
    obtain ⟨its, r, ht, hz⟩ := I5.tuple hx
    have hlen := r.length
    show wpAny (model X.prog X.w) X.A (subscriptTail a (.Slice none none (some (.UnaryOp .USub (.Constant (.int 1) k p1) p2)) p3) (.ref b) (.ref s4.heap.objs.size)) (EP X pins σ Q) X.xe { s4 with heap := s4.heap.push { cls := .type "slice", data := .fields #[v1, v2, v3] } }
    refine tail_any (ops := [.ref b, .ref s4.heap.objs.size]) ht.typeIs (PyProof.Rows.slot_tuple_getitem.lookup) ?_ (by with_unfolding_all rfl)
    refine back_item ht (Heap.IsSliceOf.new _ v1 v2 v3) q2 q3 q4 ?_ (by rw [List.size_toArray]; omega)
    exact ⟨.ref _, _, laidF (its := its.reverse) (t' := s4.toks) I5 (by rw [List.length_reverse]; exact hz) r.reverse, rfl, q _ _ rfl (I5.hok.fresh (Nat.le_refl _))⟩
def dRevX : D → Option D
  | .lst l => some (.lst l.reverse)
  | .tup l => some (.tup l.reverse)
  | _ => none
theorem mp_revX {k : Nat} (ha : MP X W a ga) : MP X W (.Subscript a (.Slice none none (some (.UnaryOp .USub (.Constant (.int 1) k p1) p2)) p3) pos) (g1 dRevX ga) := by
  obtain ⟨ta, h1, s1⟩ := ha
  refine ⟨_, pe_back h1, ?_⟩
  refine sim1 (r := fun x H Q => (∃ a xs, x = .ref a ∧ SqL X.K H a xs ∧ ∀ p, H p = none → Q (.ref p) (upd H p (.lst xs.reverse))) ∨ (∃ a xs, x = .ref a ∧ SqT X.K H a xs ∧ MkT H xs.reverse Q)) (p := dRevX) (fun c d z v Q wf e1 e2 e3 => ?_) s1
  cases d with
  | lst l =>
    cases e1
    obtain ⟨pp, xs, rfl, r1, r2⟩ := e2
    exact .inl ⟨pp, xs, rfl, r1.sq, fun q n => e3 (.ref q) ⟨c.M, upd c.H q (.lst xs.reverse)⟩ (Ext.new n) (wf.new n) (Den.lst wf n (dens_rev r2))⟩
  | tup l =>
    cases e1
    obtain ⟨pp, xs, rfl, r1, r2⟩ := e2
    exact .inr ⟨pp, xs, rfl, r1.sq, fun q ob hd n => e3 (.ref q) ⟨c.M, upd c.H q (.frz ob (.tup xs.reverse))⟩ (Ext.new n) (wf.new n) (Den.tup wf n hd (dens_rev r2))⟩
  | _ => cases e1
end
end Fv

/-! ### sorted(set(..)) of a list or a tuple of ints -/
namespace Fv
variable [LC : LamC]
open PySem L2
open PyProof.Rows (seqObj IntsAre boot_set)
section
variable {P : Program} {w : World} {A : Around} {E : Value → Shared → Prop} {s : Shared}
set_option maxHeartbeats 3200000 in
theorem set_of_list {l : Addr} {items : Array Value} (ns : List Int) {Q : Value → Shared → Prop} (hh : A.handled = none) (hl : s.heap.IsList l items) (hit : IntsAre items.toList ns) (hb : ns.length + 1 < scanBound)
    (k : ∀ (h' : Heap) (tk c : Nat), SetR w h' s.heap.objs.size (fun j => decide (j ∈ ns)) c → c ≤ ns.length → (∀ b o, s.heap.get? b = some o → h'.get? b = some o) → Q (.ref s.heap.objs.size) { s with heap := h', toks := tk }) :
    wpAny (model P w) A (call (.type "set") [.ref l]) Q E s := by
  have hsz : items.size = ns.length := by rw [← Array.length_toList]; exact IntsAre.length hit
  obtain ⟨c, tl, hmro⟩ := F.called_set.mro
  have hmade := F.called_set.made
  have hsub := F.called_set.sub
  refine wpAny_call (codeAny_of_tree ?_)
  show wpAny _ _ (callAny (.type "set") _) _ _ _
  refine wpAny_pure ⟨Code.quiet_builtin _ (by decide +kernel), codeAny_builtin F.entry_type_call ?_⟩
  rw [Around.under_plain (weight_type_call_type "set" [.ref l] []) rfl]
  have h1 := F.called_set.notType
  have h2 := F.called_set.canCreate
  have h3 := F.typeCall_set_1 (.ref l)
  repeat (any_goals (first | assumption | wp_step))
  refine codeAny_mono (code_set_led1 (.ref l) (E := E) (Q₁ := fun v s₁ => v = .ref s.heap.objs.size ∧ s₁ = { s with heap := s.heap.push ({ cls := .type "set", dict := none, data := .set #[] 0 (.fresh 0 0 (!w.params.followText "set-order")) } : Obj) }) ⟨rfl, rfl⟩) fun r s₁ hr => ?_
  match r, hr with
  | .error e, hr => exact hr
  | .ok (.ret obj), hr =>
    obtain ⟨rfl, rfl⟩ := hr
    have nw : (s.heap.push ({ cls := .type "set", dict := none, data := .set #[] 0 (.fresh 0 0 (!w.params.followText "set-order")) } : Obj)).get? s.heap.objs.size = some ({ cls := .type "set", dict := none, data := .set #[] 0 (.fresh 0 0 (!w.params.followText "set-order")) } : Obj) := Heap.get?_push_size _ rfl
    have hT : Shared.TypeIs { s with heap := s.heap.push ({ cls := .type "set", dict := none, data := .set #[] 0 (.fresh 0 0 (!w.params.followText "set-order")) } : Obj) } (.ref s.heap.objs.size) "set" := ⟨_, nw, rfl⟩
    have h4 := F.called_set.init.lookup
    have h5 := F.called_set.init.bind (.ref s.heap.objs.size)
    repeat (any_goals (first | assumption | wp_step))
    refine codeAny_mono (codeAny_call_builtin (R := wants (fun r s₂ => r = .none ∧ ∃ h' tk c, s₂ = { s with heap := h', toks := tk } ∧ SetR w h' s.heap.objs.size (fun j => decide (j ∈ ns)) c ∧ c ≤ ns.length ∧ (∀ b o, s.heap.get? b = some o → h'.get? b = some o)) E)
      F.called_set.init.plain F.entry_set_init (check_set_init_1 hT ?_)) fun r₂ s₂ hr₂ => ?_
    · obtain ⟨⟨lc, ld, la, ls⟩, hol, hcl, nl, hdl⟩ := hl
      simp only at hcl hdl
      subst hcl
      subst hdl
      have lo : (s.heap.push ({ cls := .type "set", dict := none, data := .set #[] 0 (.fresh 0 0 (!w.params.followText "set-order")) } : Obj)).get? l = some { cls := .type "list", dict := ld, data := .seq items nl, slots := ls } := Heap.get?_push_of_some _ hol
      have h6 := F.sub_list_set
      have h7 := F.sub_list_frozenset
      have h8 : (Value.type "list" == Value.type "dict") = false := by decide
      have hl1 : (s.heap.push ({ cls := .type "set", dict := none, data := .set #[] 0 (.fresh 0 0 (!w.params.followText "set-order")) } : Obj)).IsList l items := ⟨_, lo, rfl, nl, rfl⟩
      have lt : l < s.heap.objs.size := Heap.lt_size hol
      have z1 : (s.heap.push ({ cls := .type "set", dict := none, data := .set #[] 0 (.fresh 0 0 (!w.params.followText "set-order")) } : Obj)).objs.size = s.heap.objs.size + 1 := Heap.size_push ..
      unfold Builtin.«set.__init__» noKeywords Builtin.Frozenset.updateFrom
      generalize hPI : pyIter = PI
      wp_walk
      subst hPI
      refine wpAny_pyIter_list hl1 (wpAny_bind (wpAny_runValue ?_))
      have hh3 : A.in1.in1.in1.handled = none := by simp [hh]
      have ne1 : l ≠ (s.heap.push ({ cls := .type "set", dict := none, data := .set #[] 0 (.fresh 0 0 (!w.params.followText "set-order")) } : Obj)).objs.size := Nat.ne_of_lt (by rw [z1]; exact Nat.lt_succ_of_lt lt)
      have nf : s.heap.objs.size ∉ [(s.heap.push ({ cls := .type "set", dict := none, data := .set #[] 0 (.fresh 0 0 (!w.params.followText "set-order")) } : Obj)).objs.size, l] := by
        simp only [List.mem_cons, List.not_mem_nil, or_false, not_or]
        exact ⟨Nat.ne_of_lt (by rw [z1]; exact Nat.lt_succ_self _), Nat.ne_of_gt lt⟩
      have val : ∀ (i : Nat) (v : Value), items[i]? = some v → ∃ k t, ns[i]? = some k ∧ v = .int k t := fun i v hv => by
        have hi : i < ns.length := by rw [← hsz]; exact (Array.getElem?_eq_some_iff.mp hv).1
        obtain ⟨t, e⟩ := IntsAre.int_at hit i v (by rw [Array.getElem?_toList]; exact hv)
        refine ⟨ns[i], t, List.getElem?_eq_getElem hi, ?_⟩
        rw [e, List.getD_eq_getElem?_getD, List.getElem?_eq_getElem hi]
        rfl
      refine set_update_ints ((Walks.list hh3 _ l ne1 items).toS) s.heap.objs.size nf ns hsz hb val (items.size - 0) 0 _ (by omega) (Nat.zero_le _)
        ⟨⟨_, Heap.get?_push_size _ rfl, rfl, rfl⟩, (hl1.push _)⟩ ⟨0, Nat.le_refl 0, setR_new_at (Heap.get?_push_of_some _ nw)⟩ fun s' c' hm hc hS => ?_
      obtain ⟨h', g', d', t', o'⟩ := s'
      have eg : g' = s.gens := hm.gens
      have ed : d' = s.drawn := hm.drawn
      have eo : o' = s.os := hm.os
      subst eg
      subst ed
      subst eo
      show wpAny _ _ _ _ _ _
      refine wpAny_pure ?_
      show wpAny _ _ (ret Value.none) _ _ _
      refine wpAny_pure ⟨rfl, h', t', c', rfl, hS, by omega, fun b o e => ?_⟩
      have lb : b < s.heap.objs.size := Heap.lt_size e
      refine hm.heap b o ?_ (Heap.get?_push_of_some _ (Heap.get?_push_of_some _ e))
      simp only [List.mem_cons, List.not_mem_nil, or_false, not_or]
      exact ⟨Nat.ne_of_lt lb, Nat.ne_of_lt (by rw [z1]; exact Nat.lt_succ_of_lt lb)⟩
    · match r₂, hr₂ with
      | .error e, hr₂ => exact hr₂
      | .ok (.ret r), hr₂ =>
        obtain ⟨rfl, h', tk, c', rfl, hS, hc, hk⟩ := hr₂
        repeat (any_goals (first | assumption | wp_step))
        exact k _ _ _ hS hc hk
end
/-! the ints of a set, ascending -/
def inS (k : Int) : List Int → List Int
  | [] => [k]
  | x :: l => if k < x then k :: x :: l else if k = x then x :: l else x :: inS k l
def setI : List Int → List Int
  | [] => []
  | x :: l => inS x (setI l)
theorem mem_inS {k j : Int} : ∀ {l : List Int}, j ∈ inS k l ↔ j = k ∨ j ∈ l
  | [] => by simp [inS]
  | x :: l => by
    unfold inS
    split
    · simp
    · split
      · rename_i e
        subst e
        simp
      · simp only [List.mem_cons, mem_inS (l := l)]
        constructor
        · rintro (h | h | h) <;> simp [h]
        · rintro (h | h | h) <;> simp [h]
theorem inS_up {k : Int} : ∀ {l : List Int}, l.Pairwise (· < ·) → (inS k l).Pairwise (· < ·)
  | [], _ => by simp [inS]
  | x :: l, h => by
    obtain ⟨h1, h2⟩ := List.pairwise_cons.mp h
    unfold inS
    split
    · rename_i q
      refine List.pairwise_cons.mpr ⟨fun y hy => ?_, h⟩
      rcases List.mem_cons.mp hy with rfl | hy
      · exact q
      · have := h1 y hy
        omega
    · split
      · exact h
      · rename_i q1 q2
        refine List.pairwise_cons.mpr ⟨fun y hy => ?_, inS_up h2⟩
        rcases mem_inS.mp hy with rfl | hy
        · omega
        · exact h1 y hy
theorem mem_setI {j : Int} : ∀ {l : List Int}, j ∈ setI l ↔ j ∈ l
  | [] => by simp [setI]
  | x :: l => by
    show j ∈ inS x (setI l) ↔ _
    rw [mem_inS, mem_setI (l := l), List.mem_cons]
theorem setI_up : ∀ (l : List Int), (setI l).Pairwise (· < ·)
  | [] => List.Pairwise.nil
  | x :: l => inS_up (setI_up l)
theorem up_unique : ∀ {l m : List Int}, l.Pairwise (· < ·) → m.Pairwise (· < ·) → (∀ k, k ∈ l ↔ k ∈ m) → l = m
  | [], [], _, _, _ => rfl
  | [], y :: m, _, _, h => absurd ((h y).mpr List.mem_cons_self) (by simp)
  | x :: l, [], _, _, h => absurd ((h x).mp List.mem_cons_self) (by simp)
  | x :: l, y :: m, h1, h2, h => by
    obtain ⟨a1, a2⟩ := List.pairwise_cons.mp h1
    obtain ⟨b1, b2⟩ := List.pairwise_cons.mp h2
    have e : x = y := by
      rcases List.mem_cons.mp ((h x).mp List.mem_cons_self) with e | e
      · exact e
      · rcases List.mem_cons.mp ((h y).mpr List.mem_cons_self) with e2 | e2
        · exact e2.symm
        · have := a1 y e2
          have := b1 x e
          omega
    subst e
    refine congrArg _ (up_unique a2 b2 fun k => ⟨fun hk => ?_, fun hk => ?_⟩)
    · rcases List.mem_cons.mp ((h k).mp (List.mem_cons_of_mem _ hk)) with e | e
      · have := a1 k hk
        omega
      · exact e
    · rcases List.mem_cons.mp ((h k).mpr (List.mem_cons_of_mem _ hk)) with e | e
      · have := b1 k hk
        omega
      · exact e
/-! sorted(set(a)) -/
def rSortSet (K : PySem.W.Frag) : List V → Hp → VK → Prop := fun vs H Q => ∃ (k : Addr) (ns : List Int), vs = [V.ref k] ∧ (SqL K H k (ns.map V.int) ∨ SqT K H k (ns.map V.int)) ∧ ns.length < 64 ∧ ∀ q, H q = none → Q (.ref q) (upd H q (.lst ((setI ns).map V.int)))
section
variable {X : Cx} {W : WX} {pos p p2 q2 : Pos} {a : Expr} {ga : Gm → Rs D}
theorem pe_sortSet {t : TA} (hc : X.calm = true) (hg : Gl X "sorted") (hm : X.mg "sorted" = none) (hg2 : Gl X "set") (hm2 : X.mg "set" = none) (ha : PA X [a] t)
    (na : starEach [a] X.env = (false, eval a X.env) :: starEach [] X.env := by rfl) : PE X (.Call (.Name "sorted" p) [.Call (.Name "set" p2) [a] [] q2] [] pos) (tCB (rSortSet X.K) t) := by
  refine ⟨fun pins s σ H Q I h => ?_⟩
  refine wpAny_Call_Name_kw (ld_blt I hg hm (u := Value.builtin "sorted") (by decide +kernel) ?_)
  refine PyProof.Rows.callWith_builtin1 (PyProof.Rows.args_cons ?_ rfl) rfl rfl
  refine wpAny_Call_Name_kw (ld_blt I hg2 hm2 boot_set ?_)
  refine PyProof.Rows.callWith_type1 (thn (ha.run q2 pins s σ H _ I h) fun us s1 ⟨vs, H1, I1, r1, q1⟩ => ?_) na rfl
  obtain ⟨k, ns, rfl, hq, h64, q1⟩ := q1
  rw [Vals.ref1 r1]
  have fin : ∀ (h' : Heap) (tk c : Nat), SetR X.w h' s1.heap.objs.size (fun j => decide (j ∈ ns)) c → c ≤ ns.length → (∀ b o, s1.heap.get? b = some o → h'.get? b = some o) →
      wpAny (model X.prog X.w) X.A (spliced (backTo pos (starEach [] X.env))) (fun vs s₂ => wpAny (model X.prog X.w) X.A (call (.builtin "sorted") (Value.ref s1.heap.objs.size :: vs)) (EP X pins σ Q) X.xe s₂) X.xe { s1 with heap := h', toks := tk } := fun h' tk c R hcn hk => by
    refine PyProof.Rows.args_nil ?_
    have I2 : L2.Inv X pins σ H1 { s1 with heap := h', toks := tk } := I1.kept hk
    refine sorted_set R (I2.ok.hd hc) (by omega) fun s' p out c ns' k g o hp hgp hi hs hmm hl => ?_
    have e1 : ns' = setI ns := up_unique hs (setI_up ns) fun j => by rw [hmm, mem_setI, decide_eq_true_eq]
    subst e1
    have hlen : ((setI ns).map V.int).length ≤ sizeLine := by rw [List.length_map, hl, sizeLine_eq]; omega
    have hn : H1 p = none := I2.hok.fresh hp
    have kk : ∀ b u, s1.heap.get? b = some u → s'.heap.get? b = some u := fun b u e => k b u (hk b u e)
    have hp1 : s1.heap.objs.size ≤ p := Nat.le_trans (Nat.le_of_lt (SetR.lt R)) hp
    have J : L2.Inv X pins σ (upd H1 p (.lst ((setI ns).map V.int))) { s1 with heap := s'.heap, gens := s'.gens, drawn := s'.drawn, toks := s'.toks } :=
      I1.call (ch := []) (Un.laid kk hp1 hn) (I1.hok.laid kk hp1 ⟨hlen, out.toList, c, vals_of_ints hi, hgp⟩) (by rw [g]; exact I1.bare) (fun _ z => nomatch z)
    have e : s' = { s1 with heap := s'.heap, gens := s'.gens, drawn := s'.drawn, toks := s'.toks } := by
      cases s'
      cases s1
      cases o
      rfl
    rw [e]
    exact ⟨.ref p, _, J, rfl, q1 p hn⟩
  rcases hq with hq | hq
  · obtain ⟨its, r, pl, hz⟩ := I1.list hq
    exact set_of_list ns (I1.ok.hd hc) pl.isList (ints_of_vals r) (by unfold scanBound; omega) fin
  · obtain ⟨its, r, pl, hz⟩ := I1.tuple hq
    exact call_set_tupI ns (I1.ok.hd hc) (show s1.heap.IsTuple k its.toArray from pl) (ints_of_vals r) (by unfold scanBound; omega) fin
def dSortSet : List D → Option (List D) := fun l => match l with
  | [d] => match itemsD d with
    | some l => match intL l with
      | some ns => if ns.length < 64 then some ((setI ns).map D.int) else none
      | none => none
    | none => none
  | _ => none
theorem mf_sortSet (hc : X.calm = true) (hg : Gl X "sorted") (hm : X.mg "sorted" = none) (hg2 : Gl X "set") (hm2 : X.mg "set" = none) (ha : MP X W a ga) (h3 : starEach [a] X.env = (false, eval a X.env) :: starEach [] X.env := by rfl) :
    MF X W (.Call (.Name "sorted" p) [.Call (.Name "set" p2) [a] [] q2] [] pos) (gBF dSortSet (gCons ga gNil)) := by
  obtain ⟨⟨t, ht, s⟩, _⟩ := md_cons ha md_nil h3
  refine ⟨_, pe_sortSet hc hg hm hg2 hm2 ht h3, simBF (fun c l z vs Q wf h q k => ?_) s⟩
  unfold dSortSet at h
  split at h
  · rename_i d
    obtain ⟨v, rfl, p1⟩ := dens1 q
    cases e1 : itemsD d with
    | none => rw [e1] at h; cases h
    | some l =>
      rw [e1] at h
      simp only at h
      cases e2 : intL l with
      | none => rw [e2] at h; cases h
      | some ns =>
        rw [e2] at h
        obtain ⟨h64, h'⟩ := ite_of h
        subst h'
        cases d with
        | lst m =>
          cases e1
          obtain ⟨pp, ws, rfl, r1, r2⟩ := p1
          have := intL_den e2 r2
          subst this
          exact ⟨pp, ns, rfl, .inl r1.sq, h64, fun q n => k q _ n dens_ints⟩
        | tup m =>
          cases e1
          obtain ⟨pp, ws, rfl, r1, r2⟩ := p1
          have := intL_den e2 r2
          subst this
          exact ⟨pp, ns, rfl, .inr r1.sq, h64, fun q n => k q _ n dens_ints⟩
        | _ => cases e1
  · cases h
end
end Fv

/-! ### reversed(range(n)) -/
namespace Fv
variable [LC : LamC]
open PySem L2
def dRevR : D → Option (List D)
  | .int n => if -(2 ^ 62) ≤ n ∧ n < 2 ^ 62 then some (stepD (0 + (((n - 0).toNat : Nat) : Int) - 1) (-1) (n - 0).toNat) else none
  | _ => none
def gRevR (ga : Gm → Rs D) : Gm → Rs (List D) := fun γ => (ga γ).bind fun d γ1 => ofO (dRevR d) γ1
@[simp] theorem e_gRevR {ga : Gm → Rs D} {γ : Gm} : gRevR ga γ = (ga γ).bind fun d γ1 => ofO (dRevR d) γ1 := hide rfl
section
variable {X : Cx} {W : WX} {pos p p2 q2 : Pos} {tg a : Expr} {ga : Gm → Rs D}
theorem mi_revR (hg : Gl X "reversed") (hm : X.mg "reversed" = none) (hg2 : Gl X "range") (hm2 : X.mg "range" = none) (ha : MP X W a ga) (na : starEach [a] X.env = (false, eval a X.env) :: starEach [] X.env := by rfl)
    (hs : starEach [Expr.Call (.Name "range" p2) [a] [] q2] X.env = (false, eval (Expr.Call (.Name "range" p2) [a] [] q2) X.env) :: starEach [] X.env := by rfl) :
    MI X W tg (.Call (.Name "reversed" p) [.Call (.Name "range" p2) [a] [] q2] [] pos) (gRevR ga) := by
  obtain ⟨ta, h1, s1⟩ := ha
  refine ⟨_, pi_revR hg hm (prg_1 hg2 hm2 h1 na) hs, fun f S c σ γ Q R hp => s1.bind stab_vI R hp fun d γ1 v c1 _ x1 R1 k1 q1 h4 => ?_⟩
  obtain ⟨l, e1, h7⟩ := h4.fin R1
  cases d with
  | int n =>
    cases (show v = .int n from q1)
    obtain ⟨⟨b1, b2⟩, rfl⟩ := ite_of e1
    refine ⟨n, rfl, ?_⟩
    refine ⟨by decide, by decide, b1, b2, h7 _ c1 .refl R1.wf IterOk.step⟩
  | _ => cases e1
/-! ### the truth of a name that holds an own list or a frozen one -/
def gTruB (j : Nat) : Gm → Rs Bool := fun γ => match γ[j]? with
  | some (.pu _) => gTru (gVar j) γ
  | _ => gTruO j γ
theorem truB_pu {j : Nat} {γ : Gm} {d : D} (h : γ[j]? = some (.pu d)) : gTruB j γ = gTru (gVar j) γ := by unfold gTruB; rw [h]
theorem truB_ow {j : Nat} {γ : Gm} {l : List D} (h : γ[j]? = some (.ow l)) : gTruB j γ = gTruO j γ := by unfold gTruB; rw [h]
theorem mt_truB {j : Nat} {x : Str} {px : Pos} (hp : MP X W (.Name x px) (gVar j)) (ho : PE X (.Name x px) (tVar j)) : MT X W (.Name x px) (gTruB j) := by
  obtain ⟨t1, h1, s1⟩ := mt_tru hp
  obtain ⟨t2, h2, s2⟩ := mt_truO (W := W) ho
  refine ⟨fun σ H Q => t1 σ H Q ∨ t2 σ H Q, ⟨fun pins s σ H Q I h => ?_⟩, fun f S c σ γ Q R h => ?_⟩
  · rcases h with h | h
    · exact h1.run pins s σ H Q I h
    · exact h2.run pins s σ H Q I h
  · unfold gTruB at h
    split at h
    · exact .inl (s1 f S c σ γ Q R h)
    · exact .inr (s2 f S c σ γ Q R h)
end
end Fv

set_option maxHeartbeats 4000000
/-! ### a dict of this frame's own, filled by one statement, then only read -/
namespace Fv
variable [LC : LamC]
open PySem L2
def kD : Ky → D
  | .none => .non
  | some i => .int i
def dGet : D → D → Option D
  | .ob (.dct l), .int i => (getO l (some i)).map .int
  | .ob (.dct l), .non => (getO l none).map .int
  | _, _ => none
def kyD : D → Option Ky
  | .non => some none
  | .int i => some (some i)
  | _ => none
theorem kyD_den {K : PySem.W.Frag} {c : Cf} {d : D} {k : Ky} {v : V} (h : kyD d = some k) (q : Den K c d v) : v = kO k := by
  cases d with
  | non => cases h; exact q
  | int i => cases h; exact q
  | _ => cases h
section
variable {X : Cx} {W : WX} {pos p p2 ps sp dpos : Pos} {st : Stmt} {rest body : List Stmt} {a b e tg : Expr} {ga gb ge : Gm → Rs D} {h : Gm → Out} {ta : Gm → Rs Bool} {x : Str} {i : Nat} {gs : Gm → Rs (List D)} {k : Kt} {ts : List Nat}
theorem mp_getD (ha : MP X W a ga) (hb : MP X W b gb) (hs : NoSl b := by exact fun _ _ => rfl) : MP X W (.Subscript a b pos) (g2 dGet ga gb) := by
  obtain ⟨ta, h1, s1⟩ := ha
  obtain ⟨tb, h2, s2⟩ := hb
  refine ⟨_, pe_nget h1 h2 hs, fun f S c σ γ Q R hp => s1.bind stab_vP R hp fun d γ1 v c1 _ x1 R1 k1 q1 h3 => s2.bind stab_vP R1 h3 fun e γ2 w c2 _ x2 R2 k2 q2 h4 => ?_⟩
  obtain ⟨z, ez, h5⟩ := h4.fin R2
  have key : ∃ l k n, d = .ob (.dct l) ∧ kyD e = some k ∧ getO l k = some n ∧ z = .int n := by
    cases d with
    | ob o =>
      cases o with
      | dct l =>
        cases e with
        | int j =>
          obtain ⟨n, e1, e2⟩ := Option.map_eq_some_iff.mp ez
          exact ⟨l, some j, n, rfl, rfl, e1, e2.symm⟩
        | non =>
          obtain ⟨n, e1, e2⟩ := Option.map_eq_some_iff.mp ez
          exact ⟨l, none, n, rfl, rfl, e1, e2.symm⟩
        | _ => cases ez
      | _ => cases ez
    | _ => cases ez
  obtain ⟨l, kk, n, rfl, e1, e2, rfl⟩ := key
  obtain ⟨q, o, rfl, e3⟩ := (Den.ext R1.wf x2 q1 : Den X.K c2 (.ob (.dct l)) v)
  exact ⟨q, l, kk, n, rfl, .inr ⟨o, e3⟩, kyD_den e1 q2, e2, h5 (.int n) c2 .refl R2.wf rfl⟩
end
/-! the dict is kept besides the slots -/
def Kp.dct (kp : Kp) (p : Addr) (l : DL) : Kp where
  X := fun a => kp.X a ∨ a = p
  I := fun c => kp.I c ∧ c.H p = some (dctO p l)
  there := fun c a h x => x.elim (fun z => kp.there c a h.1 z) fun z => by rw [z, h.2]; exact fun z => nomatch z
  stab := fun S c c' hS w x h => ⟨kp.stab S c c' (fun a z q => hS a z (.inl q)) w x h.1, x.h p _ h.2 (fun z => hS p z.2 (.inr rfl)) (fun _ z => nomatch (show HO.ext _ = HO.tbl _ from z))⟩
  less := fun c M' k m h => ⟨kp.less c M' (fun a z => k a (.inl z)) m h.1, h.2⟩
  put := fun c q l' o e n h => ⟨kp.put c q l' o e (fun z => n (.inl z)) h.1, by
    show upd c.H q o p = _
    rw [upd_ne (fun z => n (.inr z.symm))]; exact h.2⟩
def Fx.dct (f : Fx) (p : Addr) (l : DL) : Fx := ⟨f.c0, f.rho, f.B, f.kp.dct p l⟩
section
variable {K : PySem.W.Frag} {f : Fx} {c : Cf} {σ : L2.St} {γ : Gm} {p : Addr} {l : DL}
theorem Rel.layD (R : Rel K f f.S c σ γ) (h : c.H p = some (dctO p l)) : Rel K (f.dct p l) (f.dct p l).S c σ γ := by
  have up : ∀ (a : Addr) (m : List D), f.S a → Own K c a m → (f.dct p l).S a := fun a m hs o => ⟨hs.1, fun z => z.elim hs.2 fun z => by
    obtain ⟨_, vs, e, _⟩ := o
    exact eq_dct (u := .lst vs) h (fun φ z => nomatch z) e z⟩
  exact ⟨R.wf0, R.wf, R.ext, R.len, R.pu, fun i m e => by
    obtain ⟨a, h1, h2, h3, h4⟩ := R.ow i m e
    exact ⟨a, h1, h2, up a m h3 h4, h4⟩, fun i m e => by
    obtain ⟨h1, h2, h3, h4, h5⟩ := R.bo i m e
    exact ⟨h1, h2, h3, up _ m h4 h5, h5⟩, R.ne, ⟨R.inv, h⟩, fun a z => z.2⟩
theorem Rel.unlayD (R : Rel K (f.dct p l) (f.dct p l).S c σ γ) : Rel K f f.S c σ γ ∧ c.H p = some (dctO p l) := by
  have up : ∀ (a : Addr), (f.dct p l).S a → f.S a := fun a h => ⟨h.1, fun z => h.2 (.inl z)⟩
  exact ⟨⟨R.wf0, R.wf, R.ext, R.len, R.pu, fun i m e => by
    obtain ⟨a, h1, h2, h3, h4⟩ := R.ow i m e
    exact ⟨a, h1, h2, up a h3, h4⟩, fun i m e => by
    obtain ⟨h1, h2, h3, h4, h5⟩ := R.bo i m e
    exact ⟨h1, h2, h3, up _ h4, h5⟩, R.ne, R.inv.1, fun a z => z.2⟩, R.inv.2⟩
theorem Rel.putD {S : Addr → Prop} (R : Rel K f S c σ γ) (e : c.H p = some (dctO p l)) (h0 : f.c0.H p = none) (hX : ¬ f.kp.X p) (o : HO) : Rel K f S ⟨c.M, upd c.H p o⟩ σ γ where
  wf0 := R.wf0
  wf := fun a m => by
    obtain ⟨xs, q⟩ := R.wf a m
    exact ⟨xs, by
      show upd c.H p o a = _
      rw [upd_ne (eq_dct (u := .lst xs) e (fun φ z => nomatch z) q)]; exact q⟩
  ext := ⟨R.ext.m1, R.ext.m2, fun a o' e' n t => by
      have q := R.ext.h a o' e' n t
      show upd c.H p o a = _
      rw [upd_ne (fun z => by rw [z, h0] at e'; cases e')]; exact q, fun a ps e' => by
      obtain ⟨ps', q⟩ := R.ext.ht a ps e'
      exact ⟨ps', by
        show upd c.H p o a = _
        rw [upd_ne (fun z => by rw [z, h0] at e'; cases e')]; exact q⟩, fun P hP t => tab_putD e (R.ext.tb P hP t)⟩
  len := R.len
  pu := fun i d e1 => by
    obtain ⟨v, h1, h2⟩ := R.pu i d e1
    exact ⟨v, h1, dct_put e d v h2⟩
  ow := fun i m e1 => by
    obtain ⟨a, h1, h2, h3, h4⟩ := R.ow i m e1
    exact ⟨a, h1, h2, h3, h4.putD e⟩
  bo := fun i m e1 => by
    obtain ⟨h1, h2, h3, h4, h5⟩ := R.bo i m e1
    exact ⟨h1, h2, h3, h4, h5.putD e⟩
  ne := R.ne
  inv := f.kp.put c p l o e hX R.inv
  sub := R.sub
end
abbrev DR := Addr → Gm → DL → Gm → DL → Prop
def SimD (X : Cx) (W : WX) (t : TS) (r : DR) : Prop := ∀ (f : Fx) (c : Cf) (σ : L2.St) (γ : Gm) (l : DL) (T : Ends) (q : Addr) (g : Gm) (l' : DL),
  Rel X.K (f.dct q l) (f.dct q l).S c σ γ → f.c0.H q = none → ¬ f.kp.X q → r q γ l g l' →
  (∀ σ' c', PExt X.K c c' → Rel X.K (f.dct q l') (f.dct q l').S c' σ' g → T.nx σ' c'.H) → t T σ c.H
def DS (X : Cx) (W : WX) (st : Stmt) (r : DR) : Prop := ∃ t, PS X st t ∧ SimD X W t r
def DSs (X : Cx) (W : WX) (st : List Stmt) (r : DR) : Prop := ∃ t, PSs X st t ∧ SimD X W t r
def dSt (h : Gm → Out) : DR := fun _ γ l g l' => h γ = .nx g ∧ l' = l
def dSeq (r r' : DR) : DR := fun q γ l g l' => ∃ γ1 l1, r q γ l γ1 l1 ∧ r' q γ1 l1 g l'
def dNil : DR := fun _ γ l g l' => g = γ ∧ l' = l
def dIfR (ta : Gm → Rs Bool) (r r' : DR) : DR := fun q γ l g l' => (∃ γ1, ta γ = .ok true γ1 ∧ r q γ1 l g l') ∨ ∃ γ1, ta γ = .ok false γ1 ∧ r' q γ1 l g l'
def dPutR (i : Nat) (gb ge : Gm → Rs D) : DR := fun q γ l g l' => ∃ (d : D) (k : Ky) (n : Int) (γ1 : Gm), γ[i]? = some (hdq q) ∧ ge γ = .ok (.int n) γ1 ∧ γ1[i]? = some (hdq q) ∧ gb γ1 = .ok d g ∧ kyD d = some k ∧ l.length < sizeLine ∧ l' = putO' l k n
def dLoop (k : Kt) (r : DR) : List D → DR
  | [] => dNil
  | d :: ds => fun q γ l g l' => ∃ γ1 γ2 l2, k d γ = some γ1 ∧ r q γ1 l γ2 l2 ∧ dLoop k r ds q γ2 l2 g l'
def dForR (gs : Gm → Rs (List D)) (k : Kt) (r : DR) : DR := fun q γ l g l' => ∃ ds γ1, gs γ = .ok ds γ1 ∧ dLoop k r ds q γ1 l g l'
section
variable {X : Cx} {W : WX} {pos p p2 ps sp dpos : Pos} {st : Stmt} {rest body : List Stmt} {a b e tg : Expr} {ga gb ge : Gm → Rs D} {h : Gm → Out} {ta : Gm → Rs Bool} {r r' : DR} {x : Str} {i : Nat} {gs : Gm → Rs (List D)} {k : Kt} {ts : List Nat}
theorem ds_st (hs : MS X W st h) : DS X W st (dSt h) := by
  obtain ⟨t, h1, s1⟩ := hs
  refine ⟨t, h1, fun f c σ γ l T q g l' R h0 hX hr hp => s1 (f.dct q l) c σ γ T R ?_⟩
  rw [hr.1]
  intro σ' c' px R'
  rw [hr.2] at hp
  exact hp σ' c' px R'
theorem dss_nil : DSs X W [] dNil := ⟨_, pss_nil, fun f c σ γ l T q g l' R h0 hX hr hp => by
  obtain ⟨rfl, rfl⟩ := hr
  exact hp σ c .refl R⟩
theorem dss_cons (h1 : DS X W st r) (h2 : DSs X W rest r') : DSs X W (st :: rest) (dSeq r r') := by
  obtain ⟨t, p1, s1⟩ := h1
  obtain ⟨t', p2, s2⟩ := h2
  refine ⟨_, pss_cons p1 p2, fun f c σ γ l T q g l' R h0 hX hr hp => ?_⟩
  obtain ⟨γ1, l1, e1, e2⟩ := hr
  refine s1 f c σ γ l _ q γ1 l1 R h0 hX e1 fun σ1 c1 x1 R1 => ?_
  exact s2 f c1 σ1 γ1 l1 T q g l' R1 h0 hX e2 fun σ' c' x2 R2 => hp σ' c' (x1.trans x2) R2
theorem ds_if {b1 b2 : List Stmt} (ht : MT X W e ta) (h1 : DSs X W b1 r) (h2 : DSs X W b2 r') : DS X W (.If e b1 b2 pos) (dIfR ta r r') := by
  obtain ⟨t0, p0, s0⟩ := ht
  obtain ⟨t1, p1, s1⟩ := h1
  obtain ⟨t2, p2, s2⟩ := h2
  refine ⟨_, ps_if p0 p1 p2, fun f c σ γ l T q g l' R h0 hX hr hp => ?_⟩
  rcases hr with ⟨γ1, e1, e2⟩ | ⟨γ1, e1, e2⟩
  · refine s0 _ _ c σ γ _ R ?_
    rw [e1]
    intro v c1 x1 R1 k1 (q1 : true = v)
    subst q1
    rw [if_pos rfl]
    exact s1 f c1 σ γ1 l T q g l' R1 h0 hX e2 fun σ' c' x2 R2 => hp σ' c' ((x1.p R.wf).trans x2) R2
  · refine s0 _ _ c σ γ _ R ?_
    rw [e1]
    intro v c1 x1 R1 k1 (q1 : false = v)
    subst q1
    rw [if_neg Bool.false_ne_true]
    exact s2 f c1 σ γ1 l T q g l' R1 h0 hX e2 fun σ' c' x2 R2 => hp σ' c' ((x1.p R.wf).trans x2) R2
/-- d[b] = e -/
theorem ds_put (ho : PE X (.Name x p) (tVar i)) (hb : MP X W b gb) (he : MP X W e ge) (hsw : swapsWith e (some (.Subscript (.Name x p) b ps)) pos.line X.env = pure false := by rfl) :
    DS X W (.Assign [.Subscript (.Name x p) b ps] e pos) (dPutR i gb ge) := by
  obtain ⟨te, h1, s1⟩ := he
  obtain ⟨tb, h2, s2⟩ := hb
  refine ⟨_, ps_nput ho h2 h1 hsw, fun f c σ γ l T q g l' R h0 hX hr hp => ?_⟩
  obtain ⟨d, kk, n, γ1, e0, e1, e2, e3, e4, e5, rfl⟩ := hr
  refine s1 _ _ c σ γ _ R ?_
  rw [e1]
  intro v c1 x1 R1 k1 q1
  cases (show v = .int n from q1)
  refine ⟨.ref q, held R1 e2, ?_⟩
  refine s2 _ _ c1 σ γ1 _ R1 ?_
  rw [e3]
  intro w c2 x2 R2 k2 q2
  have eH := R2.inv.2
  obtain ⟨R3, _⟩ := R2.unlayD
  have R4 := (R3.putD eH h0 hX (dctO q (putO' l kk n))).layD (p := q) (l := putO' l kk n) upd_same
  exact ⟨q, l, kk, n, rfl, eH, kyD_den e4 q2, rfl, e5, hp σ _ (((x1.p R.wf).trans (x2.p R1.wf)).trans fun d v z => dct_put eH d v z) R4⟩
theorem ds_for (hp : PassesOwn (model X.prog X.w) X.A X.env X.xe) (hc : X.calm = true) (hi : MI X W tg e gs) (hg : MG X tg ts k) (hb : DSs X W body r) (hs : ∀ x, foldedSetIterable e X.env x = pure x := by intro _; rfl) : DS X W (.For tg e body [] pos) (dForR gs k r) := by
  obtain ⟨ti, p1, s1⟩ := hi
  obtain ⟨g, p2, s2⟩ := hg
  obtain ⟨tb, p3, s3⟩ := hb
  refine ⟨_, ps_for hp hc p1 p2 p3 hs, fun f c σ γ l0 T q gE lE R h0 hX hr hq => ?_⟩
  obtain ⟨l, γ1, eg, el⟩ := hr
  refine s1 _ _ c σ γ _ R ?_
  rw [eg]
  intro J c1 x1 R1 k1 q1
  refine ⟨fun i m σ H => ∃ c2 γ2 ls2, c2.H = H ∧ m + i = l.length ∧ PExt X.K c1 c2 ∧ Rel X.K (f.dct q ls2) (f.dct q ls2).S c2 σ γ2 ∧ dLoop k r (l.drop i) q γ2 ls2 gE lE, ⟨l.length, c1, γ1, l0, rfl, rfl, .refl, R1, by rw [List.drop_zero]; exact el⟩, ?_⟩
  rintro i m σ2 H ⟨c2, γ2, ls2, rfl, em, px, R2, el2⟩
  obtain ⟨it, stop⟩ := q1 c2 R2.wf px
  cases ed : l[i]? with
  | none =>
    have hi : l.length ≤ i := List.getElem?_eq_none_iff.mp ed
    have ei : i = l.length := by omega
    rw [List.drop_eq_nil_of_le hi] at el2
    obtain ⟨rfl, rfl⟩ := el2
    rw [ei]
    exact .inl ⟨stop, hq σ2 c2 ((x1.p R.wf).trans px) R2⟩
  | some d =>
    obtain ⟨hil, ed'⟩ := List.getElem?_eq_some_iff.mp ed
    have edrop : l.drop i = d :: l.drop (i + 1) := by rw [← ed']; exact List.drop_eq_getElem_cons hil
    rw [edrop] at el2
    obtain ⟨γ3, γ4, ls4, ek, er, el3⟩ := el2
    obtain ⟨go, yl⟩ := it i d ed
    refine .inr ⟨go, fun σ' H' => ∃ c3 γ3 ls3, c3.H = H' ∧ PExt X.K c1 c3 ∧ Rel X.K (f.dct q ls3) (f.dct q ls3).S c3 σ' γ3 ∧ dLoop k r (l.drop (i + 1)) q γ3 ls3 gE lE, fun σ' H' ⟨c3, γ3, ls3, e3, px3, R3, hq3⟩ => ⟨m - 1, by omega, c3, γ3, ls3, e3, by omega, px3, R3, hq3⟩, fun x H' hy => ?_⟩
    obtain ⟨c3, rfl, x3, w3, hd⟩ := yl x H' hy
    have R3 := R2.step x3 w3
    refine s2.run _ _ c3 σ2 γ2 γ3 d x _ R3 hd ek fun σ4 R4 _ _ _ => ?_
    exact s3 f c3 σ4 γ3 ls2 _ q γ4 ls4 R4 h0 hX er fun σ5 c5 x5 R5 => ⟨c5, γ4, ls4, rfl, (px.trans (x3.p R2.wf)).trans x5, R5, el3⟩
/-- y = {}; a statement that fills it; what follows sees data -/
theorem mss_dct {y : Str} {H : Gm → Out} (hN : X.N.Nodup) (hy : X.N[i]? = some y) (hx : Loc X.env.scope y) (mid : DS X W st r) (tail : MSs X W rest h)
    (hH : ∀ γ, H γ ≠ .no → ∀ q, ∃ g l, r q (γ.set i (hdq q)) [] g l ∧ g[i]? = some (hdq q) ∧ H γ = h (g.set i (.pu (.ob (.dct l)))))
    (hs : swapsWith (.Dict [] [] dpos) (some (.Name y p2)) sp.line X.env = pure false := by rfl) (hf : X.fn y = true ∨ X.env.scope.names.lookup y = some .local := by first | exact .inl rfl | exact .inr rfl | assumption) :
    MSs X W (.Assign [.Name y p2] (.Dict [] [] dpos) sp :: st :: rest) H := by
  obtain ⟨t2, p2', n2⟩ := mid
  obtain ⟨t3, p3, n3⟩ := tail
  refine ⟨_, pss_cons (ps_set hN hy hx pe_nnew hs hf) (pss_cons (ps_frz p2') p3), fun f c σ γ T R hp => ?_⟩
  have hno : H γ ≠ .no := fun z => by rw [z] at hp; exact hp
  intro q hq
  obtain ⟨g', l, er, eg', eH⟩ := hH γ hno q
  have h0 : f.c0.H q = none := R.ext.noneS R.wf hq
  have hX := R.notX hq
  have R1 := (R.step (Ext.new (o := dctO q []) hq) (R.wf.new hq)).layD (p := q) (l := []) upd_same
  have R2 := R1.setP (d := .ob (.exn q none none)) (v := .ref q) ⟨rfl, rfl⟩ i
  have px1 : PExt X.K c ⟨c.M, upd c.H q (dctO q [])⟩ := (Ext.new (o := dctO q []) hq).p R.wf
  refine n2 f _ _ _ _ _ q g' l R2 h0 hX er fun σ' c'' px2 R3 => ?_
  have eq' := R3.inv.2
  refine ⟨q, l, eq', fun o => ?_⟩
  obtain ⟨R4, _⟩ := R3.unlayD
  have R5 := R4.putD eq' h0 hX (.frz o (dctO q l))
  have R6 := R5.setP (d := .ob (.dct l)) (v := .ref q) ⟨q, o, rfl, upd_same⟩ i
  have es : σ'.set i (some (.ref q)) = σ' := by
    have hh := held R3 eg'
    refine List.ext_getElem? fun j => ?_
    by_cases hj : i = j
    · subst hj
      have hl := (List.getElem?_eq_some_iff.mp hh).1
      rw [List.getElem?_set_self hl, hh]
    · rw [List.getElem?_set_ne hj]
  rw [es] at R6
  rw [eH] at hp
  exact n3 f _ σ' _ T R6 (SPost.pre ((px1.trans px2).trans fun d v z => dct_put eq' d v z) hp)
end
/-! computed -/
abbrev DX := Gm → DL → Option (Gm × DL)
def xSt (h : Gm → Out) : DX := fun γ l => match h γ with
  | .nx g => some (g, l)
  | _ => none
def xNilD : DX := fun γ l => some (γ, l)
def xSeq (a b : DX) : DX := fun γ l => (a γ l).bind fun z => b z.1 z.2
def xIf (ta : Gm → Rs Bool) (a b : DX) : DX := fun γ l => match ta γ with
  | .ok true g => a g l
  | .ok false g => b g l
  | _ => none
def xPut (gb ge : Gm → Rs D) : DX := fun γ l => match ge γ with
  | .ok (.int n) γ1 => match gb γ1 with
    | .ok d g => match kyD d with
      | some k => if l.length < sizeLine then some (g, putO' l k n) else none
      | none => none
    | _ => none
  | _ => none
def xLoop (k : Kt) (n : DX) : List D → DX
  | [] => xNilD
  | d :: ds => fun γ l => (k d γ).bind fun γ1 => (n γ1 l).bind fun z => xLoop k n ds z.1 z.2
def xFor (gs : Gm → Rs (List D)) (k : Kt) (n : DX) : DX := fun γ l => match gs γ with
  | .ok ds γ1 => xLoop k n ds γ1 l
  | _ => none
def OkD (i : Nat) (n : DX) (r : DR) : Prop := ∀ γ l g l' q, γ[i]? = some .un → n γ l = some (g, l') → g[i]? = some .un ∧ r q (γ.set i (hdq q)) l (g.set i (hdq q)) l'
section
variable {i : Nat} {h : Gm → Out} {n n' : DX} {r r' : DR} {ta : Gm → Rs Bool} {ga gb ge : Gm → Rs D} {gs : Gm → Rs (List D)} {k : Kt}
theorem okd_st (b : ParS i h) : OkD i (xSt h) (dSt h) := fun γ l g l' q e hn => by
  unfold xSt at hn
  cases eh : h γ with
  | nx g' =>
    rw [eh] at hn
    cases hn
    exact ⟨b.un e eh, (b γ g (hdq q) eh).2, rfl⟩
  | _ => rw [eh] at hn; cases hn
theorem okd_nil : OkD i xNilD dNil := fun γ l g l' q e hn => by
  cases hn
  exact ⟨e, rfl, rfl⟩
theorem okd_seq (a : OkD i n r) (b : OkD i n' r') : OkD i (xSeq n n') (dSeq r r') := fun γ l g l' q e hn => by
  have hn' : (n γ l).bind (fun z => n' z.1 z.2) = some (g, l') := hn
  cases e1 : n γ l with
  | none => rw [e1] at hn'; cases hn'
  | some z =>
    rw [e1] at hn'
    obtain ⟨u1, q1⟩ := a γ l z.1 z.2 q e e1
    obtain ⟨u2, q2⟩ := b z.1 z.2 g l' q u1 hn'
    exact ⟨u2, _, _, q1, q2⟩
theorem okd_if (t : BlG i ta) (a : OkD i n r) (b : OkD i n' r') : OkD i (xIf ta n n') (dIfR ta r r') := fun γ l g l' q e hn => by
  unfold xIf at hn
  cases et : ta γ with
  | no => rw [et] at hn; cases hn
  | ex _ _ _ => rw [et] at hn; cases hn
  | ok v γ1 =>
    rw [et] at hn
    have u := t.un e et
    have t2 := (t γ v γ1 (hdq q) et).2
    cases v with
    | true =>
      obtain ⟨u1, q1⟩ := a γ1 l g l' q u hn
      exact ⟨u1, .inl ⟨_, t2, q1⟩⟩
    | false =>
      obtain ⟨u1, q1⟩ := b γ1 l g l' q u hn
      exact ⟨u1, .inr ⟨_, t2, q1⟩⟩
theorem okd_put (hb : BlG i gb) (he : BlG i ge) : OkD i (xPut gb ge) (dPutR i gb ge) := fun γ l g l' q e hn => by
  unfold xPut at hn
  cases ea : ge γ with
  | no => rw [ea] at hn; cases hn
  | ex _ _ _ => rw [ea] at hn; cases hn
  | ok v γ1 =>
    rw [ea] at hn
    cases v with
    | int m =>
      simp only at hn
      cases eb : gb γ1 with
      | no => rw [eb] at hn; cases hn
      | ex _ _ _ => rw [eb] at hn; cases hn
      | ok d g' =>
        rw [eb] at hn
        simp only at hn
        cases ek : kyD d with
        | none => rw [ek] at hn; cases hn
        | some kk =>
          rw [ek] at hn
          simp only at hn
          by_cases hz : l.length < sizeLine
          · rw [if_pos hz] at hn
            cases hn
            have u1 := he.un e ea
            have hi := (List.getElem?_eq_some_iff.mp e).1
            have hi1 := (List.getElem?_eq_some_iff.mp u1).1
            exact ⟨hb.un u1 eb, d, kk, m, γ1.set i (hdq q), List.getElem?_set_self hi, (he γ _ γ1 (hdq q) ea).2, List.getElem?_set_self hi1, (hb γ1 _ g (hdq q) eb).2, ek, hz, rfl⟩
          · rw [if_neg hz] at hn; cases hn
    | _ => cases hn
theorem okd_loop (hk : ParK i k) (a : OkD i n r) : ∀ ds : List D, OkD i (xLoop k n ds) (dLoop k r ds)
  | [] => okd_nil
  | d :: ds => fun γ l g l' q e hn => by
    have hn' : (k d γ).bind (fun γ1 => (n γ1 l).bind fun z => xLoop k n ds z.1 z.2) = some (g, l') := hn
    cases ek : k d γ with
    | none => rw [ek] at hn'; cases hn'
    | some γ1 =>
      rw [ek] at hn'
      have hn2 : (n γ1 l).bind (fun z => xLoop k n ds z.1 z.2) = some (g, l') := hn'
      cases e1 : n γ1 l with
      | none => rw [e1] at hn2; cases hn2
      | some z =>
        rw [e1] at hn2
        obtain ⟨u1, q1⟩ := a γ1 l z.1 z.2 q (hk.un e ek) e1
        obtain ⟨u2, q2⟩ := okd_loop hk a ds z.1 z.2 g l' q u1 hn2
        exact ⟨u2, _, _, _, (hk d γ γ1 (hdq q) ek).2, q1, q2⟩
theorem okd_for (hg : BlG i gs) (hk : ParK i k) (a : OkD i n r) : OkD i (xFor gs k n) (dForR gs k r) := fun γ l g l' q e hn => by
  unfold xFor at hn
  cases eg : gs γ with
  | no => rw [eg] at hn; cases hn
  | ex _ _ _ => rw [eg] at hn; cases hn
  | ok ds γ1 =>
    rw [eg] at hn
    obtain ⟨u, q1⟩ := okd_loop hk a ds γ1 l g l' q (hg.un e eg) hn
    exact ⟨u, ds, _, (hg γ ds γ1 (hdq q) eg).2, q1⟩
end
def DE (X : Cx) (W : WX) (i : Nat) (st : Stmt) (n : DX) : Prop := ∃ r, DS X W st r ∧ OkD i n r
def DEs (X : Cx) (W : WX) (i : Nat) (st : List Stmt) (n : DX) : Prop := ∃ r, DSs X W st r ∧ OkD i n r
def hDct (i : Nat) (n : DX) (h : Gm → Out) : Gm → Out := fun γ => match γ[i]? with
  | some .un => match n γ [] with
    | some z => h (z.1.set i (.pu (.ob (.dct z.2))))
    | none => .no
  | _ => .no
section
variable {X : Cx} {W : WX} {pos p p1 p2 ps sp dpos : Pos} {st : Stmt} {rest : List Stmt} {e b tg : Expr} {ga gb ge : Gm → Rs D} {h : Gm → Out} {ta : Gm → Rs Bool} {n n' : DX} {x : Str} {i : Nat} {gs : Gm → Rs (List D)} {k : Kt} {ts : List Nat} {body : List Stmt}
theorem de_st (hs : MS X W st h) (hp : ParS i h) : DE X W i st (xSt h) := ⟨_, ds_st hs, okd_st hp⟩
theorem des_nil : DEs X W i [] xNilD := ⟨_, dss_nil, okd_nil⟩
theorem des_cons (a : DE X W i st n) (c : DEs X W i rest n') : DEs X W i (st :: rest) (xSeq n n') := let ⟨_, a1, a2⟩ := a; let ⟨_, c1, c2⟩ := c; ⟨_, dss_cons a1 c1, okd_seq a2 c2⟩
theorem de_if {b1 b2 : List Stmt} (ht : MT X W e ta) (hp : BlG i ta) (a : DEs X W i b1 n) (c : DEs X W i b2 n') : DE X W i (.If e b1 b2 pos) (xIf ta n n') := let ⟨_, a1, a2⟩ := a; let ⟨_, c1, c2⟩ := c; ⟨_, ds_if ht a1 c1, okd_if hp a2 c2⟩
theorem de_for (hp : PassesOwn (model X.prog X.w) X.A X.env X.xe) (hc : X.calm = true) (hi : MI X W tg e gs) (hgp : BlG i gs) (hg : MG X tg ts k) (hkp : ParK i k) (hb : DEs X W i body n) (hs : ∀ x, foldedSetIterable e X.env x = pure x := by intro _; rfl) : DE X W i (.For tg e body [] pos) (xFor gs k n) :=
  let ⟨_, a1, a2⟩ := hb; ⟨_, ds_for hp hc hi hg a1 hs, okd_for hgp hkp a2⟩
theorem de_put (ho : PE X (.Name x p) (tVar i)) (hb : MP X W b gb) (hbp : BlG i gb) (he : MP X W e ge) (hep : BlG i ge) (hsw : swapsWith e (some (.Subscript (.Name x p) b ps)) pos.line X.env = pure false := by rfl) :
    DE X W i (.Assign [.Subscript (.Name x p) b ps] e pos) (xPut gb ge) := ⟨_, ds_put ho hb he hsw, okd_put hbp hep⟩
theorem mss_dctX {y : Str} (hN : X.N.Nodup) (hy : X.N[i]? = some y) (hx : Loc X.env.scope y) (mid : DE X W i st n) (tail : MSs X W rest h)
    (hs : swapsWith (.Dict [] [] dpos) (some (.Name y p2)) sp.line X.env = pure false := by rfl) (hf : X.fn y = true ∨ X.env.scope.names.lookup y = some .local := by first | exact .inl rfl | exact .inr rfl | assumption) :
    MSs X W (.Assign [.Name y p2] (.Dict [] [] dpos) sp :: st :: rest) (hDct i n h) := by
  obtain ⟨r, m1, m2⟩ := mid
  refine mss_dct hN hy hx m1 tail (fun γ hne q => ?_) hs hf
  unfold hDct at hne ⊢
  split at hne
  · rename_i eu
    cases en : n γ [] with
    | none => rw [en] at hne; exact (hne rfl).elim
    | some z =>
      obtain ⟨u, rr⟩ := m2 γ [] z.1 z.2 q eu en
      have hlen := (List.getElem?_eq_some_iff.mp u).1
      refine ⟨z.1.set i (hdq q), z.2, rr, List.getElem?_set_self hlen, ?_⟩
      rw [List.set_set]
  · exact (hne rfl).elim
end
theorem d_get {l : DL} {k : Ky} {n : Int} (h : getO l k = some n) : dGet (.ob (.dct l)) (kD k) = some (.int n) := by
  cases k <;> simp [dGet, kD, h]
end Fv

noncomputable section
namespace Tx
open PySem L2 Fv
open PyProof.Rows (envOfC)
section
variable [LC : LamC]
def topS (i : Nat) : Stmt := PySem.Challenge.pw_eventcore_k46_interrupted_refused.main.body.getD i (.Pass ⟨0, 0, 0, 0⟩)
/-! _law_taken -/
abbrev s__law_taken : Stmt := topS 39
abbrev N__law_taken : List Str := ["row", "many", "found", "cell"]
theorem sc__law_taken : FnScope ["row", "many", "found", "cell"] ["row", "many"] (defScope s__law_taken) := ⟨rfl, rfl, rfl, by decide +kernel, rfl, by decide +kernel, by decide +kernel⟩
def t__law_taken_1 : Gm → Out := (hFgt [2] (hIf (gTst (g2 dGt (gIxO 0 (gC (.int 3))) (gC (.int 0)))) (hSeq (hSet 2 (g2 dMod (gB dInt1 (gCons (gIxO 0 (gC (.int 3))) gNil)) (gVar 1))) (hSeq (hFgt [1] (hPut 0 (g2 dFdiv (gIxO 0 (gC (.int 3))) (gVar 1)) (gC (.int 3)))) (hRetC (gVar 2)))) hNx))
def t__law_taken_2 : Gm → Out := (hPut 0 (g2 dAdd (gIxO 0 (gC (.int 1))) (gC (.int 1))) (gC (.int 1)))
def t__law_taken_3 : Gm → Out := (hIf (gTst (g2 dGt (gIxO 0 (gC (.int 1))) (gB dLen (gCons (gIxO 0 (gC (.int 0))) gNil)))) (hSeq (hPut 0 (g2 dMod (gB dInt1 (gCons (g2 dAdd (g2 dMulX (gIxO 0 (gC (.int 2))) (gC (.int 48271))) (gC (.int 11))) gNil)) (gC (.int 2147483647))) (gC (.int 2))) (hFrz 0 (hRetC (g2 dMod (gB dInt1 (gCons (g2 dFdiv (gIxO 0 (gC (.int 2))) (gC (.int 7))) gNil)) (gVar 1))))) hNx)
def t__law_taken_4 : Gm → Out := (hSet 3 (g2 dIx (gIxO 0 (gC (.int 0))) (g2 dSub (gIxO 0 (gC (.int 1))) (gC (.int 1)))))
def t__law_taken_5 : Gm → Out := (hPut 0 (g2 dMod (gB dInt1 (gCons (g2 dAdd (g2 dAdd (g2 dMulX (gIxO 0 (gC (.int 2))) (gC (.int 48271))) (gVar 3)) (gC (.int 11))) gNil)) (gC (.int 2147483647))) (gC (.int 2)))
def t__law_taken_6 : Gm → Out := (hIf (gTst (g2 dGe (gVar 3) (g2 dPow (gC (.int 10)) (gC (.int 18))))) (hPut 0 (g2 dFdiv (gVar 3) (gVar 1)) (gC (.int 3))) hNx)
def t__law_taken_7 : Gm → Out := (hRetC (g2 dMod (gB dInt1 (gCons (gVar 3) gNil)) (gVar 1)))
def h__law_taken : Gm → Out := (hSeq t__law_taken_1 (hSeq t__law_taken_2 (hSeq t__law_taken_3 (hSeq t__law_taken_4 (hSeq t__law_taken_5 (hSeq t__law_taken_6 t__law_taken_7))))))
def F__law_taken : List SV → Rs D := runN 4 h__law_taken
set_option maxHeartbeats 4000000 in
theorem w__law_taken {P : Program} {w : World} {K : PySem.W.Frag} {mg : Str → Option Value} {base : Heap} {f : Addr} {fd : FuncData} (m_int : mg ("int" : Str) = none) (m_len : mg ("len" : Str) = none) (F : FunD K ("_law_taken" : Str) ("_law_taken" : Str) (defArgs s__law_taken) (defBody s__law_taken) (defScope s__law_taken) [] [] f fd) : FnOk P w K mg base CX0 1 f fd ["row", "many"] (spF K mg 2 F__law_taken) :=
  fok (k := 0) F sc__law_taken fun cdv A outer s H E hr => (mss_cons (ms_fgt [2] (ms_if (mt_b (mp_gt (mp_ixO (pv 0) mp_int) mp_int)) (mss_cons (ms_set (i := 2) sc__law_taken.nd rfl (.inl rfl) (mp_mod (mp_int1 rfl m_int (mp_ixO (pv 0) mp_int)) (mp_tvar (pv 1)))) (mss_cons (ms_fgt [1] (ms_put (pv 0) mp_int (mp_fdiv (mp_ixO (pv 0) mp_int) (mp_tvar (pv 1))))) (mss_one (ms_retC (mp_tvar (pv 2)))))) mss_nil)) (mss_cons (ms_put (pv 0) mp_int (mp_add (mp_ixO (pv 0) mp_int) mp_int)) (mss_cons (ms_if (mt_b (mp_gt (mp_ixO (pv 0) mp_int) (mp_len rfl m_len (mp_ixO (pv 0) mp_int)))) (mss_cons (ms_put (pv 0) mp_int (mp_mod (mp_int1 rfl m_int (mp_add (mp_mulX (mp_ixO (pv 0) mp_int) mp_int) mp_int)) mp_int)) (mss_frz 0 (mss_one (ms_retC (mp_mod (mp_int1 rfl m_int (mp_fdiv (mp_ixO (pv 0) mp_int) mp_int)) (mp_tvar (pv 1))))))) mss_nil) (mss_cons (ms_set (i := 3) sc__law_taken.nd rfl (.inl rfl) (mp_ix (mp_ixO (pv 0) mp_int) (mp_sub (mp_ixO (pv 0) mp_int) mp_int))) (mss_cons (ms_put (pv 0) mp_int (mp_mod (mp_int1 rfl m_int (mp_add (mp_add (mp_mulX (mp_ixO (pv 0) mp_int) mp_int) (mp_tvar (pv 3))) mp_int)) mp_int)) (mss_cons (ms_if (mt_b (mp_ge (mp_tvar (pv 3)) (mp_pow mp_int mp_int))) (mss_one (ms_put (pv 0) mp_int (mp_fdiv (mp_tvar (pv 3)) (mp_tvar (pv 1))))) mss_nil) (mss_one (ms_retC (mp_mod (mp_int1 rfl m_int (mp_tvar (pv 3))) (mp_tvar (pv 1)))))))))))
/-! is_tuple -/
abbrev s_is_tuple : Stmt := topS 7
abbrev N_is_tuple : List Str := ["value", "least", "most"]
theorem sc_is_tuple : FnScope ["value", "least", "most"] ["value", "least", "most"] (defScope s_is_tuple) := ⟨rfl, rfl, rfl, by decide +kernel, rfl, by decide +kernel, by decide +kernel⟩
def h_is_tuple : Gm → Out := (hRetC (gAnd (g1 (dIsi "tuple") (gVar 0)) (gChain dLe dLe (gVar 1) (gB dLen (gCons (gVar 0) gNil)) (gVar 2))))
def F_is_tuple : List SV → Rs D := runN 3 h_is_tuple
set_option maxHeartbeats 4000000 in
theorem w_is_tuple {P : Program} {w : World} {K : PySem.W.Frag} {mg : Str → Option Value} {base : Heap} {f : Addr} {fd : FuncData} (m_isinstance : mg ("isinstance" : Str) = none) (m_len : mg ("len" : Str) = none) (m_tuple : mg ("tuple" : Str) = none) (F : FunD K ("is_tuple" : Str) ("is_tuple" : Str) (defArgs s_is_tuple) (defBody s_is_tuple) (defScope s_is_tuple) [] [] f fd) : FnOk P w K mg base CX0 1 f fd ["value", "least", "most"] (spF K mg 3 F_is_tuple) :=
  fok (k := 0) F sc_is_tuple fun cdv A outer s H E hr => (mss_one (ms_retC (mp_and (mp_isi (T := ("tuple" : Str)) (Ts := "tuple") rfl m_isinstance rfl m_tuple (by decide +kernel) (mp_tvar (pv 0))) (mp_one (mp_b (mp_le_le (mp_tvar (pv 1)) (mp_len rfl m_len (mp_tvar (pv 0))) (mp_tvar (pv 2))))))))
/-! is_number -/
abbrev s_is_number : Stmt := topS 5
abbrev N_is_number : List Str := ["value"]
theorem sc_is_number : FnScope ["value"] ["value"] (defScope s_is_number) := ⟨rfl, rfl, rfl, by decide +kernel, rfl, by decide +kernel, by decide +kernel⟩
def h_is_number : Gm → Out := (hRetC (gAnd (g1 (dIsi "int") (gVar 0)) (gNot (g1 (dIsi "bool") (gVar 0)))))
def F_is_number : List SV → Rs D := runN 1 h_is_number
set_option maxHeartbeats 4000000 in
theorem w_is_number {P : Program} {w : World} {K : PySem.W.Frag} {mg : Str → Option Value} {base : Heap} {f : Addr} {fd : FuncData} (m_bool : mg ("bool" : Str) = none) (m_int : mg ("int" : Str) = none) (m_isinstance : mg ("isinstance" : Str) = none) (F : FunD K ("is_number" : Str) ("is_number" : Str) (defArgs s_is_number) (defBody s_is_number) (defScope s_is_number) [] [] f fd) : FnOk P w K mg base CX0 1 f fd ["value"] (spF K mg 1 F_is_number) :=
  fok (k := 0) F sc_is_number fun cdv A outer s H E hr => (mss_one (ms_retC (mp_and (mp_isi (T := ("int" : Str)) (Ts := "int") rfl m_isinstance rfl m_int (by decide +kernel) (mp_tvar (pv 0))) (mp_one (mp_not (mp_isi (T := ("bool" : Str)) (Ts := "bool") rfl m_isinstance rfl m_bool (by decide +kernel) (mp_tvar (pv 0))))))))
/-! is_integer -/
abbrev s_is_integer : Stmt := topS 6
abbrev N_is_integer : List Str := ["value", "low", "high"]
theorem sc_is_integer : FnScope ["value", "low", "high"] ["value", "low", "high"] (defScope s_is_integer) := ⟨rfl, rfl, rfl, by decide +kernel, rfl, by decide +kernel, by decide +kernel⟩
def h_is_integer : Gm → Out := (hRetC (gAnd (gCall F_is_number (aCons (gVar 0) aNil)) (gChain dLe dLe (gVar 1) (gVar 0) (gVar 2))))
def F_is_integer : List SV → Rs D := runN 3 h_is_integer
set_option maxHeartbeats 4000000 in
theorem w_is_integer {P : Program} {w : World} {K : PySem.W.Frag} {mg : Str → Option Value} {base : Heap} {f : Addr} {fd : FuncData} (d_is_number : Def P w K mg base CX0 1 ("is_number" : Str) ["value"] F_is_number) (F : FunD K ("is_integer" : Str) ("is_integer" : Str) (defArgs s_is_integer) (defBody s_is_integer) (defScope s_is_integer) [] [] f fd) : FnOk P w K mg base CX0 2 f fd ["value", "low", "high"] (spF K mg 3 F_is_integer) :=
  fok (k := 1) F sc_is_integer fun cdv A outer s H E hr => (mss_one (ms_retC (mp_and (mp_def d_is_number hr (by decide) rfl at0 (ma_cons (mp_tvar (pv 0)) ma_nil)) (mp_one (mp_b (mp_le_le (mp_tvar (pv 1)) (mp_tvar (pv 0)) (mp_tvar (pv 2))))))))
/-! is_row -/
abbrev s_is_row : Stmt := topS 8
abbrev N_is_row : List Str := ["value", "ranges", "entry", "low", "high"]
theorem sc_is_row : FnScope ["value", "ranges", "entry", "low", "high"] ["value", "ranges"] (defScope s_is_row) := ⟨rfl, rfl, rfl, by decide +kernel, rfl, by decide +kernel, by decide +kernel⟩
def t_is_row_1 : Gm → Out := (hIf (tgNot (gTst (gCall F_is_tuple (aCons (gVar 0) (aCons (gB dLen (gCons (gVar 1) gNil)) (aCons (gB dLen (gCons (gVar 1) gNil)) aNil)))))) (hRetC (gC (.bl false))) hNx)
def k_is_row_1 : Kt := (kTup 2 (kCons (kSet 2) (kCons (kTup 2 (kCons (kSet 3) (kCons (kSet 4) kNil))) kNil)))
def b_is_row_1 : Gm → Out := (hFgt [2, 3, 4] (hFgt [2, 3, 4] (hIf (tgNot (gTst (gCall F_is_integer (aCons (gVar 2) (aCons (gVar 3) (aCons (gVar 4) aNil)))))) (hRetC (gC (.bl false))) hNx)))
def t_is_row_2 : Gm → Out := (hFgt [0, 1, 2, 3, 4] (hFor (gZip (gVar 0) (gVar 1)) k_is_row_1 b_is_row_1))
def t_is_row_3 : Gm → Out := (hRetC (gC (.bl true)))
def h_is_row : Gm → Out := (hSeq t_is_row_1 (hSeq t_is_row_2 t_is_row_3))
def F_is_row : List SV → Rs D := runN 5 h_is_row
set_option maxHeartbeats 4000000 in
theorem w_is_row {P : Program} {w : World} {K : PySem.W.Frag} {mg : Str → Option Value} {base : Heap} {f : Addr} {fd : FuncData} (m_len : mg ("len" : Str) = none) (m_zip : mg ("zip" : Str) = none) (d_is_tuple : Def P w K mg base CX0 1 ("is_tuple" : Str) ["value", "least", "most"] F_is_tuple) (d_is_integer : Def P w K mg base CX0 2 ("is_integer" : Str) ["value", "low", "high"] F_is_integer) (F : FunD K ("is_row" : Str) ("is_row" : Str) (defArgs s_is_row) (defBody s_is_row) (defScope s_is_row) [] [] f fd) : FnOk P w K mg base CX0 3 f fd ["value", "ranges"] (spF K mg 2 F_is_row) :=
  fok (k := 2) F sc_is_row fun cdv A outer s H E hr => (mss_cons (ms_if (mt_not (mt_val (mp_def d_is_tuple hr (by decide) rfl at0 (ma_cons (mp_tvar (pv 0)) (ma_cons (mp_len rfl m_len (mp_tvar (pv 1))) (ma_cons (mp_len rfl m_len (mp_tvar (pv 1))) ma_nil)))))) (mss_one (ms_retC mp_bl)) mss_nil) (mss_cons (ms_fgt [0, 1, 2, 3, 4] (ms_for PassesOwn.never rfl (mi_zip rfl m_zip (mp_tvar (pv 0)) (mp_tvar (pv 1))) (mg_tup rfl (mgs_cons (mg_name (i := 2) sc_is_row.nd rfl (.inl rfl)) (mgs_cons (mg_tup rfl (mgs_cons (mg_name (i := 3) sc_is_row.nd rfl (.inl rfl)) (mgs_cons (mg_name (i := 4) sc_is_row.nd rfl (.inl rfl)) mgs_nil))) mgs_nil))) (mss_fgt [2, 3, 4] (mss_one (ms_fgt [2, 3, 4] (ms_if (mt_not (mt_val (mp_def d_is_integer hr (by decide) rfl at0 (ma_cons (mp_tvar (pv 2)) (ma_cons (mp_tvar (pv 3)) (ma_cons (mp_tvar (pv 4)) ma_nil)))))) (mss_one (ms_retC mp_bl)) mss_nil)))))) (mss_one (ms_retC mp_bl))))
/-! check_rows -/
abbrev s_check_rows : Stmt := topS 15
abbrev N_check_rows : List Str := ["jobs", "most", "ranges", "index", "value"]
theorem sc_check_rows : FnScope ["jobs", "most", "ranges", "index", "value"] ["jobs", "most", "ranges"] (defScope s_check_rows) := ⟨rfl, rfl, rfl, by decide +kernel, rfl, by decide +kernel, by decide +kernel⟩
def k_check_rows_1 : Kt := (kTup 2 (kCons (kSet 3) (kCons (kSet 4) kNil)))
def b_check_rows_1 : Gm → Out := (hFgt [3, 4] (hFgt [3, 4] (hIf (tgNot (gTst (gCall F_is_row (aCons (gVar 4) (aCons (gVar 2) aNil))))) (hRaise ("BadJobs" : Str) ("index" : Str) (gCons (gVar 3) gNil)) hNx)))
def h_check_rows : Gm → Out := (hSeq (hFgt [1] (hIf (tgNot (gTst (gCall F_is_tuple (aCons (gVar 0) (aCons (gC (.int 1)) (aCons (gVar 1) aNil)))))) (hRaise ("BadJobs" : Str) ("index" : Str) (gCons (gC .non) gNil)) hNx)) (hFgt [0, 2, 3, 4] (hFor (gEnum (gVar 0)) k_check_rows_1 b_check_rows_1)))
def F_check_rows : List SV → Rs D := runX 5 h_check_rows
set_option maxHeartbeats 4000000 in
theorem w_check_rows {P : Program} {w : World} {K : PySem.W.Frag} {mg : Str → Option Value} {base : Heap} {f : Addr} {fd : FuncData} (m_enumerate : mg ("enumerate" : Str) = none) (m_super : mg ("super" : Str) = none) (d_is_tuple : Def P w K mg base CX0 1 ("is_tuple" : Str) ["value", "least", "most"] F_is_tuple) (d_is_row : Def P w K mg base CX0 3 ("is_row" : Str) ["value", "ranges"] F_is_row) (t_BadJobs : Su.Txt P K (He.ga K ("BadJobs" : Str)) ("index" : Str)) (g_BadJobs : mg ("BadJobs" : Str) = some (.ref (He.ga K ("BadJobs" : Str)))) (htop : (P.main.scope.names.lookup ("super" : Str)).isSome = false) (F : FunD K ("check_rows" : Str) ("check_rows" : Str) (defArgs s_check_rows) (defBody s_check_rows) (defScope s_check_rows) [] [] f fd) : FnOk P w K mg base (L2.CX P w) 4 f fd ["jobs", "most", "ranges"] (spF K mg 3 F_check_rows) :=
  fokX (k := 3) F sc_check_rows fun cdv A outer s H E hr tk pw => (mss_cons (ms_fgt [1] (ms_if (mt_not (mt_val (mp_def d_is_tuple hr (by decide) rfl at0 (ma_cons (mp_tvar (pv 0)) (ma_cons mp_int (ma_cons (mp_tvar (pv 1)) ma_nil)))))) (mss_one (ms_raiseS rfl tk t_BadJobs Su.nm_index htop m_super hr (by decide) rfl g_BadJobs (md_cons mp_non md_nil))) mss_nil)) (mss_one (ms_fgt [0, 2, 3, 4] (ms_for pw rfl (mi_enum rfl m_enumerate (mp_tvar (pv 0))) (mg_tup rfl (mgs_cons (mg_name (i := 3) sc_check_rows.nd rfl (.inl rfl)) (mgs_cons (mg_name (i := 4) sc_check_rows.nd rfl (.inl rfl)) mgs_nil))) (mss_fgt [3, 4] (mss_one (ms_fgt [3, 4] (ms_if (mt_not (mt_val (mp_def d_is_row hr (by decide) rfl at0 (ma_cons (mp_tvar (pv 4)) (ma_cons (mp_tvar (pv 2)) ma_nil))))) (mss_one (ms_raiseS rfl tk t_BadJobs Su.nm_index htop m_super hr (by decide) rfl g_BadJobs (md_cons (mp_tvar (pv 3)) md_nil))) mss_nil))))))))
/-! check_long_jobs -/
abbrev s_check_long_jobs : Stmt := topS 17
abbrev N_check_long_jobs : List Str := ["jobs"]
theorem sc_check_long_jobs : FnScope ["jobs"] ["jobs"] (defScope s_check_long_jobs) := ⟨rfl, rfl, rfl, by decide +kernel, rfl, by decide +kernel, by decide +kernel⟩
def h_check_long_jobs : Gm → Out := (hFgt [0] (hDrop (gCall F_check_rows (aCons (gVar 0) (aCons (gC (.int 7)) (aCons (gTup (gCons (gTup (gCons (gC (.int 0)) (gCons (gC (.int 100)) gNil))) (gCons (gTup (gCons (gC (.int 1)) (gCons (gC (.int 20)) gNil))) (gCons (gTup (gCons (gC (.int 0)) (gCons (gC (.int 100)) gNil))) gNil)))) aNil))))))
def F_check_long_jobs : List SV → Rs D := runX 1 h_check_long_jobs
set_option maxHeartbeats 4000000 in
theorem w_check_long_jobs {P : Program} {w : World} {K : PySem.W.Frag} {mg : Str → Option Value} {base : Heap} {f : Addr} {fd : FuncData} (c_LAST_TIME : ∃ t, mg ("LAST_TIME" : Str) = some (.int 100 t)) (c_MOST_JOB_LENGTH : ∃ t, mg ("MOST_JOB_LENGTH" : Str) = some (.int 20 t)) (c_MOST_LONG_JOBS : ∃ t, mg ("MOST_LONG_JOBS" : Str) = some (.int 7 t)) (d_check_rows : Def P w K mg base (L2.CX P w) 4 ("check_rows" : Str) ["jobs", "most", "ranges"] F_check_rows) (F : FunD K ("check_long_jobs" : Str) ("check_long_jobs" : Str) (defArgs s_check_long_jobs) (defBody s_check_long_jobs) (defScope s_check_long_jobs) [] [] f fd) : FnOk P w K mg base (L2.CX P w) 5 f fd ["jobs"] (spF K mg 1 F_check_long_jobs) :=
  fokX (k := 4) F sc_check_long_jobs fun cdv A outer s H E hr tk pw => (mss_one (ms_fgt [0] (ms_expr (mp_def d_check_rows hr (by decide) rfl (passAt tk) (ma_cons (mp_tvar (pv 0)) (ma_cons (mp_cst rfl c_MOST_LONG_JOBS) (ma_cons (mp_tup (md_cons (mp_tup (md_cons mp_int (md_cons (mp_cst rfl c_LAST_TIME) md_nil))) (md_cons (mp_tup (md_cons mp_int (md_cons (mp_cst rfl c_MOST_JOB_LENGTH) md_nil))) (md_cons (mp_tup (md_cons mp_int (md_cons (mp_cst rfl c_LAST_TIME) md_nil))) md_nil)))) ma_nil)))))))
/-! shows_units -/
abbrev s_shows_units : Stmt := topS 26
abbrev N_shows_units : List Str := ["jobs", "value", "left", "_", "length", "unit", "job"]
theorem sc_shows_units : FnScope ["jobs", "value", "left", "_", "length", "unit", "job"] ["jobs", "value"] (defScope s_shows_units) := ⟨rfl, rfl, rfl, by decide +kernel, rfl, by decide +kernel, by decide +kernel⟩
def t_shows_units_1 : Gm → Out := (hDrop (gCall F_check_long_jobs (aCons (gVar 0) aNil)))
def t_shows_units_2 : Gm → Out := (hIf (tgOr (tgNot (gTst (g1 (dIsi "tuple") (gVar 1)))) (tgOr (gTst (g2 dEq (gB dLen (gCons (gVar 1) gNil)) (gC (.int 0)))) (gTst (g1 dIsN (g2 dIx (gVar 1) (g1 dNeg (gC (.int 1)))))))) (hRetC (gC (.bl false))) hNx)
def ck_shows_units_1 : Kt := (kTup 3 (kCons (kSet 3) (kCons (kSet 4) (kCons (kSet 3) kNil))))
def ce_shows_units_1 : Gm → Rs D := (gVar 4)
def t_shows_units_3 : Gm → Out := (hSetF 2 (gLc (gItems (gVar 0)) ck_shows_units_1 gYes ce_shows_units_1 [3, 4]))
def t_shows_units_5 : Gm → Out := (hIf (gTst (g1 dIsN (gVar 6))) hCt hNx)
def t_shows_units_6 : Gm → Out := (hFgt [5] (hIf (tgOr (tgNot (gTst (gCall F_is_integer (aCons (gVar 6) (aCons (gC (.int 0)) (aCons (g2 dSub (gB dLen (gCons (gVar 0) gNil)) (gC (.int 1))) aNil)))))) (tgNot (gTst (gCall F_is_integer (aCons (gVar 5) (aCons (g2 dIx (g2 dIx (gVar 0) (gVar 6)) (gC (.int 0))) (aCons (g2 dSub (g2 dIx (g2 dIx (gVar 0) (gVar 6)) (gC (.int 2))) (gC (.int 1))) aNil))))))) (hRetC (gC (.bl false))) hNx))
def t_shows_units_7 : Gm → Out := (hFgt [6] (hAugS 2 (fun m n => m - n) (gVar 6) (gC (.int 1))))
def k_shows_units_1 : Kt := (kTup 2 (kCons (kSet 5) (kCons (kSet 6) kNil)))
def b_shows_units_1 : Gm → Out := (hFgt [5, 6] (hSeq t_shows_units_5 (hSeq t_shows_units_6 t_shows_units_7)))
def t_shows_units_4 : Gm → Out := (hFgt [1, 5, 6] (hFor (gEnum (gVar 1)) k_shows_units_1 b_shows_units_1))
def t_shows_units_8 : Gm → Out := (hRetC (g2 dEq (gVar 2) (gPu (gRepF (gCons (gC (.int 0)) gNil) (gB dLen (gCons (gVar 0) gNil))))))
def h_shows_units : Gm → Out := (hSeq t_shows_units_1 (hSeq t_shows_units_2 (hSeq t_shows_units_3 (hSeq t_shows_units_4 (hFrz 2 t_shows_units_8)))))
def F_shows_units : List SV → Rs D := runX 7 h_shows_units
set_option maxHeartbeats 4000000 in
theorem w_shows_units {P : Program} {w : World} {K : PySem.W.Frag} {mg : Str → Option Value} {base : Heap} {f : Addr} {fd : FuncData} (m_enumerate : mg ("enumerate" : Str) = none) (m_isinstance : mg ("isinstance" : Str) = none) (m_len : mg ("len" : Str) = none) (m_tuple : mg ("tuple" : Str) = none) (d_check_long_jobs : Def P w K mg base (L2.CX P w) 5 ("check_long_jobs" : Str) ["jobs"] F_check_long_jobs) (d_is_integer : Def P w K mg base CX0 2 ("is_integer" : Str) ["value", "low", "high"] F_is_integer) (F : FunD K ("shows_units" : Str) ("shows_units" : Str) (defArgs s_shows_units) (defBody s_shows_units) (defScope s_shows_units) [] [] f fd) : FnOk P w K mg base (L2.CX P w) 6 f fd ["jobs", "value"] (spF K mg 2 F_shows_units) :=
  fokX (k := 5) F sc_shows_units fun cdv A outer s H E hr tk pw => (mss_cons (ms_expr (mp_def d_check_long_jobs hr (by decide) rfl (passAt tk) (ma_cons (mp_tvar (pv 0)) ma_nil))) (mss_cons (ms_if (mt_of_w (mw_or (mt_not (mt_val (mp_isi (T := ("tuple" : Str)) (Ts := "tuple") rfl m_isinstance rfl m_tuple (by decide +kernel) (mp_tvar (pv 1))))) (mw_or (mt_b (mp_eq hr.units (mp_len rfl m_len (mp_tvar (pv 1))) mp_int)) (mw_or1 (mt_b (mp_isN (mp_ix (mp_tvar (pv 1)) (mp_neg mp_int)))))))) (mss_one (ms_retC mp_bl)) mss_nil) (mss_cons (ms_lc (i := 2) (own := [(("_" : Str), 3), (("length" : Str), 4)]) rfl sc_shows_units.nd rfl rfl (sw_true rfl rfl rfl (by decide +kernel)) (mi_seq (mp_tvar (pv 0))) (blkOk_by (by first | (show blkC N_shows_units (defScope s_shows_units) _ _ = true; decide +kernel) | kernel_rfl)) (fun _ _ _ _ _ => (mg_tup rfl (mgs_cons (mg_name (i := 3) sc_shows_units.nd rfl (by first | exact .inl rfl | exact .inr rfl)) (mgs_cons (mg_name (i := 4) sc_shows_units.nd rfl (by first | exact .inl rfl | exact .inr rfl)) (mgs_cons (mg_name (i := 3) sc_shows_units.nd rfl (by first | exact .inl rfl | exact .inr rfl)) mgs_nil))))) (fun _ _ _ _ _ => mts_nil) (fun _ _ _ _ _ => (mp_tvar (pv 4))) (by decide)) (mss_cons (ms_fgt [1, 5, 6] (ms_for pw rfl (mi_enum rfl m_enumerate (mp_tvar (pv 1))) (mg_tup rfl (mgs_cons (mg_name (i := 5) sc_shows_units.nd rfl (.inl rfl)) (mgs_cons (mg_name (i := 6) sc_shows_units.nd rfl (.inl rfl)) mgs_nil))) (mss_fgt [5, 6] (mss_cons (ms_if (mt_b (mp_isN (mp_tvar (pv 6)))) (mss_one ms_continue) mss_nil) (mss_cons (ms_fgt [5] (ms_if (mt_of_w (mw_or (mt_not (mt_val (mp_def d_is_integer hr (by decide) rfl at0 (ma_cons (mp_tvar (pv 6)) (ma_cons mp_int (ma_cons (mp_sub (mp_len rfl m_len (mp_tvar (pv 0))) mp_int) ma_nil)))))) (mw_or1 (mt_not (mt_val (mp_def d_is_integer hr (by decide) rfl at0 (ma_cons (mp_tvar (pv 5)) (ma_cons (mp_ix (mp_ix (mp_tvar (pv 0)) (mp_tvar (pv 6))) mp_int) (ma_cons (mp_sub (mp_ix (mp_ix (mp_tvar (pv 0)) (mp_tvar (pv 6))) mp_int) mp_int) ma_nil))))))))) (mss_one (ms_retC mp_bl)) mss_nil)) (mss_one (ms_fgt [6] (ms_augS (pv 2) (mp_tvar (pv 6)) mp_int ip_sub)))))))) (mss_frz 2 (mss_one (ms_retC (mp_b (mp_eq hr.units (mp_tvar (pv 2)) (mp_of_f (mf_rep (mf_lst (md_cons mp_int md_nil)) (mp_len rfl m_len (mp_tvar (pv 0))))))))))))))
/-! _law_told -/
abbrev s__law_told : Stmt := topS 41
abbrev N__law_told : List Str := ["work", "e", "some"]
theorem sc__law_told : FnScope ["work", "e", "some"] ["work"] (defScope s__law_told) := ⟨rfl, rfl, rfl, by decide +kernel, rfl, by decide +kernel, by decide +kernel⟩
def cls : List Str := ["BadJobs", "BadLinks"]
def fds : List Str := ["index"]
def t__law_told_1 (a : Addr) (d : Option Addr) (n : Str) : Gm → Out := (hSet 2 (gPu (gCons (g1 (dIsE a d (decide (n = ("BadJobs" : Str)))) (gVar 1)) (gCons (g1 (dIsE a d (decide (n = ("BadLinks" : Str)))) (gVar 1)) gNil))))
def t__law_told_2 (a : Addr) (d : Option Addr) (n : Str) : Gm → Out := (hRetC (gIf (gTst (g2 dEq (g1 dCntT (gVar 2)) (gC (.int 1)))) (gTup (gCons (g2 dIx (gPu (gCons (gC (.str ("jobs" : Str))) (gCons (gC (.str ("links" : Str))) gNil))) (g1 dIdxT (gVar 2))) (gCons (g1 (dXf a d ("index" : Str)) (gVar 1)) gNil))) (gC (.str ("other" : Str)))))
def hh__law_told (a : Addr) (d : Option Addr) (n : Str) : Gm → Out := (hSeq (t__law_told_1 a d n) (t__law_told_2 a d n))
def frm__law_told : D → D := fun _ => .non
def hand__law_told : Str → List (Str × D) → Option D := handOf cls 3 1 hh__law_told
theorem par__law_told : Par cls 3 1 hh__law_told := by
  intro a d n fo hn
  simp only [cls, List.mem_cons, List.mem_nil_iff, or_false] at hn
  unfold hStart
  have so0 : PySem.PyData.strOk ("jobs" : Str) = true := by decide +kernel
  have so1 : PySem.PyData.strOk ("links" : Str) = true := by decide +kernel
  have so2 : PySem.PyData.strOk ("other" : Str) = true := by decide +kernel
  rcases hn with rfl | rfl <;> rcases fo with _ | ⟨f, _ | i⟩ <;> simp (decide := true) [hh__law_told, t__law_told_1, t__law_told_2, sz_lt, sz_le, d_addS, dCntT, blsD, dIdxT, d_eqS, dInX, dInD, eqOk, gds, gdss, dep, deps, eqD, List.idxOf, List.findIdx, List.findIdx.go, atI, ixN, so0, so1, so2] <;> (try split) <;> (try simp [oD, dEq, eqOk, gds, dep, eqD]) <;> (try split) <;> (try simp [oD, dEq, eqOk, gds, dep, eqD]) <;> (try split) <;> (try simp)
set_option maxHeartbeats 4000000 in
theorem w__law_told {P : Program} {w : World} {K : PySem.W.Frag} {mg : Str → Option Value} {base : Heap} {f : Addr} {fd : FuncData} (m_isinstance : mg ("isinstance" : Str) = none) (F : ClsF K mg ("EventError" : Str) cls fds) (hm : mg ("_law_told" : Str) = some (.ref f)) (FD : FunD K ("_law_told" : Str) ("_law_told" : Str) (defArgs s__law_told) (defBody s__law_told) (defScope s__law_told) [] [] f fd) : Told P w K mg base ("_law_told" : Str) frm__law_told hand__law_told :=
  ⟨f, _, _, _, fd, N__law_told, "work", FD, hm, sc__law_told, rfl, .inl rfl, by decide, by decide, (fun _ _ _ _ _ _ us hl => match us, hl with | [_], _ => rfl), fun cdg => gives_drop (i := 1) rfl F (fun g cdg A outer s H a oe C d pn n hz hf hmn hn hr => (mss_cons (ms_set (i := 2) sc__law_told.nd rfl (.inl rfl) (mp_of_f (mf_lst (md_cons (mp_isF F hn hmn hz hf rfl m_isinstance (by decide) rfl (mp_tvar (pv 1))) (md_cons (mp_isF F hn hmn hz hf rfl m_isinstance (by decide) rfl (mp_tvar (pv 1))) md_nil))))) (mss_one (ms_retC (mp_if (mt_b (mp_eq hr.units (mp_cntT (mp_tvar (pv 2))) mp_int)) (mp_tup (md_cons (mp_ix (mp_of_f (mf_lst (md_cons mp_str (md_cons mp_str md_nil)))) (mp_idxT (mp_tvar (pv 2)))) (md_cons (mp_xfF F hn hmn hz hf (by decide) (mp_tvar (pv 1))) md_nil))) mp_str))))) par__law_told (by decide) rfl rfl rfl⟩
/-! least_full_window -/
abbrev s_least_full_window : Stmt := topS 24
abbrev N_least_full_window : List Str := ["jobs", "first", "arrival", "_", "last", "due", "work", "length"]
theorem sc_least_full_window : FnScope ["jobs", "first", "arrival", "_", "last", "due", "work", "length"] ["jobs"] (defScope s_least_full_window) := ⟨rfl, rfl, rfl, by decide +kernel, rfl, by decide +kernel, by decide +kernel⟩
def ck_least_full_window_1 : Kt := (kTup 3 (kCons (kSet 2) (kCons (kSet 3) (kCons (kSet 3) kNil))))
def ce_least_full_window_1 : Gm → Rs D := (gVar 2)
def ck_least_full_window_2 : Kt := (kTup 3 (kCons (kSet 3) (kCons (kSet 3) (kCons (kSet 5) kNil))))
def ce_least_full_window_2 : Gm → Rs D := (gVar 5)
def ck_least_full_window_3 : Kt := (kTup 3 (kCons (kSet 2) (kCons (kSet 7) (kCons (kSet 5) kNil))))
def ce_least_full_window_3 : Gm → Rs D := (gVar 7)
def ct_least_full_window_3 : Gm → Rs Bool := (tgAnd (gTst (g2 dGe (gVar 2) (gVar 1))) (gTst (g2 dLe (gVar 5) (gVar 4))))
def k_least_full_window_2 : Kt := (kSet 4)
def b_least_full_window_2 : Gm → Out := (hFgt [4, 6] (hSeq (hSet 6 (gB dSumX (gCons (gPu (gLc (gItems (gVar 0)) ck_least_full_window_3 ct_least_full_window_3 ce_least_full_window_3 [2, 7, 5])) gNil))) (hFgt [4, 6] (hIf (gTst (g2 dGt (gVar 6) (gB dMax2 (gCons (gC (.int 0)) (gCons (g2 dSub (gVar 4) (gVar 1)) gNil))))) (hRetC (gTup (gCons (gVar 1) (gCons (gVar 4) gNil)))) hNx))))
def k_least_full_window_1 : Kt := (kSet 1)
def b_least_full_window_1 : Gm → Out := (hFgt [1, 4, 6] (hFgt [1, 4, 6] (hFor (gItems (gPu (gBF dSortX (gCons (gPu (gLc (gItems (gVar 0)) ck_least_full_window_2 gYes ce_least_full_window_2 [3, 5])) gNil)))) k_least_full_window_2 b_least_full_window_2)))
def h_least_full_window : Gm → Out := (hSeq (hFgt [0, 1, 4, 6] (hFor (gItems (gPu (gBF dSortX (gCons (gPu (gLc (gItems (gVar 0)) ck_least_full_window_1 gYes ce_least_full_window_1 [2, 3])) gNil)))) k_least_full_window_1 b_least_full_window_1)) (hRetC (gC .non)))
def F_least_full_window : List SV → Rs D := runN 8 h_least_full_window
set_option maxHeartbeats 4000000 in
theorem w_least_full_window {P : Program} {w : World} {K : PySem.W.Frag} {mg : Str → Option Value} {base : Heap} {f : Addr} {fd : FuncData} (m_max : mg ("max" : Str) = none) (m_sorted : mg ("sorted" : Str) = none) (m_sum : mg ("sum" : Str) = none) (F : FunD K ("least_full_window" : Str) ("least_full_window" : Str) (defArgs s_least_full_window) (defBody s_least_full_window) (defScope s_least_full_window) [] [] f fd) : FnOk P w K mg base CX0 1 f fd ["jobs"] (spF K mg 1 F_least_full_window) :=
  fok (k := 0) F sc_least_full_window fun cdv A outer s H E hr => (mss_cons (ms_fgt [0, 1, 4, 6] (ms_for PassesOwn.never rfl (mi_seq (mp_of_f (mf_sortX hr.units66 rfl m_sorted (mp_of_f (mf_lc (own := [(("arrival" : Str), 2), (("_" : Str), 3)]) rfl sc_least_full_window.nd (mi_seq (mp_tvar (pv 0))) (blkOk_by (by first | (show blkC N_least_full_window (defScope s_least_full_window) _ _ = true; decide +kernel) | kernel_rfl)) (fun _ _ _ _ _ => (mg_tup rfl (mgs_cons (mg_name (i := 2) sc_least_full_window.nd rfl (by first | exact .inl rfl | exact .inr rfl)) (mgs_cons (mg_name (i := 3) sc_least_full_window.nd rfl (by first | exact .inl rfl | exact .inr rfl)) (mgs_cons (mg_name (i := 3) sc_least_full_window.nd rfl (by first | exact .inl rfl | exact .inr rfl)) mgs_nil))))) (fun _ _ _ _ _ => mts_nil) (fun _ _ _ _ _ => (mp_tvar (pv 2))) (by decide)))))) (mg_name (i := 1) sc_least_full_window.nd rfl (.inr rfl)) (mss_fgt [1, 4, 6] (mss_one (ms_fgt [1, 4, 6] (ms_for PassesOwn.never rfl (mi_seq (mp_of_f (mf_sortX hr.units66 rfl m_sorted (mp_of_f (mf_lc (own := [(("_" : Str), 3), (("due" : Str), 5)]) rfl sc_least_full_window.nd (mi_seq (mp_tvar (pv 0))) (blkOk_by (by first | (show blkC N_least_full_window (defScope s_least_full_window) _ _ = true; decide +kernel) | kernel_rfl)) (fun _ _ _ _ _ => (mg_tup rfl (mgs_cons (mg_name (i := 3) sc_least_full_window.nd rfl (by first | exact .inl rfl | exact .inr rfl)) (mgs_cons (mg_name (i := 3) sc_least_full_window.nd rfl (by first | exact .inl rfl | exact .inr rfl)) (mgs_cons (mg_name (i := 5) sc_least_full_window.nd rfl (by first | exact .inl rfl | exact .inr rfl)) mgs_nil))))) (fun _ _ _ _ _ => mts_nil) (fun _ _ _ _ _ => (mp_tvar (pv 5))) (by decide)))))) (mg_name (i := 4) sc_least_full_window.nd rfl (.inr rfl)) (mss_fgt [4, 6] (mss_cons (ms_set (i := 6) sc_least_full_window.nd rfl (.inl rfl) (mp_sumX rfl rfl m_sum (mp_of_f (mf_lc (own := [(("arrival" : Str), 2), (("length" : Str), 7), (("due" : Str), 5)]) rfl sc_least_full_window.nd (mi_seq (mp_tvar (pv 0))) (blkOk_by (by first | (show blkC N_least_full_window (defScope s_least_full_window) _ _ = true; decide +kernel) | kernel_rfl)) (fun _ _ _ _ _ => (mg_tup rfl (mgs_cons (mg_name (i := 2) sc_least_full_window.nd rfl (by first | exact .inl rfl | exact .inr rfl)) (mgs_cons (mg_name (i := 7) sc_least_full_window.nd rfl (by first | exact .inl rfl | exact .inr rfl)) (mgs_cons (mg_name (i := 5) sc_least_full_window.nd rfl (by first | exact .inl rfl | exact .inr rfl)) mgs_nil))))) (fun _ _ _ _ _ => (mts_one (mt_of_w (mw_and (mt_b (mp_ge (mp_tvar (pv 2)) (mp_tvar (pv 1)))) (mw_and1 (mt_b (mp_le (mp_tvar (pv 5)) (mp_tvar (pv 4))))))))) (fun _ _ _ _ _ => (mp_tvar (pv 7))) (by decide))))) (mss_one (ms_fgt [4, 6] (ms_if (mt_b (mp_gt (mp_tvar (pv 6)) (mp_max2 rfl rfl m_max mp_int (mp_sub (mp_tvar (pv 4)) (mp_tvar (pv 1)))))) (mss_one (ms_retC (mp_tup (md_cons (mp_tvar (pv 1)) (md_cons (mp_tvar (pv 4)) md_nil))))) mss_nil))))))))))) (mss_one (ms_retC mp_non)))
/-! full_window -/
abbrev s_full_window : Stmt := topS 27
abbrev N_full_window : List Str := ["jobs"]
theorem sc_full_window : FnScope ["jobs"] ["jobs"] (defScope s_full_window) := ⟨rfl, rfl, rfl, by decide +kernel, rfl, by decide +kernel, by decide +kernel⟩
def h_full_window : Gm → Out := (hSeq (hDrop (gCall F_check_long_jobs (aCons (gVar 0) aNil))) (hRetC (gCall F_least_full_window (aCons (gVar 0) aNil))))
def F_full_window : List SV → Rs D := runX 1 h_full_window
set_option maxHeartbeats 4000000 in
theorem w_full_window {P : Program} {w : World} {K : PySem.W.Frag} {mg : Str → Option Value} {base : Heap} {f : Addr} {fd : FuncData} (d_check_long_jobs : Def P w K mg base (L2.CX P w) 5 ("check_long_jobs" : Str) ["jobs"] F_check_long_jobs) (d_least_full_window : Def P w K mg base CX0 1 ("least_full_window" : Str) ["jobs"] F_least_full_window) (F : FunD K ("full_window" : Str) ("full_window" : Str) (defArgs s_full_window) (defBody s_full_window) (defScope s_full_window) [] [] f fd) : FnOk P w K mg base (L2.CX P w) 6 f fd ["jobs"] (spF K mg 1 F_full_window) :=
  fokX (k := 5) F sc_full_window fun cdv A outer s H E hr tk pw => (mss_cons (ms_expr (mp_def d_check_long_jobs hr (by decide) rfl (passAt tk) (ma_cons (mp_tvar (pv 0)) ma_nil))) (mss_one (ms_retC (mp_def d_least_full_window hr (by decide) rfl at0 (ma_cons (mp_tvar (pv 0)) ma_nil)))))
/-! greatest_lateness -/
abbrev s_greatest_lateness : Stmt := topS 22
abbrev N_greatest_lateness : List Str := ["jobs", "units", "ends", "unit", "job", "_", "due"]
theorem sc_greatest_lateness : FnScope ["jobs", "units", "ends", "unit", "job", "_", "due"] ["jobs", "units"] (defScope s_greatest_lateness) := ⟨rfl, rfl, rfl, by decide +kernel, rfl, by decide +kernel, by decide +kernel⟩
def n_greatest_lateness_1 : DX := (xFor (gEnum (gVar 1)) (kTup 2 (kCons (kSet 3) (kCons (kSet 4) kNil))) (xSeq (xPut (gVar 4) (g2 dAdd (gVar 3) (gC (.int 1)))) xNilD))
def ck_greatest_lateness_1 : Kt := (kTup 2 (kCons (kSet 4) (kCons (kTup 3 (kCons (kSet 5) (kCons (kSet 5) (kCons (kSet 6) kNil)))) kNil)))
def ce_greatest_lateness_1 : Gm → Rs D := (g2 dSub (g2 dGet (gVar 2) (gVar 4)) (gVar 6))
def t_greatest_lateness_1 : Gm → Out := (hRetC (gB (dBest maxDD) (gCons (gPu (gLc (gEnum (gVar 0)) ck_greatest_lateness_1 gYes ce_greatest_lateness_1 [4, 5, 6])) gNil)))
def h_greatest_lateness : Gm → Out := (hDct 2 n_greatest_lateness_1 t_greatest_lateness_1)
def F_greatest_lateness : List SV → Rs D := runN 7 h_greatest_lateness
set_option maxHeartbeats 4000000 in
theorem w_greatest_lateness {P : Program} {w : World} {K : PySem.W.Frag} {mg : Str → Option Value} {base : Heap} {f : Addr} {fd : FuncData} (m_enumerate : mg ("enumerate" : Str) = none) (m_max : mg ("max" : Str) = none) (F : FunD K ("greatest_lateness" : Str) ("greatest_lateness" : Str) (defArgs s_greatest_lateness) (defBody s_greatest_lateness) (defScope s_greatest_lateness) [] [] f fd) : FnOk P w K mg base CX0 1 f fd ["jobs", "units"] (spF K mg 2 F_greatest_lateness) :=
  fok (k := 0) F sc_greatest_lateness fun cdv A outer s H E hr => (mss_dctX (i := 2) sc_greatest_lateness.nd rfl (.inr rfl) (de_for PassesOwn.never rfl (mi_enum rfl m_enumerate (mp_tvar (pv 1))) (by repeat (first | exact par_var (by decide) | exact par_c | exact par_nil | exact parL_nil | exact parK_set (by decide) | refine par_g1 ?_ | refine par_g2 ?_ ?_ | refine par_tst ?_ | refine par_gB ?_ | refine par_cons ?_ ?_ | refine par_ixO (by decide) ?_ | refine par_enum ?_ | refine par_rng ?_ | refine parS_augS (by decide) ?_ ?_ | refine parK_tup ?_ | refine parL_cons ?_ ?_)) (mg_tup rfl (mgs_cons (mg_name (i := 3) sc_greatest_lateness.nd rfl (.inl rfl)) (mgs_cons (mg_name (i := 4) sc_greatest_lateness.nd rfl (.inl rfl)) mgs_nil))) (by repeat (first | exact par_var (by decide) | exact par_c | exact par_nil | exact parL_nil | exact parK_set (by decide) | refine par_g1 ?_ | refine par_g2 ?_ ?_ | refine par_tst ?_ | refine par_gB ?_ | refine par_cons ?_ ?_ | refine par_ixO (by decide) ?_ | refine par_enum ?_ | refine par_rng ?_ | refine parS_augS (by decide) ?_ ?_ | refine parK_tup ?_ | refine parL_cons ?_ ?_)) (des_cons (de_put (pv 2) (mp_tvar (pv 4)) (by repeat (first | exact par_var (by decide) | exact par_c | exact par_nil | exact parL_nil | exact parK_set (by decide) | refine par_g1 ?_ | refine par_g2 ?_ ?_ | refine par_tst ?_ | refine par_gB ?_ | refine par_cons ?_ ?_ | refine par_ixO (by decide) ?_ | refine par_enum ?_ | refine par_rng ?_ | refine parS_augS (by decide) ?_ ?_ | refine parK_tup ?_ | refine parL_cons ?_ ?_)) (mp_add (mp_tvar (pv 3)) mp_int) (by repeat (first | exact par_var (by decide) | exact par_c | exact par_nil | exact parL_nil | exact parK_set (by decide) | refine par_g1 ?_ | refine par_g2 ?_ ?_ | refine par_tst ?_ | refine par_gB ?_ | refine par_cons ?_ ?_ | refine par_ixO (by decide) ?_ | refine par_enum ?_ | refine par_rng ?_ | refine parS_augS (by decide) ?_ ?_ | refine parK_tup ?_ | refine parL_cons ?_ ?_))) des_nil)) (mss_one (ms_retC (mp_maxG rfl hr.units66 rfl m_max (mp_of_f (mf_lc (own := [(("job" : Str), 4), (("_" : Str), 5), (("due" : Str), 6)]) rfl sc_greatest_lateness.nd (mi_enum rfl m_enumerate (mp_tvar (pv 0))) (blkOk_by (by first | (show blkC N_greatest_lateness (defScope s_greatest_lateness) _ _ = true; decide +kernel) | kernel_rfl)) (fun _ _ _ _ _ => (mg_tup rfl (mgs_cons (mg_name (i := 4) sc_greatest_lateness.nd rfl (by first | exact .inl rfl | exact .inr rfl)) (mgs_cons (mg_tup rfl (mgs_cons (mg_name (i := 5) sc_greatest_lateness.nd rfl (by first | exact .inl rfl | exact .inr rfl)) (mgs_cons (mg_name (i := 5) sc_greatest_lateness.nd rfl (by first | exact .inl rfl | exact .inr rfl)) (mgs_cons (mg_name (i := 6) sc_greatest_lateness.nd rfl (by first | exact .inl rfl | exact .inr rfl)) mgs_nil)))) mgs_nil)))) (fun _ _ _ _ _ => mts_nil) (fun _ _ _ _ _ => (mp_sub (mp_getD (mp_tvar (pv 2)) (mp_tvar (pv 4))) (mp_tvar (pv 6)))) (by decide)))))))
/-! earliest_due_units -/
abbrev s_earliest_due_units : Stmt := topS 21
abbrev N_earliest_due_units : List Str := ["jobs", "left", "_", "length", "units", "ready", "job", "arrival", "one"]
theorem sc_earliest_due_units : FnScope ["jobs", "left", "_", "length", "units", "ready", "job", "arrival", "one"] ["jobs"] (defScope s_earliest_due_units) := ⟨rfl, rfl, rfl, by decide +kernel, rfl, by decide +kernel, by decide +kernel⟩
def ck_earliest_due_units_1 : Kt := (kTup 3 (kCons (kSet 2) (kCons (kSet 3) (kCons (kSet 2) kNil))))
def ce_earliest_due_units_1 : Gm → Rs D := (gVar 3)
def t_earliest_due_units_1 : Gm → Out := (hSetF 1 (gLc (gItems (gVar 0)) ck_earliest_due_units_1 gYes ce_earliest_due_units_1 [2, 3]))
def t_earliest_due_units_2 : Gm → Out := (hSetF 4 gNil)
def ck_earliest_due_units_2 : Kt := (kTup 2 (kCons (kSet 6) (kCons (kTup 3 (kCons (kSet 7) (kCons (kSet 2) (kCons (kSet 2) kNil)))) kNil)))
def ce_earliest_due_units_2 : Gm → Rs D := (gVar 6)
def ct_earliest_due_units_2 : Gm → Rs Bool := (tgAnd (gTst (g2 dLe (gVar 7) (gLenO 4))) (gTst (g2 dGt (gIxO 1 (gVar 6)) (gC (.int 0)))))
def t_earliest_due_units_4 : Gm → Out := (hSetF 5 (gLc (gEnum (gVar 0)) ck_earliest_due_units_2 ct_earliest_due_units_2 ce_earliest_due_units_2 [6, 7, 2]))
def kf_earliest_due_units_1 : Gm → Rs D := (g2 dIx (g2 dIx (gVar 0) (gVar 8)) (gC (.int 2)))
def t_earliest_due_units_5 : Gm → Out := (hFgt [5] (hSet 6 (gKeyC false 8 (gVar 5) kf_earliest_due_units_1 (some .non))))
def t_earliest_due_units_6 : Gm → Out := (hDrop (gApp 4 (gVar 6)))
def t_earliest_due_units_7 : Gm → Out := (hFgt [6] (hIf (gTst (g1 dNotN (gVar 6))) (hFgt [6] (hAugS 1 (fun m n => m - n) (gVar 6) (gC (.int 1)))) hNx))
def w_earliest_due_units_1 : Gm → Rs Bool := (gTst (g2 dGt (gSeeI 1 (gB (dBest maxDD) (gCons (gVar 1) gNil))) (gC (.int 0))))
def b_earliest_due_units_1 : Gm → Out := (hFgt [5, 6] (hSeq t_earliest_due_units_4 (hFrz 5 (hSeq t_earliest_due_units_5 (hSeq t_earliest_due_units_6 t_earliest_due_units_7)))))
def t_earliest_due_units_3 : Gm → Out := (hFgt [0, 1, 5, 6] (hWh w_earliest_due_units_1 b_earliest_due_units_1))
def t_earliest_due_units_8 : Gm → Out := (hRetC (gB dTupOf (gCons (gVar 4) gNil)))
def h_earliest_due_units : Gm → Out := (hSeq t_earliest_due_units_1 (hSeq t_earliest_due_units_2 (hSeq t_earliest_due_units_3 (hFrz 4 t_earliest_due_units_8))))
def F_earliest_due_units : List SV → Rs D := runN 9 h_earliest_due_units
set_option maxHeartbeats 4000000 in
theorem w_earliest_due_units {P : Program} {w : World} {K : PySem.W.Frag} {mg : Str → Option Value} {base : Heap} {fd : FuncData} (m_enumerate : mg ("enumerate" : Str) = none) (m_len : mg ("len" : Str) = none) (m_max : mg ("max" : Str) = none) (m_min : mg ("min" : Str) = none) (m_tuple : mg ("tuple" : Str) = none) (l_earliest_due_units : LamD K mg base ("earliest_due_units" : Str)) (F : FunD K ("earliest_due_units" : Str) ("earliest_due_units" : Str) (defArgs s_earliest_due_units) (defBody s_earliest_due_units) (defScope s_earliest_due_units) [] [] (He.fAd K ("earliest_due_units", none)) fd) : FnOk P w K mg base CX0 3 (He.fAd K ("earliest_due_units", none)) fd ["jobs"] (spF K mg 1 F_earliest_due_units) :=
  fokL (k := 2) F l_earliest_due_units sc_earliest_due_units fun cdv A outer s H E hr hL => (mss_cons (ms_setF (i := 1) sc_earliest_due_units.nd rfl (.inr rfl) (mf_lc (own := [(("_" : Str), 2), (("length" : Str), 3)]) rfl sc_earliest_due_units.nd (mi_seq (mp_tvar (pv 0))) (blkOk_by (by first | (show blkC N_earliest_due_units (defScope s_earliest_due_units) _ _ = true; decide +kernel) | kernel_rfl)) (fun _ _ _ _ _ => (mg_tup rfl (mgs_cons (mg_name (i := 2) sc_earliest_due_units.nd rfl (by first | exact .inl rfl | exact .inr rfl)) (mgs_cons (mg_name (i := 3) sc_earliest_due_units.nd rfl (by first | exact .inl rfl | exact .inr rfl)) (mgs_cons (mg_name (i := 2) sc_earliest_due_units.nd rfl (by first | exact .inl rfl | exact .inr rfl)) mgs_nil))))) (fun _ _ _ _ _ => mts_nil) (fun _ _ _ _ _ => (mp_tvar (pv 3))) (by decide))) (mss_cons (ms_setF (i := 4) sc_earliest_due_units.nd rfl (.inr rfl) (mf_lst md_nil)) (mss_cons (ms_fgt [0, 1, 5, 6] (ms_while 1000000 PassesOwn.never (mt_b (mp_gt (mp_seeI 1 (mp_maxG rfl hr.units66 rfl m_max (mp_tvar (pv 1)))) mp_int)) (mss_fgt [5, 6] (mss_cons (ms_lc (i := 5) (own := [(("job" : Str), 6), (("arrival" : Str), 7), (("_" : Str), 2)]) rfl sc_earliest_due_units.nd rfl rfl (sw_true rfl rfl rfl (by decide +kernel)) (mi_enum rfl m_enumerate (mp_tvar (pv 0))) (blkOk_by (by first | (show blkC N_earliest_due_units (defScope s_earliest_due_units) _ _ = true; decide +kernel) | kernel_rfl)) (fun _ _ _ _ _ => (mg_tup rfl (mgs_cons (mg_name (i := 6) sc_earliest_due_units.nd rfl (by first | exact .inl rfl | exact .inr rfl)) (mgs_cons (mg_tup rfl (mgs_cons (mg_name (i := 7) sc_earliest_due_units.nd rfl (by first | exact .inl rfl | exact .inr rfl)) (mgs_cons (mg_name (i := 2) sc_earliest_due_units.nd rfl (by first | exact .inl rfl | exact .inr rfl)) (mgs_cons (mg_name (i := 2) sc_earliest_due_units.nd rfl (by first | exact .inl rfl | exact .inr rfl)) mgs_nil)))) mgs_nil)))) (fun _ _ _ _ _ => (mts_one (mt_of_w (mw_and (mt_b (mp_le (mp_tvar (pv 7)) (mp_lenO rfl m_len (pv 4)))) (mw_and1 (mt_b (mp_gt (mp_ixO (pv 1) (mp_tvar (pv 6))) mp_int))))))) (fun _ _ _ _ _ => (mp_tvar (pv 6))) (by decide)) (mss_frz 5 (mss_cons (ms_fgt [5] (ms_set (i := 6) sc_earliest_due_units.nd rfl (.inl rfl) (mp_keyC (by unfold kf_earliest_due_units_1; repeat (first | apply pu_var | apply pu_c | apply pua_nil | apply pu_g2 | apply pu_g1 | apply pu_index | apply pu_call | apply pua_cons)) (mp_minKN (k := 0) (i := 8) (hr.mono (by decide)) hL rfl m_min sc_earliest_due_units.nd rfl (mp_tvar (pv 5)) (lamP_by (by first | (show lamPB (defScope s_earliest_due_units) _ _ = true; decide +kernel) | kernel_rfl)) (fun f0 cf A s H hr => (mp_ix (mp_ix (mp_tvar (pv 0)) (mp_tvar (pv 8))) mp_int)))))) (mss_cons (ms_expr (mp_app (pv 4) (mp_tvar (pv 6)))) (mss_one (ms_fgt [6] (ms_if (mt_b (mp_notN (mp_tvar (pv 6)))) (mss_one (ms_fgt [6] (ms_augS (pv 1) (mp_tvar (pv 6)) mp_int ip_sub))) mss_nil)))))))))) (mss_frz 4 (mss_one (ms_retC (mp_tupleOf rfl m_tuple (mp_tvar (pv 4)))))))))
/-! least_lateness -/
abbrev s_least_lateness : Stmt := topS 28
abbrev N_least_lateness : List Str := ["jobs"]
theorem sc_least_lateness : FnScope ["jobs"] ["jobs"] (defScope s_least_lateness) := ⟨rfl, rfl, rfl, by decide +kernel, rfl, by decide +kernel, by decide +kernel⟩
def h_least_lateness : Gm → Out := (hSeq (hDrop (gCall F_check_long_jobs (aCons (gVar 0) aNil))) (hRetC (gCall F_greatest_lateness (aCons (gVar 0) (aCons (gCall F_earliest_due_units (aCons (gVar 0) aNil)) aNil)))))
def F_least_lateness : List SV → Rs D := runX 1 h_least_lateness
set_option maxHeartbeats 4000000 in
theorem w_least_lateness {P : Program} {w : World} {K : PySem.W.Frag} {mg : Str → Option Value} {base : Heap} {f : Addr} {fd : FuncData} (d_check_long_jobs : Def P w K mg base (L2.CX P w) 5 ("check_long_jobs" : Str) ["jobs"] F_check_long_jobs) (d_greatest_lateness : Def P w K mg base CX0 1 ("greatest_lateness" : Str) ["jobs", "units"] F_greatest_lateness) (d_earliest_due_units : Def P w K mg base CX0 3 ("earliest_due_units" : Str) ["jobs"] F_earliest_due_units) (F : FunD K ("least_lateness" : Str) ("least_lateness" : Str) (defArgs s_least_lateness) (defBody s_least_lateness) (defScope s_least_lateness) [] [] f fd) : FnOk P w K mg base (L2.CX P w) 6 f fd ["jobs"] (spF K mg 1 F_least_lateness) :=
  fokX (k := 5) F sc_least_lateness fun cdv A outer s H E hr tk pw => (mss_cons (ms_expr (mp_def d_check_long_jobs hr (by decide) rfl (passAt tk) (ma_cons (mp_tvar (pv 0)) ma_nil))) (mss_one (ms_retC (mp_def d_greatest_lateness hr (by decide) rfl at0 (ma_cons (mp_tvar (pv 0)) (ma_cons (mp_def d_earliest_due_units hr (by decide) rfl at0 (ma_cons (mp_tvar (pv 0)) ma_nil)) ma_nil))))))
/-! linked_order -/
abbrev s_linked_order : Stmt := topS 18
abbrev N_linked_order : List Str := ["dues", "links", "left", "order", "held", "before", "after", "last", "job", "one"]
theorem sc_linked_order : FnScope ["dues", "links", "left", "order", "held", "before", "after", "last", "job", "one"] ["dues", "links"] (defScope s_linked_order) := ⟨rfl, rfl, rfl, by decide +kernel, rfl, by decide +kernel, by decide +kernel⟩
def t_linked_order_1 : Gm → Out := (hSetF 2 (gRgL1 (gB dLen (gCons (gVar 0) gNil))))
def t_linked_order_2 : Gm → Out := (hSet 3 (gPu gNil))
def ck_linked_order_1 : Kt := (kTup 2 (kCons (kSet 5) (kCons (kSet 6) kNil)))
def ce_linked_order_1 : Gm → Rs D := (gVar 5)
def ct_linked_order_1 : Gm → Rs Bool := (gTst (gSeeI 2 (g2 dInX (gVar 6) (gVar 2))))
def t_linked_order_4 : Gm → Out := (hSet 4 (gPu (gLc (gItems (gVar 1)) ck_linked_order_1 ct_linked_order_1 ce_linked_order_1 [5, 6])))
def ck_linked_order_2 : Kt := (kSet 8)
def ce_linked_order_2 : Gm → Rs D := (gVar 8)
def ct_linked_order_2 : Gm → Rs Bool := (gTst (g2 dNotInX (gVar 8) (gVar 4)))
def kf_linked_order_1 : Gm → Rs D := (g2 dIx (gVar 0) (gVar 9))
def t_linked_order_5 : Gm → Out := (hFgt [4] (hSet 7 (gKeyC true 9 (gPu (fSeeA (gLc (gItems (gVar 2)) ck_linked_order_2 ct_linked_order_2 ce_linked_order_2 [8]))) kf_linked_order_1 (some .non))))
def t_linked_order_6 : Gm → Out := (hIf (gTst (g1 dIsN (gVar 7))) hBk hNx)
def t_linked_order_7 : Gm → Out := (hSet 3 (gPu (gLstS (gCons (gVar 7) (gStar (gVar 3) gNil)))))
def t_linked_order_8 : Gm → Out := (hFgt [7] (hDrop (gRem 2 (gVar 7))))
def w_linked_order_1 : Gm → Rs Bool := (gTruB 2)
def b_linked_order_1 : Gm → Out := (hFgt [4, 7] (hSeq t_linked_order_4 (hSeq t_linked_order_5 (hSeq t_linked_order_6 (hSeq t_linked_order_7 t_linked_order_8)))))
def t_linked_order_3 : Gm → Out := (hFgt [0, 1, 2, 4, 7] (hWh w_linked_order_1 b_linked_order_1))
def t_linked_order_9 : Gm → Out := (hRetC (gB dTupOf (gCons (gVar 3) gNil)))
def h_linked_order : Gm → Out := (hSeq t_linked_order_1 (hSeq t_linked_order_2 (hSeq t_linked_order_3 t_linked_order_9)))
def F_linked_order : List SV → Rs D := runN 10 h_linked_order
set_option maxHeartbeats 4000000 in
theorem w_linked_order {P : Program} {w : World} {K : PySem.W.Frag} {mg : Str → Option Value} {base : Heap} {fd : FuncData} (m_len : mg ("len" : Str) = none) (m_list : mg ("list" : Str) = none) (m_max : mg ("max" : Str) = none) (m_range : mg ("range" : Str) = none) (m_tuple : mg ("tuple" : Str) = none) (l_linked_order : LamD K mg base ("linked_order" : Str)) (F : FunD K ("linked_order" : Str) ("linked_order" : Str) (defArgs s_linked_order) (defBody s_linked_order) (defScope s_linked_order) [] [] (He.fAd K ("linked_order", none)) fd) : FnOk P w K mg base CX0 3 (He.fAd K ("linked_order", none)) fd ["dues", "links"] (spF K mg 2 F_linked_order) :=
  fokL (k := 2) F l_linked_order sc_linked_order fun cdv A outer s H E hr hL => (mss_cons (ms_setF (i := 2) sc_linked_order.nd rfl (.inr rfl) (mf_listRange rfl rfl m_list rfl m_range (mp_len rfl m_len (mp_tvar (pv 0))))) (mss_cons (ms_set (i := 3) sc_linked_order.nd rfl (.inl rfl) (mp_of_f (mf_lst md_nil))) (mss_cons (ms_fgt [0, 1, 2, 4, 7] (ms_while 1000000 PassesOwn.never (mt_truB (mp_tvar (pv 2)) (pv 2)) (mss_fgt [4, 7] (mss_cons (ms_set (i := 4) sc_linked_order.nd rfl (.inr rfl) (mp_of_f (mf_lc (own := [(("before" : Str), 5), (("after" : Str), 6)]) rfl sc_linked_order.nd (mi_seq (mp_tvar (pv 1))) (blkOk_by (by first | (show blkC N_linked_order (defScope s_linked_order) _ _ = true; decide +kernel) | kernel_rfl)) (fun _ _ _ _ _ => (mg_tup rfl (mgs_cons (mg_name (i := 5) sc_linked_order.nd rfl (by first | exact .inl rfl | exact .inr rfl)) (mgs_cons (mg_name (i := 6) sc_linked_order.nd rfl (by first | exact .inl rfl | exact .inr rfl)) mgs_nil)))) (fun _ _ _ _ _ => (mts_one (mt_b (mb_seeI 2 (mp_inX hr.units65 (mp_tvar (pv 6)) (mp_tvar (pv 2))))))) (fun _ _ _ _ _ => (mp_tvar (pv 5))) (by decide)))) (mss_cons (ms_fgt [4] (ms_set (i := 7) sc_linked_order.nd rfl (.inl rfl) (mp_keyC (by unfold kf_linked_order_1; repeat (first | apply pu_var | apply pu_c | apply pua_nil | apply pu_g2 | apply pu_g1 | apply pu_index | apply pu_call | apply pua_cons)) (mp_maxKN (k := 0) (i := 9) (hr.mono (by decide)) hL rfl m_max sc_linked_order.nd rfl (mp_of_f (mf_seeA (mf_lc (own := [(("job" : Str), 8)]) rfl sc_linked_order.nd (mi_seq (mp_tvar (pv 2))) (blkOk_by (by first | (show blkC N_linked_order (defScope s_linked_order) _ _ = true; decide +kernel) | kernel_rfl)) (fun _ _ _ _ _ => (mg_name (i := 8) sc_linked_order.nd rfl (by first | exact .inl rfl | exact .inr rfl))) (fun _ _ _ _ _ => (mts_one (mt_b (mp_notInX hr.units65 (mp_tvar (pv 8)) (mp_tvar (pv 4)))))) (fun _ _ _ _ _ => (mp_tvar (pv 8))) (by decide)))) (lamP_by (by first | (show lamPB (defScope s_linked_order) _ _ = true; decide +kernel) | kernel_rfl)) (fun f0 cf A s H hr => (mp_ix (mp_tvar (pv 0)) (mp_tvar (pv 9)))))))) (mss_cons (ms_if (mt_b (mp_isN (mp_tvar (pv 7)))) (mss_one ms_break) mss_nil) (mss_cons (ms_set (i := 3) sc_linked_order.nd rfl (.inl rfl) (mp_of_f (mf_lstS (mds_cons (mp_tvar (pv 7)) (mds_star (mp_tvar (pv 3)) mds_nil))))) (mss_one (ms_fgt [7] (ms_expr (mp_rem (pv 2) (mp_tvar (pv 7))))))))))))) (mss_one (ms_retC (mp_tupleOf rfl m_tuple (mp_tvar (pv 3))))))))
/-! check_links -/
abbrev s_check_links : Stmt := topS 19
abbrev N_check_links : List Str := ["links", "many", "index", "value"]
theorem sc_check_links : FnScope ["links", "many", "index", "value"] ["links", "many"] (defScope s_check_links) := ⟨rfl, rfl, rfl, by decide +kernel, rfl, by decide +kernel, by decide +kernel⟩
def t_check_links_1 : Gm → Out := (hIf (tgNot (gTst (gCall F_is_tuple (aCons (gVar 0) (aCons (gC (.int 0)) (aCons (gC (.int 12)) aNil)))))) (hRaise ("BadLinks" : Str) ("index" : Str) (gCons (gC .non) gNil)) hNx)
def k_check_links_1 : Kt := (kTup 2 (kCons (kSet 2) (kCons (kSet 3) kNil)))
def b_check_links_1 : Gm → Out := (hFgt [2, 3] (hFgt [2, 3] (hIf (tgOr (tgNot (gTst (gCall F_is_row (aCons (gVar 3) (aCons (gTup (gCons (gTup (gCons (gC (.int 0)) (gCons (g2 dSub (gVar 1) (gC (.int 1))) gNil))) (gCons (gTup (gCons (gC (.int 0)) (gCons (g2 dSub (gVar 1) (gC (.int 1))) gNil))) gNil))) aNil))))) (gTst (g2 dEq (g2 dIx (gVar 3) (gC (.int 0))) (g2 dIx (gVar 3) (gC (.int 1)))))) (hRaise ("BadLinks" : Str) ("index" : Str) (gCons (gVar 2) gNil)) hNx)))
def t_check_links_2 : Gm → Out := (hFgt [2, 3] (hFor (gEnum (gVar 0)) k_check_links_1 b_check_links_1))
def t_check_links_3 : Gm → Out := (hFgt [0, 1] (hIf (gTst (g2 dLt (gB dLen (gCons (gCall F_linked_order (aCons (gPu (gRepF (gCons (gC (.int 0)) gNil) (gVar 1))) (aCons (gVar 0) aNil))) gNil)) (gVar 1))) (hRaise ("BadLinks" : Str) ("index" : Str) (gCons (gC .non) gNil)) hNx))
def h_check_links : Gm → Out := (hSeq t_check_links_1 (hSeq t_check_links_2 t_check_links_3))
def F_check_links : List SV → Rs D := runX 4 h_check_links
set_option maxHeartbeats 4000000 in
theorem w_check_links {P : Program} {w : World} {K : PySem.W.Frag} {mg : Str → Option Value} {base : Heap} {f : Addr} {fd : FuncData} (m_enumerate : mg ("enumerate" : Str) = none) (m_len : mg ("len" : Str) = none) (m_super : mg ("super" : Str) = none) (c_MOST_LINKS : ∃ t, mg ("MOST_LINKS" : Str) = some (.int 12 t)) (d_is_tuple : Def P w K mg base CX0 1 ("is_tuple" : Str) ["value", "least", "most"] F_is_tuple) (d_linked_order : Def P w K mg base CX0 3 ("linked_order" : Str) ["dues", "links"] F_linked_order) (d_is_row : Def P w K mg base CX0 3 ("is_row" : Str) ["value", "ranges"] F_is_row) (t_BadLinks : Su.Txt P K (He.ga K ("BadLinks" : Str)) ("index" : Str)) (g_BadLinks : mg ("BadLinks" : Str) = some (.ref (He.ga K ("BadLinks" : Str)))) (htop : (P.main.scope.names.lookup ("super" : Str)).isSome = false) (F : FunD K ("check_links" : Str) ("check_links" : Str) (defArgs s_check_links) (defBody s_check_links) (defScope s_check_links) [] [] f fd) : FnOk P w K mg base (L2.CX P w) 4 f fd ["links", "many"] (spF K mg 2 F_check_links) :=
  fokX (k := 3) F sc_check_links fun cdv A outer s H E hr tk pw => (mss_cons (ms_if (mt_not (mt_val (mp_def d_is_tuple hr (by decide) rfl at0 (ma_cons (mp_tvar (pv 0)) (ma_cons mp_int (ma_cons (mp_cst rfl c_MOST_LINKS) ma_nil)))))) (mss_one (ms_raiseS rfl tk t_BadLinks Su.nm_index htop m_super hr (by decide) rfl g_BadLinks (md_cons mp_non md_nil))) mss_nil) (mss_cons (ms_fgt [2, 3] (ms_for pw rfl (mi_enum rfl m_enumerate (mp_tvar (pv 0))) (mg_tup rfl (mgs_cons (mg_name (i := 2) sc_check_links.nd rfl (.inl rfl)) (mgs_cons (mg_name (i := 3) sc_check_links.nd rfl (.inl rfl)) mgs_nil))) (mss_fgt [2, 3] (mss_one (ms_fgt [2, 3] (ms_if (mt_of_w (mw_or (mt_not (mt_val (mp_def d_is_row hr (by decide) rfl at0 (ma_cons (mp_tvar (pv 3)) (ma_cons (mp_tup (md_cons (mp_tup (md_cons mp_int (md_cons (mp_sub (mp_tvar (pv 1)) mp_int) md_nil))) (md_cons (mp_tup (md_cons mp_int (md_cons (mp_sub (mp_tvar (pv 1)) mp_int) md_nil))) md_nil))) ma_nil))))) (mw_or1 (mt_b (mp_eq hr.units (mp_ix (mp_tvar (pv 3)) mp_int) (mp_ix (mp_tvar (pv 3)) mp_int)))))) (mss_one (ms_raiseS rfl tk t_BadLinks Su.nm_index htop m_super hr (by decide) rfl g_BadLinks (md_cons (mp_tvar (pv 2)) md_nil))) mss_nil)))))) (mss_one (ms_fgt [0, 1] (ms_if (mt_b (mp_lt (mp_len rfl m_len (mp_def d_linked_order hr (by decide) rfl at0 (ma_cons (mp_of_f (mf_rep (mf_lst (md_cons mp_int md_nil)) (mp_tvar (pv 1)))) (ma_cons (mp_tvar (pv 0)) ma_nil)))) (mp_tvar (pv 1)))) (mss_one (ms_raiseS rfl tk t_BadLinks Su.nm_index htop m_super hr (by decide) rfl g_BadLinks (md_cons mp_non md_nil))) mss_nil)))))
/-! check_linked_jobs -/
abbrev s_check_linked_jobs : Stmt := topS 30
abbrev N_check_linked_jobs : List Str := ["jobs", "links"]
theorem sc_check_linked_jobs : FnScope ["jobs", "links"] ["jobs", "links"] (defScope s_check_linked_jobs) := ⟨rfl, rfl, rfl, by decide +kernel, rfl, by decide +kernel, by decide +kernel⟩
def h_check_linked_jobs : Gm → Out := (hSeq (hDrop (gCall F_check_long_jobs (aCons (gVar 0) aNil))) (hFgt [0, 1] (hDrop (gCall F_check_links (aCons (gVar 1) (aCons (gB dLen (gCons (gVar 0) gNil)) aNil))))))
def F_check_linked_jobs : List SV → Rs D := runX 2 h_check_linked_jobs
set_option maxHeartbeats 4000000 in
theorem w_check_linked_jobs {P : Program} {w : World} {K : PySem.W.Frag} {mg : Str → Option Value} {base : Heap} {f : Addr} {fd : FuncData} (m_len : mg ("len" : Str) = none) (d_check_long_jobs : Def P w K mg base (L2.CX P w) 5 ("check_long_jobs" : Str) ["jobs"] F_check_long_jobs) (d_check_links : Def P w K mg base (L2.CX P w) 4 ("check_links" : Str) ["links", "many"] F_check_links) (F : FunD K ("check_linked_jobs" : Str) ("check_linked_jobs" : Str) (defArgs s_check_linked_jobs) (defBody s_check_linked_jobs) (defScope s_check_linked_jobs) [] [] f fd) : FnOk P w K mg base (L2.CX P w) 6 f fd ["jobs", "links"] (spF K mg 2 F_check_linked_jobs) :=
  fokX (k := 5) F sc_check_linked_jobs fun cdv A outer s H E hr tk pw => (mss_cons (ms_expr (mp_def d_check_long_jobs hr (by decide) rfl (passAt tk) (ma_cons (mp_tvar (pv 0)) ma_nil))) (mss_one (ms_fgt [0, 1] (ms_expr (mp_def d_check_links hr (by decide) rfl (passAt tk) (ma_cons (mp_tvar (pv 1)) (ma_cons (mp_len rfl m_len (mp_tvar (pv 0))) ma_nil)))))))
/-! tightened_jobs -/
abbrev s_tightened_jobs : Stmt := topS 35
abbrev N_tightened_jobs : List Str := ["jobs", "links", "arrivals", "arrival", "_", "dues", "due", "order", "job", "before", "after", "length"]
theorem sc_tightened_jobs : FnScope ["jobs", "links", "arrivals", "arrival", "_", "dues", "due", "order", "job", "before", "after", "length"] ["jobs", "links"] (defScope s_tightened_jobs) := ⟨rfl, rfl, rfl, by decide +kernel, rfl, by decide +kernel, by decide +kernel⟩
def ck_tightened_jobs_1 : Kt := (kTup 3 (kCons (kSet 3) (kCons (kSet 4) (kCons (kSet 4) kNil))))
def ce_tightened_jobs_1 : Gm → Rs D := (gVar 3)
def t_tightened_jobs_1 : Gm → Out := (hSetF 2 (gLc (gItems (gVar 0)) ck_tightened_jobs_1 gYes ce_tightened_jobs_1 [3, 4]))
def ck_tightened_jobs_2 : Kt := (kTup 3 (kCons (kSet 4) (kCons (kSet 4) (kCons (kSet 6) kNil))))
def ce_tightened_jobs_2 : Gm → Rs D := (gVar 6)
def t_tightened_jobs_2 : Gm → Out := (hSetF 5 (gLc (gItems (gVar 0)) ck_tightened_jobs_2 gYes ce_tightened_jobs_2 [4, 6]))
def t_tightened_jobs_3 : Gm → Out := (hSet 7 (gSeeI 5 (gCall F_linked_order (aCons (gVar 5) (aCons (gVar 1) aNil)))))
def k_tightened_jobs_2 : Kt := (kTup 2 (kCons (kSet 9) (kCons (kSet 10) kNil)))
def b_tightened_jobs_2 : Gm → Out := (hFgt [9, 10] (hFgt [9, 10] (hIf (gTst (g2 dEq (gVar 10) (gVar 8))) (hFgt [9] (hPut 2 (gB dMax2 (gCons (gIxO 2 (gVar 8)) (gCons (g2 dAdd (gIxO 2 (gVar 9)) (g2 dIx (g2 dIx (gVar 0) (gVar 9)) (gC (.int 1)))) gNil))) (gVar 8))) hNx)))
def k_tightened_jobs_1 : Kt := (kSet 8)
def b_tightened_jobs_1 : Gm → Out := (hFgt [8, 9, 10] (hFgt [8, 9, 10] (hFor (gItems (gVar 1)) k_tightened_jobs_2 b_tightened_jobs_2)))
def t_tightened_jobs_4 : Gm → Out := (hFgt [8, 9, 10] (hFor (gItems (gVar 7)) k_tightened_jobs_1 b_tightened_jobs_1))
def k_tightened_jobs_4 : Kt := (kTup 2 (kCons (kSet 9) (kCons (kSet 10) kNil)))
def b_tightened_jobs_4 : Gm → Out := (hFgt [9, 10] (hFgt [9, 10] (hIf (gTst (g2 dEq (gVar 9) (gVar 8))) (hFgt [10] (hPut 5 (gB dMin2 (gCons (gIxO 5 (gVar 8)) (gCons (g2 dSub (gIxO 5 (gVar 10)) (g2 dIx (g2 dIx (gVar 0) (gVar 10)) (gC (.int 1)))) gNil))) (gVar 8))) hNx)))
def k_tightened_jobs_3 : Kt := (kSet 8)
def b_tightened_jobs_3 : Gm → Out := (hFgt [8, 9, 10] (hFgt [8, 9, 10] (hFor (gItems (gVar 1)) k_tightened_jobs_4 b_tightened_jobs_4)))
def t_tightened_jobs_5 : Gm → Out := (hFgt [1, 7, 8, 9, 10] (hFor (gRevI (gVar 7)) k_tightened_jobs_3 b_tightened_jobs_3))
def ck_tightened_jobs_3 : Kt := (kTup 2 (kCons (kSet 8) (kCons (kTup 3 (kCons (kSet 4) (kCons (kSet 11) (kCons (kSet 4) kNil)))) kNil)))
def ce_tightened_jobs_3 : Gm → Rs D := (gTup (gCons (g2 dIx (gVar 2) (gVar 8)) (gCons (gVar 11) (gCons (g2 dIx (gVar 5) (gVar 8)) gNil))))
def t_tightened_jobs_6 : Gm → Out := (hRetC (gB dTupOf (gCons (gPu (gLc (gEnum (gVar 0)) ck_tightened_jobs_3 gYes ce_tightened_jobs_3 [8, 4, 11])) gNil)))
def h_tightened_jobs : Gm → Out := (hSeq t_tightened_jobs_1 (hSeq t_tightened_jobs_2 (hSeq t_tightened_jobs_3 (hSeq t_tightened_jobs_4 (hFrz 2 (hSeq t_tightened_jobs_5 (hFrz 5 t_tightened_jobs_6)))))))
def F_tightened_jobs : List SV → Rs D := runN 12 h_tightened_jobs
set_option maxHeartbeats 4000000 in
theorem w_tightened_jobs {P : Program} {w : World} {K : PySem.W.Frag} {mg : Str → Option Value} {base : Heap} {f : Addr} {fd : FuncData} (m_enumerate : mg ("enumerate" : Str) = none) (m_max : mg ("max" : Str) = none) (m_min : mg ("min" : Str) = none) (m_reversed : mg ("reversed" : Str) = none) (m_tuple : mg ("tuple" : Str) = none) (d_linked_order : Def P w K mg base CX0 3 ("linked_order" : Str) ["dues", "links"] F_linked_order) (F : FunD K ("tightened_jobs" : Str) ("tightened_jobs" : Str) (defArgs s_tightened_jobs) (defBody s_tightened_jobs) (defScope s_tightened_jobs) [] [] f fd) : FnOk P w K mg base CX0 4 f fd ["jobs", "links"] (spF K mg 2 F_tightened_jobs) :=
  fok (k := 3) F sc_tightened_jobs fun cdv A outer s H E hr => (mss_cons (ms_setF (i := 2) sc_tightened_jobs.nd rfl (.inr rfl) (mf_lc (own := [(("arrival" : Str), 3), (("_" : Str), 4)]) rfl sc_tightened_jobs.nd (mi_seq (mp_tvar (pv 0))) (blkOk_by (by first | (show blkC N_tightened_jobs (defScope s_tightened_jobs) _ _ = true; decide +kernel) | kernel_rfl)) (fun _ _ _ _ _ => (mg_tup rfl (mgs_cons (mg_name (i := 3) sc_tightened_jobs.nd rfl (by first | exact .inl rfl | exact .inr rfl)) (mgs_cons (mg_name (i := 4) sc_tightened_jobs.nd rfl (by first | exact .inl rfl | exact .inr rfl)) (mgs_cons (mg_name (i := 4) sc_tightened_jobs.nd rfl (by first | exact .inl rfl | exact .inr rfl)) mgs_nil))))) (fun _ _ _ _ _ => mts_nil) (fun _ _ _ _ _ => (mp_tvar (pv 3))) (by decide))) (mss_cons (ms_setF (i := 5) sc_tightened_jobs.nd rfl (.inr rfl) (mf_lc (own := [(("_" : Str), 4), (("due" : Str), 6)]) rfl sc_tightened_jobs.nd (mi_seq (mp_tvar (pv 0))) (blkOk_by (by first | (show blkC N_tightened_jobs (defScope s_tightened_jobs) _ _ = true; decide +kernel) | kernel_rfl)) (fun _ _ _ _ _ => (mg_tup rfl (mgs_cons (mg_name (i := 4) sc_tightened_jobs.nd rfl (by first | exact .inl rfl | exact .inr rfl)) (mgs_cons (mg_name (i := 4) sc_tightened_jobs.nd rfl (by first | exact .inl rfl | exact .inr rfl)) (mgs_cons (mg_name (i := 6) sc_tightened_jobs.nd rfl (by first | exact .inl rfl | exact .inr rfl)) mgs_nil))))) (fun _ _ _ _ _ => mts_nil) (fun _ _ _ _ _ => (mp_tvar (pv 6))) (by decide))) (mss_cons (ms_set (i := 7) sc_tightened_jobs.nd rfl (.inl rfl) (mp_seeI 5 (mp_def d_linked_order hr (by decide) rfl at0 (ma_cons (mp_tvar (pv 5)) (ma_cons (mp_tvar (pv 1)) ma_nil))))) (mss_cons (ms_fgt [8, 9, 10] (ms_for PassesOwn.never rfl (mi_seq (mp_tvar (pv 7))) (mg_name (i := 8) sc_tightened_jobs.nd rfl (.inl rfl)) (mss_fgt [8, 9, 10] (mss_one (ms_fgt [8, 9, 10] (ms_for PassesOwn.never rfl (mi_seq (mp_tvar (pv 1))) (mg_tup rfl (mgs_cons (mg_name (i := 9) sc_tightened_jobs.nd rfl (.inl rfl)) (mgs_cons (mg_name (i := 10) sc_tightened_jobs.nd rfl (.inl rfl)) mgs_nil))) (mss_fgt [9, 10] (mss_one (ms_fgt [9, 10] (ms_if (mt_b (mp_eq hr.units (mp_tvar (pv 10)) (mp_tvar (pv 8)))) (mss_one (ms_fgt [9] (ms_put (pv 2) (mp_tvar (pv 8)) (mp_max2 rfl rfl m_max (mp_ixO (pv 2) (mp_tvar (pv 8))) (mp_add (mp_ixO (pv 2) (mp_tvar (pv 9))) (mp_ix (mp_ix (mp_tvar (pv 0)) (mp_tvar (pv 9))) mp_int)))))) mss_nil)))))))))) (mss_frz 2 (mss_cons (ms_fgt [1, 7, 8, 9, 10] (ms_for PassesOwn.never rfl (mi_rev rfl m_reversed (mp_tvar (pv 7))) (mg_name (i := 8) sc_tightened_jobs.nd rfl (.inl rfl)) (mss_fgt [8, 9, 10] (mss_one (ms_fgt [8, 9, 10] (ms_for PassesOwn.never rfl (mi_seq (mp_tvar (pv 1))) (mg_tup rfl (mgs_cons (mg_name (i := 9) sc_tightened_jobs.nd rfl (.inl rfl)) (mgs_cons (mg_name (i := 10) sc_tightened_jobs.nd rfl (.inl rfl)) mgs_nil))) (mss_fgt [9, 10] (mss_one (ms_fgt [9, 10] (ms_if (mt_b (mp_eq hr.units (mp_tvar (pv 9)) (mp_tvar (pv 8)))) (mss_one (ms_fgt [10] (ms_put (pv 5) (mp_tvar (pv 8)) (mp_min2 rfl rfl m_min (mp_ixO (pv 5) (mp_tvar (pv 8))) (mp_sub (mp_ixO (pv 5) (mp_tvar (pv 10))) (mp_ix (mp_ix (mp_tvar (pv 0)) (mp_tvar (pv 10))) mp_int)))))) mss_nil)))))))))) (mss_frz 5 (mss_one (ms_retC (mp_tupleOf rfl m_tuple (mp_of_f (mf_lc (own := [(("job" : Str), 8), (("_" : Str), 4), (("length" : Str), 11)]) rfl sc_tightened_jobs.nd (mi_enum rfl m_enumerate (mp_tvar (pv 0))) (blkOk_by (by first | (show blkC N_tightened_jobs (defScope s_tightened_jobs) _ _ = true; decide +kernel) | kernel_rfl)) (fun _ _ _ _ _ => (mg_tup rfl (mgs_cons (mg_name (i := 8) sc_tightened_jobs.nd rfl (by first | exact .inl rfl | exact .inr rfl)) (mgs_cons (mg_tup rfl (mgs_cons (mg_name (i := 4) sc_tightened_jobs.nd rfl (by first | exact .inl rfl | exact .inr rfl)) (mgs_cons (mg_name (i := 11) sc_tightened_jobs.nd rfl (by first | exact .inl rfl | exact .inr rfl)) (mgs_cons (mg_name (i := 4) sc_tightened_jobs.nd rfl (by first | exact .inl rfl | exact .inr rfl)) mgs_nil)))) mgs_nil)))) (fun _ _ _ _ _ => mts_nil) (fun _ _ _ _ _ => (mp_tup (md_cons (mp_ix (mp_tvar (pv 2)) (mp_tvar (pv 8))) (md_cons (mp_tvar (pv 11)) (md_cons (mp_ix (mp_tvar (pv 5)) (mp_tvar (pv 8))) md_nil))))) (by decide)))))))))))))
/-! tightened -/
abbrev s_tightened : Stmt := topS 36
abbrev N_tightened : List Str := ["jobs", "links"]
theorem sc_tightened : FnScope ["jobs", "links"] ["jobs", "links"] (defScope s_tightened) := ⟨rfl, rfl, rfl, by decide +kernel, rfl, by decide +kernel, by decide +kernel⟩
def h_tightened : Gm → Out := (hSeq (hDrop (gCall F_check_linked_jobs (aCons (gVar 0) (aCons (gVar 1) aNil)))) (hRetC (gCall F_tightened_jobs (aCons (gVar 0) (aCons (gVar 1) aNil)))))
def F_tightened : List SV → Rs D := runX 2 h_tightened
set_option maxHeartbeats 4000000 in
theorem w_tightened {P : Program} {w : World} {K : PySem.W.Frag} {mg : Str → Option Value} {base : Heap} {f : Addr} {fd : FuncData} (d_check_linked_jobs : Def P w K mg base (L2.CX P w) 6 ("check_linked_jobs" : Str) ["jobs", "links"] F_check_linked_jobs) (d_tightened_jobs : Def P w K mg base CX0 4 ("tightened_jobs" : Str) ["jobs", "links"] F_tightened_jobs) (F : FunD K ("tightened" : Str) ("tightened" : Str) (defArgs s_tightened) (defBody s_tightened) (defScope s_tightened) [] [] f fd) : FnOk P w K mg base (L2.CX P w) 7 f fd ["jobs", "links"] (spF K mg 2 F_tightened) :=
  fokX (k := 6) F sc_tightened fun cdv A outer s H E hr tk pw => (mss_cons (ms_expr (mp_def d_check_linked_jobs hr (by decide) rfl (passAt tk) (ma_cons (mp_tvar (pv 0)) (ma_cons (mp_tvar (pv 1)) ma_nil)))) (mss_one (ms_retC (mp_def d_tightened_jobs hr (by decide) rfl at0 (ma_cons (mp_tvar (pv 0)) (ma_cons (mp_tvar (pv 1)) ma_nil))))))
/-! schedule_in_time -/
abbrev s_schedule_in_time : Stmt := topS 23
abbrev N_schedule_in_time : List Str := ["jobs", "units"]
theorem sc_schedule_in_time : FnScope ["jobs", "units"] ["jobs"] (defScope s_schedule_in_time) := ⟨rfl, rfl, rfl, by decide +kernel, rfl, by decide +kernel, by decide +kernel⟩
def h_schedule_in_time : Gm → Out := (hSeq (hSet 1 (gCall F_earliest_due_units (aCons (gVar 0) aNil))) (hRetC (gIf (gTst (g2 dLe (gCall F_greatest_lateness (aCons (gVar 0) (aCons (gVar 1) aNil))) (gC (.int 0)))) (gVar 1) (gC .non))))
def F_schedule_in_time : List SV → Rs D := runN 2 h_schedule_in_time
set_option maxHeartbeats 4000000 in
theorem w_schedule_in_time {P : Program} {w : World} {K : PySem.W.Frag} {mg : Str → Option Value} {base : Heap} {f : Addr} {fd : FuncData} (d_earliest_due_units : Def P w K mg base CX0 3 ("earliest_due_units" : Str) ["jobs"] F_earliest_due_units) (d_greatest_lateness : Def P w K mg base CX0 1 ("greatest_lateness" : Str) ["jobs", "units"] F_greatest_lateness) (F : FunD K ("schedule_in_time" : Str) ("schedule_in_time" : Str) (defArgs s_schedule_in_time) (defBody s_schedule_in_time) (defScope s_schedule_in_time) [] [] f fd) : FnOk P w K mg base CX0 4 f fd ["jobs"] (spF K mg 1 F_schedule_in_time) :=
  fok (k := 3) F sc_schedule_in_time fun cdv A outer s H E hr => (mss_cons (ms_set (i := 1) sc_schedule_in_time.nd rfl (.inl rfl) (mp_def d_earliest_due_units hr (by decide) rfl at0 (ma_cons (mp_tvar (pv 0)) ma_nil))) (mss_one (ms_retC (mp_if (mt_b (mp_le (mp_def d_greatest_lateness hr (by decide) rfl at0 (ma_cons (mp_tvar (pv 0)) (ma_cons (mp_tvar (pv 1)) ma_nil))) mp_int)) (mp_tvar (pv 1)) mp_non))))
/-! linked_schedule -/
abbrev s_linked_schedule : Stmt := topS 37
abbrev N_linked_schedule : List Str := ["jobs", "links"]
theorem sc_linked_schedule : FnScope ["jobs", "links"] ["jobs", "links"] (defScope s_linked_schedule) := ⟨rfl, rfl, rfl, by decide +kernel, rfl, by decide +kernel, by decide +kernel⟩
def h_linked_schedule : Gm → Out := (hSeq (hDrop (gCall F_check_linked_jobs (aCons (gVar 0) (aCons (gVar 1) aNil)))) (hRetC (gCall F_schedule_in_time (aCons (gCall F_tightened_jobs (aCons (gVar 0) (aCons (gVar 1) aNil))) aNil))))
def F_linked_schedule : List SV → Rs D := runX 2 h_linked_schedule
set_option maxHeartbeats 4000000 in
theorem w_linked_schedule {P : Program} {w : World} {K : PySem.W.Frag} {mg : Str → Option Value} {base : Heap} {f : Addr} {fd : FuncData} (d_check_linked_jobs : Def P w K mg base (L2.CX P w) 6 ("check_linked_jobs" : Str) ["jobs", "links"] F_check_linked_jobs) (d_schedule_in_time : Def P w K mg base CX0 4 ("schedule_in_time" : Str) ["jobs"] F_schedule_in_time) (d_tightened_jobs : Def P w K mg base CX0 4 ("tightened_jobs" : Str) ["jobs", "links"] F_tightened_jobs) (F : FunD K ("linked_schedule" : Str) ("linked_schedule" : Str) (defArgs s_linked_schedule) (defBody s_linked_schedule) (defScope s_linked_schedule) [] [] f fd) : FnOk P w K mg base (L2.CX P w) 7 f fd ["jobs", "links"] (spF K mg 2 F_linked_schedule) :=
  fokX (k := 6) F sc_linked_schedule fun cdv A outer s H E hr tk pw => (mss_cons (ms_expr (mp_def d_check_linked_jobs hr (by decide) rfl (passAt tk) (ma_cons (mp_tvar (pv 0)) (ma_cons (mp_tvar (pv 1)) ma_nil)))) (mss_one (ms_retC (mp_def d_schedule_in_time hr (by decide) rfl at0 (ma_cons (mp_def d_tightened_jobs hr (by decide) rfl at0 (ma_cons (mp_tvar (pv 0)) (ma_cons (mp_tvar (pv 1)) ma_nil))) ma_nil)))))
/-! most_on_time -/
abbrev s_most_on_time : Stmt := topS 32
abbrev N_most_on_time : List Str := ["jobs", "kept", "job", "one", "other"]
theorem sc_most_on_time : FnScope ["jobs", "kept", "job", "one", "other"] ["jobs"] (defScope s_most_on_time) := ⟨rfl, rfl, rfl, by decide +kernel, rfl, by decide +kernel, by decide +kernel⟩
def t_most_on_time_1 : Gm → Out := (hDrop (gCall F_check_long_jobs (aCons (gVar 0) aNil)))
def t_most_on_time_2 : Gm → Out := (hSetF 1 gNil)
def kf_most_on_time_1 : Gm → Rs D := (g2 dIx (g2 dIx (gVar 0) (gVar 3)) (gC (.int 2)))
def ck_most_on_time_1 : Kt := (kSet 4)
def ce_most_on_time_1 : Gm → Rs D := (g2 dIx (g2 dIx (gVar 0) (gVar 4)) (gC (.int 1)))
def kf_most_on_time_2 : Gm → Rs D := (g2 dIx (g2 dIx (gVar 0) (gVar 3)) (gC (.int 1)))
def k_most_on_time_1 : Kt := (kSet 2)
def b_most_on_time_1 : Gm → Out := (hFgt [2] (hSeq (hDrop (gApp 1 (gVar 2))) (hFgt [2] (hIf (gTst (g2 dGt (gB dSumX (gCons (gPu (fSeeA (gLc (gItems (gVar 1)) ck_most_on_time_1 gYes ce_most_on_time_1 [4]))) gNil)) (g2 dIx (g2 dIx (gVar 0) (gVar 2)) (gC (.int 2))))) (hDrop (gRem 1 (gSeeI 1 (gKeyC true 3 (gVar 1) kf_most_on_time_2 none)))) hNx))))
def t_most_on_time_3 : Gm → Out := (hFgt [0, 2] (hFor (gItems (gPu (gSortK 3 (gB dRv1 (gCons (gB dLen (gCons (gVar 0) gNil)) gNil)) kf_most_on_time_1))) k_most_on_time_1 b_most_on_time_1))
def t_most_on_time_4 : Gm → Out := (hRetC (gB dTupOf (gCons (gPu (gBF dSortX (gCons (gVar 1) gNil))) gNil)))
def h_most_on_time : Gm → Out := (hSeq t_most_on_time_1 (hSeq t_most_on_time_2 (hSeq t_most_on_time_3 (hFrz 1 t_most_on_time_4))))
def F_most_on_time : List SV → Rs D := runX 5 h_most_on_time
set_option maxHeartbeats 4000000 in
theorem w_most_on_time {P : Program} {w : World} {K : PySem.W.Frag} {mg : Str → Option Value} {base : Heap} {fd : FuncData} (m_len : mg ("len" : Str) = none) (m_max : mg ("max" : Str) = none) (m_range : mg ("range" : Str) = none) (m_sorted : mg ("sorted" : Str) = none) (m_sum : mg ("sum" : Str) = none) (m_tuple : mg ("tuple" : Str) = none) (d_check_long_jobs : Def P w K mg base (L2.CX P w) 5 ("check_long_jobs" : Str) ["jobs"] F_check_long_jobs) (l_most_on_time : LamD K mg base ("most_on_time" : Str)) (F : FunD K ("most_on_time" : Str) ("most_on_time" : Str) (defArgs s_most_on_time) (defBody s_most_on_time) (defScope s_most_on_time) [] [] (He.fAd K ("most_on_time", none)) fd) : FnOk P w K mg base (L2.CX P w) 6 (He.fAd K ("most_on_time", none)) fd ["jobs"] (spF K mg 1 F_most_on_time) :=
  fokLX (k := 5) F l_most_on_time sc_most_on_time fun cdv A outer s H E hr tk pw hL => (mss_cons (ms_expr (mp_def d_check_long_jobs hr (by decide) rfl (passAt tk) (ma_cons (mp_tvar (pv 0)) ma_nil))) (mss_cons (ms_setF (i := 1) sc_most_on_time.nd rfl (.inl rfl) (mf_lst md_nil)) (mss_cons (ms_fgt [0, 2] (ms_for pw rfl (mi_seq (mp_of_f (mf_sortK (k := 2) (i := 3) (by unfold kf_most_on_time_1; repeat (first | apply pu_var | apply pu_c | apply pua_nil | apply pu_g2 | apply pu_g1 | apply pu_index | apply pu_call | apply pua_cons)) (hr.mono (by decide)) hL rfl m_sorted sc_most_on_time.nd rfl (mp_rng1 rfl m_range (mp_len rfl m_len (mp_tvar (pv 0)))) (lamP_by (by first | (show lamPB (defScope s_most_on_time) _ _ = true; decide +kernel) | kernel_rfl)) (fun f0 cf A s H hr => (mp_ix (mp_ix (mp_tvar (pv 0)) (mp_tvar (pv 3))) mp_int))))) (mg_name (i := 2) sc_most_on_time.nd rfl (.inl rfl)) (mss_fgt [2] (mss_cons (ms_expr (mp_app (pv 1) (mp_tvar (pv 2)))) (mss_one (ms_fgt [2] (ms_if (mt_b (mp_gt (mp_sumX rfl rfl m_sum (mp_of_f (mf_seeA (mf_lc (own := [(("other" : Str), 4)]) rfl sc_most_on_time.nd (mi_seq (mp_tvar (pv 1))) (blkOk_by (by first | (show blkC N_most_on_time (defScope s_most_on_time) _ _ = true; decide +kernel) | kernel_rfl)) (fun _ _ _ _ _ => (mg_name (i := 4) sc_most_on_time.nd rfl (by first | exact .inl rfl | exact .inr rfl))) (fun _ _ _ _ _ => mts_nil) (fun _ _ _ _ _ => (mp_ix (mp_ix (mp_tvar (pv 0)) (mp_tvar (pv 4))) mp_int)) (by decide))))) (mp_ix (mp_ix (mp_tvar (pv 0)) (mp_tvar (pv 2))) mp_int))) (mss_one (ms_expr (mp_rem (pv 1) (mp_seeI 1 (mp_keyC (by unfold kf_most_on_time_2; repeat (first | apply pu_var | apply pu_c | apply pua_nil | apply pu_g2 | apply pu_g1 | apply pu_index | apply pu_call | apply pua_cons)) (mp_maxK (k := 3) (i := 3) (hr.mono (by decide)) hL rfl m_max sc_most_on_time.nd rfl (mp_tvar (pv 1)) (lamP_by (by first | (show lamPB (defScope s_most_on_time) _ _ = true; decide +kernel) | kernel_rfl)) (fun f0 cf A s H hr => (mp_ix (mp_ix (mp_tvar (pv 0)) (mp_tvar (pv 3))) mp_int)))))))) mss_nil))))))) (mss_frz 1 (mss_one (ms_retC (mp_tupleOf rfl m_tuple (mp_of_f (mf_sortX hr.units66 rfl m_sorted (mp_tvar (pv 1)))))))))))
/-! check_pair_jobs -/
abbrev s_check_pair_jobs : Stmt := topS 16
abbrev N_check_pair_jobs : List Str := ["jobs"]
theorem sc_check_pair_jobs : FnScope ["jobs"] ["jobs"] (defScope s_check_pair_jobs) := ⟨rfl, rfl, rfl, by decide +kernel, rfl, by decide +kernel, by decide +kernel⟩
def h_check_pair_jobs : Gm → Out := (hFgt [0] (hDrop (gCall F_check_rows (aCons (gVar 0) (aCons (gC (.int 8)) (aCons (gTup (gCons (gTup (gCons (gC (.int 0)) (gCons (gC (.int 100)) gNil))) (gCons (gTup (gCons (gC (.int 0)) (gCons (gC (.int 100)) gNil))) gNil))) aNil))))))
def F_check_pair_jobs : List SV → Rs D := runX 1 h_check_pair_jobs
set_option maxHeartbeats 4000000 in
theorem w_check_pair_jobs {P : Program} {w : World} {K : PySem.W.Frag} {mg : Str → Option Value} {base : Heap} {f : Addr} {fd : FuncData} (c_LAST_TIME : ∃ t, mg ("LAST_TIME" : Str) = some (.int 100 t)) (c_MOST_PAIR_JOBS : ∃ t, mg ("MOST_PAIR_JOBS" : Str) = some (.int 8 t)) (d_check_rows : Def P w K mg base (L2.CX P w) 4 ("check_rows" : Str) ["jobs", "most", "ranges"] F_check_rows) (F : FunD K ("check_pair_jobs" : Str) ("check_pair_jobs" : Str) (defArgs s_check_pair_jobs) (defBody s_check_pair_jobs) (defScope s_check_pair_jobs) [] [] f fd) : FnOk P w K mg base (L2.CX P w) 5 f fd ["jobs"] (spF K mg 1 F_check_pair_jobs) :=
  fokX (k := 4) F sc_check_pair_jobs fun cdv A outer s H E hr tk pw => (mss_one (ms_fgt [0] (ms_expr (mp_def d_check_rows hr (by decide) rfl (passAt tk) (ma_cons (mp_tvar (pv 0)) (ma_cons (mp_cst rfl c_MOST_PAIR_JOBS) (ma_cons (mp_tup (md_cons (mp_tup (md_cons mp_int (md_cons (mp_cst rfl c_LAST_TIME) md_nil))) (md_cons (mp_tup (md_cons mp_int (md_cons (mp_cst rfl c_LAST_TIME) md_nil))) md_nil))) ma_nil)))))))
/-! fit_one_by_one -/
abbrev s_fit_one_by_one : Stmt := topS 33
abbrev N_fit_one_by_one : List Str := ["dues", "place", "due"]
theorem sc_fit_one_by_one : FnScope ["dues", "place", "due"] ["dues"] (defScope s_fit_one_by_one) := ⟨rfl, rfl, rfl, by decide +kernel, rfl, by decide +kernel, by decide +kernel⟩
def ck_fit_one_by_one_1 : Kt := (kTup 2 (kCons (kSet 1) (kCons (kSet 2) kNil)))
def ce_fit_one_by_one_1 : Gm → Rs D := (g2 dGt (gVar 2) (gVar 1))
def h_fit_one_by_one : Gm → Out := (hRetC (gB dAll (gCons (gPu (gLc (gEnum (gPu (gBF dSortX (gCons (gVar 0) gNil)))) ck_fit_one_by_one_1 gYes ce_fit_one_by_one_1 [1, 2])) gNil)))
def F_fit_one_by_one : List SV → Rs D := runN 3 h_fit_one_by_one
set_option maxHeartbeats 4000000 in
theorem w_fit_one_by_one {P : Program} {w : World} {K : PySem.W.Frag} {mg : Str → Option Value} {base : Heap} {f : Addr} {fd : FuncData} (m_all : mg ("all" : Str) = none) (m_enumerate : mg ("enumerate" : Str) = none) (m_sorted : mg ("sorted" : Str) = none) (F : FunD K ("fit_one_by_one" : Str) ("fit_one_by_one" : Str) (defArgs s_fit_one_by_one) (defBody s_fit_one_by_one) (defScope s_fit_one_by_one) [] [] f fd) : FnOk P w K mg base CX0 1 f fd ["dues"] (spF K mg 1 F_fit_one_by_one) :=
  fok (k := 0) F sc_fit_one_by_one fun cdv A outer s H E hr => (mss_one (ms_retC (mp_all rfl rfl m_all (mp_of_f (mf_lc (own := [(("place" : Str), 1), (("due" : Str), 2)]) rfl sc_fit_one_by_one.nd (mi_enum rfl m_enumerate (mp_of_f (mf_sortX hr.units66 rfl m_sorted (mp_tvar (pv 0))))) (blkOk_by (by first | (show blkC N_fit_one_by_one (defScope s_fit_one_by_one) _ _ = true; decide +kernel) | kernel_rfl)) (fun _ _ _ _ _ => (mg_tup rfl (mgs_cons (mg_name (i := 1) sc_fit_one_by_one.nd rfl (by first | exact .inl rfl | exact .inr rfl)) (mgs_cons (mg_name (i := 2) sc_fit_one_by_one.nd rfl (by first | exact .inl rfl | exact .inr rfl)) mgs_nil)))) (fun _ _ _ _ _ => mts_nil) (fun _ _ _ _ _ => (mp_b (mp_gt (mp_tvar (pv 2)) (mp_tvar (pv 1))))) (by decide))))))
/-! best_units -/
abbrev s_best_units : Stmt := topS 34
abbrev N_best_units : List Str := ["jobs", "kept", "job", "one", "other"]
theorem sc_best_units : FnScope ["jobs", "kept", "job", "one", "other"] ["jobs"] (defScope s_best_units) := ⟨rfl, rfl, rfl, by decide +kernel, rfl, by decide +kernel, by decide +kernel⟩
def t_best_units_1 : Gm → Out := (hDrop (gCall F_check_pair_jobs (aCons (gVar 0) aNil)))
def t_best_units_2 : Gm → Out := (hSetF 1 gNil)
def kf_best_units_1 : Gm → Rs D := (g1 dNeg (g2 dIx (g2 dIx (gVar 0) (gVar 3)) (gC (.int 1))))
def ck_best_units_1 : Kt := (kSet 4)
def ce_best_units_1 : Gm → Rs D := (g2 dIx (g2 dIx (gVar 0) (gVar 4)) (gC (.int 0)))
def k_best_units_1 : Kt := (kSet 2)
def b_best_units_1 : Gm → Out := (hFgt [2] (hFgt [2] (hIf (gTst (gCall F_fit_one_by_one (aCons (gPu (gLc (gItems (gPu (fSeeA (gLstS (gStar (gVar 1) (gCons (gVar 2) gNil)))))) ck_best_units_1 gYes ce_best_units_1 [4])) aNil))) (hFgt [2] (hDrop (gApp 1 (gVar 2)))) hNx)))
def t_best_units_3 : Gm → Out := (hFgt [0, 2] (hFor (gItems (gPu (gSortK 3 (gB dRv1 (gCons (gB dLen (gCons (gVar 0) gNil)) gNil)) kf_best_units_1))) k_best_units_1 b_best_units_1))
def t_best_units_4 : Gm → Out := (hRetC (gB dTupOf (gCons (gPu (gBF dSortX (gCons (gVar 1) gNil))) gNil)))
def h_best_units : Gm → Out := (hSeq t_best_units_1 (hSeq t_best_units_2 (hSeq t_best_units_3 (hFrz 1 t_best_units_4))))
def F_best_units : List SV → Rs D := runX 5 h_best_units
set_option maxHeartbeats 4000000 in
theorem w_best_units {P : Program} {w : World} {K : PySem.W.Frag} {mg : Str → Option Value} {base : Heap} {fd : FuncData} (m_len : mg ("len" : Str) = none) (m_range : mg ("range" : Str) = none) (m_sorted : mg ("sorted" : Str) = none) (m_tuple : mg ("tuple" : Str) = none) (d_check_pair_jobs : Def P w K mg base (L2.CX P w) 5 ("check_pair_jobs" : Str) ["jobs"] F_check_pair_jobs) (d_fit_one_by_one : Def P w K mg base CX0 1 ("fit_one_by_one" : Str) ["dues"] F_fit_one_by_one) (l_best_units : LamD K mg base ("best_units" : Str)) (F : FunD K ("best_units" : Str) ("best_units" : Str) (defArgs s_best_units) (defBody s_best_units) (defScope s_best_units) [] [] (He.fAd K ("best_units", none)) fd) : FnOk P w K mg base (L2.CX P w) 6 (He.fAd K ("best_units", none)) fd ["jobs"] (spF K mg 1 F_best_units) :=
  fokLX (k := 5) F l_best_units sc_best_units fun cdv A outer s H E hr tk pw hL => (mss_cons (ms_expr (mp_def d_check_pair_jobs hr (by decide) rfl (passAt tk) (ma_cons (mp_tvar (pv 0)) ma_nil))) (mss_cons (ms_setF (i := 1) sc_best_units.nd rfl (.inl rfl) (mf_lst md_nil)) (mss_cons (ms_fgt [0, 2] (ms_for pw rfl (mi_seq (mp_of_f (mf_sortK (k := 2) (i := 3) (by unfold kf_best_units_1; repeat (first | apply pu_var | apply pu_c | apply pua_nil | apply pu_g2 | apply pu_g1 | apply pu_index | apply pu_call | apply pua_cons)) (hr.mono (by decide)) hL rfl m_sorted sc_best_units.nd rfl (mp_rng1 rfl m_range (mp_len rfl m_len (mp_tvar (pv 0)))) (lamP_by (by first | (show lamPB (defScope s_best_units) _ _ = true; decide +kernel) | kernel_rfl)) (fun f0 cf A s H hr => (mp_neg (mp_ix (mp_ix (mp_tvar (pv 0)) (mp_tvar (pv 3))) mp_int)))))) (mg_name (i := 2) sc_best_units.nd rfl (.inl rfl)) (mss_fgt [2] (mss_one (ms_fgt [2] (ms_if (mt_val (mp_def d_fit_one_by_one hr (by decide) rfl at0 (ma_cons (mp_of_f (mf_lc (own := [(("other" : Str), 4)]) rfl sc_best_units.nd (mi_seq (mp_of_f (mf_seeA (mf_lstS (mds_star (mp_tvar (pv 1)) (mds_cons (mp_tvar (pv 2)) mds_nil)))))) (blkOk_by (by first | (show blkC N_best_units (defScope s_best_units) _ _ = true; decide +kernel) | kernel_rfl)) (fun _ _ _ _ _ => (mg_name (i := 4) sc_best_units.nd rfl (by first | exact .inl rfl | exact .inr rfl))) (fun _ _ _ _ _ => mts_nil) (fun _ _ _ _ _ => (mp_ix (mp_ix (mp_tvar (pv 0)) (mp_tvar (pv 4))) mp_int)) (by decide))) ma_nil))) (mss_one (ms_fgt [2] (ms_expr (mp_app (pv 1) (mp_tvar (pv 2)))))) mss_nil)))))) (mss_frz 1 (mss_one (ms_retC (mp_tupleOf rfl m_tuple (mp_of_f (mf_sortX hr.units66 rfl m_sorted (mp_tvar (pv 1)))))))))))
/-! unit_schedule -/
abbrev s_unit_schedule : Stmt := topS 25
abbrev N_unit_schedule : List Str := ["jobs"]
theorem sc_unit_schedule : FnScope ["jobs"] ["jobs"] (defScope s_unit_schedule) := ⟨rfl, rfl, rfl, by decide +kernel, rfl, by decide +kernel, by decide +kernel⟩
def h_unit_schedule : Gm → Out := (hSeq (hDrop (gCall F_check_long_jobs (aCons (gVar 0) aNil))) (hRetC (gCall F_schedule_in_time (aCons (gVar 0) aNil))))
def F_unit_schedule : List SV → Rs D := runX 1 h_unit_schedule
set_option maxHeartbeats 4000000 in
theorem w_unit_schedule {P : Program} {w : World} {K : PySem.W.Frag} {mg : Str → Option Value} {base : Heap} {f : Addr} {fd : FuncData} (d_check_long_jobs : Def P w K mg base (L2.CX P w) 5 ("check_long_jobs" : Str) ["jobs"] F_check_long_jobs) (d_schedule_in_time : Def P w K mg base CX0 4 ("schedule_in_time" : Str) ["jobs"] F_schedule_in_time) (F : FunD K ("unit_schedule" : Str) ("unit_schedule" : Str) (defArgs s_unit_schedule) (defBody s_unit_schedule) (defScope s_unit_schedule) [] [] f fd) : FnOk P w K mg base (L2.CX P w) 6 f fd ["jobs"] (spF K mg 1 F_unit_schedule) :=
  fokX (k := 5) F sc_unit_schedule fun cdv A outer s H E hr tk pw => (mss_cons (ms_expr (mp_def d_check_long_jobs hr (by decide) rfl (passAt tk) (ma_cons (mp_tvar (pv 0)) ma_nil))) (mss_one (ms_retC (mp_def d_schedule_in_time hr (by decide) rfl at0 (ma_cons (mp_tvar (pv 0)) ma_nil)))))
/-! least_late_order -/
abbrev s_least_late_order : Stmt := topS 31
abbrev N_least_late_order : List Str := ["jobs", "links", "_", "due"]
theorem sc_least_late_order : FnScope ["jobs", "links", "_", "due"] ["jobs", "links"] (defScope s_least_late_order) := ⟨rfl, rfl, rfl, by decide +kernel, rfl, by decide +kernel, by decide +kernel⟩
def ck_least_late_order_1 : Kt := (kTup 3 (kCons (kSet 2) (kCons (kSet 2) (kCons (kSet 3) kNil))))
def ce_least_late_order_1 : Gm → Rs D := (gVar 3)
def h_least_late_order : Gm → Out := (hSeq (hDrop (gCall F_check_linked_jobs (aCons (gVar 0) (aCons (gVar 1) aNil)))) (hRetC (gCall F_linked_order (aCons (gPu (gLc (gItems (gVar 0)) ck_least_late_order_1 gYes ce_least_late_order_1 [2, 3])) (aCons (gVar 1) aNil)))))
def F_least_late_order : List SV → Rs D := runX 4 h_least_late_order
set_option maxHeartbeats 4000000 in
theorem w_least_late_order {P : Program} {w : World} {K : PySem.W.Frag} {mg : Str → Option Value} {base : Heap} {f : Addr} {fd : FuncData} (d_check_linked_jobs : Def P w K mg base (L2.CX P w) 6 ("check_linked_jobs" : Str) ["jobs", "links"] F_check_linked_jobs) (d_linked_order : Def P w K mg base CX0 3 ("linked_order" : Str) ["dues", "links"] F_linked_order) (F : FunD K ("least_late_order" : Str) ("least_late_order" : Str) (defArgs s_least_late_order) (defBody s_least_late_order) (defScope s_least_late_order) [] [] f fd) : FnOk P w K mg base (L2.CX P w) 7 f fd ["jobs", "links"] (spF K mg 2 F_least_late_order) :=
  fokX (k := 6) F sc_least_late_order fun cdv A outer s H E hr tk pw => (mss_cons (ms_expr (mp_def d_check_linked_jobs hr (by decide) rfl (passAt tk) (ma_cons (mp_tvar (pv 0)) (ma_cons (mp_tvar (pv 1)) ma_nil)))) (mss_one (ms_retC (mp_def d_linked_order hr (by decide) rfl at0 (ma_cons (mp_of_f (mf_lc (own := [(("_" : Str), 2), (("due" : Str), 3)]) rfl sc_least_late_order.nd (mi_seq (mp_tvar (pv 0))) (blkOk_by (by first | (show blkC N_least_late_order (defScope s_least_late_order) _ _ = true; decide +kernel) | kernel_rfl)) (fun _ _ _ _ _ => (mg_tup rfl (mgs_cons (mg_name (i := 2) sc_least_late_order.nd rfl (by first | exact .inl rfl | exact .inr rfl)) (mgs_cons (mg_name (i := 2) sc_least_late_order.nd rfl (by first | exact .inl rfl | exact .inr rfl)) (mgs_cons (mg_name (i := 3) sc_least_late_order.nd rfl (by first | exact .inl rfl | exact .inr rfl)) mgs_nil))))) (fun _ _ _ _ _ => mts_nil) (fun _ _ _ _ _ => (mp_tvar (pv 3))) (by decide))) (ma_cons (mp_tvar (pv 1)) ma_nil))))))
/-! _law_ask -/
abbrev s__law_ask : Stmt := topS 42
abbrev N__law_ask : List Str := ["way", "jobs", "links"]
theorem sc__law_ask : FnScope ["way", "jobs", "links"] ["way", "jobs", "links"] (defScope s__law_ask) := ⟨rfl, rfl, rfl, by decide +kernel, rfl, by decide +kernel, by decide +kernel⟩
def h__law_ask : Gm → Out := (hSeq (hIf (gTst (g2 dLt (gVar 0) (gC (.int 5)))) (hRetC (gPick [F_unit_schedule, F_full_window, F_least_lateness, F_most_on_time, F_best_units] (gVar 0) (aCons (gVar 1) aNil))) hNx) (hRetC (gIf (gTst (g2 dEq (gVar 0) (gC (.int 5)))) (gCall F_shows_units (aCons (gVar 1) (aCons (gVar 2) aNil))) (gPick [F_least_late_order, F_tightened, F_linked_schedule] (g2 dSub (gVar 0) (gC (.int 6))) (aCons (gVar 1) (aCons (gVar 2) aNil))))))
def F__law_ask : List SV → Rs D := runX 3 h__law_ask
set_option maxHeartbeats 4000000 in
theorem w__law_ask {P : Program} {w : World} {K : PySem.W.Frag} {mg : Str → Option Value} {base : Heap} {f : Addr} {fd : FuncData} (d_shows_units : Def P w K mg base (L2.CX P w) 6 ("shows_units" : Str) ["jobs", "value"] F_shows_units) (d_unit_schedule : Def P w K mg base (L2.CX P w) 6 ("unit_schedule" : Str) ["jobs"] F_unit_schedule) (d_full_window : Def P w K mg base (L2.CX P w) 6 ("full_window" : Str) ["jobs"] F_full_window) (d_least_lateness : Def P w K mg base (L2.CX P w) 6 ("least_lateness" : Str) ["jobs"] F_least_lateness) (d_most_on_time : Def P w K mg base (L2.CX P w) 6 ("most_on_time" : Str) ["jobs"] F_most_on_time) (d_best_units : Def P w K mg base (L2.CX P w) 6 ("best_units" : Str) ["jobs"] F_best_units) (d_least_late_order : Def P w K mg base (L2.CX P w) 7 ("least_late_order" : Str) ["jobs", "links"] F_least_late_order) (d_tightened : Def P w K mg base (L2.CX P w) 7 ("tightened" : Str) ["jobs", "links"] F_tightened) (d_linked_schedule : Def P w K mg base (L2.CX P w) 7 ("linked_schedule" : Str) ["jobs", "links"] F_linked_schedule) (F : FunD K ("_law_ask" : Str) ("_law_ask" : Str) (defArgs s__law_ask) (defBody s__law_ask) (defScope s__law_ask) [] [] f fd) : FnOk P w K mg base (L2.CX P w) 8 f fd ["way", "jobs", "links"] (spF K mg 3 F__law_ask) :=
  fokX (k := 7) F sc__law_ask fun cdv A outer s H E hr tk pw => (mss_cons (ms_if (mt_b (mp_lt (mp_tvar (pv 0)) mp_int)) (mss_one (ms_retC (mp_pick (pk_cons d_unit_schedule (by decide) rfl rfl (passAt tk) (pk_cons d_full_window (by decide) rfl rfl (passAt tk) (pk_cons d_least_lateness (by decide) rfl rfl (passAt tk) (pk_cons d_most_on_time (by decide) rfl rfl (passAt tk) (pk_cons d_best_units (by decide) rfl rfl (passAt tk) pk_nil))))) hr (mp_tvar (pv 0)) (ma_cons (mp_tvar (pv 1)) ma_nil) rfl))) mss_nil) (mss_one (ms_retC (mp_if (mt_b (mp_eq hr.units (mp_tvar (pv 0)) mp_int)) (mp_def d_shows_units hr (by decide) rfl (passAt tk) (ma_cons (mp_tvar (pv 1)) (ma_cons (mp_tvar (pv 2)) ma_nil))) (mp_pick (pk_cons d_least_late_order (by decide) rfl rfl (passAt tk) (pk_cons d_tightened (by decide) rfl rfl (passAt tk) (pk_cons d_linked_schedule (by decide) rfl rfl (passAt tk) pk_nil))) hr (mp_sub (mp_tvar (pv 0)) mp_int) (ma_cons (mp_tvar (pv 1)) (ma_cons (mp_tvar (pv 2)) ma_nil)) rfl)))))
/-! law -/
abbrev s_law : Stmt := topS 43
abbrev N_law : List Str := ["script", "row", "many", "at", "way", "good", "most", "value", "odd", "some", "links", "jobs", "told"]
theorem sc_law : FnScope ["script", "row", "many", "at", "way", "good", "most", "value", "odd", "some", "links", "jobs", "told"] ["script"] (defScope s_law) := ⟨rfl, rfl, rfl, by decide +kernel, rfl, by decide +kernel, by decide +kernel⟩
def t_law_1 : Gm → Out := (hFgt [0] (hSetF 1 (gCons (gVar 0) (gCons (gC (.int 0)) (gCons (gC (.int 3246)) (gCons (gC (.int 0)) gNil))))))
def t_law_2 : Gm → Out := (hSet 2 (g2 dAdd (gC (.int 2)) (gCall F__law_taken (aSlot 1 (aCons (gC (.int 4)) aNil)))))
def t_law_3 : Gm → Out := (hFgt [1] (hSet 3 (gCall F__law_taken (aSlot 1 (aCons (gVar 2) aNil)))))
def t_law_5 : Gm → Out := (hMulti [5, 6] (xP (g2 dRepA (gTup (gCons (gIf (gTst (g2 dEq (gVar 4) (gC (.int 4)))) (gTup (gCons (gC (.int 0)) (gCons (gC (.int 100)) gNil))) (gTup (gCons (gC (.int 0)) (gCons (gC (.int 1)) (gCons (gC (.int 100)) gNil))))) gNil)) (gVar 2)) (xP (gIf (gTst (g2 dEq (gVar 4) (gC (.int 4)))) (gC (.int 8)) (gC (.int 7))) xNil)))
def th_law_1 : Gm → Rs D := (gCall F__law_ask (aCons (gVar 4) (aCons (gVar 7) (aCons (gC .non) aNil))))
def k_law_2 : Kt := (kSet 7)
def b_law_2 : Gm → Out := (hFgt [7] (hFgt [7] (hIf (gTst (g2 dNe (gTold frm__law_told hand__law_told th_law_1) (gTup (gCons (gC (.str ("jobs" : Str))) (gCons (gC .non) gNil))))) (hRetC (gC (.bl false))) hNx)))
def t_law_6 : Gm → Out := (hFgt [6, 7] (hFor (gItems (gPu (gCons (gC .non) (gCons (gTup gNil) (gCons (gPu (gBF dLstOf (gCons (gVar 5) gNil))) (gCons (gCut (g2 dMulX (gVar 5) (gC (.int 5))) none (some (g2 dAdd (gVar 6) (gC (.int 1))))) (gCons (gC (.int 3)) (gCons (gC (.ob .emp)) (gCons (gC (.str ("jobs" : Str))) gNil))))))))) k_law_2 b_law_2))
def t_law_7 : Gm → Out := (hSet 8 (gPu (gCons (gC .non) (gCons (gPu (gBF dLstOf (gCons (g2 dIx (gVar 5) (gC (.int 0))) gNil))) (gCons (gCut (g2 dIx (gVar 5) (gC (.int 0))) (some (gC (.int 1))) none) (gCons (g2 dAdd (g2 dIx (gVar 5) (gC (.int 0))) (gTup (gCons (gC (.int 1)) gNil))) (gCons (g2 dAdd (gTup (gCons (g1 dNeg (gC (.int 1))) gNil)) (gCut (g2 dIx (gVar 5) (gC (.int 0))) (some (gC (.int 1))) none)) (gCons (g2 dAdd (gTup (gCons (gC (.int 101)) gNil)) (gCut (g2 dIx (gVar 5) (gC (.int 0))) (some (gC (.int 1))) none)) (gCons (gC (.ob .emp)) (gCons (gC (.int 5)) gNil))))))))))
def t_law_8 : Gm → Out := (hSet 8 (g2 dAdd (gVar 8) (gPu (gCons (g2 dAdd (gCut (g2 dIx (gVar 5) (gC (.int 0))) none (some (g1 dNeg (gC (.int 1))))) (gTup (gCons (gC (.int 101)) gNil))) (gCons (g2 dAdd (gCut (g2 dIx (gVar 5) (gC (.int 0))) none (some (g1 dNeg (gC (.int 1))))) (gTup (gCons (g1 dNeg (gC (.int 1))) gNil))) (gCons (g2 dAdd (gCut (g2 dIx (gVar 5) (gC (.int 0))) none (some (g1 dNeg (gC (.int 1))))) (gTup (gCons (gC (.bl true)) gNil))) (gCons (g2 dAdd (gTup (gCons (gC (.str ("0" : Str))) gNil)) (gCut (g2 dIx (gVar 5) (gC (.int 0))) (some (gC (.int 1))) none)) gNil)))))))
def t_law_9 : Gm → Out := (hSet 8 (g2 dAdd (gVar 8) (gPu (gCons (g2 dAdd (gTup (gCons (gPu gNil) gNil)) (gCut (g2 dIx (gVar 5) (gC (.int 0))) (some (gC (.int 1))) none)) (gCons (gTup (gCons (gC (.int 1)) (gCons (gC (.int 0)) (gCons (gC (.int 1)) gNil)))) (gCons (gTup (gCons (gC (.int 1)) (gCons (gC (.int 21)) (gCons (gC (.int 1)) gNil)))) gNil))))))
def th_law_2 : Gm → Rs D := (gCall F__law_ask (aCons (gVar 4) (aCons (gVar 9) (aCons (gC .non) aNil))))
def k_law_3 : Kt := (kSet 7)
def b_law_3 : Gm → Out := (hFgt [7, 9] (hSeq (hFgt [7] (hSet 9 (g2 dAdd (g2 dAdd (gCut (gVar 5) none (some (gVar 3))) (gTup (gCons (gVar 7) gNil))) (g2 dRepA (gTup (gCons (gC .non) gNil)) (g2 dSub (g2 dSub (gVar 2) (gVar 3)) (gC (.int 1))))))) (hFgt [9] (hIf (gTst (g2 dNe (gTold frm__law_told hand__law_told th_law_2) (gTup (gCons (gC (.str ("jobs" : Str))) (gCons (gVar 3) gNil))))) (hRetC (gC (.bl false))) hNx))))
def t_law_10 : Gm → Out := (hFgt [4, 5, 7, 8, 9] (hFor (gItems (gVar 8)) k_law_3 b_law_3))
def k_law_1 : Kt := (kSet 4)
def b_law_1 : Gm → Out := (hFgt [4, 5, 6, 7, 8, 9] (hSeq t_law_5 (hSeq t_law_6 (hSeq t_law_7 (hSeq t_law_8 (hSeq t_law_9 t_law_10))))))
def t_law_4 : Gm → Out := (hFgt [4, 5, 6, 7, 8, 9] (hFor (gRng1 (gC (.int 9))) k_law_1 b_law_1))
def t_law_11 : Gm → Out := (hMulti [5, 10] (xP (g2 dRepA (gTup (gCons (gTup (gCons (gC (.int 0)) (gCons (gC (.int 1)) (gCons (gC (.int 100)) gNil)))) gNil)) (gVar 2)) (xP (g2 dMulX (gTup (gCons (gTup (gCons (gC (.int 0)) (gCons (gC (.int 1)) gNil))) gNil)) (gC (.int 5))) xNil)))
def th_law_3 : Gm → Rs D := (gCall F__law_ask (aCons (gVar 4) (aCons (gVar 5) (aCons (gVar 7) aNil))))
def k_law_5 : Kt := (kSet 7)
def b_law_5 : Gm → Out := (hFgt [7] (hFgt [7] (hIf (gTst (g2 dNe (gTold frm__law_told hand__law_told th_law_3) (gTup (gCons (gC (.str ("links" : Str))) (gCons (gC .non) gNil))))) (hRetC (gC (.bl false))) hNx)))
def t_law_13 : Gm → Out := (hFgt [7] (hFor (gItems (gPu (gCons (gC .non) (gCons (gPu gNil) (gCons (gPu (gCons (gTup (gCons (gC (.int 0)) (gCons (gC (.int 1)) gNil))) gNil)) (gCons (gC (.int 3)) (gCons (gC (.ob .emp)) (gCons (gC (.str ("links" : Str))) (gCons (g2 dMulX (gTup (gCons (gTup (gCons (gC (.int 0)) (gCons (gC (.int 1)) gNil))) gNil)) (gC (.int 13))) (gCons (gTup (gCons (gTup (gCons (gC (.int 0)) (gCons (gC (.int 1)) gNil))) (gCons (gTup (gCons (gC (.int 1)) (gCons (gC (.int 0)) gNil))) gNil))) gNil)))))))))) k_law_5 b_law_5))
def th_law_4 : Gm → Rs D := (gCall F__law_ask (aCons (gVar 4) (aCons (gVar 5) (aCons (gVar 9) aNil))))
def k_law_6 : Kt := (kSet 7)
def b_law_6 : Gm → Out := (hFgt [7, 9] (hSeq (hFgt [7] (hSet 9 (g2 dAdd (g2 dAdd (gCut (gVar 10) none (some (gVar 3))) (gTup (gCons (gVar 7) gNil))) (g2 dMulX (gTup (gCons (gC .non) gNil)) (gC (.int 2)))))) (hFgt [9] (hIf (gTst (g2 dNe (gTold frm__law_told hand__law_told th_law_4) (gTup (gCons (gC (.str ("links" : Str))) (gCons (gVar 3) gNil))))) (hRetC (gC (.bl false))) hNx))))
def t_law_14 : Gm → Out := (hFgt [7, 9] (hFor (gItems (gPu (gCons (gC .non) (gCons (gPu (gCons (gC (.int 0)) (gCons (gC (.int 1)) gNil))) (gCons (gTup (gCons (gC (.int 0)) gNil)) (gCons (gTup (gCons (gC (.int 0)) (gCons (gC (.int 0)) gNil))) (gCons (gTup (gCons (gC (.int 0)) (gCons (gVar 2) gNil))) (gCons (gTup (gCons (g1 dNeg (gC (.int 1))) (gCons (gC (.int 0)) gNil))) (gCons (gTup (gCons (gC (.bl true)) (gCons (gC (.int 0)) gNil))) (gCons (gTup (gCons (gC (.int 0)) (gCons (gC (.int 1)) (gCons (gC (.int 1)) gNil)))) (gCons (gC (.str ("01" : Str))) (gCons (gTup (gCons (gPu gNil) (gCons (gC (.int 0)) gNil))) (gCons (gC (.ob .emp)) gNil))))))))))))) k_law_6 b_law_6))
def th_law_5 : Gm → Rs D := (gCall F__law_ask (aCons (gVar 4) (aCons (gVar 5) (aCons (g2 dMulX (gTup (gCons (gTup (gCons (gC (.int 1)) (gCons (gC (.int 0)) gNil))) gNil)) (gC (.int 12))) aNil))))
def t_law_15 : Gm → Out := (hFgt [4] (hIf (gTst (g1 dNotN (gTold frm__law_told hand__law_told th_law_5))) (hRetC (gC (.bl false))) hNx))
def k_law_4 : Kt := (kSet 4)
def b_law_4 : Gm → Out := (hFgt [4, 7, 9] (hSeq t_law_13 (hSeq t_law_14 t_law_15)))
def t_law_12 : Gm → Out := (hFgt [2, 3, 4, 5, 7, 9, 10] (hFor (gItems (gPu (gCons (gC (.int 6)) (gCons (gC (.int 7)) (gCons (gC (.int 8)) gNil))))) k_law_4 b_law_4))
def t_law_16 : Gm → Out := (hSet 11 (gTup (gCons (gTup (gCons (gC (.int 0)) (gCons (gC (.int 3)) (gCons (gC (.int 9)) gNil)))) (gCons (gTup (gCons (gC (.int 1)) (gCons (gC (.int 2)) (gCons (gC (.int 4)) gNil)))) (gCons (gTup (gCons (gC (.int 2)) (gCons (gC (.int 1)) (gCons (gC (.int 4)) gNil)))) gNil)))))
def t_law_17 : Gm → Out := (hSet 12 (gPu (gCons (gCall F_shows_units (aCons (gVar 11) (aCons (gTup (gCons (gC (.int 0)) (gCons (gC (.int 1)) (gCons (gC (.int 1)) (gCons (gC (.int 2)) (gCons (gC (.int 0)) (gCons (gC (.int 0)) gNil))))))) aNil))) (gCons (gCall F_shows_units (aCons (gVar 11) (aCons (gTup (gCons (gC .non) (gCons (gC (.int 1)) (gCons (gC (.int 2)) (gCons (gC (.int 1)) (gCons (gC (.int 0)) (gCons (gC (.int 0)) (gCons (gC (.int 0)) gNil)))))))) aNil))) (gCons (gCall F_shows_units (aCons (gVar 11) (aCons (gTup (gCons (gC (.int 0)) (gCons (gC (.int 0)) (gCons (gC (.int 0)) gNil)))) aNil))) gNil)))))
def t_law_18 : Gm → Out := (hFgt [12] (hIf (tgOr (gTst (g1 dNotN (gCall F_full_window (aCons (gVar 11) aNil)))) (gTst (g2 dNe (gVar 12) (gPu (gCons (gC (.bl true)) (gCons (gC (.bl true)) (gCons (gC (.bl false)) gNil))))))) (hRetC (gC (.bl false))) hNx))
def t_law_19 : Gm → Out := (hIf (tgOr (gTst (g2 dNe (gCall F_full_window (aCons (gTup (gCons (gTup (gCons (gC (.int 0)) (gCons (gC (.int 3)) (gCons (gC (.int 3)) gNil)))) (gCons (gTup (gCons (gC (.int 1)) (gCons (gC (.int 1)) (gCons (gC (.int 3)) gNil)))) gNil))) aNil)) (gTup (gCons (gC (.int 0)) (gCons (gC (.int 3)) gNil))))) (tgOr (gTst (g2 dNe (gCall F_least_lateness (aCons (gVar 11) aNil)) (gC (.int 0)))) (gTst (g2 dNe (gCall F_full_window (aCons (gTup (gCons (gTup (gCons (gC (.int 5)) (gCons (gC (.int 1)) (gCons (gC (.int 4)) gNil)))) gNil)) aNil)) (gTup (gCons (gC (.int 5)) (gCons (gC (.int 4)) gNil))))))) (hRetC (gC (.bl false))) hNx)
def t_law_20 : Gm → Out := (hFgt [11] (hIf (tgOr (gTst (g2 dNe (gCall F_tightened (aCons (gVar 11) (aCons (gTup (gCons (gTup (gCons (gC (.int 0)) (gCons (gC (.int 1)) gNil))) gNil)) aNil))) (gTup (gCons (gTup (gCons (gC (.int 0)) (gCons (gC (.int 3)) (gCons (gC (.int 2)) gNil)))) (gCons (gTup (gCons (gC (.int 3)) (gCons (gC (.int 2)) (gCons (gC (.int 4)) gNil)))) (gCons (gTup (gCons (gC (.int 2)) (gCons (gC (.int 1)) (gCons (gC (.int 4)) gNil)))) gNil)))))) (gTst (g1 dNotN (gCall F_linked_schedule (aCons (gVar 11) (aCons (gTup (gCons (gTup (gCons (gC (.int 0)) (gCons (gC (.int 1)) gNil))) gNil)) aNil)))))) (hRetC (gC (.bl false))) hNx))
def t_law_21 : Gm → Out := (hRetC (gAnd (g2 dEq (gCall F_most_on_time (aCons (gTup (gCons (gTup (gCons (gC (.int 0)) (gCons (gC (.int 4)) (gCons (gC (.int 5)) gNil)))) (gCons (gTup (gCons (gC (.int 0)) (gCons (gC (.int 3)) (gCons (gC (.int 5)) gNil)))) (gCons (gTup (gCons (gC (.int 0)) (gCons (gC (.int 2)) (gCons (gC (.int 5)) gNil)))) gNil)))) aNil)) (gTup (gCons (gC (.int 1)) (gCons (gC (.int 2)) gNil)))) (g2 dEq (gCall F_best_units (aCons (gTup (gCons (gTup (gCons (gC (.int 1)) (gCons (gC (.int 3)) gNil))) (gCons (gTup (gCons (gC (.int 1)) (gCons (gC (.int 5)) gNil))) (gCons (gTup (gCons (gC (.int 2)) (gCons (gC (.int 1)) gNil))) gNil)))) aNil)) (gTup (gCons (gC (.int 1)) (gCons (gC (.int 2)) gNil))))))
def h_law : Gm → Out := (hSeq t_law_1 (hSeq t_law_2 (hSeq t_law_3 (hSeq t_law_4 (hSeq t_law_11 (hSeq t_law_12 (hSeq t_law_16 (hSeq t_law_17 (hSeq t_law_18 (hSeq t_law_19 (hSeq t_law_20 t_law_21)))))))))))
def F_law : List SV → Rs D := runN 13 h_law
set_option maxHeartbeats 4000000 in
theorem w_law {P : Program} {w : World} {K : PySem.W.Frag} {mg : Str → Option Value} {base : Heap} {fd : FuncData} (m_list : mg ("list" : Str) = none) (m_range : mg ("range" : Str) = none) (d__law_taken : Def P w K mg base CX0 1 ("_law_taken" : Str) ["row", "many"] F__law_taken) (d_shows_units : Def P w K mg base (L2.CX P w) 6 ("shows_units" : Str) ["jobs", "value"] F_shows_units) (t__law_told : Told P w K mg base ("_law_told" : Str) frm__law_told hand__law_told) (d_full_window : Def P w K mg base (L2.CX P w) 6 ("full_window" : Str) ["jobs"] F_full_window) (d_least_lateness : Def P w K mg base (L2.CX P w) 6 ("least_lateness" : Str) ["jobs"] F_least_lateness) (d_tightened : Def P w K mg base (L2.CX P w) 7 ("tightened" : Str) ["jobs", "links"] F_tightened) (d_linked_schedule : Def P w K mg base (L2.CX P w) 7 ("linked_schedule" : Str) ["jobs", "links"] F_linked_schedule) (d_most_on_time : Def P w K mg base (L2.CX P w) 6 ("most_on_time" : Str) ["jobs"] F_most_on_time) (d_best_units : Def P w K mg base (L2.CX P w) 6 ("best_units" : Str) ["jobs"] F_best_units) (d__law_ask : Def P w K mg base (L2.CX P w) 8 ("_law_ask" : Str) ["way", "jobs", "links"] F__law_ask) (l_law : LamD K mg base ("law" : Str)) (F : FunD K ("law" : Str) ("law" : Str) (defArgs s_law) (defBody s_law) (defScope s_law) [] [] (He.fAd K ("law", none)) fd) : FnOk P w K mg base CX0 11 (He.fAd K ("law", none)) fd ["script"] (spF K mg 1 F_law) :=
  fokL (k := 10) F l_law sc_law fun cdv A outer s H E hr hL => (mss_cons (ms_fgt [0] (ms_setF (i := 1) sc_law.nd rfl (.inl rfl) (mf_lst (md_cons (mp_tvar (pv 0)) (md_cons mp_int (md_cons mp_int (md_cons mp_int md_nil))))))) (mss_cons (ms_set (i := 2) sc_law.nd rfl (.inl rfl) (mp_add mp_int (mp_def d__law_taken hr (by decide) rfl at0 (ma_slot (pv 1) (ma_cons mp_int ma_nil))))) (mss_cons (ms_fgt [1] (ms_set (i := 3) sc_law.nd rfl (.inl rfl) (mp_def d__law_taken hr (by decide) rfl at0 (ma_slot (pv 1) (ma_cons (mp_tvar (pv 2)) ma_nil))))) (mss_cons (ms_fgt [4, 5, 6, 7, 8, 9] (ms_for PassesOwn.never rfl (mi_range1 rfl m_range mp_int) (mg_name (i := 4) sc_law.nd rfl (.inr rfl)) (mss_fgt [4, 5, 6, 7, 8, 9] (mss_cons (ms_names (is := [5, 6]) rfl (pgs_cons (pg_name (i := 5) sc_law.nd rfl (.inr rfl)) (pgs_cons (pg_name (i := 6) sc_law.nd rfl (.inl rfl)) pgs_nil)) (mx_p (mp_repA (mp_tup (md_cons (mp_if (mt_b (mp_eq hr.units (mp_tvar (pv 4)) mp_int)) (mp_tup (md_cons mp_int (md_cons mp_int md_nil))) (mp_tup (md_cons mp_int (md_cons mp_int (md_cons mp_int md_nil))))) md_nil)) (mp_tvar (pv 2))) (mx_p (mp_if (mt_b (mp_eq hr.units (mp_tvar (pv 4)) mp_int)) mp_int mp_int) mx_nil)) rfl) (mss_cons (ms_fgt [6, 7] (ms_for PassesOwn.never rfl (mi_seq (mp_of_f (mf_lst (md_cons mp_non (md_cons (mp_tup md_nil) (md_cons (mp_of_f (mf_listOf rfl m_list (mp_tvar (pv 5)))) (md_cons (mp_cut (mp_mulX (mp_tvar (pv 5)) mp_int) mo_none (mo_some (mp_add (mp_tvar (pv 6)) mp_int))) (md_cons mp_int (md_cons mp_emp (md_cons mp_str md_nil)))))))))) (mg_name (i := 7) sc_law.nd rfl (.inr rfl)) (mss_fgt [7] (mss_one (ms_fgt [7] (ms_if (mt_b (mp_ne hr.units (mp_told (k := 8) t__law_told hL (hr.mono (by decide)) rfl (LamX.lamS_by (by first | (show LamX.lamSB (defScope s_law) _ = true; decide +kernel) | kernel_rfl)) (fun A outer s H E f c1 hr tk => (mp_def d__law_ask hr (by decide) rfl (passAt tk) (ma_cons (mp_tvar (pv 4)) (ma_cons (mp_tvar (pv 7)) (ma_cons mp_non ma_nil)))))) (mp_tup (md_cons mp_str (md_cons mp_non md_nil))))) (mss_one (ms_retC mp_bl)) mss_nil)))))) (mss_cons (ms_set (i := 8) sc_law.nd rfl (.inl rfl) (mp_of_f (mf_lst (md_cons mp_non (md_cons (mp_of_f (mf_listOf rfl m_list (mp_ix (mp_tvar (pv 5)) mp_int))) (md_cons (mp_cut (mp_ix (mp_tvar (pv 5)) mp_int) (mo_some mp_int) mo_none) (md_cons (mp_add (mp_ix (mp_tvar (pv 5)) mp_int) (mp_tup (md_cons mp_int md_nil))) (md_cons (mp_add (mp_tup (md_cons (mp_neg mp_int) md_nil)) (mp_cut (mp_ix (mp_tvar (pv 5)) mp_int) (mo_some mp_int) mo_none)) (md_cons (mp_add (mp_tup (md_cons mp_int md_nil)) (mp_cut (mp_ix (mp_tvar (pv 5)) mp_int) (mo_some mp_int) mo_none)) (md_cons mp_emp (md_cons mp_int md_nil))))))))))) (mss_cons (ms_set (i := 8) sc_law.nd rfl (.inl rfl) (mp_add (mp_tvar (pv 8)) (mp_of_f (mf_lst (md_cons (mp_add (mp_cut (mp_ix (mp_tvar (pv 5)) mp_int) mo_none (mo_some (mp_neg mp_int))) (mp_tup (md_cons mp_int md_nil))) (md_cons (mp_add (mp_cut (mp_ix (mp_tvar (pv 5)) mp_int) mo_none (mo_some (mp_neg mp_int))) (mp_tup (md_cons (mp_neg mp_int) md_nil))) (md_cons (mp_add (mp_cut (mp_ix (mp_tvar (pv 5)) mp_int) mo_none (mo_some (mp_neg mp_int))) (mp_tup (md_cons mp_bl md_nil))) (md_cons (mp_add (mp_tup (md_cons mp_str md_nil)) (mp_cut (mp_ix (mp_tvar (pv 5)) mp_int) (mo_some mp_int) mo_none)) md_nil)))))))) (mss_cons (ms_set (i := 8) sc_law.nd rfl (.inl rfl) (mp_add (mp_tvar (pv 8)) (mp_of_f (mf_lst (md_cons (mp_add (mp_tup (md_cons (mp_of_f (mf_lst md_nil)) md_nil)) (mp_cut (mp_ix (mp_tvar (pv 5)) mp_int) (mo_some mp_int) mo_none)) (md_cons (mp_tup (md_cons mp_int (md_cons mp_int (md_cons mp_int md_nil)))) (md_cons (mp_tup (md_cons mp_int (md_cons mp_int (md_cons mp_int md_nil)))) md_nil))))))) (mss_one (ms_fgt [4, 5, 7, 8, 9] (ms_for PassesOwn.never rfl (mi_seq (mp_tvar (pv 8))) (mg_name (i := 7) sc_law.nd rfl (.inr rfl)) (mss_fgt [7, 9] (mss_cons (ms_fgt [7] (ms_set (i := 9) sc_law.nd rfl (.inr rfl) (mp_add (mp_add (mp_cut (mp_tvar (pv 5)) mo_none (mo_some (mp_tvar (pv 3)))) (mp_tup (md_cons (mp_tvar (pv 7)) md_nil))) (mp_repA (mp_tup (md_cons mp_non md_nil)) (mp_sub (mp_sub (mp_tvar (pv 2)) (mp_tvar (pv 3))) mp_int))))) (mss_one (ms_fgt [9] (ms_if (mt_b (mp_ne hr.units (mp_told (k := 8) t__law_told hL (hr.mono (by decide)) rfl (LamX.lamS_by (by first | (show LamX.lamSB (defScope s_law) _ = true; decide +kernel) | kernel_rfl)) (fun A outer s H E f c1 hr tk => (mp_def d__law_ask hr (by decide) rfl (passAt tk) (ma_cons (mp_tvar (pv 4)) (ma_cons (mp_tvar (pv 9)) (ma_cons mp_non ma_nil)))))) (mp_tup (md_cons mp_str (md_cons (mp_tvar (pv 3)) md_nil))))) (mss_one (ms_retC mp_bl)) mss_nil)))))))))))))))) (mss_cons (ms_names (is := [5, 10]) rfl (pgs_cons (pg_name (i := 5) sc_law.nd rfl (.inr rfl)) (pgs_cons (pg_name (i := 10) sc_law.nd rfl (.inl rfl)) pgs_nil)) (mx_p (mp_repA (mp_tup (md_cons (mp_tup (md_cons mp_int (md_cons mp_int (md_cons mp_int md_nil)))) md_nil)) (mp_tvar (pv 2))) (mx_p (mp_repT (mp_tup (md_cons (mp_tup (md_cons mp_int (md_cons mp_int md_nil))) md_nil)) mp_int) mx_nil)) rfl) (mss_cons (ms_fgt [2, 3, 4, 5, 7, 9, 10] (ms_for PassesOwn.never rfl (mi_seq (mp_of_f (mf_lst (md_cons mp_int (md_cons mp_int (md_cons mp_int md_nil)))))) (mg_name (i := 4) sc_law.nd rfl (.inr rfl)) (mss_fgt [4, 7, 9] (mss_cons (ms_fgt [7] (ms_for PassesOwn.never rfl (mi_seq (mp_of_f (mf_lst (md_cons mp_non (md_cons (mp_of_f (mf_lst md_nil)) (md_cons (mp_of_f (mf_lst (md_cons (mp_tup (md_cons mp_int (md_cons mp_int md_nil))) md_nil))) (md_cons mp_int (md_cons mp_emp (md_cons mp_str (md_cons (mp_repT (mp_tup (md_cons (mp_tup (md_cons mp_int (md_cons mp_int md_nil))) md_nil)) mp_int) (md_cons (mp_tup (md_cons (mp_tup (md_cons mp_int (md_cons mp_int md_nil))) (md_cons (mp_tup (md_cons mp_int (md_cons mp_int md_nil))) md_nil))) md_nil))))))))))) (mg_name (i := 7) sc_law.nd rfl (.inr rfl)) (mss_fgt [7] (mss_one (ms_fgt [7] (ms_if (mt_b (mp_ne hr.units (mp_told (k := 8) t__law_told hL (hr.mono (by decide)) rfl (LamX.lamS_by (by first | (show LamX.lamSB (defScope s_law) _ = true; decide +kernel) | kernel_rfl)) (fun A outer s H E f c1 hr tk => (mp_def d__law_ask hr (by decide) rfl (passAt tk) (ma_cons (mp_tvar (pv 4)) (ma_cons (mp_tvar (pv 5)) (ma_cons (mp_tvar (pv 7)) ma_nil)))))) (mp_tup (md_cons mp_str (md_cons mp_non md_nil))))) (mss_one (ms_retC mp_bl)) mss_nil)))))) (mss_cons (ms_fgt [7, 9] (ms_for PassesOwn.never rfl (mi_seq (mp_of_f (mf_lst (md_cons mp_non (md_cons (mp_of_f (mf_lst (md_cons mp_int (md_cons mp_int md_nil)))) (md_cons (mp_tup (md_cons mp_int md_nil)) (md_cons (mp_tup (md_cons mp_int (md_cons mp_int md_nil))) (md_cons (mp_tup (md_cons mp_int (md_cons (mp_tvar (pv 2)) md_nil))) (md_cons (mp_tup (md_cons (mp_neg mp_int) (md_cons mp_int md_nil))) (md_cons (mp_tup (md_cons mp_bl (md_cons mp_int md_nil))) (md_cons (mp_tup (md_cons mp_int (md_cons mp_int (md_cons mp_int md_nil)))) (md_cons mp_str (md_cons (mp_tup (md_cons (mp_of_f (mf_lst md_nil)) (md_cons mp_int md_nil))) (md_cons mp_emp md_nil)))))))))))))) (mg_name (i := 7) sc_law.nd rfl (.inr rfl)) (mss_fgt [7, 9] (mss_cons (ms_fgt [7] (ms_set (i := 9) sc_law.nd rfl (.inr rfl) (mp_add (mp_add (mp_cut (mp_tvar (pv 10)) mo_none (mo_some (mp_tvar (pv 3)))) (mp_tup (md_cons (mp_tvar (pv 7)) md_nil))) (mp_repT (mp_tup (md_cons mp_non md_nil)) mp_int)))) (mss_one (ms_fgt [9] (ms_if (mt_b (mp_ne hr.units (mp_told (k := 8) t__law_told hL (hr.mono (by decide)) rfl (LamX.lamS_by (by first | (show LamX.lamSB (defScope s_law) _ = true; decide +kernel) | kernel_rfl)) (fun A outer s H E f c1 hr tk => (mp_def d__law_ask hr (by decide) rfl (passAt tk) (ma_cons (mp_tvar (pv 4)) (ma_cons (mp_tvar (pv 5)) (ma_cons (mp_tvar (pv 9)) ma_nil)))))) (mp_tup (md_cons mp_str (md_cons (mp_tvar (pv 3)) md_nil))))) (mss_one (ms_retC mp_bl)) mss_nil))))))) (mss_one (ms_fgt [4] (ms_if (mt_b (mp_notN (mp_told (k := 8) t__law_told hL (hr.mono (by decide)) rfl (LamX.lamS_by (by first | (show LamX.lamSB (defScope s_law) _ = true; decide +kernel) | kernel_rfl)) (fun A outer s H E f c1 hr tk => (mp_def d__law_ask hr (by decide) rfl (passAt tk) (ma_cons (mp_tvar (pv 4)) (ma_cons (mp_tvar (pv 5)) (ma_cons (mp_repT (mp_tup (md_cons (mp_tup (md_cons mp_int (md_cons mp_int md_nil))) md_nil)) mp_int) ma_nil)))))))) (mss_one (ms_retC mp_bl)) mss_nil)))))))) (mss_cons (ms_set (i := 11) sc_law.nd rfl (.inl rfl) (mp_tup (md_cons (mp_tup (md_cons mp_int (md_cons mp_int (md_cons mp_int md_nil)))) (md_cons (mp_tup (md_cons mp_int (md_cons mp_int (md_cons mp_int md_nil)))) (md_cons (mp_tup (md_cons mp_int (md_cons mp_int (md_cons mp_int md_nil)))) md_nil))))) (mss_cons (ms_set (i := 12) sc_law.nd rfl (.inl rfl) (mp_of_f (mf_lst (md_cons (mp_def d_shows_units hr (by decide) rfl atN (ma_cons (mp_tvar (pv 11)) (ma_cons (mp_tup (md_cons mp_int (md_cons mp_int (md_cons mp_int (md_cons mp_int (md_cons mp_int (md_cons mp_int md_nil))))))) ma_nil))) (md_cons (mp_def d_shows_units hr (by decide) rfl atN (ma_cons (mp_tvar (pv 11)) (ma_cons (mp_tup (md_cons mp_non (md_cons mp_int (md_cons mp_int (md_cons mp_int (md_cons mp_int (md_cons mp_int (md_cons mp_int md_nil)))))))) ma_nil))) (md_cons (mp_def d_shows_units hr (by decide) rfl atN (ma_cons (mp_tvar (pv 11)) (ma_cons (mp_tup (md_cons mp_int (md_cons mp_int (md_cons mp_int md_nil)))) ma_nil))) md_nil)))))) (mss_cons (ms_fgt [12] (ms_if (mt_of_w (mw_or (mt_b (mp_notN (mp_def d_full_window hr (by decide) rfl atN (ma_cons (mp_tvar (pv 11)) ma_nil)))) (mw_or1 (mt_b (mp_ne hr.units (mp_tvar (pv 12)) (mp_of_f (mf_lst (md_cons mp_bl (md_cons mp_bl (md_cons mp_bl md_nil)))))))))) (mss_one (ms_retC mp_bl)) mss_nil)) (mss_cons (ms_if (mt_of_w (mw_or (mt_b (mp_ne hr.units (mp_def d_full_window hr (by decide) rfl atN (ma_cons (mp_tup (md_cons (mp_tup (md_cons mp_int (md_cons mp_int (md_cons mp_int md_nil)))) (md_cons (mp_tup (md_cons mp_int (md_cons mp_int (md_cons mp_int md_nil)))) md_nil))) ma_nil)) (mp_tup (md_cons mp_int (md_cons mp_int md_nil))))) (mw_or (mt_b (mp_ne hr.units (mp_def d_least_lateness hr (by decide) rfl atN (ma_cons (mp_tvar (pv 11)) ma_nil)) mp_int)) (mw_or1 (mt_b (mp_ne hr.units (mp_def d_full_window hr (by decide) rfl atN (ma_cons (mp_tup (md_cons (mp_tup (md_cons mp_int (md_cons mp_int (md_cons mp_int md_nil)))) md_nil)) ma_nil)) (mp_tup (md_cons mp_int (md_cons mp_int md_nil))))))))) (mss_one (ms_retC mp_bl)) mss_nil) (mss_cons (ms_fgt [11] (ms_if (mt_of_w (mw_or (mt_b (mp_ne hr.units (mp_def d_tightened hr (by decide) rfl atN (ma_cons (mp_tvar (pv 11)) (ma_cons (mp_tup (md_cons (mp_tup (md_cons mp_int (md_cons mp_int md_nil))) md_nil)) ma_nil))) (mp_tup (md_cons (mp_tup (md_cons mp_int (md_cons mp_int (md_cons mp_int md_nil)))) (md_cons (mp_tup (md_cons mp_int (md_cons mp_int (md_cons mp_int md_nil)))) (md_cons (mp_tup (md_cons mp_int (md_cons mp_int (md_cons mp_int md_nil)))) md_nil)))))) (mw_or1 (mt_b (mp_notN (mp_def d_linked_schedule hr (by decide) rfl atN (ma_cons (mp_tvar (pv 11)) (ma_cons (mp_tup (md_cons (mp_tup (md_cons mp_int (md_cons mp_int md_nil))) md_nil)) ma_nil)))))))) (mss_one (ms_retC mp_bl)) mss_nil)) (mss_one (ms_retC (mp_and (mp_b (mp_eq hr.units (mp_def d_most_on_time hr (by decide) rfl atN (ma_cons (mp_tup (md_cons (mp_tup (md_cons mp_int (md_cons mp_int (md_cons mp_int md_nil)))) (md_cons (mp_tup (md_cons mp_int (md_cons mp_int (md_cons mp_int md_nil)))) (md_cons (mp_tup (md_cons mp_int (md_cons mp_int (md_cons mp_int md_nil)))) md_nil)))) ma_nil)) (mp_tup (md_cons mp_int (md_cons mp_int md_nil))))) (mp_one (mp_b (mp_eq hr.units (mp_def d_best_units hr (by decide) rfl atN (ma_cons (mp_tup (md_cons (mp_tup (md_cons mp_int (md_cons mp_int md_nil))) (md_cons (mp_tup (md_cons mp_int (md_cons mp_int md_nil))) (md_cons (mp_tup (md_cons mp_int (md_cons mp_int md_nil))) md_nil)))) ma_nil)) (mp_tup (md_cons mp_int (md_cons mp_int md_nil))))))))))))))))))))
end
instance dummyLC : LamC := ⟨[]⟩
/-! ### the head -/
def dd__law_taken : He.DefD := ⟨("_law_taken", none), "_law_taken", "_law_taken", defArgs s__law_taken, defBody s__law_taken, defScope s__law_taken, [], []⟩
def dd_is_tuple : He.DefD := ⟨("is_tuple", none), "is_tuple", "is_tuple", defArgs s_is_tuple, defBody s_is_tuple, defScope s_is_tuple, [], []⟩
def dd_is_number : He.DefD := ⟨("is_number", none), "is_number", "is_number", defArgs s_is_number, defBody s_is_number, defScope s_is_number, [], []⟩
def dd_is_integer : He.DefD := ⟨("is_integer", none), "is_integer", "is_integer", defArgs s_is_integer, defBody s_is_integer, defScope s_is_integer, [], []⟩
def dd_is_row : He.DefD := ⟨("is_row", none), "is_row", "is_row", defArgs s_is_row, defBody s_is_row, defScope s_is_row, [], []⟩
def dd_check_rows : He.DefD := ⟨("check_rows", none), "check_rows", "check_rows", defArgs s_check_rows, defBody s_check_rows, defScope s_check_rows, [], []⟩
def dd_check_long_jobs : He.DefD := ⟨("check_long_jobs", none), "check_long_jobs", "check_long_jobs", defArgs s_check_long_jobs, defBody s_check_long_jobs, defScope s_check_long_jobs, [], []⟩
def dd_shows_units : He.DefD := ⟨("shows_units", none), "shows_units", "shows_units", defArgs s_shows_units, defBody s_shows_units, defScope s_shows_units, [], []⟩
def dd__law_told : He.DefD := ⟨("_law_told", none), "_law_told", "_law_told", defArgs s__law_told, defBody s__law_told, defScope s__law_told, [], []⟩
def dd_least_full_window : He.DefD := ⟨("least_full_window", none), "least_full_window", "least_full_window", defArgs s_least_full_window, defBody s_least_full_window, defScope s_least_full_window, [], []⟩
def dd_full_window : He.DefD := ⟨("full_window", none), "full_window", "full_window", defArgs s_full_window, defBody s_full_window, defScope s_full_window, [], []⟩
def dd_greatest_lateness : He.DefD := ⟨("greatest_lateness", none), "greatest_lateness", "greatest_lateness", defArgs s_greatest_lateness, defBody s_greatest_lateness, defScope s_greatest_lateness, [], []⟩
def dd_earliest_due_units : He.DefD := ⟨("earliest_due_units", none), "earliest_due_units", "earliest_due_units", defArgs s_earliest_due_units, defBody s_earliest_due_units, defScope s_earliest_due_units, [], []⟩
def dd_least_lateness : He.DefD := ⟨("least_lateness", none), "least_lateness", "least_lateness", defArgs s_least_lateness, defBody s_least_lateness, defScope s_least_lateness, [], []⟩
def dd_linked_order : He.DefD := ⟨("linked_order", none), "linked_order", "linked_order", defArgs s_linked_order, defBody s_linked_order, defScope s_linked_order, [], []⟩
def dd_check_links : He.DefD := ⟨("check_links", none), "check_links", "check_links", defArgs s_check_links, defBody s_check_links, defScope s_check_links, [], []⟩
def dd_check_linked_jobs : He.DefD := ⟨("check_linked_jobs", none), "check_linked_jobs", "check_linked_jobs", defArgs s_check_linked_jobs, defBody s_check_linked_jobs, defScope s_check_linked_jobs, [], []⟩
def dd_tightened_jobs : He.DefD := ⟨("tightened_jobs", none), "tightened_jobs", "tightened_jobs", defArgs s_tightened_jobs, defBody s_tightened_jobs, defScope s_tightened_jobs, [], []⟩
def dd_tightened : He.DefD := ⟨("tightened", none), "tightened", "tightened", defArgs s_tightened, defBody s_tightened, defScope s_tightened, [], []⟩
def dd_schedule_in_time : He.DefD := ⟨("schedule_in_time", none), "schedule_in_time", "schedule_in_time", defArgs s_schedule_in_time, defBody s_schedule_in_time, defScope s_schedule_in_time, [], []⟩
def dd_linked_schedule : He.DefD := ⟨("linked_schedule", none), "linked_schedule", "linked_schedule", defArgs s_linked_schedule, defBody s_linked_schedule, defScope s_linked_schedule, [], []⟩
def dd_most_on_time : He.DefD := ⟨("most_on_time", none), "most_on_time", "most_on_time", defArgs s_most_on_time, defBody s_most_on_time, defScope s_most_on_time, [], []⟩
def dd_check_pair_jobs : He.DefD := ⟨("check_pair_jobs", none), "check_pair_jobs", "check_pair_jobs", defArgs s_check_pair_jobs, defBody s_check_pair_jobs, defScope s_check_pair_jobs, [], []⟩
def dd_fit_one_by_one : He.DefD := ⟨("fit_one_by_one", none), "fit_one_by_one", "fit_one_by_one", defArgs s_fit_one_by_one, defBody s_fit_one_by_one, defScope s_fit_one_by_one, [], []⟩
def dd_best_units : He.DefD := ⟨("best_units", none), "best_units", "best_units", defArgs s_best_units, defBody s_best_units, defScope s_best_units, [], []⟩
def dd_unit_schedule : He.DefD := ⟨("unit_schedule", none), "unit_schedule", "unit_schedule", defArgs s_unit_schedule, defBody s_unit_schedule, defScope s_unit_schedule, [], []⟩
def dd_least_late_order : He.DefD := ⟨("least_late_order", none), "least_late_order", "least_late_order", defArgs s_least_late_order, defBody s_least_late_order, defScope s_least_late_order, [], []⟩
def dd__law_ask : He.DefD := ⟨("_law_ask", none), "_law_ask", "_law_ask", defArgs s__law_ask, defBody s__law_ask, defScope s__law_ask, [], []⟩
def dd_law : He.DefD := ⟨("law", none), "law", "law", defArgs s_law, defBody s_law, defScope s_law, [], []⟩
def fn : List He.DefD := [dd__law_taken, dd_is_tuple, dd_is_number, dd_is_integer, dd_is_row, dd_check_rows, dd_check_long_jobs, dd_shows_units, dd__law_told, dd_least_full_window, dd_full_window, dd_greatest_lateness, dd_earliest_due_units, dd_least_lateness, dd_linked_order, dd_check_links, dd_check_linked_jobs, dd_tightened_jobs, dd_tightened, dd_schedule_in_time, dd_linked_schedule, dd_most_on_time, dd_check_pair_jobs, dd_fit_one_by_one, dd_best_units, dd_unit_schedule, dd_least_late_order, dd__law_ask, dd_law]
def fa : List He.Fa := [.glo "_law_taken", .glo "is_tuple", .glo "is_number", .glo "is_integer", .glo "is_row", .glo "check_rows", .glo "check_long_jobs", .glo "shows_units", .glo "_law_told", .glo "least_full_window", .glo "full_window", .glo "greatest_lateness", .glo "earliest_due_units", .glo "least_lateness", .glo "linked_order", .glo "check_links", .glo "check_linked_jobs", .glo "tightened_jobs", .glo "tightened", .glo "schedule_in_time", .glo "linked_schedule", .glo "most_on_time", .glo "check_pair_jobs", .glo "fit_one_by_one", .glo "best_units", .glo "unit_schedule", .glo "least_late_order", .glo "_law_ask", .glo "law", .free "all", .free "bool", .free "enumerate", .free "int", .free "isinstance", .free "len", .free "list", .free "max", .free "min", .free "range", .free "reversed", .free "sorted", .free "sum", .free "super", .free "tuple", .free "zip", .int "LAST_TIME" 100, .int "MOST_JOB_LENGTH" 20, .int "MOST_LINKS" 12, .int "MOST_LONG_JOBS" 7, .int "MOST_PAIR_JOBS" 8, .glo "BadJobs", .glo "BadLinks"]
def st_BadJobs : Stmt := (match topS 2 with | .ClassDef (body := b) .. => b | _ => []).getD 0 (.Pass ⟨0, 0, 0, 0⟩)
def ci_BadJobs : CsD := ⟨"BadJobs", "index", "BadJobs.__init__", defArgs st_BadJobs, defBody st_BadJobs, defScope st_BadJobs⟩
theorem is_BadJobs : ci_BadJobs.Is := ⟨_, _, _, _, _, _, _, _, _, _, _, _, _, _, _, _, _, rfl, rfl, rfl, by decide, by decide⟩
def st_BadLinks : Stmt := (match topS 3 with | .ClassDef (body := b) .. => b | _ => []).getD 0 (.Pass ⟨0, 0, 0, 0⟩)
def ci_BadLinks : CsD := ⟨"BadLinks", "index", "BadLinks.__init__", defArgs st_BadLinks, defBody st_BadLinks, defScope st_BadLinks⟩
theorem is_BadLinks : ci_BadLinks.Is := ⟨_, _, _, _, _, _, _, _, _, _, _, _, _, _, _, _, _, rfl, rfl, rfl, by decide, by decide⟩
def cis : List CsD := [ci_BadJobs, ci_BadLinks]
def bx : List (Str × String) := []
abbrev R : PySem.W.OpenRow := PySem.W.OpenLaw.row PySem.Challenge.rw_eventcore_k46_interrupted_refused
def lamN : List Str := ["earliest_due_units", "linked_order", "most_on_time", "best_units", "law"]
abbrev tf : List He.Defn := lamN.map fun n => (n, none)
def ev : Str := "EventError"
abbrev exf : PySem.W.Frag → Bool := exY bx lamN R.prog.main.file ev cls fds cis
abbrev hk : PySem.W.Hook := hookY 4 fa fn tf exf cis
def loose0 : List Str := ["EventError", "BadJobs", "BadLinks", "is_number", "is_integer", "is_tuple", "is_row", "MOST_JOB_LENGTH", "LAST_TIME", "MOST_PAIR_JOBS", "MOST_LONG_JOBS", "MOST_LINKS", "check_rows", "check_pair_jobs", "check_long_jobs", "linked_order", "check_links", "earliest_due_units", "greatest_lateness", "schedule_in_time", "least_full_window", "unit_schedule", "shows_units", "full_window", "least_lateness", "check_linked_jobs", "least_late_order", "most_on_time", "fit_one_by_one", "best_units"]
def loose1 : List Str := ["tightened_jobs", "tightened", "linked_schedule", "_law_taken", "_law_pick", "_law_told", "_law_ask"]
abbrev loose : List Str := loose0 ++ loose1
open PySem.W in
set_option maxHeartbeats 0 in
theorem r1 (w : World) : (Fv.runI 4000 4000 R.prog w).map (fun r => HandSHeadRun.looksF R.prog r.1.heap r.2.abs) = some true := by kernel_rfl
open PySem.W in
set_option maxHeartbeats 0 in
theorem r2 (w : World) : (Fv.runI 4000 4000 R.prog w).map (fun r => HandSHeadRun.seenQ (view R.prog [43]) loose (importedModules R.prog.main.body) (fun s => xlAt (view R.prog [43]) [] s && recOk R.toRowW.records s) r.2.abs) = some (openGood (view R.prog [43]) loose) := by kernel_rfl
open PySem.W in
set_option maxHeartbeats 0 in
theorem r3 (w : World) : (Fv.runI 4000 4000 R.prog w).map (fun r => obsY 4 fa fn tf exf cis (HandSHeadRun.getT r.2)) = some (hk.val w) := by kernel_rfl
open PySem.W in
theorem left : LeftO R.prog (view R.prog [43]) loose (fun s => xlAt (view R.prog [43]) [] s && recOk R.toRowW.records s) hk.obs hk.val 4000 := Fv.left_imp3 (M := 4000) (by decide) (fun _ => Fv.obsY_tree _) r1 r2 r3
set_option maxHeartbeats 4000000 in
theorem facts {P : Program} {w : World} {K : PySem.W.Frag} {h : Heap} {mg : Str → Option Value} {f : Addr} (X : K.In h) (G : h.Ns mainGlobals mg) (hfa : mg ("law" : Str) = some (.ref f)) (cc : He.SaysX fa fn [] tf exf w h K) (zc : cis.map (inObs K) = cis.map CsD.val) (hfile : P.main.file = R.prog.main.file) (htop : (P.main.scope.names.lookup ("super" : Str)).isSome = false) :
    ∃ fd : FuncData, (∀ (s : Shared) (v : Value), BindsTo s fd ⟨[v], []⟩ [("script", v)]) ∧ ∀ base : Heap, K.In base → base.Ns mainGlobals mg → (∀ m ∈ lamN, @LamD (lamC K lamN) K mg base m) → FnOk P w K mg base CX0 11 f fd ["script"] (@spF (lamC K lamN) K mg 1 F_law) := by
  letI LC : LamC := lamC K lamN
  have c : He.SaysD fa fn K := cc.t.d
  obtain ⟨hB, hCI⟩ := Bool.and_eq_true_iff.mp cc.more
  obtain ⟨hC, hI⟩ := Bool.and_eq_true_iff.mp hCI
  have g_BadJobs : mg ("BadJobs" : Str) = some (.ref (He.ga K ("BadJobs" : Str))) := He.glo_ok X G (c.fact 50 (f := .glo "BadJobs") rfl)
  have g_BadLinks : mg ("BadLinks" : Str) = some (.ref (He.ga K ("BadLinks" : Str))) := He.glo_ok X G (c.fact 51 (f := .glo "BadLinks") rfl)
  have t_BadJobs : Su.Txt P K (He.ga K ("BadJobs" : Str)) ("index" : Str) := txt_of (c := ci_BadJobs) hfile (List.all_eq_true.mp hI ci_BadJobs (by simp [cis])) (cs_at zc 0 rfl) is_BadJobs
  have t_BadLinks : Su.Txt P K (He.ga K ("BadLinks" : Str)) ("index" : Str) := txt_of (c := ci_BadLinks) hfile (List.all_eq_true.mp hI ci_BadLinks (by simp [cis])) (cs_at zc 1 rfl) is_BadLinks
  have F : ClsF K mg ("EventError" : Str) cls fds := clsF_of X G hC
  have m_all : mg ("all" : Str) = none := He.free_ok X G (c.fact 29 (f := .free "all") rfl)
  have m_bool : mg ("bool" : Str) = none := He.free_ok X G (c.fact 30 (f := .free "bool") rfl)
  have m_enumerate : mg ("enumerate" : Str) = none := He.free_ok X G (c.fact 31 (f := .free "enumerate") rfl)
  have m_int : mg ("int" : Str) = none := He.free_ok X G (c.fact 32 (f := .free "int") rfl)
  have m_isinstance : mg ("isinstance" : Str) = none := He.free_ok X G (c.fact 33 (f := .free "isinstance") rfl)
  have m_len : mg ("len" : Str) = none := He.free_ok X G (c.fact 34 (f := .free "len") rfl)
  have m_list : mg ("list" : Str) = none := He.free_ok X G (c.fact 35 (f := .free "list") rfl)
  have m_max : mg ("max" : Str) = none := He.free_ok X G (c.fact 36 (f := .free "max") rfl)
  have m_min : mg ("min" : Str) = none := He.free_ok X G (c.fact 37 (f := .free "min") rfl)
  have m_range : mg ("range" : Str) = none := He.free_ok X G (c.fact 38 (f := .free "range") rfl)
  have m_reversed : mg ("reversed" : Str) = none := He.free_ok X G (c.fact 39 (f := .free "reversed") rfl)
  have m_sorted : mg ("sorted" : Str) = none := He.free_ok X G (c.fact 40 (f := .free "sorted") rfl)
  have m_sum : mg ("sum" : Str) = none := He.free_ok X G (c.fact 41 (f := .free "sum") rfl)
  have m_super : mg ("super" : Str) = none := He.free_ok X G (c.fact 42 (f := .free "super") rfl)
  have m_tuple : mg ("tuple" : Str) = none := He.free_ok X G (c.fact 43 (f := .free "tuple") rfl)
  have m_zip : mg ("zip" : Str) = none := He.free_ok X G (c.fact 44 (f := .free "zip") rfl)
  have c_LAST_TIME : ∃ t, mg ("LAST_TIME" : Str) = some (.int 100 t) := He.int_ok X G (c.fact 45 (f := .int "LAST_TIME" 100) rfl)
  have c_MOST_JOB_LENGTH : ∃ t, mg ("MOST_JOB_LENGTH" : Str) = some (.int 20 t) := He.int_ok X G (c.fact 46 (f := .int "MOST_JOB_LENGTH" 20) rfl)
  have c_MOST_LINKS : ∃ t, mg ("MOST_LINKS" : Str) = some (.int 12 t) := He.int_ok X G (c.fact 47 (f := .int "MOST_LINKS" 12) rfl)
  have c_MOST_LONG_JOBS : ∃ t, mg ("MOST_LONG_JOBS" : Str) = some (.int 7 t) := He.int_ok X G (c.fact 48 (f := .int "MOST_LONG_JOBS" 7) rfl)
  have c_MOST_PAIR_JOBS : ∃ t, mg ("MOST_PAIR_JOBS" : Str) = some (.int 8 t) := He.int_ok X G (c.fact 49 (f := .int "MOST_PAIR_JOBS" 8) rfl)
  obtain ⟨fd, FL⟩ := c.def_ 28 (d := dd_law) rfl
  have e := hfa.symm.trans (He.glo_ok X G (c.fact 28 (f := .glo "law") rfl))
  cases e
  have b := FunD.bindsA (ps := ["script"]) FL fun _ _ _ _ _ _ us hl => match us, hl with | [_], _ => rfl
  refine ⟨fd, fun s v => b s [v] rfl, fun base _ _ lm => ?_⟩
  have l_earliest_due_units : LamD K mg base ("earliest_due_units" : Str) := lm ("earliest_due_units" : Str) (by decide)
  have l_linked_order : LamD K mg base ("linked_order" : Str) := lm ("linked_order" : Str) (by decide)
  have l_most_on_time : LamD K mg base ("most_on_time" : Str) := lm ("most_on_time" : Str) (by decide)
  have l_best_units : LamD K mg base ("best_units" : Str) := lm ("best_units" : Str) (by decide)
  have l_law : LamD K mg base ("law" : Str) := lm ("law" : Str) (by decide)
  have d__law_taken : Def P w K mg base CX0 1 ("_law_taken" : Str) ["row", "many"] F__law_taken := by
    obtain ⟨fd, FD⟩ := c.def_ 0 (d := dd__law_taken) rfl
    exact def_mkX FD (w__law_taken m_int m_len FD) (He.glo_ok X G (c.fact 0 (f := .glo "_law_taken") rfl)) fun _ _ _ _ _ _ us hl => match us, hl with | [_, _], _ => rfl
  have d_is_tuple : Def P w K mg base CX0 1 ("is_tuple" : Str) ["value", "least", "most"] F_is_tuple := by
    obtain ⟨fd, FD⟩ := c.def_ 1 (d := dd_is_tuple) rfl
    exact def_mkX FD (w_is_tuple m_isinstance m_len m_tuple FD) (He.glo_ok X G (c.fact 1 (f := .glo "is_tuple") rfl)) fun _ _ _ _ _ _ us hl => match us, hl with | [_, _, _], _ => rfl
  have d_is_number : Def P w K mg base CX0 1 ("is_number" : Str) ["value"] F_is_number := by
    obtain ⟨fd, FD⟩ := c.def_ 2 (d := dd_is_number) rfl
    exact def_mkX FD (w_is_number m_bool m_int m_isinstance FD) (He.glo_ok X G (c.fact 2 (f := .glo "is_number") rfl)) fun _ _ _ _ _ _ us hl => match us, hl with | [_], _ => rfl
  have d_is_integer : Def P w K mg base CX0 2 ("is_integer" : Str) ["value", "low", "high"] F_is_integer := by
    obtain ⟨fd, FD⟩ := c.def_ 3 (d := dd_is_integer) rfl
    exact def_mkX FD (w_is_integer d_is_number FD) (He.glo_ok X G (c.fact 3 (f := .glo "is_integer") rfl)) fun _ _ _ _ _ _ us hl => match us, hl with | [_, _, _], _ => rfl
  have d_is_row : Def P w K mg base CX0 3 ("is_row" : Str) ["value", "ranges"] F_is_row := by
    obtain ⟨fd, FD⟩ := c.def_ 4 (d := dd_is_row) rfl
    exact def_mkX FD (w_is_row m_len m_zip d_is_tuple d_is_integer FD) (He.glo_ok X G (c.fact 4 (f := .glo "is_row") rfl)) fun _ _ _ _ _ _ us hl => match us, hl with | [_, _], _ => rfl
  have d_check_rows : Def P w K mg base (L2.CX P w) 4 ("check_rows" : Str) ["jobs", "most", "ranges"] F_check_rows := by
    obtain ⟨fd, FD⟩ := c.def_ 5 (d := dd_check_rows) rfl
    exact def_mkX FD (w_check_rows m_enumerate m_super d_is_tuple d_is_row t_BadJobs g_BadJobs htop FD) (He.glo_ok X G (c.fact 5 (f := .glo "check_rows") rfl)) fun _ _ _ _ _ _ us hl => match us, hl with | [_, _, _], _ => rfl
  have d_check_long_jobs : Def P w K mg base (L2.CX P w) 5 ("check_long_jobs" : Str) ["jobs"] F_check_long_jobs := by
    obtain ⟨fd, FD⟩ := c.def_ 6 (d := dd_check_long_jobs) rfl
    exact def_mkX FD (w_check_long_jobs c_LAST_TIME c_MOST_JOB_LENGTH c_MOST_LONG_JOBS d_check_rows FD) (He.glo_ok X G (c.fact 6 (f := .glo "check_long_jobs") rfl)) fun _ _ _ _ _ _ us hl => match us, hl with | [_], _ => rfl
  have d_shows_units : Def P w K mg base (L2.CX P w) 6 ("shows_units" : Str) ["jobs", "value"] F_shows_units := by
    obtain ⟨fd, FD⟩ := c.def_ 7 (d := dd_shows_units) rfl
    exact def_mkX FD (w_shows_units m_enumerate m_isinstance m_len m_tuple d_check_long_jobs d_is_integer FD) (He.glo_ok X G (c.fact 7 (f := .glo "shows_units") rfl)) fun _ _ _ _ _ _ us hl => match us, hl with | [_, _], _ => rfl
  have t__law_told : Told P w K mg base ("_law_told" : Str) frm__law_told hand__law_told := by
    obtain ⟨fd, FD⟩ := c.def_ 8 (d := dd__law_told) rfl
    exact w__law_told m_isinstance F (He.glo_ok X G (c.fact 8 (f := .glo "_law_told") rfl)) FD
  have d_least_full_window : Def P w K mg base CX0 1 ("least_full_window" : Str) ["jobs"] F_least_full_window := by
    obtain ⟨fd, FD⟩ := c.def_ 9 (d := dd_least_full_window) rfl
    exact def_mkX FD (w_least_full_window m_max m_sorted m_sum FD) (He.glo_ok X G (c.fact 9 (f := .glo "least_full_window") rfl)) fun _ _ _ _ _ _ us hl => match us, hl with | [_], _ => rfl
  have d_full_window : Def P w K mg base (L2.CX P w) 6 ("full_window" : Str) ["jobs"] F_full_window := by
    obtain ⟨fd, FD⟩ := c.def_ 10 (d := dd_full_window) rfl
    exact def_mkX FD (w_full_window d_check_long_jobs d_least_full_window FD) (He.glo_ok X G (c.fact 10 (f := .glo "full_window") rfl)) fun _ _ _ _ _ _ us hl => match us, hl with | [_], _ => rfl
  have d_greatest_lateness : Def P w K mg base CX0 1 ("greatest_lateness" : Str) ["jobs", "units"] F_greatest_lateness := by
    obtain ⟨fd, FD⟩ := c.def_ 11 (d := dd_greatest_lateness) rfl
    exact def_mkX FD (w_greatest_lateness m_enumerate m_max FD) (He.glo_ok X G (c.fact 11 (f := .glo "greatest_lateness") rfl)) fun _ _ _ _ _ _ us hl => match us, hl with | [_, _], _ => rfl
  have d_earliest_due_units : Def P w K mg base CX0 3 ("earliest_due_units" : Str) ["jobs"] F_earliest_due_units := by
    obtain ⟨fd, FD⟩ := c.def_ 12 (d := dd_earliest_due_units) rfl
    exact def_mkX FD (w_earliest_due_units m_enumerate m_len m_max m_min m_tuple l_earliest_due_units FD) (He.glo_ok X G (c.fact 12 (f := .glo "earliest_due_units") rfl)) fun _ _ _ _ _ _ us hl => match us, hl with | [_], _ => rfl
  have d_least_lateness : Def P w K mg base (L2.CX P w) 6 ("least_lateness" : Str) ["jobs"] F_least_lateness := by
    obtain ⟨fd, FD⟩ := c.def_ 13 (d := dd_least_lateness) rfl
    exact def_mkX FD (w_least_lateness d_check_long_jobs d_greatest_lateness d_earliest_due_units FD) (He.glo_ok X G (c.fact 13 (f := .glo "least_lateness") rfl)) fun _ _ _ _ _ _ us hl => match us, hl with | [_], _ => rfl
  have d_linked_order : Def P w K mg base CX0 3 ("linked_order" : Str) ["dues", "links"] F_linked_order := by
    obtain ⟨fd, FD⟩ := c.def_ 14 (d := dd_linked_order) rfl
    exact def_mkX FD (w_linked_order m_len m_list m_max m_range m_tuple l_linked_order FD) (He.glo_ok X G (c.fact 14 (f := .glo "linked_order") rfl)) fun _ _ _ _ _ _ us hl => match us, hl with | [_, _], _ => rfl
  have d_check_links : Def P w K mg base (L2.CX P w) 4 ("check_links" : Str) ["links", "many"] F_check_links := by
    obtain ⟨fd, FD⟩ := c.def_ 15 (d := dd_check_links) rfl
    exact def_mkX FD (w_check_links m_enumerate m_len m_super c_MOST_LINKS d_is_tuple d_linked_order d_is_row t_BadLinks g_BadLinks htop FD) (He.glo_ok X G (c.fact 15 (f := .glo "check_links") rfl)) fun _ _ _ _ _ _ us hl => match us, hl with | [_, _], _ => rfl
  have d_check_linked_jobs : Def P w K mg base (L2.CX P w) 6 ("check_linked_jobs" : Str) ["jobs", "links"] F_check_linked_jobs := by
    obtain ⟨fd, FD⟩ := c.def_ 16 (d := dd_check_linked_jobs) rfl
    exact def_mkX FD (w_check_linked_jobs m_len d_check_long_jobs d_check_links FD) (He.glo_ok X G (c.fact 16 (f := .glo "check_linked_jobs") rfl)) fun _ _ _ _ _ _ us hl => match us, hl with | [_, _], _ => rfl
  have d_tightened_jobs : Def P w K mg base CX0 4 ("tightened_jobs" : Str) ["jobs", "links"] F_tightened_jobs := by
    obtain ⟨fd, FD⟩ := c.def_ 17 (d := dd_tightened_jobs) rfl
    exact def_mkX FD (w_tightened_jobs m_enumerate m_max m_min m_reversed m_tuple d_linked_order FD) (He.glo_ok X G (c.fact 17 (f := .glo "tightened_jobs") rfl)) fun _ _ _ _ _ _ us hl => match us, hl with | [_, _], _ => rfl
  have d_tightened : Def P w K mg base (L2.CX P w) 7 ("tightened" : Str) ["jobs", "links"] F_tightened := by
    obtain ⟨fd, FD⟩ := c.def_ 18 (d := dd_tightened) rfl
    exact def_mkX FD (w_tightened d_check_linked_jobs d_tightened_jobs FD) (He.glo_ok X G (c.fact 18 (f := .glo "tightened") rfl)) fun _ _ _ _ _ _ us hl => match us, hl with | [_, _], _ => rfl
  have d_schedule_in_time : Def P w K mg base CX0 4 ("schedule_in_time" : Str) ["jobs"] F_schedule_in_time := by
    obtain ⟨fd, FD⟩ := c.def_ 19 (d := dd_schedule_in_time) rfl
    exact def_mkX FD (w_schedule_in_time d_earliest_due_units d_greatest_lateness FD) (He.glo_ok X G (c.fact 19 (f := .glo "schedule_in_time") rfl)) fun _ _ _ _ _ _ us hl => match us, hl with | [_], _ => rfl
  have d_linked_schedule : Def P w K mg base (L2.CX P w) 7 ("linked_schedule" : Str) ["jobs", "links"] F_linked_schedule := by
    obtain ⟨fd, FD⟩ := c.def_ 20 (d := dd_linked_schedule) rfl
    exact def_mkX FD (w_linked_schedule d_check_linked_jobs d_schedule_in_time d_tightened_jobs FD) (He.glo_ok X G (c.fact 20 (f := .glo "linked_schedule") rfl)) fun _ _ _ _ _ _ us hl => match us, hl with | [_, _], _ => rfl
  have d_most_on_time : Def P w K mg base (L2.CX P w) 6 ("most_on_time" : Str) ["jobs"] F_most_on_time := by
    obtain ⟨fd, FD⟩ := c.def_ 21 (d := dd_most_on_time) rfl
    exact def_mkX FD (w_most_on_time m_len m_max m_range m_sorted m_sum m_tuple d_check_long_jobs l_most_on_time FD) (He.glo_ok X G (c.fact 21 (f := .glo "most_on_time") rfl)) fun _ _ _ _ _ _ us hl => match us, hl with | [_], _ => rfl
  have d_check_pair_jobs : Def P w K mg base (L2.CX P w) 5 ("check_pair_jobs" : Str) ["jobs"] F_check_pair_jobs := by
    obtain ⟨fd, FD⟩ := c.def_ 22 (d := dd_check_pair_jobs) rfl
    exact def_mkX FD (w_check_pair_jobs c_LAST_TIME c_MOST_PAIR_JOBS d_check_rows FD) (He.glo_ok X G (c.fact 22 (f := .glo "check_pair_jobs") rfl)) fun _ _ _ _ _ _ us hl => match us, hl with | [_], _ => rfl
  have d_fit_one_by_one : Def P w K mg base CX0 1 ("fit_one_by_one" : Str) ["dues"] F_fit_one_by_one := by
    obtain ⟨fd, FD⟩ := c.def_ 23 (d := dd_fit_one_by_one) rfl
    exact def_mkX FD (w_fit_one_by_one m_all m_enumerate m_sorted FD) (He.glo_ok X G (c.fact 23 (f := .glo "fit_one_by_one") rfl)) fun _ _ _ _ _ _ us hl => match us, hl with | [_], _ => rfl
  have d_best_units : Def P w K mg base (L2.CX P w) 6 ("best_units" : Str) ["jobs"] F_best_units := by
    obtain ⟨fd, FD⟩ := c.def_ 24 (d := dd_best_units) rfl
    exact def_mkX FD (w_best_units m_len m_range m_sorted m_tuple d_check_pair_jobs d_fit_one_by_one l_best_units FD) (He.glo_ok X G (c.fact 24 (f := .glo "best_units") rfl)) fun _ _ _ _ _ _ us hl => match us, hl with | [_], _ => rfl
  have d_unit_schedule : Def P w K mg base (L2.CX P w) 6 ("unit_schedule" : Str) ["jobs"] F_unit_schedule := by
    obtain ⟨fd, FD⟩ := c.def_ 25 (d := dd_unit_schedule) rfl
    exact def_mkX FD (w_unit_schedule d_check_long_jobs d_schedule_in_time FD) (He.glo_ok X G (c.fact 25 (f := .glo "unit_schedule") rfl)) fun _ _ _ _ _ _ us hl => match us, hl with | [_], _ => rfl
  have d_least_late_order : Def P w K mg base (L2.CX P w) 7 ("least_late_order" : Str) ["jobs", "links"] F_least_late_order := by
    obtain ⟨fd, FD⟩ := c.def_ 26 (d := dd_least_late_order) rfl
    exact def_mkX FD (w_least_late_order d_check_linked_jobs d_linked_order FD) (He.glo_ok X G (c.fact 26 (f := .glo "least_late_order") rfl)) fun _ _ _ _ _ _ us hl => match us, hl with | [_, _], _ => rfl
  have d__law_ask : Def P w K mg base (L2.CX P w) 8 ("_law_ask" : Str) ["way", "jobs", "links"] F__law_ask := by
    obtain ⟨fd, FD⟩ := c.def_ 27 (d := dd__law_ask) rfl
    exact def_mkX FD (w__law_ask d_shows_units d_unit_schedule d_full_window d_least_lateness d_most_on_time d_best_units d_least_late_order d_tightened d_linked_schedule FD) (He.glo_ok X G (c.fact 27 (f := .glo "_law_ask") rfl)) fun _ _ _ _ _ _ us hl => match us, hl with | [_, _, _], _ => rfl
  exact w_law m_list m_range d__law_taken d_shows_units t__law_told d_full_window d_least_lateness d_tightened d_linked_schedule d_most_on_time d_best_units d__law_ask l_law FL
end Tx
section
open PySem PySem.W PySem.Calls PyProof.Rows
theorem Tx.holds_of (math : ∀ ns : List Int, ns.length ≤ 63 → ∃ γ, Tx.F_law [.pu (.lst (ns.map .int))] = .ok (.bl true) γ) : PySem.Challenge.rw_eventcore_k46_interrupted_refused.Holds := by
  w_on; o_law
  refine holds_open (r := OpenLaw.row PySem.Challenge.rw_eventcore_k46_interrupted_refused) (q := view (OpenLaw.row PySem.Challenge.rw_eventcore_k46_interrupted_refused).prog [43]) (loose := Tx.loose) (XP := XL (view (OpenLaw.row PySem.Challenge.rw_eventcore_k46_interrupted_refused).prog [43]) []) (YP := Tx.hk.says) (kwd := []) Tx.left (fun w s e => Tx.hk.of w s e) (fun w h h1 y k => Tx.hk.keeps w h h1 y k)
    (fun s z => xl_of s (Bool.and_eq_true_iff.mp z).1) XL.keeps (by rfl) (by rfl) (by rfl) (fun s z => recFacts_of (Bool.and_eq_true_iff.mp z).2) (by rfl) (by first | assumption | decide +kernel) (by decide +kernel) ⟨rfl, rfl, rfl, rfl, rfl, by decide +kernel⟩ ?hw ?hc
  case hw => w_witness2
  case hc =>
    refine LamX.walk_ofTsE (l := PySem.Challenge.rw_eventcore_k46_interrupted_refused) (n := 63) (k := 11) (x := "script") (CX := fun _ => L2.CX0) rfl (by decide) (by kernel_rfl) ⟨rfl, by decide, by decide⟩ ?F (fun _ _ _ _ _ z => z)
    intro w mg fa h Y G hmg0
    obtain ⟨K, KX, c, zc⟩ := Y
    have hmg : mg ("law" : PySem.Str) = some (.ref fa) := by
      have e : (HandSHeadRun.topDef (OpenLaw.row PySem.Challenge.rw_eventcore_k46_interrupted_refused).prog 43).name = ("law" : PySem.Str) := by kernel_rfl
      rw [← e]
      exact hmg0
    obtain ⟨fd, hb, hF⟩ := Tx.facts (P := (PySem.Challenge.rw_eventcore_k46_interrupted_refused).prog) (w := w) KX G hmg c zc rfl (by kernel_rfl)
    exact ⟨K, KX, Fv.lawAtS_of KX (⟨c.t, (Bool.and_eq_true_iff.mp c.more).1, c.hd, c.out, c.empty⟩ : He.SaysX Tx.fa Tx.fn [] Tx.tf (Fv.exB Tx.bx Tx.lamN) w _ K) (fun s u => hb s u) math hF⟩
end

/-! ### sizes, more loops -/
namespace Tx
open Fv
open PySem (sizeLine)
abbrev U : SV := .un
theorem small_len {n : Nat} (h : n ≤ 1000) : n ≤ sizeLine := Nat.le_trans h (by decide)
theorem big_len {n : Nat} (h : n ≤ 100000) : n ≤ sizeLine := Nat.le_trans h (by decide)
end Tx

/-! ### the law's drawn numbers -/
namespace Tx
open Fv
open L2 (atI ixN)
def RowOk (r : List D) : Prop := ∃ (ns : List Int) (p s q : Int), r = [.lst (ns.map .int), .int p, .int s, .int q] ∧ 0 ≤ p ∧ 0 ≤ s ∧ s < 2147483647
theorem row_ok {ns : List Int} {s : Int} (h : 0 ≤ s ∧ s < 2147483647) : RowOk [.lst (ns.map .int), .int 0, .int s, .int 0] := ⟨ns, 0, s, 0, rfl, by decide, h.1, h.2⟩
theorem taken_ok {r : List D} {m : Int} (hr : RowOk r) (h1 : 0 < m) (h2 : m < 1073741824) : ∃ (v : Int) (r' : List D), F__law_taken [.bo r, .pu (.int m)] = .ok (.int v) [.bo r', .pu (.int m)] ∧ 0 ≤ v ∧ v < m ∧ RowOk r' := by
  obtain ⟨ns, p, s, q, rfl, hp, hs, hs2⟩ := hr
  have hm0 : m ≠ 0 := by omega
  have hm1 : m.natAbs < 1073741824 := by omega
  have ms : dMulX (.int s) (.int 48271) = some (.int (s * 48271)) := d_mulXI (by omega) (by decide)
  by_cases hq : 0 < q
  · refine ⟨q.fmod m, [.lst (ns.map .int), .int p, .int s, .int (q.fdiv m)], run_rt (g := [.bo [.lst (ns.map .int), .int p, .int s, .int (q.fdiv m)], .un, .un, .un]) ?_ rfl, ?_, ?_, ⟨ns, p, s, _, rfl, hp, hs, hs2⟩⟩
    · unfold h__law_taken t__law_taken_1
      simp [hq, d_mod hm0, d_fdiv ⟨hm0, hm1⟩]
    · exact Int.fmod_nonneg_of_pos q h1
    · exact Int.fmod_lt_of_pos q h1
  · by_cases hlen : (ns.length : Int) < p + 1
    · have m2 : dFdiv (.int ((s * 48271 + 11).fmod 2147483647)) (.int 7) = some (.int (((s * 48271 + 11).fmod 2147483647).fdiv 7)) := d_fdiv (by decide)
      have m3 : dMod (.int (s * 48271 + 11)) (.int 2147483647) = some (.int ((s * 48271 + 11).fmod 2147483647)) := d_mod (by decide)
      refine ⟨(((s * 48271 + 11).fmod 2147483647).fdiv 7).fmod m, [.lst (ns.map .int), .int (p + 1), .int ((s * 48271 + 11).fmod 2147483647), .int q], run_rt (g := [.bo [.lst (ns.map .int), .int (p + 1), .int ((s * 48271 + 11).fmod 2147483647), .int q], .un, .un, .un]) ?_ rfl, ?_, ?_, ⟨ns, _, _, _, rfl, by omega, Int.fmod_nonneg_of_pos _ (by decide), Int.fmod_lt_of_pos _ (by decide)⟩⟩
      · unfold h__law_taken t__law_taken_1 t__law_taken_2 t__law_taken_3
        simp [hq, hlen, ms, m2, m3, d_mod hm0]
      · exact Int.fmod_nonneg_of_pos _ h1
      · exact Int.fmod_lt_of_pos _ h1
    · obtain ⟨n, rfl⟩ := Int.eq_ofNat_of_zero_le hp
      have hn : n < ns.length := by omega
      have hat : atI (ns.map D.int) (n : Int) = some (.int ns[n]) := by
        rw [at_ofNat (by simpa using hn)]
        simp [hn]
      have m3 : dMod (.int (s * 48271 + ns[n] + 11)) (.int 2147483647) = some (.int ((s * 48271 + ns[n] + 11).fmod 2147483647)) := d_mod (by decide)
      have m4 : dPow (.int 10) (.int 18) = some (.int (10 ^ 18)) := d_pow (by decide)
      have hlen' : ¬ (ns.length : Int) < (n : Int) + 1 := hlen
      by_cases hc : (10 : Int) ^ 18 ≤ ns[n]
      · refine ⟨ns[n].fmod m, [.lst (ns.map .int), .int (n + 1), .int ((s * 48271 + ns[n] + 11).fmod 2147483647), .int (ns[n].fdiv m)], run_rt (g := [.bo [.lst (ns.map .int), .int (n + 1), .int ((s * 48271 + ns[n] + 11).fmod 2147483647), .int (ns[n].fdiv m)], .un, .un, .un]) ?_ rfl, ?_, ?_, ⟨ns, _, _, _, rfl, by omega, Int.fmod_nonneg_of_pos _ (by decide), Int.fmod_lt_of_pos _ (by decide)⟩⟩
        · unfold h__law_taken t__law_taken_1 t__law_taken_2 t__law_taken_3 t__law_taken_4 t__law_taken_5 t__law_taken_6 t__law_taken_7
          simp [hq, hlen', ms, m3, m4, hat, d_mod hm0, d_fdiv ⟨hm0, hm1⟩]
          simp [show (1000000000000000000 : Int) ≤ ns[n] from hc, d_fdiv ⟨hm0, hm1⟩, d_mod hm0]
        · exact Int.fmod_nonneg_of_pos _ h1
        · exact Int.fmod_lt_of_pos _ h1
      · refine ⟨ns[n].fmod m, [.lst (ns.map .int), .int (n + 1), .int ((s * 48271 + ns[n] + 11).fmod 2147483647), .int q], run_rt (g := [.bo [.lst (ns.map .int), .int (n + 1), .int ((s * 48271 + ns[n] + 11).fmod 2147483647), .int q], .un, .un, .un]) ?_ rfl, ?_, ?_, ⟨ns, _, _, _, rfl, by omega, Int.fmod_nonneg_of_pos _ (by decide), Int.fmod_lt_of_pos _ (by decide)⟩⟩
        · unfold h__law_taken t__law_taken_1 t__law_taken_2 t__law_taken_3 t__law_taken_4 t__law_taken_5 t__law_taken_6 t__law_taken_7
          simp [hq, hlen', ms, m3, m4, hat, d_mod hm0, d_fdiv ⟨hm0, hm1⟩]
          simp [show ¬ (1000000000000000000 : Int) ≤ ns[n] from hc, d_fdiv ⟨hm0, hm1⟩, d_mod hm0]
        · exact Int.fmod_nonneg_of_pos _ h1
        · exact Int.fmod_lt_of_pos _ h1
end Tx

/-! ### a law whose rest is closed -/
namespace Tx
open Fv
def allU : Nat → Gm → Bool
  | 0, [] => true
  | n + 1, .un :: g => allU n g
  | _, _ => false
theorem allU_eq : ∀ {n : Nat} {g : Gm}, allU n g = true → g = List.replicate n .un
  | 0, [], _ => rfl
  | 0, _ :: _, h => by cases h
  | n + 1, [], h => by cases h
  | n + 1, .un :: g, h => by rw [allU_eq (n := n) (g := g) h]; rfl
  | n + 1, .pu _ :: _, h => by cases h
  | n + 1, .ow _ :: _, h => by cases h
  | n + 1, .bo _ :: _, h => by cases h
/-- returns True, with nothing left -/
def endsT (n : Nat) : Out → Bool
  | .rt (.bl true) g => allU n g
  | _ => false
theorem endsT_eq {n : Nat} : ∀ {o : Out}, endsT n o = true → o = .rt (.bl true) (List.replicate n .un)
  | .rt (.bl true) g, h => by rw [allU_eq (show allU n g = true from h)]
  | .rt (.bl false) _, h => by cases h
  | .rt .non _, h => by cases h
  | .rt (.int _) _, h => by cases h
  | .rt (.str _) _, h => by cases h
  | .rt (.lst _) _, h => by cases h
  | .rt (.tup _) _, h => by cases h
  | .rt (.ob _) _, h => by cases h
  | .nx _, h => by cases h
  | .bk _, h => by cases h
  | .ct _, h => by cases h
  | .ex _ _ _, h => by cases h
  | .no, h => by cases h
/-- goes on to what k says -/
def thenB (o : Out) (k : Gm → Bool) : Bool := match o with
  | .nx g => k g
  | _ => false
end Tx
namespace Tx
open Fv
theorem runX_rt {n : Nat} {h : Gm → Out} {ps qs g : Gm} {d : D} (e : h (ps ++ List.replicate (n - ps.length) .un) = .rt d g) (f : finR ps g = some qs) : runX n h ps = .ok d qs := by
  unfold runX; rw [e]; simp only [f]
theorem runX_nx {n : Nat} {h : Gm → Out} {ps qs g : Gm} (e : h (ps ++ List.replicate (n - ps.length) .un) = .nx g) (f : finR ps g = some qs) : runX n h ps = .ok .non qs := by
  unfold runX; rw [e]; simp only [f]
theorem runX_ex {n : Nat} {h : Gm → Out} {ps qs g : Gm} {x : PySem.Str} {fs : List (PySem.Str × D)} (e : h (ps ++ List.replicate (n - ps.length) .un) = .ex x fs g) (f : finR ps g = some qs) : runX n h ps = .ex x fs qs := by
  unfold runX; rw [e]; simp only [f]
theorem told_ex {frm : D → D} {hand : PySem.Str → List (PySem.Str × D) → Option D} {g : Gm → Rs D} {γ γ1 : Gm} {n : PySem.Str} {fs : List (PySem.Str × D)} {r : D} (e : g γ = .ex n fs γ1) (h : hand n fs = some r) : gTold frm hand g γ = .ok r γ1 := by
  unfold gTold; rw [e]; simp only [h]; rfl
theorem told_ok {frm : D → D} {hand : PySem.Str → List (PySem.Str × D) → Option D} {g : Gm → Rs D} {γ γ1 : Gm} {d : D} (e : g γ = .ok d γ1) : gTold frm hand g γ = .ok (frm d) γ1 := by
  unfold gTold; rw [e]
end Tx
/-! ### the same, by the machine -/
namespace Tx
open Fv
mutual
def sameD : D → D → Bool
  | .non, .non => true
  | .bl a, .bl b => a == b
  | .int a, .int b => decide (a = b)
  | .str a, .str b => decide (a = b)
  | .lst l, .lst m => sameDs l m
  | .tup l, .tup m => sameDs l m
  | _, _ => false
def sameDs : List D → List D → Bool
  | [], [] => true
  | d :: l, e :: m => sameD d e && sameDs l m
  | _, _ => false
end
mutual
theorem sameD_eq : ∀ {d e : D}, sameD d e = true → d = e
  | .non, e, h => by cases e <;> first | rfl | (simp [sameD] at h)
  | .bl a, e, h => by cases e <;> simp_all [sameD]
  | .int a, e, h => by cases e <;> simp_all [sameD]
  | .str a, e, h => by cases e <;> simp_all [sameD]
  | .lst l, e, h => by
    cases e with
    | lst m => rw [sameDs_eq (l := l) (m := m) (by simpa [sameD] using h)]
    | _ => simp [sameD] at h
  | .tup l, e, h => by
    cases e with
    | tup m => rw [sameDs_eq (l := l) (m := m) (by simpa [sameD] using h)]
    | _ => simp [sameD] at h
  | .ob o, e, h => by cases e <;> simp [sameD] at h
theorem sameDs_eq : ∀ {l m : List D}, sameDs l m = true → l = m
  | [], [], _ => rfl
  | [], _ :: _, h => by simp [sameDs] at h
  | _ :: _, [], h => by simp [sameDs] at h
  | d :: l, e :: m, h => by
    have h' : (sameD d e && sameDs l m) = true := by simpa [sameDs] using h
    obtain ⟨h1, h2⟩ := Bool.and_eq_true_iff.mp h'
    rw [sameD_eq h1, sameDs_eq h2]
end
def sameS : SV → SV → Bool
  | .un, .un => true
  | .pu d, .pu e => sameD d e
  | .ow l, .ow m => sameDs l m
  | .bo l, .bo m => sameDs l m
  | _, _ => false
theorem sameS_eq : ∀ {s t : SV}, sameS s t = true → s = t
  | .un, t, h => by cases t <;> first | rfl | cases h
  | .pu d, t, h => by
    cases t with
    | pu e => rw [sameD_eq (show sameD d e = true from h)]
    | _ => cases h
  | .ow d, t, h => by
    cases t with
    | ow e => rw [sameDs_eq (show sameDs d e = true from h)]
    | _ => cases h
  | .bo d, t, h => by
    cases t with
    | bo e => rw [sameDs_eq (show sameDs d e = true from h)]
    | _ => cases h
def sameG : Gm → Gm → Bool
  | [], [] => true
  | s :: g, t :: k => sameS s t && sameG g k
  | _, _ => false
theorem sameG_eq : ∀ {g k : Gm}, sameG g k = true → g = k
  | [], [], _ => rfl
  | [], _ :: _, h => by cases h
  | _ :: _, [], h => by cases h
  | s :: g, t :: k, h => by
    obtain ⟨h1, h2⟩ := Bool.and_eq_true_iff.mp (show (sameS s t && sameG g k) = true from h)
    rw [sameS_eq h1, sameG_eq h2]
def isOk (r : Rs D) (d : D) (g : Gm) : Bool := match r with
  | .ok e k => sameD e d && sameG k g
  | _ => false
theorem isOk_eq {r : Rs D} {d : D} {g : Gm} (h : isOk r d g = true) : r = .ok d g := by
  cases r with
  | ok e k =>
    obtain ⟨h1, h2⟩ := Bool.and_eq_true_iff.mp (show (sameD e d && sameG k g) = true from h)
    rw [sameD_eq h1, sameG_eq h2]
  | _ => cases h
def isNx (o : Out) (g : Gm) : Bool := match o with
  | .nx k => sameG k g
  | _ => false
theorem isNx_eq {o : Out} {g : Gm} (h : isNx o g = true) : o = .nx g := by
  cases o with
  | nx k => rw [sameG_eq (show sameG k g = true from h)]
  | _ => cases h
def isRt (o : Out) (d : D) (g : Gm) : Bool := match o with
  | .rt e k => sameD e d && sameG k g
  | _ => false
theorem isRt_eq {o : Out} {d : D} {g : Gm} (h : isRt o d g = true) : o = .rt d g := by
  cases o with
  | rt e k =>
    obtain ⟨h1, h2⟩ := Bool.and_eq_true_iff.mp (show (sameD e d && sameG k g) = true from h)
    rw [sameD_eq h1, sameG_eq h2]
  | _ => cases h
end Tx
namespace Tx
open Fv
theorem d_tupL {l : List D} : dTupOf [.lst l] = some (.tup l) := rfl
end Tx

namespace Tx
open Fv
open L2 (atI ixN)
open PySem (sizeLine)
def A0 (m a : Nat) : Gm := [U, U, .pu (.int m), .pu (.int a), U, U, U, U, U, U, U, U, U]
def Z : Gm := [U, U, U, U, U, U, U, U, U, U, U, U, U]
end Tx

namespace Tx
open Fv
open L2 (atI ixN)
open PySem (sizeLine)
theorem l_all : (hSeq t_law_16 (hSeq t_law_17 (hSeq t_law_18 (hSeq t_law_19 (hSeq t_law_20 t_law_21))))) Z = .rt (.bl true) Z := by kernel_rfl
end Tx

namespace Tx
open Fv
open L2 (atI ixN)
open PySem (sizeLine)
theorem c_2_0 (k : Gm → Out) : (hSeq t_law_4 (hSeq t_law_11 (hSeq t_law_12 k))) (A0 2 0) = k Z := by kernel_rfl
theorem c_2_1 (k : Gm → Out) : (hSeq t_law_4 (hSeq t_law_11 (hSeq t_law_12 k))) (A0 2 1) = k Z := by kernel_rfl
end Tx

namespace Tx
open Fv
open L2 (atI ixN)
open PySem (sizeLine)
theorem c_3_0 (k : Gm → Out) : (hSeq t_law_4 (hSeq t_law_11 (hSeq t_law_12 k))) (A0 3 0) = k Z := by kernel_rfl
theorem c_3_1 (k : Gm → Out) : (hSeq t_law_4 (hSeq t_law_11 (hSeq t_law_12 k))) (A0 3 1) = k Z := by kernel_rfl
theorem c_3_2 (k : Gm → Out) : (hSeq t_law_4 (hSeq t_law_11 (hSeq t_law_12 k))) (A0 3 2) = k Z := by kernel_rfl
end Tx

namespace Tx
open Fv
open L2 (atI ixN)
open PySem (sizeLine)
theorem c_4_0 (k : Gm → Out) : (hSeq t_law_4 (hSeq t_law_11 (hSeq t_law_12 k))) (A0 4 0) = k Z := by kernel_rfl
theorem c_4_1 (k : Gm → Out) : (hSeq t_law_4 (hSeq t_law_11 (hSeq t_law_12 k))) (A0 4 1) = k Z := by kernel_rfl
theorem c_4_2 (k : Gm → Out) : (hSeq t_law_4 (hSeq t_law_11 (hSeq t_law_12 k))) (A0 4 2) = k Z := by kernel_rfl
theorem c_4_3 (k : Gm → Out) : (hSeq t_law_4 (hSeq t_law_11 (hSeq t_law_12 k))) (A0 4 3) = k Z := by kernel_rfl
end Tx

namespace Tx
open Fv
open L2 (atI ixN)
open PySem (sizeLine)
theorem c_5_0 (k : Gm → Out) : (hSeq t_law_4 (hSeq t_law_11 (hSeq t_law_12 k))) (A0 5 0) = k Z := by kernel_rfl
theorem c_5_1 (k : Gm → Out) : (hSeq t_law_4 (hSeq t_law_11 (hSeq t_law_12 k))) (A0 5 1) = k Z := by kernel_rfl
theorem c_5_2 (k : Gm → Out) : (hSeq t_law_4 (hSeq t_law_11 (hSeq t_law_12 k))) (A0 5 2) = k Z := by kernel_rfl
theorem c_5_3 (k : Gm → Out) : (hSeq t_law_4 (hSeq t_law_11 (hSeq t_law_12 k))) (A0 5 3) = k Z := by kernel_rfl
theorem c_5_4 (k : Gm → Out) : (hSeq t_law_4 (hSeq t_law_11 (hSeq t_law_12 k))) (A0 5 4) = k Z := by kernel_rfl
end Tx

namespace Tx
open Fv
open L2 (atI ixN)
open PySem (sizeLine)
theorem law_math (ns : List Int) (_ : ns.length ≤ 63) : ∃ γ, F_law [.pu (.lst (ns.map .int))] = .ok (.bl true) γ := by
  have r0 : RowOk [.lst (ns.map .int), .int 0, .int 3246, .int 0] := row_ok (by decide)
  have e1 : t_law_1 [.pu (.lst (ns.map .int)), U, U, U, U, U, U, U, U, U, U, U, U] = .nx [U, .ow [.lst (ns.map .int), .int 0, .int 3246, .int 0], U, U, U, U, U, U, U, U, U, U, U] := by simp [t_law_1]
  generalize [D.lst (ns.map .int), .int 0, .int 3246, .int 0] = r at r0 e1
  obtain ⟨v, r1, q1, v0, v1, ok1⟩ := taken_ok (m := 4) r0 (by decide) (by decide)
  have e2 : t_law_2 [U, .ow r, U, U, U, U, U, U, U, U, U, U, U] = .nx [U, .ow r1, .pu (.int (2 + v)), U, U, U, U, U, U, U, U, U, U] := by simp [t_law_2, q1]
  obtain ⟨m, hm⟩ : ∃ m : Nat, (m : Int) = 2 + v := ⟨(2 + v).toNat, by omega⟩
  rw [← hm] at e2
  obtain ⟨a, r2, q2, a0, a1, ok2⟩ := taken_ok (m := (m : Int)) ok1 (by omega) (by omega)
  obtain ⟨b, hb⟩ : ∃ b : Nat, (b : Int) = a := ⟨a.toNat, by omega⟩
  rw [← hb] at q2
  have e3 : t_law_3 [U, .ow r1, .pu (.int (m : Int)), U, U, U, U, U, U, U, U, U, U] = .nx (A0 m b) := by
    unfold A0
    simp [t_law_3, q2]
  refine ⟨[.pu (.lst (ns.map .int))], run_rt (g := Z) ?_ rfl⟩
  show h_law [.pu (.lst (ns.map .int)), U, U, U, U, U, U, U, U, U, U, U, U] = _
  unfold h_law
  rw [seq_nx e1, seq_nx e2, seq_nx e3]
  have hb1 : b < m := by omega
  have cm : m = 2 ∨ m = 3 ∨ m = 4 ∨ m = 5 := by omega
  have cb : b = 0 ∨ b = 1 ∨ b = 2 ∨ b = 3 ∨ b = 4 := by omega
  clear e1 e2 e3 q1 q2
  rcases cm with rfl | rfl | rfl | rfl <;> rcases cb with rfl | rfl | rfl | rfl | rfl
  · exact (c_2_0 _).trans l_all
  · exact (c_2_1 _).trans l_all
  · exact absurd hb1 (by decide)
  · exact absurd hb1 (by decide)
  · exact absurd hb1 (by decide)
  · exact (c_3_0 _).trans l_all
  · exact (c_3_1 _).trans l_all
  · exact (c_3_2 _).trans l_all
  · exact absurd hb1 (by decide)
  · exact absurd hb1 (by decide)
  · exact (c_4_0 _).trans l_all
  · exact (c_4_1 _).trans l_all
  · exact (c_4_2 _).trans l_all
  · exact (c_4_3 _).trans l_all
  · exact absurd hb1 (by decide)
  · exact (c_5_0 _).trans l_all
  · exact (c_5_1 _).trans l_all
  · exact (c_5_2 _).trans l_all
  · exact (c_5_3 _).trans l_all
  · exact (c_5_4 _).trans l_all
end Tx

theorem PySem.Challenge.cw_eventcore_k46_interrupted_refused_holds : PySem.Challenge.rw_eventcore_k46_interrupted_refused.Holds := by
  exact Tx.holds_of Tx.law_math
