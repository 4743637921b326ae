import PyProof.Rows.All
import Wide.All
import OpenK.AllK
import Wide.FinOn
import HandS.Base
import HandS.Call
import HandS.List
import HandS.Comp
import HandS.Ends
import HandS.Dict
import HandS.Iter
import HandS.Text
import HandS.Words
import HandS.WordsList
import HandS.More
import HandS.Conv
import HandS.Zip
import HandS.DictComp
import KE.GoesMore
import HandS.Style
import HandS.Strs
import HandS.IsInst
import HandS.Walk
import HandS.EndBits
import HandS.SetFor
import HandS.Set
import HandS.Codes
import HandS.StrMore
import HandS.FStrTup
import KE.KDictPairs
import HandS.Lambda
import HandS.WordsDict
import HandS.NoneIn
import HandS.Rev
import KE.GoesZip
import KE.GoesEnum
import PyProof.StrOps2
import HandS.Deep
import HandS.TupAny
import KE.KDictList
import HandS.Sort
import KE.KDictZip
import KE.SortData
import KE.SortKeyHeap
import HandS.SortKw
import HandS.EndTab
import HandS.SetBool
import HandS.SetKeys
import HandS.Small
import HandS.Wide
import KE.DataMinMax
import KE.DataCmp
import KE.KEqDict
import HandS.MakeKw
import HandS.OwnEq
import PySem.Challenge.RW_standby_k20_words_alike_by_all_rows
set_option Elab.async false
set_option linter.all false
set_option maxRecDepth 100000
namespace Kn
open PySem PySem.Spec PyProof.Rows L2
/-! what is never reached -/
theorem s_dead {X : Cx} {st : Stmt} : PS X st (fun _ _ _ => False) := ⟨fun _ _ _ _ _ _ h => h.elim⟩
theorem e_dead {X : Cx} {e : Expr} : PE X e (fun _ _ _ => False) := ⟨fun _ _ _ _ _ _ h => h.elim⟩
theorem same_new {H : Hp} {p : Addr} {o : HO} (h : H p = none) : Same H (upd H p o) := fun b x e => by
  rw [upd_ne (ne_of_none e h)]
  exact e
/-! all but one object stay -/
def Off (b : Addr) (H H' : Hp) : Prop := ∀ c o, H c = some o → c ≠ b → H' c = some o
theorem Off.refl (b : Addr) (H : Hp) : Off b H H := fun _ _ h _ => h
theorem Off.trans {b : Addr} {H H1 H2 : Hp} (x : Off b H H1) (y : Off b H1 H2) : Off b H H2 := fun c o h n => y c o (x c o h n) n
theorem Off.at (b : Addr) (H : Hp) (o : HO) : Off b H (upd H b o) := fun c u h n => by rw [upd_ne n]; exact h
theorem Same.off {b : Addr} {H H' : Hp} (s : Same H H') : Off b H H' := fun c o h _ => s c o h
/-! the box of drawn numbers: n draws at most were made -/
def Bx (n : Nat) (o : HO) : Prop := ∃ x y z : Int, o = .lst [.int x, .int y, .int z] ∧ 0 ≤ x ∧ 0 ≤ y ∧ y < 8589934592 ∧ 0 ≤ z ∧ z ≤ n
theorem Bx.mono {n m : Nat} {o : HO} (h : Bx n o) (l : n ≤ m) : Bx m o := by
  obtain ⟨x, y, z, e, a1, a2, a3, a4, a5⟩ := h
  exact ⟨x, y, z, e, a1, a2, a3, a4, by omega⟩
end Kn
namespace PySem
open AutoSeq1 (wpAny_loadPart')
set_option maxHeartbeats 1000000 in
theorem kn_enum_new (t : Addr) (its : Array Value) (n : Nat) (dc : Option Addr) (sl : Array (Option Value)) :
    Meets (Builtin.«enumerate.__new__» ⟨[.type "enumerate", .ref t], []⟩) (fun _ R s => s.heap.get? t = some { cls := .type "tuple", dict := dc, data := .seq its n, slots := sl } ∧
      R (.ok (.ret (.ref (s.heap.push { cls := .type "tuple_iterator", data := .fields #[.ref t, .int 0 0] }).objs.size)))
        { s with heap := (s.heap.push { cls := .type "tuple_iterator", data := .fields #[.ref t, .int 0 0] }).push { cls := .type "enumerate", data := .fields #[.none, .bool false, .ref s.heap.objs.size, rawInt 0, .none, .none] } }) :=
  .of_wp fun prog w A R s h => by
    obtain ⟨hp, g, d, tk, os⟩ := s
    obtain ⟨ht, h⟩ := h
    have sub := sub_enumerate
    have hT : Heap.IsTuple (Shared.heap ⟨hp, g, d, tk, os⟩) t its := ⟨_, ht, rfl, n, rfl⟩
    wp_walk using wpAny_loadPart' ht
    refine wpAny_stack_any fun st => (wpAny_pure ?_)
    split
    · rename_i c _ _ _ _ _
      cases (c == Value.type "enumerate")
      · (wp_walk using wpAny_loadPart' ht, wpAny_pyIter_tuple hT); exact ⟨_, rfl, h⟩
      · (wp_walk using wpAny_loadPart' ht, wpAny_pyIter_tuple hT); exact ⟨_, rfl, h⟩
    · (wp_walk using wpAny_loadPart' ht, wpAny_pyIter_tuple hT); exact ⟨_, rfl, h⟩
section
variable {prog : Program} {w : World} {A : Around} {E : Value → Shared → Prop} {s : Shared}
theorem kn_enum_tup {t : Addr} {its : Array Value} {Q : Value → Shared → Prop} (hT : s.heap.IsTuple t its)
    (h : ∀ h', IsEnum h' (s.heap.objs.size + 1) s.heap.objs.size 0 .none → h'.IsTupleIter s.heap.objs.size t 0 → h'.objs.size = s.heap.objs.size + 2 →
      (∀ b o, s.heap.get? b = some o → h'.get? b = some o) → Q (.ref (s.heap.objs.size + 1)) { s with heap := h' }) :
    wpAny (model prog w) A (call (.type "enumerate") [.ref t]) Q E s := by
  obtain ⟨⟨c, dc, dt, sl⟩, ht, hc, n, hd⟩ := hT
  replace hc : c = .type "tuple" := hc
  replace hd : dt = .seq its n := hd
  subst hc hd
  refine callType_new F.called_enumerate (by decide) (F.typeCall_enumerate_1 _) (F.newCall_enumerate_1 _) (fun ob => F.args_object_init_2 ob _) F.entry_enumerate_new (kn_enum_new t its n dc sl) ⟨ht, ?_⟩
  generalize hq : s.heap.push { cls := .type "tuple_iterator", data := .fields #[.ref t, .int 0 0] } = hp
  have hz : hp.objs.size = s.heap.objs.size + 1 := by rw [← hq]; exact Heap.size_push ..
  show _ ∧ _
  rw [hz]
  have he : IsEnum (hp.push { cls := .type "enumerate", data := .fields #[.none, .bool false, .ref s.heap.objs.size, rawInt 0, .none, .none] }) (s.heap.objs.size + 1) s.heap.objs.size 0 .none := by
    have z := Heap.get?_push_size hp (o := { cls := .type "enumerate", data := .fields #[.none, .bool false, .ref s.heap.objs.size, rawInt 0, .none, .none] }) rfl
    rw [hz] at z
    exact z
  have hi : hp.get? s.heap.objs.size = some { cls := .type "tuple_iterator", data := .fields #[.ref t, .int 0 0] } := by
    rw [← hq]
    exact Heap.get?_push_size _ rfl
  refine ⟨⟨_, he, rfl⟩, h _ he ⟨_, Heap.get?_push_of_some _ hi, rfl, rfl⟩ (by rw [Heap.size_push, hz]) fun b o x => Heap.get?_push_of_some _ ?_⟩
  rw [← hq]
  exact Heap.get?_push_of_some _ x
end
end PySem
namespace Kn
open PySem PySem.Spec PyProof.Rows L2
/-! enumerate(a tuple) -/
def IteT (K : PySem.W.Frag) (a : Addr) : It :=
  ⟨fun i H => ∃ (xs : List V) (x : V), SqT K H a xs ∧ xs[i]? = some x,
   fun i H v H' => ∃ T x, v = .ref T ∧ H T = none ∧ H' = upd H T (.tup [.int (i : Nat), x]) ∧ ∀ xs, SqT K H a xs → xs[i]? = some x,
   fun i H => ∃ xs : List V, SqT K H a xs ∧ xs.length = i⟩
theorem turn_enT {P : Program} {w : World} {K : PySem.W.Frag} {elts : List Expr} {kk : Nat} {tpos : Pos} {a e it : Addr} (ae : a ≠ e) (ai : a ≠ it) :
    Turn P w K (.Tuple elts kk tpos) (IteT K a) [e, it] e (fun i h => (∃ old, IsEnum h e it ((i : Nat) : Int) old) ∧ h.IsTupleIter it a i ∧ e ≠ it) where
  mem := by simp
  obj := fun i h st b hb => by
    obtain ⟨⟨old, he⟩, ⟨o, ho, hc, hd⟩, _⟩ := st
    rcases (show b = e ∨ b = it by simpa using hb) with z | z
    · rw [z]; exact ⟨_, he, fun v q => nomatch q⟩
    · rw [z]; exact ⟨o, ho, fun v q => by rw [hd] at q; cases q⟩
  keep := fun i h h' st k => let ⟨⟨old, he⟩, hi, hne⟩ := st; ⟨⟨old, k e (by simp) _ he⟩, hi.at fun o q => k it (by simp) o q, hne⟩
  item := by
    intro X hP hw hK hc i pins s σ H E I hf st hg
    subst hP hw hK
    obtain ⟨⟨old, he⟩, hit, hne⟩ := st
    obtain ⟨xs, x, hq, hx⟩ := hg
    obtain ⟨its, rv, p, hz⟩ := I.tuple hq
    obtain ⟨u, hu, ru⟩ := rv.get hx
    have hl := rv.length
    have hlt : i < its.toArray.size := by
      have := (List.getElem?_eq_some_iff.mp hx).1
      rw [List.size_toArray]; omega
    have hel : e < s.heap.objs.size := Heap.lt_size he
    have hil : it < s.heap.objs.size := by obtain ⟨_, q, _⟩ := hit; exact Heap.lt_size q
    have hT0 : s.heap.IsTuple a its.toArray := p
    refine wpAny_pyNext_enum_itemD (Draws.tuple (A := X.A.in1) (I.ok.hd hc) it a ai its.toArray) he ⟨hit, hT0⟩ hlt hne (by simp; exact ⟨hne, fun z => ae z.symm⟩) fun u' h' tk hu' ho st' hT hsz hk => ?_
    have eu : u' = u := by
      have : its.toArray[i]? = some u' := hu'
      rw [List.getElem?_toArray, hu] at this
      exact (Option.some.inj this).symm
    subst eu
    refine ⟨_, rfl, wpAny_letOwnedTupleGo_enum (s := { s with heap := h', toks := tk + 1 }) ho fun h'' he' sb => ?_⟩
    have hT2 : h''.get? s.heap.objs.size = some { cls := .type "tuple", data := .seq #[.int i tk, u'] } := (sb.2 _ (Nat.ne_of_gt hel)).trans hT
    have new : ObjOk X.prog X.w (upd H s.heap.objs.size (.tup [.int (i : Nat), x])) h'' s.heap.objs.size (.tup [.int (i : Nat), x]) :=
      ⟨by show 2 ≤ sizeLine; decide, [.int i tk, u'], .cons ⟨_, rfl⟩ (.cons ru .nil), ⟨_, hT2, rfl, _, rfl⟩⟩
    have I1 : Inv X pins σ (upd H s.heap.objs.size (.tup [.int (i : Nat), x])) { s with heap := h'', toks := tk + 1 } :=
      I.turnedNew (ch := [e, it]) (fun b ob hb q => (sb.2 b (fun z => hb (by simp [z]))).trans (hk b ob (fun z => hb (by simp [z])) (fun z => hb (by simp [z])) q)) hf (Nat.le_refl _) new
    refine ⟨.ref s.heap.objs.size, _, I1, rfl, ⟨_, x, rfl, I.hok.fresh (Nat.le_refl _), rfl, fun ys hy => by rw [I.tuple_inj hy hq]; exact hx⟩, ⟨⟨u', ?_⟩, st'.1.at fun o q => (sb.2 it (Ne.symm hne)).trans q, hne⟩, fun b hb => ?_⟩
    · rw [show ((i + 1 : Nat) : Int) = (i : Int) + 1 by omega]
      exact he'
    · have hb' : b < s.heap.objs.size := by
        rcases (show b = e ∨ b = it by simpa using hb) with z | z
        · rw [z]; exact hel
        · rw [z]; exact hil
      rw [upd_ne (Nat.ne_of_lt hb')]
      exact (hf b hb).1
  done := by
    intro X hP hw hK hc i pins s σ H E I hf st hg
    subst hP hw hK
    obtain ⟨⟨old, he⟩, hit, hne⟩ := st
    obtain ⟨xs, hq, hx⟩ := hg
    obtain ⟨its, rv, p, hz⟩ := I.tuple hq
    have hl := rv.length
    obtain ⟨f0, f1, f2, f3, f4, f5⟩ := hf it (by simp)
    have hn : i = its.toArray.size := by rw [List.size_toArray]; omega
    have hT0 : s.heap.IsTuple a its.toArray := p
    subst hn
    exact wpAny_pyNext_enum_endD (Draws.tuple (A := X.A.in1) (I.ok.hd hc) it a ai its.toArray) he ⟨hit, hT0⟩ fun h' eb => ⟨rfl, I.turned (t' := s.toks) (fun b o hb q => eb b o hb q) f0 f1 f3 f4 f5⟩
  self := fun A i s Q E st h => let ⟨⟨_, he⟩, _⟩ := st; wpAny_pyIter_enum he h
def iEnT (K : PySem.W.Frag) (ta : TA) : TI := fun σ H R => ta σ H fun vs H1 => ∃ a xs, vs = [.ref a] ∧ SqT K H1 a xs ∧ R (IteT K a) H1
theorem pi_enT {X : Cx} {e : Expr} {ta : TA} {p pos tpos : Pos} {elts : List Expr} {kk : Nat} (hg : Gl X "enumerate") (hm : X.mg "enumerate" = none) (ha : PA X [e] ta)
    (hs : starEach [e] X.env = [(false, eval e X.env)] := by rfl) : PI X (.Tuple elts kk tpos) (.Call (.Name "enumerate" p) [e] [] pos) (iEnT X.K ta) := by
  refine ⟨fun pins s σ H R I h => ?_⟩
  refine Call_ (ld_blt I hg hm boot_enumerate (PyProof.Rows.callWith_type1 (thn (ha.run pos pins s σ H _ I h) fun us s1 ⟨vs, H1, I1, r1, q1⟩ => ?_) hs rfl))
  obtain ⟨a, xs, ex, hq, q⟩ := q1
  subst ex
  cases r1 with
  | cons r rr =>
    cases rr
    cases r
    obtain ⟨its, rv, p', hz⟩ := I1.tuple hq
    have hal : a < s1.heap.objs.size := by obtain ⟨_, e1, _⟩ := id p'; exact Heap.lt_size e1
    refine kn_enum_tup (show s1.heap.IsTuple a its.toArray from p') fun h' he hit hsz hk => wpAny_pyIter_enum he ?_
    have I2 : Inv X pins σ H1 { s1 with heap := h' } := I1.kept (t' := s1.toks) hk
    refine ⟨s1.heap.objs.size + 1, [s1.heap.objs.size + 1, s1.heap.objs.size], _, _, H1, rfl, I2, turn_enT (a := a) (e := s1.heap.objs.size + 1) (it := s1.heap.objs.size) (Nat.ne_of_lt (Nat.lt_succ_of_lt hal)) (Nat.ne_of_lt hal), ⟨⟨.none, he⟩, hit, Nat.succ_ne_self _⟩, fun b hb => ?_, q⟩
    have hle : s1.heap.objs.size ≤ b := by
      rcases (show b = s1.heap.objs.size + 1 ∨ b = s1.heap.objs.size by simpa using hb) with z | z
      · rw [z]; exact Nat.le_succ _
      · rw [z]; exact Nat.le_refl _
    exact I1.fpOk hle (I1.hok.fresh hle)
theorem walk_enT {K : PySem.W.Frag} {a : Addr} {xs : List V} : Walk (IteT K a) xs.length (fun H => SqT K H a xs) (YPair (fun i => some (.int (i : Nat))) (fun i => xs[i]?)) :=
  ⟨fun i H hi h => ⟨xs, xs[i], h, by simp [hi]⟩, fun H h => ⟨xs, h, rfl⟩, fun i H x H' hi h y => by
    obtain ⟨T, z, e1, e2, e3, e4⟩ := y
    exact ⟨T, _, z, e1, e2, e3, rfl, e4 xs h⟩⟩
theorem walk_zpT {K : PySem.W.Frag} {a b : Addr} {xs ys : List V} {n : Nat} (hn : n = min xs.length ys.length) : Walk (RZ.ItzT K a b) n (fun H => SqT K H a xs ∧ SqT K H b ys) (YPair (fun i => xs[i]?) (fun i => ys[i]?)) :=
  ⟨fun i H hi h => ⟨xs, ys, xs[i]'(by omega), ys[i]'(by omega), h.1, h.2, List.getElem?_eq_getElem _, List.getElem?_eq_getElem _⟩, fun H h => ⟨xs, ys, h.1, h.2, by omega⟩, fun i H x H' hi h y => by
    obtain ⟨T, u, v, e1, e2, e3, e4, e5⟩ := y
    exact ⟨T, u, v, e1, e2, e3, e4 xs h.1, e5 ys h.2⟩⟩
end Kn
namespace HT
open PySem PySem.Calls PyProof.Rows
section
variable {prog : Program} {w : World} {A : Around} {E : Value → Shared → Prop} {s : Shared}
theorem kn_applied {sl : Addr} {vl vu vs : Value} {n : Nat} {Q : Int × Int × Nat → Shared → Prop} (hs : s.heap.IsSliceOf sl vl vu vs) (pl : IsPart vl none) (pu : IsPart vu none) (ps : IsPart vs (some (-1)))
    (h : Q ((n : Int) - 1, -1, n) s) : wpAny (model prog w) A (Builtin.Slice.sliceApplied (.ref sl) (pure (n : Int))) Q E s := by
  obtain ⟨os, hos, hcs, hds⟩ := id hs
  unfold Builtin.Slice.sliceApplied Builtin.Slice.sliceFields
  refine wpAny_bind (wpAny_bind (wpAny_field hos hds (x := vl) rfl (wpAny_bind (wpAny_field hos hds (x := vu) rfl (wpAny_bind (wpAny_field hos hds (x := vs) rfl (wpAny_pure ?_)))))))
  refine wpAny_bind (slicePart_ ps ?_)
  show wpAny _ _ (if ((-1 : Int) == 0) = true then _ else _) _ _ s
  rw [if_neg (by decide)]
  refine wpAny_bind (slicePart_ pl (wpAny_bind (slicePart_ pu (wpAny_bind (wpAny_pure ?_)))))
  show wpAny _ _ (pure ((n : Int) - 1, (-1 : Int), Builtin.Slice.slicePlaces ((n : Int) - 1) (-1) (-1))) _ _ s
  have e : Builtin.Slice.slicePlaces ((n : Int) - 1) (-1) (-1) = n := by
    unfold Builtin.Slice.slicePlaces
    have h1 : ¬ ((-1 : Int) > 0) := by decide
    simp only [h1, if_false]
    rw [show (- -1 : Int) = 1 by decide, Int.ediv_one]
    split <;> omega
  rw [e]
  exact wpAny_pure h
theorem fm_congr {α β : Type} {f g : α → Option β} : ∀ l : List α, (∀ x ∈ l, f x = g x) → l.filterMap f = l.filterMap g
  | [], _ => rfl
  | x :: l, h => by
    rw [List.filterMap_cons, List.filterMap_cons, h x List.mem_cons_self, fm_congr l fun y hy => h y (List.mem_cons_of_mem _ hy)]
theorem kn_pick (xs : Array Value) : ((List.range xs.size).filterMap fun (m : Nat) => xs[((xs.size : Int) - 1 + (m : Int) * -1).toNat]?).toArray = xs.toList.reverse.toArray := by
  have e : (List.range xs.size).filterMap (fun (m : Nat) => xs[((xs.size : Int) - 1 + (m : Int) * -1).toNat]?) = (((List.range xs.size).map fun k => xs.size - 1 - k).filterMap (xs[·]?)) := by
    rw [List.filterMap_map]
    refine fm_congr _ fun m hm => ?_
    have := List.mem_range.mp hm
    show _ = xs[xs.size - 1 - m]?
    rw [show ((xs.size : Int) - 1 + (m : Int) * -1).toNat = xs.size - 1 - m by omega]
  rw [e, PySem.W.krv_range, List.filterMap_reverse, PySem.W.krv_all]
theorem kn_rev {t sl : Addr} {items : Array Value} {vl vu vs : Value} {Q : Value → Shared → Prop} (ht : IsTup s.heap t items) (hs : s.heap.IsSliceOf sl vl vu vs) (pl : IsPart vl none) (pu : IsPart vu none) (ps : IsPart vs (some (-1)))
    (h : Q (.ref s.heap.objs.size) { s with heap := s.heap.push { cls := .type "tuple", data := .seq items.toList.reverse.toArray } })
    (hsz : items.size ≤ sizeLine) : wpAny (model prog w) A (getItem (.ref t) (.ref sl)) Q E s := by
  have htake : sizeOk (.seq items.toList.reverse.toArray) := by
    show items.toList.reverse.toArray.size ≤ sizeLine
    rw [List.size_toArray, List.length_reverse, Array.length_toList]
    exact hsz
  obtain ⟨os, hos, hcs, hds⟩ := id hs
  have hTs : s.TypeIs (.ref sl) "slice" := ⟨os, hos, hcs⟩
  unfold getItem
  try with_reducible refine (wpAny_holding ?_)
  first | refine (wpAny_bind (wpAny_pure ?_)) | skip
  refine wpAny_bind (wpAny_sequenceKey ht.typeIs (by decide) ?_)
  refine wpAny_bind (wpAny_callSpecial?_slot (name := Str.ofString "__getitem__") ht.typeIs PyProof.Rows.slot_tuple_getitem (wpAny_call_entry PyProof.Rows.slot_tuple_getitem ht.typeIs entry_tuple_getitem ?_ (args_tuple_getitem _ _)))
  show wpAny _ _ (Builtin.Tuple.tupleItemsOf (.ref t) >>= _) _ _ s
  refine wpAny_bind (tupleItemsOf_ ht ?_)
  refine wpAny_bind (wpAny_typeOf hTs ?_)
  rw [if_pos (by decide)]
  refine wpAny_bind (kn_applied hs pl pu ps ?_)
  have hno : ¬ (((items.size : Int) - 1 == 0 && (-1 : Int) == 1 && items.size == items.size) = true) := by
    intro q
    rw [Bool.and_eq_true, Bool.and_eq_true] at q
    exact absurd q.1.2 (by decide)
  show wpAny _ _ (if ((items.size : Int) - 1 == 0 && (-1 : Int) == 1 && items.size == items.size) = true then _ else _) _ _ s
  rw [if_neg hno, kn_pick]
  first
    | exact wpAny_bind (m := Builtin.Tuple.tupleExact _) (wpAny_newObj_type (wpAny_pure ⟨_, rfl, wpAny_pure h⟩) htake)
    | exact wpAny_bind (m := Builtin.Tuple.tupleExact _) (wpAny_newObj_type (wpAny_bind (wpAny_pure (wpAny_pure ⟨_, rfl, wpAny_pure h⟩))) htake)
    | exact wpAny_bind (wpAny_bind (m := Builtin.Tuple.tupleExact _) (wpAny_newObj_type (wpAny_pure (wpAny_pure ⟨_, rfl, wpAny_pure h⟩)) htake))
    | exact wpAny_bind (wpAny_bind (m := Builtin.Tuple.tupleExact _) (wpAny_newObj_type (wpAny_pure ⟨_, rfl, wpAny_pure h⟩) htake))
end
end HT
namespace Kn
open PySem PySem.Spec PyProof.Rows L2
section
variable {X : Cx}
/-! t[::-1] of a tuple -/
/-- what x[::-1] is, of one kind of things -/
def RevR (X : Cx) (r : V → Hp → VK → Prop) : Prop := ∀ (pins : List (Addr × Obj)) (s : Shared) (σ : L2.St) (H : Hp) (x : V) (v : Value) (sl : Addr) (lo up st : Value) (Q : VK), Inv X pins σ H s → RelV x v → s.heap.IsSliceOf sl lo up st → IsPart lo none → IsPart up none → IsPart st (some (-1)) → r x H Q →
  ∃ (T g : String), typeLookup (.type T) "__getitem__" = pure (some (.builtin g)) ∧ s.TypeIs v T ∧ wpAny (model X.prog X.w) X.A (getItem v (.ref sl)) (EP X pins σ Q) X.xe s
def tRev (r : V → Hp → VK → Prop) (te : TE) : TE := fun σ H Q => te σ H fun x H1 => r x H1 Q
theorem pe_rev {r : V → Hp → VK → Prop} {e : Expr} {te : TE} {k : Nat} {a1 a2 a3 pos : Pos} (hr : RevR X r) (he : PE X e te) : PE X (.Subscript e (.Slice none none (some (.UnaryOp .USub (.Constant (.int 1) k a1) a2)) a3) pos) (tRev r te) := by
  refine ⟨fun pins s σ H Q J want => Subscript_ (thn (he.run pins s σ H _ J want) fun v s1 ⟨x, G, J1, rx, hx⟩ => ?_)⟩
  refine wpAny_Slice (thn (po_none.run pins s1 σ G (fun y K => y = none ∧ K = G) J1 ⟨rfl, rfl⟩) fun lo s2 ⟨y1, G1, J2, i1, z1⟩ => ?_)
  obtain ⟨rfl, rfl⟩ := z1
  refine thn (po_none.run pins s2 σ G1 (fun y K => y = none ∧ K = G1) J2 ⟨rfl, rfl⟩) fun up s3 ⟨y2, G2, J3, i2, z2⟩ => ?_
  obtain ⟨rfl, rfl⟩ := z2
  refine thn ((po_some (pe_un un_neg pe_int)).run pins s3 σ G2 (fun y K => y = some (-1) ∧ K = G2) J3 ⟨1, rfl, -1, rfl, rfl, rfl⟩) fun st s4 ⟨y3, G3, J4, i3, z3⟩ => ?_
  obtain ⟨rfl, rfl⟩ := z3
  obtain ⟨T, g, l1, l2, l3⟩ := hr pins { s4 with heap := s4.heap.push { cls := .type "slice", data := .fields #[lo, up, st] } } σ G3 x v s4.heap.objs.size lo up st Q (J4.kept (t' := s4.toks) fun b o e => Heap.get?_push_of_some _ e) rx (Heap.IsSliceOf.new _ lo up st) i1 i2 i3 hx
  exact tail_any (ops := [v, .ref s4.heap.objs.size]) l2 l1 l3 (by with_unfolding_all rfl)
/-- of a tuple: a new tuple -/
theorem rev_tup : RevR X (fun x H Q => ∃ a xs, x = .ref a ∧ SqT X.K H a xs ∧ ∀ p, H p = none → Q (.ref p) (upd H p (.tup xs.reverse))) := by
  intro pins s σ H x v sl lo up st Q J rx hs h1 h2 h3 want
  obtain ⟨a, xs, rfl, sq, q⟩ := want
  obtain rfl : v = .ref a := rx
  obtain ⟨its, rv, ht, hz⟩ := J.tuple sq
  refine ⟨"tuple", _, PyProof.Rows.slot_tuple_getitem.lookup, ht.typeIs, HT.kn_rev ht hs h1 h2 h3 ⟨.ref _, _, J.laid (t' := s.toks) (o := .tup xs.reverse) (fun b o e => Heap.get?_push_of_some _ e) (Nat.le_refl _) ?_, rfl, q _ (J.hok.fresh (Nat.le_refl _))⟩ (by rw [List.size_toArray, ← rv.length]; exact hz)⟩
  exact ⟨by rw [List.length_reverse]; exact hz, its.reverse, rv.reverse, IsTup.new _ _⟩
/-- of a tuple: a new tuple without a dict -/
theorem rev_tupD : RevR X (fun x H Q => ∃ a xs, x = .ref a ∧ SqT X.K H a xs ∧ ∀ p o, H p = none → o.cls = .type "tuple" → o.dict = none → Q (.ref p) (upd H p (.frz o (.tup xs.reverse)))) := by
  intro pins s σ H x v sl lo up st Q J rx hs h1 h2 h3 want
  obtain ⟨a, xs, rfl, sq, q⟩ := want
  obtain rfl : v = .ref a := rx
  obtain ⟨its, rv, ht, hz⟩ := J.tuple sq
  refine ⟨"tuple", _, PyProof.Rows.slot_tuple_getitem.lookup, ht.typeIs, HT.kn_rev ht hs h1 h2 h3 ⟨.ref _, _, J.laid (t' := s.toks) (o := .frz { cls := .type "tuple", data := .seq its.reverse.toArray } (.tup xs.reverse)) (fun b o e => Heap.get?_push_of_some _ e) (Nat.le_refl _) ?_, rfl, q _ _ (J.hok.fresh (Nat.le_refl _)) rfl rfl⟩ (by rw [List.size_toArray, ← rv.length]; exact hz)⟩
  exact ⟨Heap.get?_push_size _ rfl, by rw [List.length_reverse]; exact hz, its.reverse, rv.reverse, IsTup.new _ _⟩
abbrev tRevT (K : PySem.W.Frag) (te : TE) : TE := tRev (fun x H Q => ∃ a xs, x = .ref a ∧ SqT K H a xs ∧ ∀ p, H p = none → Q (.ref p) (upd H p (.tup xs.reverse))) te
theorem pe_revT {e : Expr} {te : TE} {k : Nat} {p1 p2 p3 pos : Pos} (he : PE X e te) : PE X (.Subscript e (.Slice none none (some (.UnaryOp .USub (.Constant (.int 1) k p1) p2)) p3) pos) (tRevT X.K te) := pe_rev rev_tup he
/-! sorted(a list or a tuple of texts) -/
def rSortT (K : PySem.W.Frag) : List V → Hp → VK → Prop := fun vs H Q => ∃ (a : Addr) (xs : List Str), vs = [V.ref a] ∧ (SqL K H a (xs.map V.str) ∨ SqT K H a (xs.map V.str)) ∧ xs.length < 64 ∧
  ∀ (ys : List Str) (p : Addr), ys.Perm xs → sortedS ys = true → H p = none → Q (.ref p) (upd H p (.lst (ys.map V.str)))
theorem cr_sortT2 : CallR X (.builtin "sorted") (rSortT X.K) := by
  intro pins s σ H args us Q J rel want
  obtain ⟨a, xs, rfl, sq, few, q⟩ := want
  rw [Vals.ref1 rel]
  have seq : ∃ (T : String) (ob : Obj) (m : Nat) (its : List Value), (T = "list" ∨ T = "tuple") ∧ s.heap.get? a = some ob ∧ ob.cls = .type T ∧ ob.data = .seq its.toArray m ∧ Vals (xs.map V.str) its := by
    rcases sq with sq | sq
    · obtain ⟨its, rv, ⟨ob, m, h1, h2, _, h4⟩, _⟩ := J.list sq
      exact ⟨"list", ob, m, its, .inl rfl, h1, h2, h4, rv⟩
    · obtain ⟨its, rv, ⟨ob, h1, h2, m, h4⟩, _⟩ := J.tuple sq
      exact ⟨"tuple", ob, m, its, .inr rfl, h1, h2, h4, rv⟩
  obtain ⟨T, ob, m, its, hT, ho, hc, hd, rv⟩ := seq
  have il : its.length = xs.length := by rw [← rv.length, List.length_map]
  have tx : StrsAre its xs := rv.strs
  refine Calls.call_function_entry kind_sorted plain_sorted entry_sorted (args_sorted1 _) (show wpAny _ _ (Builtin.«sorted» _) _ _ _ from ?_)
  unfold Builtin.«sorted»
  refine wpAny_bind (m := checkCount "sorted" 1 1 _) (wpAny_pure (wpAny_bind (wpAny_collect_seq a hT ho hc hd (fun g up => ?_) (by rw [List.size_toArray, sizeLine_eq]; omega))))
  have J1 : Inv X pins σ H { s with heap := g } := J.kept (t' := s.toks) up
  refine wpAny_bind (wpAny_newList ?_ (by rw [List.toList_toArray, sizeLine_eq]; omega))
  rw [List.toList_toArray]
  have at0 : (g.push (seqObj "list" its.toArray 0)).get? g.objs.size = some (seqObj "list" its.toArray 0) := Heap.get?_push_size _ rfl
  refine wpAny_bind (wpAny_holding (wpAny_call_entry slot_list_sort ⟨_, at0, rfl⟩ entry_list_sort (list_sort_treeK strKind_oneLt at0 tx.keysOf (fun v₁ v₂ more e => keyKind_strs (by rw [← e]; exact tx)) (by omega) fun st pm so => ⟨_, rfl, ?_⟩) (args_list_sort _)))
  obtain ⟨zs, z1, z2, z3⟩ := sorted_out_str tx pm so
  obtain ⟨c, atE⟩ := sortedHeap_at (vs := its) (out := (arrOf st).map (·.2)) at0
  have old : ∀ b u, g.get? b = some u → (sortedHeap (g.push (seqObj "list" its.toArray 0)) g.objs.size its ((arrOf st).map (·.2))).get? b = some u := fun b u e => by
    have lt := Heap.lt_size e
    rw [sortedHeap_old (Nat.ne_of_lt lt) (by rw [size_push']; exact Nat.lt_succ_of_lt lt)]
    exact Heap.get?_push_of_some _ e
  have fit : (zs.map V.str).length ≤ sizeLine := by rw [List.length_map, z2.length_eq, sizeLine_eq]; omega
  exact wpAny_pure ⟨_, rfl, .ref g.objs.size, upd H g.objs.size (.lst (zs.map V.str)), J1.laid (t' := s.toks) old (Nat.le_refl _) ⟨fit, _, c, vals_of_strs z1, atE⟩, rfl, q zs _ z2 z3 (J1.hok.fresh (Nat.le_refl _))⟩
/-! repr of data, where no repr is under way -/
theorem cr_repr (hg : X.A.guards = some []) (hu : X.A.units + 64 < cLine) : CallR X (.builtin "repr") (fun vs H Q => ∃ (x : V) (d : PyData), vs = [x] ∧ Dp X.K H x d ∧ isDisplay d = true ∧ d.showable = true ∧ d.hasDict = false ∧ d.depth ≤ 60 ∧ d.shown.length ≤ sizeLine ∧ Q (.str d.shown) H) := by
  intro pins s σ H vs us Q I r h
  obtain ⟨x, d, rfl, hd, hD, hs, hn, hdp, hz, q⟩ := h
  obtain ⟨u, rfl, ru⟩ := vals1 r
  obtain ⟨as, hr⟩ := Dp.reads I d x u hd ru
  obtain ⟨a, rfl⟩ := isRef_of_reads hr hD
  refine repr_of_reads' hr hs (PyData.noDict_hsm hn) hg (by omega) (fun _ _ e => e) (fun h' t tk hk => ?_) hz
  exact ⟨.str d.shown, H, I.kept (t' := tk) hk, ⟨_, rfl⟩, q⟩
end
end Kn
namespace Kn
open PySem PySem.Spec PyProof.Rows L2
/-! a def's promise where no repr is under way -/
structure FnG (P : Program) (w : World) (K : PySem.W.Frag) (mg : Str → Option Value) (base : Heap) (CX : CXT) (k : Nat) (f : Addr) (fd : FuncData) (ps : List Str) (sp : Sp) : Prop where
  len : ∀ vs H Q E, sp vs H Q E → vs.length = ps.length
  run : ∀ (A : Around) (outer : List Env) (s : Shared) (H : Hp) (args : Args) (us : List Value) (vs : List V) (Q : VK) (E : XK), A.guards = some [] → Room k A → Env0 P w K mg base A outer s H →
    BindsTo s fd args (ps.zip us) → Vals vs us → sp vs H Q E → codeAny (model P w) A (.call (.ref f) args) (CR CX outer P w H s Q E) s
section
variable {P : Program} {w : World} {K : PySem.W.Frag} {mg : Str → Option Value} {base : Heap}
theorem okG {x qual : Str} {st : Stmt} {f : Addr} {fd : FuncData} {N ps : List Str} {k : Nat} {sp : Sp} (F : Fun K x qual st f fd) (S : FnScope N ps (defScope st)) (len : ∀ vs H Q E, sp vs H Q E → vs.length = ps.length)
    (hbody : ∀ (cdv : Value) (A : Around) (outer : List Env) (s : Shared) (H : Hp) (vs : List V) (Q : VK) (E : XK), A.guards = some [] → Room k (A.deeper (envOfC qual (defScope st) s.heap.objs.size f cdv)) → sp vs H Q E →
      ∃ t, PSs (cxOf CX0 P w K mg base N qual (defScope st) f cdv A outer s H E).nox (defBody st) t ∧ t { nx := fun _ H' => Q .non H', rt := Q } (start N vs) H) : FnG P w K mg base CX0 (k + 1) f fd ps sp := by
  obtain ⟨oc, od, kV, doc, pm, an, cdv, ct, osl, rfl, lk, hcd⟩ := F.ex
  refine ⟨len, fun A outer s H args us vs Q E hg hr e0 hb r hsp => ?_⟩
  have hin : K.In s.heap := e0.mod.kin.keeps fun b o e => (e0.bs b o e).1
  have hno : s.heap.NoLimit := e0.mod.nolimit.keeps fun b o e => (e0.bs b o e).1
  have hkd : ∀ y ∈ ps.zip us, (defScope st).names.lookup y.1 = some .local ∨ ((defScope st).names.lookup y.1 = some .cell ∧ ((cellsFrom (s.heap.objs.size + 1) (defScope st).names []).lookup y.1).isSome = true) := by
    rintro ⟨n, v⟩ hy
    rcases S.par n (List.of_mem_zip hy).1 with q | q
    · exact .inl q
    · exact .inr ⟨q, PySem.W.cellsFrom_some _ _ _ (.inl q)⟩
  refine codeAny_call_function hr.depth (hin _ _ lk) rfl S.co S.gen rfl (PySem.W.codeRec_of hin hcd) (hb _ _ _ _ ?_)
  refine wpAny_newFunctionEnv_cells S.kind hkd fun env he s1 z => ?_
  subst he
  refine ⟨hno.keeps z.toInCall.keep, codeAny_func ?_⟩
  obtain ⟨t, ht, hq⟩ := hbody cdv A outer s H vs Q E hg (hr.deeper _) hsp
  have I := inv_start (CX := CX0) (E := E) S hr.hd e0 (len _ _ _ _ hsp) r z
  refine wpAny_mono (ht.nox.run [] s1 (start N vs) H _ I hq) (fun fl s' hs => ?_) fun e s' hs => hs
  cases fl with
  | ret u =>
    obtain ⟨v, σ', H', J, rv, q⟩ := hs
    exact (show CE outer P w H s Q u s' from ⟨v, H', J.os, J.bare, J.base, J.hok, rv, q⟩)
  | next =>
    obtain ⟨σ', H', J, q⟩ := hs
    exact (show CE outer P w H s Q .none s' from ⟨.non, H', J.os, J.bare, J.base, J.hok, rfl, q⟩)
  | brk => exact hs.elim fun _ h => h.elim fun _ h => h.2.elim
  | cont => exact hs.elim fun _ h => h.elim fun _ h => h.2.elim
/-! f(e, ..) by such a promise -/
theorem pe_callG {X : Cx} {CX : CXT} {k : Nat} {f : Addr} {fd : FuncData} {ps : List Str} {sp : Sp} {E : XK} {x : Str} {p pos : Pos} {e : Expr} {es : List Expr} {t : TA} (hgd : X.A.guards = some []) (F : FnG X.prog X.w X.K X.mg X.base CX k f fd ps sp) (hr : Room k X.A) (hg : Gl X x) (hm : X.mg x = some (.ref f)) (hk : PySem.W.keepIn X.K (.ref f) = true) (hb : Binds X.K fd ps []) (hx : Passes CX X E)
    (ha : PA X (e :: es) t) (hdb : (x == ("__debug__" : Str)) = false := by decide) (he : starEach (e :: es) X.env = (false, eval e X.env) :: starEach es X.env := by rfl) (hpl : (backTo pos (starEach es X.env)).any (·.1) = false := by rfl) :
    PE X (.Call (.Name x p) (e :: es) [] pos) (tCall sp [] E t) := by
  refine ⟨fun pins s σ H Q I h => ?_⟩
  refine wpAny_Call_Name_kw (ld_glob I hg hm ?_ hdb)
  refine PySem.W.callWith_K (h₀ := X.base) I.ok.mod.kin hk (thn (ha.run pos pins s σ H _ I h) fun us s1 ⟨vs, H1, I1, r, q⟩ => ⟨I1.kIn, ?_⟩) he hpl
  have r2 : Vals (vs ++ []) (us ++ []) := r.append .nil
  have hl : (us ++ []).length = ps.length := r2.length.symm.trans (F.len _ _ _ _ q)
  refine wpAny_call (codeAny_mono (F.run X.A X.stack s1 H1 ⟨us, []⟩ (us ++ []) (vs ++ []) Q E hgd hr I1.env0 (hb s1 us I1.kIn hl) r2 q) fun r s' hq => ?_)
  cases r with
  | error e => exact hx pins σ H1 s1 e s' I1 hq
  | ok fl =>
    cases fl with
    | ret u => exact I1.after hq
    | next => exact (show False from hq).elim
    | brk => exact (show False from hq).elim
    | cont => exact (show False from hq).elim
/-! f(k = e, ..), nothing by place -/
theorem pe_callK0 {X : Cx} {CX : CXT} {k : Nat} {f : Addr} {fd : FuncData} {ps ks : List Str} {sp : Sp} {E : XK} {x : Str} {p pos : Pos} {kws : List Keyword} {tk : TA} {g : List Value → List Value → List Value} {gV : List V → List V → List V}
    (F : FnOk X.prog X.w X.K X.mg X.base CX k f fd ps sp) (hr : Room k X.A) (hg : Gl X x) (hm : X.mg x = some (.ref f)) (hk : PySem.W.keepIn X.K (.ref f) = true) (hb : KBinds X.K fd ps ks g gV) (hx : Passes CX X E)
    (hkw : PK X kws tk) (hall : (backToKw pos (keywordEach kws X.env)).all (·.1.isSome) = true := by rfl) (hks : (backToKw pos (keywordEach kws X.env)).filterMap (·.1) = ks := by rfl)
    (hdb : (x == ("__debug__" : Str)) = false := by decide) (hpl : ((backTo pos (starEach [] X.env)).any (·.1) || (backToKw pos (keywordEach kws X.env)).any (·.1.isNone)) = false := by rfl) :
    PE X (.Call (.Name x p) [] kws pos) (fun σ H Q => tk σ H fun zs H2 => sp (gV [] zs) H2 Q E) := by
  refine ⟨fun pins s σ H Q I h => ?_⟩
  refine wpAny_Call_Name_kw (ld_glob I hg hm ?_ hdb)
  refine PySem.W.callWith_KW0 (h₀ := X.base) I.ok.mod.kin hk hall (thn (hkw.run pos pins s σ H _ I h) fun ws s2 ⟨zs, H2, I2, rz, q2⟩ => ⟨I2.kIn, ?_⟩) hpl
  rw [hks]
  exact run_fnk (us := []) (vs := []) F hr hb hx I2 .nil rz q2
def perm {α : Type} (is : List Nat) (l : List α) : List α := is.filterMap (l[·]?)
theorem perm_vals : ∀ (is : List Nat) {zs : List V} {ws : List Value}, Vals zs ws → Vals (perm is zs) (perm is ws)
  | [], _, _, _ => .nil
  | i :: is, zs, ws, r => by
    have ih := perm_vals is r
    unfold perm at ih ⊢
    rw [List.filterMap_cons, List.filterMap_cons]
    cases e : zs[i]? with
    | none =>
      have e2 : ws[i]? = none := by
        rw [List.getElem?_eq_none_iff] at e ⊢
        have := r.length
        omega
      rw [e2]
      exact ih
    | some v =>
      obtain ⟨u, hu, ru⟩ := r.get e
      rw [hu]
      exact .cons ru ih
def onlyK {α : Type} (is : List Nat) : List α → List α → List α
  | [], ws => perm is ws
  | _ :: _, _ => []
theorem kbinds {x qual : Str} {st : Stmt} {f : Addr} {fd : FuncData} {p0 : Str} {ps ks : List Str} (is : List Nat) (F : Fun K x qual st f fd)
    (h : ∀ (kV doc pm : Value) (an : Option Addr) (cdv ct : Value) (ws : List Value), (perm is ws).length = (p0 :: ps).length → bindArgs (PySem.W.fnOf x qual (defArgs st) (defBody st) (defScope st) .none kV doc pm an cdv ct) ⟨[], ks.zip ws⟩ = pure ((p0 :: ps).zip (perm is ws))) :
    KBinds K fd (p0 :: ps) ks (onlyK is) (onlyK is) := by
  obtain ⟨oc, od, kV, doc, pm, an, cdv, ct, osl, rfl, lk, hcd⟩ := F.ex
  refine ⟨fun s us ws _ hl => ?_, fun {vs us zs ws} r rz => ?_⟩
  · cases us with
    | nil => exact .of_eq (h kV doc pm an cdv ct ws hl)
    | cons u us => cases hl
  · cases r with
    | nil => exact perm_vals is rz
    | cons _ _ => exact .nil
/-! the end of a law whose promise is such -/
theorem lawG {l : PySem.W.OpenLaw} {n k : Nat} {q : Program} {loose : List Str} {XP : (Str → Option Value) → Heap → Prop} {YP : World → Heap → Prop} {d : DefRec} {KK : Params → PySem.W.Frag} {x : Str} {sp : World → Sp}
    (hn : l.most = some n) (hn2 : n ≤ sizeLine) (hdf : d.params.defaults = []) (hr : Room k callerA) (hY : ∀ (w : World) (h : Heap), YP w h → (KK w.params).In h)
    (F : ∀ (w : World) (mg : Str → Option Value) (fa : Addr) (h : Heap), (KK w.params).In h → h.Ns mainGlobals mg → mg d.name = some (.ref fa) →
      ∃ fd : FuncData, (∀ (s : Shared) (u : Value), BindsTo s fd ⟨[u], []⟩ [(x, u)]) ∧ ∀ base : Heap, (KK w.params).In base → base.Ns mainGlobals mg → FnG l.prog w (KK w.params) mg base CX0 k fa fd [x] (sp w))
    (hsp : ∀ (w : World) (H : Hp) (a : Addr) (ns : List Int), ns.length ≤ n → Only H → SqL (KK w.params) H a (ns.map V.int) → sp w [.ref a] H (fun v _ => v = .bl true) fun _ _ _ => False) :
    PySem.W.WalkO q loose XP YP l.row.toRowW d [] (fun f vs => PySem.call f vs) := by
  refine Att.attach_callB hn hdf fun w s₀ s₁ mg mb fa o pm cd doc a vs ns G Y ho hd hcd hmg ha hi hlen hbits hgn => ?_
  have hK := hY w _ Y
  obtain ⟨fd, hbind, hF⟩ := F w mg fa _ hK G.T.g hmg
  have hl := Nat.le_trans hlen hn2
  have rv := vals_ints hi
  have key : ∀ H : Hp, Only H → SqL (KK w.params) H a (ns.map V.int) → HOk l.prog w H s₁.heap → (∀ b, H b ≠ none → b = a) → (H a ≠ none → (KK w.params).lookup a = none) →
      codeAny (model l.prog w) callerA (.call (.ref fa) ⟨[.ref a], []⟩) (fun r s' => r = .ok (.ret (.bool true)) ∧ OldK s₁.heap s'.heap ∧ s'.os = s₁.os ∧ AllBare s'.gens) s₁ := by
    intro H hO hS hok hA hKn
    have free : ∀ {b : Addr} {o : Obj} {es : Array DictEntry} {ep : Nat}, s₁.heap.get? b = some o → o.data = .dict es ep → H b = none := fun {b o es ep} e dd => by
      cases z : H b with
      | none => rfl
      | some u =>
        obtain rfl : b = a := hA b (by rw [z]; exact fun h => nomatch h)
        rw [ha] at e
        cases e
        exact nomatch (show Data.seq vs.toArray _ = Data.dict es ep from dd)
    have ns' : ∀ {b : Addr} {m : Str → Option Value}, s₁.heap.Ns b m → (hidT s₁.heap H).Ns b m := fun {b m} ⟨o, es, ep, e, dd, r⟩ => ⟨o, es, ep, hidT_get e (free e dd), dd, r⟩
    have kb : (KK w.params).In (hidT s₁.heap H) := fun b o e => hidT_get (hK b o e) (by
      cases z : H b with
      | none => rfl
      | some u =>
        obtain rfl : b = a := hA b (by rw [z]; exact fun h => nomatch h)
        rw [hKn (by rw [z]; exact fun h => nomatch h)] at e
        cases e)
    have hM : Mod (KK w.params) mg (hidT s₁.heap H) := ⟨kb, ns' G.T.g, ⟨mb, ns' G.T.b, G.T.builtins⟩, let ⟨mc, h1, h2⟩ := G.T.nolimit; ⟨mc, ns' h1, h2⟩⟩
    have e0 : Env0 l.prog w (KK w.params) mg (hidT s₁.heap H) callerA [] s₁ H := ⟨rfl, hM, fun b o e => of_hidT e, Nat.le_of_eq (hidT_size _ _), trivial, (fun b hb => absurd (show b ∈ ([] : List Addr) from hb) List.not_mem_nil), hok, .of_eq hgn⟩
    refine codeAny_mono ((hF _ kb (ns' G.T.g)).run callerA [] s₁ H ⟨[.ref a], []⟩ [.ref a] [.ref a] _ _ rfl hr e0 (hbind s₁ (.ref a)) (.cons rfl .nil) (hsp w H a ns hlen hO hS)) fun r s' h => ?_
    cases r with
    | error e => exact (show False from h).elim
    | ok fl =>
      cases fl with
      | next => exact (show False from h).elim
      | brk => exact (show False from h).elim
      | cont => exact (show False from h).elim
      | ret u =>
        obtain ⟨v, H', os, bare, un, hok', r', z⟩ := h
        obtain rfl : v = .bl true := z
        obtain rfl : u = Value.bool true := r'
        refine ⟨rfl, OldK.of_keep fun b o e => ?_, os, bare⟩
        cases z : H b with
        | none => exact un.keep b o e z (fun y => nomatch (show b ∈ ([] : List Addr) from y)) (fun y => nomatch y)
        | some u =>
          rcases hO b with y | ⟨ob, xs, y⟩
          · rw [z] at y
            cases y
          · obtain ⟨e1, _⟩ := hok b _ y
            obtain ⟨e2, _⟩ := hok' b _ (un.frzs b ob _ y)
            rw [e] at e1
            cases e1
            exact e2
  cases hk : (KK w.params).lookup a with
  | some o =>
    have e := hK a o hk
    rw [ha] at e
    cases e
    exact key (fun _ => none) (fun _ => .inl rfl) (.inr ⟨_, vs.toArray, _, hk, rfl, rfl, rfl, by rw [List.size_toArray, hi.length]; exact hl, by simpa using rv⟩) (fun b u z => nomatch (show (none : Option HO) = some u from z)) (fun b z => absurd rfl z) fun z => absurd rfl z
  | none =>
    refine key (fun b => if b = a then some (.frz { cls := .type "list", data := .seq vs.toArray } (.lst (ns.map V.int))) else none) (fun b => ?_) (.inl (.inr ⟨{ cls := .type "list", data := .seq vs.toArray }, if_pos rfl⟩)) (fun b u z => ?_) (fun b z => ?_) fun _ => hk
    · by_cases hb : b = a
      · exact .inr ⟨_, _, if_pos hb⟩
      · exact .inl (if_neg hb)
    · by_cases hb : b = a
      · have z' := (if_pos hb).symm.trans z
        cases z'
        subst hb
        exact ⟨ha, by rw [List.length_map]; exact hl, vs, _, rv, ha⟩
      · exact nomatch (if_neg hb).symm.trans z
    · by_cases hb : b = a
      · exact hb
      · exact absurd (if_neg hb) z
end
end Kn
namespace Kn
open PySem PySem.Spec PyProof.Rows L2
/-! data, and what is kept of it -/
theorem sqT_same {K : PySem.W.Frag} {H H' : Hp} {a : Addr} {xs : List V} (e : Same H H') (h : SqT K H a xs) : SqT K H' a xs := by
  rcases h with (h | ⟨o, h⟩) | h
  · exact .inl (.inl (e _ _ h))
  · exact .inl (.inr ⟨o, e _ _ h⟩)
  · exact .inr h
mutual
theorem dp_same {K : PySem.W.Frag} {H H' : Hp} (e : Same H H') : ∀ {d : PyData} {x : V}, Dp K H x d → Dp K H' x d
  | _, _, .non => .non
  | _, _, .bl b => .bl b
  | _, _, .int i => .int i
  | _, _, .str x => .str x
  | _, _, .lst h hs => .lst (e.seq h) (dpA_same e hs)
  | _, _, .tup h hs => .tup (sqT_same e h) (dpA_same e hs)
theorem dpA_same {K : PySem.W.Frag} {H H' : Hp} (e : Same H H') : ∀ {ds : List PyData} {xs : List V}, DpAll K H xs ds → DpAll K H' xs ds
  | _, _, .nil => .nil
  | _, _, .cons h hs => .cons (dp_same e h) (dpA_same e hs)
end
theorem dpA_len {K : PySem.W.Frag} {H : Hp} : ∀ {ds : List PyData} {xs : List V}, DpAll K H xs ds → xs.length = ds.length
  | _, _, .nil => rfl
  | _, _, .cons _ hs => by rw [List.length_cons, List.length_cons, dpA_len hs]
theorem dpA_get {K : PySem.W.Frag} {H : Hp} : ∀ {ds : List PyData} {xs : List V} {i : Nat} {x : V}, DpAll K H xs ds → xs[i]? = some x → ∃ d, ds[i]? = some d ∧ Dp K H x d
  | _, _, _, _, .nil, e => by simp at e
  | _, _, 0, _, .cons h _, e => by
    cases (show some _ = some _ from e)
    exact ⟨_, rfl, h⟩
  | _, _, i + 1, _, .cons _ hs, e => by
    obtain ⟨d, h1, h2⟩ := dpA_get (i := i) hs (by simpa using e)
    exact ⟨d, by simpa using h1, h2⟩
theorem dpA_map {K : PySem.W.Frag} {H : Hp} {α : Type} (f : α → V) (g : α → PyData) (h : ∀ a, Dp K H (f a) (g a)) : ∀ l : List α, DpAll K H (l.map f) (l.map g)
  | [] => .nil
  | a :: l => .cons (h a) (dpA_map f g h l)
def tyN : PyData → String
  | .none => "NoneType"
  | .bool _ => "bool"
  | .int _ => "int"
  | .str _ => "str"
  | .list _ => "list"
  | .tuple _ => "tuple"
  | .dict _ => "dict"
theorem dp_ty {K : PySem.W.Frag} {H : Hp} {x : V} {d : PyData} (h : Dp K H x d) : TyX K H x (.type (tyN d)) := by
  cases h with
  | non => exact .base .non
  | bl b => exact .base (.bl b)
  | int i => exact .base (.int i)
  | str s => exact .base (.str s)
  | lst h _ =>
    rcases h with (h | ⟨o, h⟩) | h
    · exact .base (.lst h)
    · exact .base (.frz h)
    · obtain ⟨o, its, n, e, c, _⟩ := h
      exact .kList e c
  | tup h _ =>
    rcases h with (h | ⟨o, h⟩) | h
    · exact .base (.tup h)
    · exact .fTuple h
    · obtain ⟨o, its, n, e, c, _⟩ := h
      exact .kTuple e c
theorem isi_of {K : PySem.W.Frag} {H : Hp} {x : V} {d : PyData} {T : String} {b : Bool} {Q : VK} (h : Dp K H x d) (hb : kitB (tyN d) T = some b) (q : Q (.bl b) H) : rIsi K [x, .ty T] H Q :=
  ⟨x, .ty T, _, _, b, rfl, .ty T, dp_ty h, kit_ty hb, q⟩
theorem isiLT {K : PySem.W.Frag} {H : Hp} {x : V} {d : PyData} {b1 b2 : Bool} {tp : Addr} {S T : String} {Q : VK} (h : Dp K H x d) (ht : H tp = some (.tup [.ty S, .ty T])) (h1 : kitB (tyN d) S = some b1) (h2 : kitB (tyN d) T = some b2) (q : Q (.bl (b1 || b2)) H) : rIsiT K [x, .ref tp] H Q := by
  refine ⟨x, tp, _, _, [.type S, .type T], b1 || b2, rfl, ht, .cons (.ty S) (.cons (.ty T) .nil), dp_ty h, ?_, q⟩
  refine kitAny_cons (kit_ty h1) (fun e => ?_) (fun e => by rw [e]; rfl)
  rw [e, Bool.false_or]
  exact kitAny_cons (kit_ty h2) (fun e2 => by rw [e2]; rfl) fun e2 => e2
theorem kit2 {K : PySem.W.Frag} {t S T : String} {b1 b2 : Bool} (h1 : kitB t S = some b1) (h2 : kitB t T = some b2) : PySem.W.kitAny K (.type t) [.type S, .type T] = some (b1 || b2) := by
  refine kitAny_cons (kit_ty h1) (fun e => ?_) (fun e => by rw [e]; rfl)
  rw [e, Bool.false_or]
  exact kitAny_cons (kit_ty h2) (fun e2 => by rw [e2]; rfl) fun e2 => e2
/-- of at most n levels, of at most a hundred thousand things each -/
def Sm : Nat → PyData → Prop
  | n + 1, .list ds => ds.length ≤ 100000 ∧ ∀ d ∈ ds, Sm n d
  | n + 1, .tuple ds => ds.length ≤ 100000 ∧ ∀ d ∈ ds, Sm n d
  | 0, .list _ => False
  | 0, .tuple _ => False
  | _, .dict _ => False
  | _, _ => True
/-! a comprehension that makes, or leaves out, one thing a turn, and leaves what stands -/
section
variable {J : It} {n : Nat} {G : Hp → Prop} {Y : Nat → Hp → V → Hp → Prop}
theorem lc_fm (wk : Walk J n G Y) {g : TG} {tt : TT} {te : TE} {vs : List Nat} {σ : L2.St} {H1 : Hp} {D : Addr} {Qd : Hp → Prop} (f : Nat → Option V) (hD : H1 D = none) (hz : n < sizeLine) (hG : ∀ H, Same H1 H → G H)
    (hs : ∀ i x H H' (R : Option V → Hp → Prop), i < n → Same H1 H → H D = some (.lst ((List.range i).filterMap f)) → Y i H x H' → (∀ H4, Same H H4 → R (f i) H4) →
      g x (wipe σ vs) H' fun σ2 H2 => wipe σ2 vs = wipe σ vs ∧ tt σ2 H2 fun b H3 => if b = true then te σ2 H3 fun y H4 => R (some y) H4 else R none H3)
    (hd : ∀ H, Same H1 H → H D = some (.lst ((List.range n).filterMap f)) → Qd H) :
    ∃ W : Nat → Nat → Hp → Prop, (∃ m, W 0 m (upd H1 D (.lst []))) ∧ ∀ i m H, W i m H →
      (J.stop i H ∧ Qd H) ∨ (J.go i H ∧ ∃ Nx : Hp → Prop, (∀ H', Nx H' → ∃ m', m' < m ∧ W (i + 1) m' H') ∧ ∀ x H', J.yld i H x H' → g x (wipe σ vs) H' fun σ2 H2 => wipe σ2 vs = wipe σ vs ∧
        tt σ2 H2 fun b H3 => if b = true then te σ2 H3 fun y H4 => ∃ acc, H4 D = some (.lst acc) ∧ acc.length < sizeLine ∧ Nx (upd H4 D (.lst (acc ++ [y]))) else Nx H3) := by
  refine lc_it wk (fun i H => Same H1 H ∧ H D = some (.lst ((List.range i).filterMap f))) ⟨same_new hD, upd_same⟩ (fun i H _ h => hG H h.1) (fun i x H H' hi h y => ?_) (fun H h => hd H h.1 h.2)
  refine hs i x H H' (fun o H4 => match o with | some y => ∃ acc, H4 D = some (.lst acc) ∧ acc.length < sizeLine ∧ Same H1 (upd H4 D (.lst (acc ++ [y]))) ∧ (upd H4 D (.lst (acc ++ [y]))) D = some (.lst ((List.range (i + 1)).filterMap f)) | none => Same H1 H4 ∧ H4 D = some (.lst ((List.range (i + 1)).filterMap f))) hi h.1 h.2 y fun H4 s4 => ?_
  have e1 : (List.range (i + 1)).filterMap f = (List.range i).filterMap f ++ (f i).toList := by
    rw [List.range_succ, List.filterMap_append]
    cases e : f i with
    | none => rw [List.filterMap_cons, e]; rfl
    | some v => rw [List.filterMap_cons, e]; rfl
  have hl : ((List.range i).filterMap f).length ≤ i := by
    have := List.length_filterMap_le f (List.range i)
    rw [List.length_range] at this
    exact this
  rw [e1]
  cases e : f i with
  | none => exact ⟨h.1.trans s4, by rw [s4 _ _ h.2]; simp⟩
  | some v =>
    refine ⟨_, s4 _ _ h.2, by omega, fun b o eb => ?_, upd_same⟩
    rw [upd_ne (ne_of_none eb hD)]
    exact s4 _ _ (h.1 _ _ eb)
end
end Kn
namespace Kn
open PySem PySem.Spec PyProof.Rows L2
/-! a tuple known not to have a dict of its own: its methods -/
def TupD (H : Hp) (a : Addr) (xs : List V) : Prop := ∃ o, H a = some (.frz o (.tup xs)) ∧ o.cls = .type "tuple" ∧ o.dict = none
theorem TupD.sq {K : PySem.W.Frag} {H : Hp} {a : Addr} {xs : List V} (h : TupD H a xs) : SqT K H a xs := let ⟨o, e, _⟩ := h; .inl (.inr ⟨o, e⟩)
theorem TupD.same {H H' : Hp} {a : Addr} {xs : List V} (s : Same H H') (h : TupD H a xs) : TupD H' a xs := let ⟨o, e, r⟩ := h; ⟨o, s _ _ e, r⟩
theorem TupD.off {H H' : Hp} {a b : Addr} {xs : List V} (s : Off b H H') (n : a ≠ b) (h : TupD H a xs) : TupD H' a xs := let ⟨o, e, r⟩ := h; ⟨o, s _ _ e n, r⟩
section
variable {X : Cx}
theorem cr_tupD : CallR X (.type "tuple") (fun xs H Q => ∃ p ys, xs = [.ref p] ∧ SqL X.K H p ys ∧ ∀ l o, H l = none → o.cls = .type "tuple" → o.dict = none → Q (.ref l) (upd H l (.frz o (.tup ys)))) := by
  intro pins s σ H xs us Q I r h
  obtain ⟨p, ys, rfl, hq, q⟩ := h
  obtain ⟨u, rfl, rx⟩ := vals1 r
  cases rx
  obtain ⟨its, r', pl, hz⟩ := I.list hq
  have hlen := r'.length
  refine call_tuple_list pl.isList (fun h' kp => ?_) (by simp only [List.size_toArray] <;> omega)
  have J : Inv X pins σ H { s with heap := h' } := I.kept (t' := s.toks) kp
  refine ⟨.ref h'.objs.size, _, J.laid (t' := s.toks) (o := .frz { cls := .type "tuple", data := .seq its.toArray } (.tup ys)) (fun b o e => Heap.get?_push_of_some _ e) (Nat.le_refl _) ?_, rfl, q _ _ (J.hok.fresh (Nat.le_refl _)) rfl rfl⟩
  exact ⟨Heap.get?_push_size _ rfl, hz, its, r', IsTup.new _ _⟩
def tBT (r : V → List V → Hp → VK → Prop) (to : TE) (t : TA) : TE := fun σ H Q => to σ H fun x H1 => (∃ a xs, x = .ref a ∧ TupD H1 a xs) ∧ t σ H1 fun xs H2 => r x xs H2 Q
theorem pe_bmT {o e : Expr} {es : List Expr} {to : TE} {t : TA} {name : Str} {apos cpos : Pos} {id : String} {r : V → List V → Hp → VK → Prop} (slot : Slot "tuple" name id) (hty : typeOf (.builtin id) = pure (.type "method_descriptor")) (hm : MtR X id r) (ho : PE X o to) (ha : PA X (e :: es) t)
    (hbase : attributeBase o name X.env (eval o X.env) = eval o X.env := by rfl)
    (hfew : ((backTo cpos (starEach (e :: es) X.env)).all (fun x => !x.1) && (backToKw cpos (keywordEach [] X.env)).all (fun x => x.1.isSome) && decide ((e :: es).length + ([] : List Keyword).length + (if ([] : List Keyword).isEmpty then 0 else 1) < 30)) = true := by rfl)
    (hline : (apos.endLine == cpos.line) = true := by rfl) (hs : starEach (e :: es) X.env = (false, eval e X.env) :: starEach es X.env := by rfl) (hplain : (backTo cpos (starEach es X.env)).any (·.1) = false := by rfl) :
    PE X (.Call (.Attribute o name apos) (e :: es) [] cpos) (tBT r to t) := by
  refine ⟨fun pins s σ H Q I h => ?_⟩
  refine wpAny_Call_method_late hbase hfew hline rfl (thn (ho.run pins s σ H _ I h) fun v s1 ⟨x, H1, I1, r1, ⟨a, xs, ex, ob, hob, hc, hd⟩, q1⟩ => ?_)
  subst ex
  cases r1
  obtain ⟨hget, _⟩ := I1.hok a _ hob
  refine ⟨"tuple", id, PySem.F.plainAttrs_tuple, slot, hty, ⟨ob, hget, hc⟩, fun c ec => by cases ec; exact ⟨ob, hget, hd⟩, ?_⟩
  have hA := ha.run cpos pins s1 σ H1 _ I1 q1
  rw [hs] at hA ⊢
  refine Calls.callWith_builtin (by show (false || (backTo cpos (starEach es X.env)).any (·.1)) = false; rw [hplain] <;> rfl) (Calls.evalArgs_plain ?_)
  exact thn hA fun us s2 ⟨vs, H2, I2, r2, q2⟩ => hm pins s2 σ H2 (.ref a) vs _ us Q I2 rfl r2 q2
/-! a dict comprehension over a walk -/
theorem dc_it {J : It} {n : Nat} {G : Hp → Prop} {Y : Nat → Hp → V → Hp → Prop} (wk : Walk J n G Y) {g : TG} {tt : TT} {tk tv : TE} {vs : List Nat} {σ : L2.St} {H1 : Hp} {D : Addr} {Qd : Hp → Prop} (Pv : Nat → Hp → Prop) (h0 : Pv 0 (upd H1 D (.dK []))) (hG : ∀ i H, i ≤ n → Pv i H → G H)
    (hs : ∀ i x H H', i < n → Pv i H → Y i H x H' → g x (wipe σ vs) H' fun σ2 H2 => wipe σ2 vs = wipe σ vs ∧ tt σ2 H2 fun b H3 =>
      if b = true then tk σ2 H3 fun y H4 => tv σ2 H4 fun z H5 => ∃ kvs k, y = kV k ∧ H5 D = some (.dK kvs) ∧ kvs.length < sizeLine ∧ Pv (i + 1) (upd H5 D (.dK (putK kvs k z))) else Pv (i + 1) H3) (hd : ∀ H, Pv n H → Qd H) :
    ∃ W : Nat → Nat → Hp → Prop, (∃ m, W 0 m (upd H1 D (.dK []))) ∧ ∀ i m H, W i m H →
      (J.stop i H ∧ Qd H) ∨ (J.go i H ∧ ∃ Nx : Hp → Prop, (∀ H', Nx H' → ∃ m', m' < m ∧ W (i + 1) m' H') ∧ ∀ x H', J.yld i H x H' → g x (wipe σ vs) H' fun σ2 H2 => wipe σ2 vs = wipe σ vs ∧ tt σ2 H2 fun b H3 =>
        if b = true then tk σ2 H3 fun y H4 => tv σ2 H4 fun z H5 => ∃ kvs k, y = kV k ∧ H5 D = some (.dK kvs) ∧ kvs.length < sizeLine ∧ Nx (upd H5 D (.dK (putK kvs k z))) else Nx H3) := by
  refine ⟨fun i m H => m = n - i ∧ i ≤ n ∧ Pv i H, ⟨n, by simp, Nat.zero_le _, h0⟩, ?_⟩
  rintro i m H ⟨rfl, hi, p⟩
  have q := hG i H hi p
  by_cases hlt : i < n
  · exact .inr ⟨wk.goes i H hlt q, Pv (i + 1), fun H' p' => ⟨n - (i + 1), by omega, rfl, hlt, p'⟩, fun x H' y => hs i x H H' hlt p (wk.yields i H x H' hlt q y)⟩
  · obtain rfl : i = n := by omega
    exact .inl ⟨wk.stops H q, hd H p⟩
/-! two sorted lists of the same texts -/
theorem str_ext {a b : Str} (h : a.cps.toList = b.cps.toList) : a = b := by
  cases a with | mk x => cases b with | mk y => exact congrArg Str.mk (Array.toList_inj.mp h)
theorem rising_pw : ∀ (l : List Str) (p : Str), risingS p l = true → (p :: l).Pairwise (fun a b => a.cps.toList ≤ b.cps.toList)
  | [], p, _ => List.pairwise_singleton _ _
  | x :: r, p, h => by
    unfold risingS at h
    rw [Bool.and_eq_true] at h
    have h1 : p.cps.toList ≤ x.cps.toList := by
      rw [ltCps_eq] at h
      exact List.not_lt.mp (by simpa using h.1)
    have ih := rising_pw r x h.2
    refine List.pairwise_cons.mpr ⟨fun y hy => ?_, ih⟩
    rcases List.mem_cons.mp hy with e | e
    · rw [e]; exact h1
    · exact List.le_trans h1 ((List.pairwise_cons.mp ih).1 y e)
theorem sorted_pw : ∀ {l : List Str}, sortedS l = true → l.Pairwise (fun a b => a.cps.toList ≤ b.cps.toList)
  | [], _ => .nil
  | x :: r, h => rising_pw r x h
theorem sorted_one {a b : List Str} (hp : a.Perm b) (ha : sortedS a = true) (hb : sortedS b = true) : a = b :=
  List.Perm.eq_of_pairwise (fun x y _ _ h1 h2 => str_ext (List.le_antisymm h1 h2)) (sorted_pw ha) (sorted_pw hb) hp
end
end Kn
namespace Kn
open PySem PySem.Spec PyProof.Rows L2
/-! how many unlike ones there are -/
def dcs : List Str → List Str → Nat → Nat
  | _, [], c => c
  | seen, x :: r, c => dcs (seen ++ [x]) r (if x ∈ seen then c else c + 1)
theorem dcs_le : ∀ (r seen : List Str) (c : Nat), dcs seen r c ≤ c + r.length
  | [], _, _ => Nat.le_refl _
  | x :: r, seen, c => by
    unfold dcs
    have := dcs_le r (seen ++ [x]) (if x ∈ seen then c else c + 1)
    have h2 : (if x ∈ seen then c else c + 1) ≤ c + 1 := by split <;> omega
    rw [List.length_cons]
    omega
theorem dcs_eq : ∀ (r seen : List Str) (c : Nat), dcs seen r c = c + r.length ↔ (∀ x ∈ r, x ∉ seen) ∧ r.Nodup
  | [], seen, c => by
    unfold dcs
    simp
  | x :: r, seen, c => by
    unfold dcs
    by_cases hx : x ∈ seen
    · rw [if_pos hx]
      have := dcs_le r (seen ++ [x]) c
      constructor
      · intro h
        rw [List.length_cons] at h
        omega
      · intro h
        exact absurd hx (h.1 x List.mem_cons_self)
    · rw [if_neg hx]
      have ih := dcs_eq r (seen ++ [x]) (c + 1)
      rw [List.length_cons, show c + (r.length + 1) = c + 1 + r.length by omega, ih, List.nodup_cons]
      constructor
      · rintro ⟨h1, h2⟩
        refine ⟨fun y hy hs => ?_, fun hm => h1 x hm (List.mem_append_right _ (List.mem_singleton.mpr rfl)), h2⟩
        rcases List.mem_cons.mp hy with e | e
        · exact hx (e ▸ hs)
        · exact h1 y e (List.mem_append_left _ hs)
      · rintro ⟨h1, h2, h3⟩
        refine ⟨fun y hy hs => ?_, h3⟩
        rcases List.mem_append.mp hs with e | e
        · exact h1 y (List.mem_cons_of_mem _ hy) e
        · rw [List.mem_singleton] at e
          exact h2 (e ▸ hy)
theorem dcs_nodup (xs : List Str) : decide (dcs [] xs 0 = xs.length) = decide xs.Nodup := by
  rw [decide_eq_decide]
  have := dcs_eq xs [] 0
  rw [Nat.zero_add] at this
  rw [this]
  simp
/-! sets of texts whose tables can be walked -/
def Tab (w : World) (h : Heap) (a : Addr) (es : List (Int × Value)) : Prop :=
  ∃ o arr ep t, h.get? a = some o ∧ o.ExactSet ∧ o.data = .set arr ep t ∧ arr.toList.Perm es ∧ arr.size < scanBound ∧ t.fits arr.size = true ∧ Ris t.place.toList ∧ (w.params.followText "set-order" = true ∨ t.led = true)
theorem Tab.at {w : World} {h h' : Heap} {a : Addr} {es : List (Int × Value)} (T : Tab w h a es) (k : ∀ o, h.get? a = some o → h'.get? a = some o) : Tab w h' a es := by
  obtain ⟨o, arr, ep, t, ho, r⟩ := T
  exact ⟨o, arr, ep, t, k o ho, r⟩
def txK (e : Int × Value) : Str := match e.2 with | .str k _ => k | _ => ""
def TxE (P : Program) (w : World) (e : Int × Value) : Prop := ∃ k tk, e.2 = .str k tk ∧ e.1 = (PySem.strKind P w).hash k
section
variable {P : Program} {w : World} {A : Around} {E : Value → Shared → Prop} {s : Shared} {a : Addr}
theorem txE_elems {l : List (Int × Value)} (g : ∀ e ∈ l, TxE P w e) : ElemsOf (PySem.strKind P w) l := fun e he => by
  obtain ⟨k, tk, q1, q2⟩ := g e he
  exact ⟨⟨k, by rw [q1]; exact strKind_is _ _ _ _, q2⟩, by rw [q1]; rfl⟩
theorem txE_is {e : Int × Value} (g : TxE P w e) (k : Str) : (PySem.strKind P w).is k e.2 = true ↔ txK e = k := by
  obtain ⟨k0, tk, q1, _⟩ := g
  unfold txK
  rw [q1]
  show (k0 == k) = true ↔ k0 = k
  exact beq_iff_eq
theorem tab_put {arr arr' : Array (Int × Value)} {ep : Nat} {t t' : SetTable} {o : Obj} {es : List (Int × Value)} {h : Heap} (ho : h.get? a = some o) (hx : o.ExactSet) (hd : o.data = .set arr ep t)
    (p : arr'.toList.Perm es) (hb : arr'.size < scanBound) (hf : t'.fits arr'.size = true) (hr : Ris t'.place.toList) (hl : w.params.followText "set-order" = true ∨ t'.led = true) : Tab w (h.update a (Obj.putSet arr' t')) a es :=
  ⟨_, arr', _, t', store_at ho hd, hx, rfl, p, hb, hf, hr, hl⟩
theorem tab_tail {g : Bool → Sem Unit} (hg : ∀ (b : Bool) (s₁ : Shared) (Q' : Unit → Shared → Prop), Q' () s₁ → wpAny (model P w) A (g b) Q' E s₁) {o : Obj} {arr arr1 : Array (Int × Value)} {ep : Nat} {t t2 : SetTable} {es : List (Int × Value)} {dm : Bool} {R : Option Bool → Shared → Prop}
    (ho : s.heap.get? a = some o) (hx : o.ExactSet) (hd : o.data = .set arr ep t) (p : arr1.toList.Perm es) (hb : arr1.size < scanBound) (hf : t2.fits arr1.size = true) (hr : Ris t2.place.toList) (hl : w.params.followText "set-order" = true ∨ t2.led = true)
    (hR : ∀ h', Heap.SameBut a s.heap h' → Tab w h' a es → R (some true) { s with heap := h' }) :
    wpAny (model P w) A (do
        storeSet a arr1 t2
        if (!dm && t2.tooFull) = true then do
            g (relayAll t2 arr1 (SetTable.grown arr1.size)).2.2
            storeSet a (relayAll t2 arr1 (SetTable.grown arr1.size)).1 (relayAll t2 arr1 (SetTable.grown arr1.size)).2.1
            pure (some true)
          else pure (some true)) R E s := by
  refine wpAny_bind (wpAny_storeSet_of ho hd ?_ (fits_of_scanBound hb))
  have sb1 := Heap.SameBut.update s.heap a (Obj.putSet arr1 t2)
  by_cases hfull : (!dm && t2.tooFull) = true
  · rw [if_pos hfull]
    have q1 := relayAll_perm t2 arr1 (SetTable.grown arr1.size)
    have q2 := relayAll_fits t2 arr1 (SetTable.grown arr1.size)
    have q3 := relayAll_ris t2 arr1 (SetTable.grown arr1.size)
    have q4 := relayAll_led t2 arr1 (SetTable.grown arr1.size)
    generalize relayAll t2 arr1 (SetTable.grown arr1.size) = Z at q1 q2 q3 q4 ⊢
    obtain ⟨arr2, t3, gv⟩ := Z
    have hz : arr2.size = arr1.size := by rw [← Array.length_toList, List.Perm.length_eq q1, Array.length_toList]
    refine wpAny_bind (hg _ _ _ ?_)
    have ho1 := store_at (es' := arr1) (t' := t2) ho hd
    refine wpAny_bind (wpAny_storeSet_of ho1 rfl ?_ (fits_of_scanBound (by rw [hz]; exact hb)))
    exact wpAny_pure (hR _ (sb1.trans (Heap.SameBut.update _ a _)) (tab_put ho1 hx rfl (List.Perm.trans q1 p) (by rw [hz]; exact hb) q2 q3 (hl.imp id fun z => q4.trans z)))
  · rw [if_neg hfull]
    exact wpAny_pure (hR _ sb1 (tab_put ho hx hd p hb hf hr hl))
theorem tab_add {k : Str} {tk : Tok} {es : List (Int × Value)} {Q : Bool → Shared → Prop} (T : Tab w s.heap a es) (g : ∀ e ∈ es, TxE P w e) (room : es.length + 1 < scanBound)
    (hQ : ∀ h', Heap.SameBut a s.heap h' → Tab w h' a (if k ∈ es.map txK then es else ((PySem.strKind P w).hash k, .str k tk) :: es) → Q (!decide (k ∈ es.map txK)) { s with heap := h' }) :
    wpAny (model P w) A (setAddHashed a (.str k tk) ((PySem.strKind P w).hash k)) Q E s := by
  obtain ⟨o, arr, ep, t, ho, hx, hd, hp, hb, hf, hr, hl⟩ := T
  have ga : ∀ e ∈ arr.toList, TxE P w e := fun e he => g e (hp.mem_iff.mp he)
  have hel := txE_elems ga
  have hsc : (Value.str k tk).scannable = true := rfl
  unfold setAddHashed setAddHashedIn
  refine wpAny_holding (wpAny_bind (wpAny_setState_of ho hd hf ?_))
  dsimp only
  rw [byScan_of hsc hb hel]
  simp only [↓reduceIte]
  unfold setAddByScan
  refine wpAny_bind (wpAny_bind (wpAny_rule (wpAny_bind (wpAny_setScan_of (strKind_is _ _ k tk) ho hd hf hel ?_))))
  cases hfi : List.findIdx? (fun e => (PySem.strKind P w).is k e.2) arr.toList with
  | some j =>
    obtain ⟨hj, pj, _⟩ := List.findIdx?_eq_some_iff_getElem.mp hfi
    have hk : k ∈ es.map txK := (hp.map txK).mem_iff.mp (List.mem_map.mpr ⟨arr.toList[j], List.getElem_mem hj, (txE_is (ga _ (List.getElem_mem hj)) k).mp pj⟩)
    have q := hQ s.heap (Heap.SameBut.refl a s.heap)
    rw [if_pos hk, decide_eq_true hk] at q
    exact wpAny_pure (wpAny_pure (q ⟨o, arr, ep, t, ho, hx, hd, hp, hb, hf, hr, hl⟩))
  | none =>
    have hk : k ∉ es.map txK := fun z => by
      obtain ⟨e, he, e2⟩ := List.mem_map.mp ((hp.map txK).mem_iff.mpr z)
      have c := List.findIdx?_eq_none_iff.mp hfi e he
      rw [(txE_is (ga e he) k).mpr e2] at c
      cases c
    have q := hQ
    rw [if_neg hk, decide_eq_false hk] at q
    have q1 := layNew_perm t arr ((PySem.strKind P w).hash k) (.str k tk)
    have q2 := layNew_fits t arr ((PySem.strKind P w).hash k) (.str k tk)
    have q3 := layNew_ris t arr ((PySem.strKind P w).hash k) (.str k tk) hr
    have q4 := layNew_led t arr ((PySem.strKind P w).hash k) (.str k tk)
    dsimp only
    generalize layNew t arr ((PySem.strKind P w).hash k) (.str k tk) = Z at q1 q2 q3 q4 ⊢
    obtain ⟨arr1, t1, dm, gv⟩ := Z
    dsimp only at q1 q2 q3 q4 ⊢
    rw [Array.toList_push] at q1
    have pc : arr1.toList.Perm (((PySem.strKind P w).hash k, .str k tk) :: es) := (List.Perm.trans q1 (List.perm_append_singleton _ _)).trans (hp.cons _)
    have hz : arr1.size < scanBound := by rw [← Array.length_toList, pc.length_eq]; exact room
    have hld : w.params.followText "set-order" = true ∨ t1.led = true := hl.imp id fun z => q4.trans z
    have rl : ∀ (b : Bool) (s₁ : Shared) (Q' : Unit → Shared → Prop), Q' () s₁ → wpAny (model P w) A (match b with | true => rule "set.scan.the-table-gave-way" | false => pure ()) Q' E s₁ :=
      fun b s₁ Q' z => by cases b <;> first | exact wpAny_pure z | exact wpAny_rule z
    refine wpAny_bind (rl _ _ _ ?_)
    split
    · refine wpAny_bind ?_
      rw [hashByValue_scannable 8 hsc]
      refine wpAny_pure (tab_tail ?_ ho hx hd pc hz ?_ ?_ ?_ ?_)
      · intro b s₁ Q' z; cases b <;> first | exact wpAny_pure z | exact wpAny_rule z
      · first | (split <;> first | exact q2 | exact SetTable.fits_plain_off q2) | exact q2
      · first | (split <;> exact q3) | exact q3
      · first | (split <;> exact hld) | exact hld
      · exact fun h' sb r => wpAny_pure (q h' sb r)
    · refine wpAny_bind (wpAny_pure ?_)
      simp only [↓reduceIte]
      refine tab_tail ?_ ho hx hd pc hz q2 q3 hld fun h' sb r => wpAny_pure (q h' sb r)
      intro b s₁ Q' z; cases b <;> first | exact wpAny_pure z | exact wpAny_rule z
/-- a set being filled: its entries are texts, unlike, those of ks -/
structure Fill (P : Program) (w : World) (h : Heap) (S : Addr) (es : List (Int × Value)) (ks : List Str) : Prop where
  tab : Tab w h S es
  txt : ∀ e ∈ es, TxE P w e
  uni : (es.map txK).Nodup
  mem : ∀ k, k ∈ es.map txK ↔ k ∈ ks
theorem Fill.moved {h h' : Heap} {S : Addr} {es : List (Int × Value)} {ks : List Str} (F : Fill P w h S es ks) (k : ∀ o, h.get? S = some o → h'.get? S = some o) : Fill P w h' S es ks := ⟨F.tab.at k, F.txt, F.uni, F.mem⟩
theorem Fill.more {h : Heap} {S : Addr} {es : List (Int × Value)} {ks : List Str} {x : Str} {t : Tok} {h' : Heap} (F : Fill P w h S es ks) (T : Tab w h' S (if x ∈ es.map txK then es else ((PySem.strKind P w).hash x, .str x t) :: es)) :
    ∃ es', Fill P w h' S es' (ks ++ [x]) ∧ es'.length = (if x ∈ ks then es.length else es.length + 1) := by
  by_cases hx : x ∈ es.map txK
  · rw [if_pos hx] at T
    refine ⟨es, ⟨T, F.txt, F.uni, fun k => ?_⟩, by rw [if_pos ((F.mem x).mp hx)]⟩
    rw [F.mem k, List.mem_append, List.mem_singleton]
    exact ⟨.inl, fun q => q.elim id fun q => by rw [q]; exact (F.mem x).mp hx⟩
  · rw [if_neg hx] at T
    refine ⟨_, ⟨T, fun e he => ?_, List.nodup_cons.mpr ⟨hx, F.uni⟩, fun k => ?_⟩, by rw [if_neg fun q => hx ((F.mem x).mpr q)]; rfl⟩
    · rcases List.mem_cons.mp he with q | q
      · rw [q]; exact ⟨x, t, rfl, rfl⟩
      · exact F.txt e q
    · rw [List.map_cons, List.mem_cons, F.mem k, List.mem_append, List.mem_singleton]
      exact Or.comm
end
section
variable {P : Program} {w : World} {A : Around} {R : Result → Shared → Prop} {I : Addr} {fp wr : List Addr} {G : Array GenState → Array GenState → Prop} {n : Nat} {Pv : Nat → Value → Prop} {St : Nat → Shared → Prop}
theorem fill_loop (W : WalksS P w A.in1 I fp wr G n Pv St) {S : Addr} (off : S ∉ fp) {xs : List Str} (len : xs.length = n) (few : n ≤ 4000) (isx : ∀ i v, Pv i v → ∃ x t, xs[i]? = some x ∧ v = .str x t) :
    ∀ (r : List Str) (i : Nat) (s : Shared) (es : List (Int × Value)), xs.drop i = r → i ≤ n → St i s → Fill P w s.heap S es (xs.take i) → es.length ≤ i →
      (∀ s' es', Moved (S :: wr) G s s' → Fill P w s'.heap S es' xs → es'.length = dcs (xs.take i) r es.length → R (.ok (.ret .none)) s') → codeAny (model P w) A (.builtin "set.update.loop" ⟨[.ref S, .ref I], []⟩) R s
  | [], i, s, es, hd, hi, st, F, hl, fin => by
    have ei : i = n := by
      have := congrArg List.length hd
      rw [List.length_drop, List.length_nil] at this
      omega
    subst ei
    have et : xs.take i = xs := by rw [← len, List.take_length]
    refine codeAny_builtin PyProof.Rows.F.entry_set_update_loop ?_
    rw [Around.under_plainId PyProof.Rows.F.plain_set_update_loop]
    refine wpAny_bind (W.done s _ _ st fun s' mv => wpAny_pure (fin s' es ⟨fun b o nb e => mv.heap b o (fun z => nb (List.mem_cons_of_mem _ z)) e, mv.gens, mv.drawn, mv.os, mv.toks⟩ ?_ rfl))
    have := F.moved fun o e => mv.heap S o (fun z => off (W.sub S z)) e
    rw [et] at this
    exact this
  | x :: r, i, s, es, hd, hi, st, F, hl, fin => by
    have lt : i < n := by
      have := congrArg List.length hd
      rw [List.length_drop, List.length_cons] at this
      omega
    have hx : xs[i]? = some x := by
      have := congrArg List.head? hd
      rw [List.head?_drop] at this
      exact this
    have hd' : xs.drop (i + 1) = r := by
      have := congrArg List.tail hd
      rw [List.tail_drop] at this
      exact this
    have et : xs.take (i + 1) = xs.take i ++ [x] := by rw [List.take_add_one, hx]; rfl
    refine codeAny_builtin PyProof.Rows.F.entry_set_update_loop ?_
    rw [Around.under_plainId PyProof.Rows.F.plain_set_update_loop]
    refine wpAny_bind (W.item i s _ _ lt st fun v s1 pv st1 mv => ?_)
    obtain ⟨x', t, hx', rfl⟩ := isx i v pv
    rw [hx] at hx'
    obtain rfl : x = x' := Option.some.inj hx'
    have F1 := F.moved fun o e => mv.heap S o (fun z => off (W.sub S z)) e
    show wpAny _ A.in1 (holding [Value.str x t] (setAdd S (.str x t)) >>= _) _ _ s1
    unfold setAdd
    refine wpAny_bind (wpAny_holding (wpAny_holding (wpAny_bind ((PySem.strKind P w).pyHash (k := x) (strKind_is _ _ _ _) ?_))))
    refine tab_add (s := { s1 with toks := s1.toks + 1 }) F1.tab F1.txt (by unfold scanBound; omega) fun h2 sb T => ?_
    obtain ⟨es2, F2, l2⟩ := F1.more T
    rw [← et] at F2
    have keep : ∀ b, b ≠ S → ∀ o, s1.heap.get? b = some o → h2.get? b = some o := fun b nb o e => (sb.2 b nb).trans e
    refine wpAny_pure ⟨plainId_quiet PyProof.Rows.F.plain_set_update_loop _, fill_loop W off len few isx r (i + 1) _ es2 hd' lt (W.frame _ s1 _ _ st1 (Nat.le_succ _) fun b hb o e => keep b (fun z => off (z ▸ hb)) o e) F2 (by rw [l2]; split <;> omega) fun s3 es3 mv3 F3 l3 => fin s3 es3 ⟨fun b o nb e => ?_, ?_, ?_, ?_, ?_⟩ F3 ?_⟩
    · exact mv3.heap b o nb (keep b (fun z => nb (by rw [z]; exact List.mem_cons_self)) o (mv.heap b o (fun z => nb (List.mem_cons_of_mem _ z)) e))
    · exact W.gtrans _ _ _ mv.gens mv3.gens
    · exact mv3.drawn.trans mv.drawn
    · exact mv3.os.trans mv.os
    · exact Nat.le_trans mv.toks (Nat.le_trans (Nat.le_succ _) mv3.toks)
    · rw [l3, l2, et]
      rfl
end
section
variable {P : Program} {w : World} {A : Around} {E : Value → Shared → Prop} {s : Shared}
abbrev setNew (w : World) (h : Heap) : Heap := h.push { cls := .type "set", dict := none, data := .set #[] 0 (.fresh 0 0 (!w.params.followText "set-order")) }
/-- set(v): the new set, then __init__ -/
theorem set_call {v : Value} {Q : Value → Shared → Prop}
    (init : codeAny (model P w) A.in1 (.call (.builtin "set.__init__") ⟨[.ref s.heap.objs.size, v], []⟩) (wants (fun r s₂ => r = .none ∧ Q (.ref s.heap.objs.size) s₂) E) { s with heap := setNew w s.heap }) :
    wpAny (model P w) A (call (.type "set") [v]) Q E s := by
  have ft := PySem.F.called_set
  obtain ⟨c0, tl0, m0⟩ := ft.mro
  have m1 := ft.made; have m2 := ft.sub; have m3 := ft.notType; have m4 := ft.canCreate; have m5 := PySem.F.typeCall_set_1 v
  refine wpAny_call (codeAny_of_tree (show wpAny _ _ (callAny (.type "set") _) _ _ _ from wpAny_pure ⟨Code.quiet_builtin _ (by decide +kernel), codeAny_builtin PySem.F.entry_type_call ?_⟩))
  rw [Around.under_plain (weight_type_call_type "set" [v] []) rfl]
  repeat (any_goals (first | assumption | wp_step))
  refine codeAny_mono (code_set_led1 v (E := E) (Q₁ := fun x s₁ => x = .ref s.heap.objs.size ∧ s₁ = { s with heap := setNew w s.heap }) ⟨rfl, rfl⟩) fun r1 s1 h1 => ?_
  match r1, h1 with
  | .error _, h1 => exact h1
  | .ok (.ret x), h1 =>
    obtain ⟨ex, es⟩ := h1
    subst ex; subst es
    have n1 := ft.init.lookup; have n2 := ft.init.bind (.ref s.heap.objs.size)
    have n3 : Shared.TypeIs { s with heap := setNew w s.heap } (.ref s.heap.objs.size) "set" := ⟨_, Heap.get?_push_size _ rfl, rfl⟩
    repeat (any_goals (first | assumption | wp_step))
    refine codeAny_mono init fun r2 s2 h2 => ?_
    match r2, h2 with
    | .error _, h2 => exact h2
    | .ok (.ret y), h2 =>
      obtain ⟨ey, hq⟩ := h2
      subst ey
      repeat (any_goals (first | assumption | wp_step))
    | .ok .next, h2 => exact h2.elim
    | .ok .brk, h2 => exact h2.elim
    | .ok .cont, h2 => exact h2.elim
  | .ok .next, h1 => exact h1.elim
  | .ok .brk, h1 => exact h1.elim
  | .ok .cont, h1 => exact h1.elim
set_option maxHeartbeats 3200000 in
/-- set(xs), xs a list or a tuple of texts -/
theorem set_texts {l : Addr} {items : Array Value} {xs : List Str} {Q : Value → Shared → Prop} (hh : A.handled = none) (hl : s.heap.IsTuple l items ∨ s.heap.IsList l items) (tx : StrsAre items.toList xs) (few : xs.length ≤ 4000)
    (fin : ∀ h' tk es, Fill P w h' s.heap.objs.size es xs → es.length = dcs [] xs 0 → (∀ b o, s.heap.get? b = some o → h'.get? b = some o) → Q (.ref s.heap.objs.size) { s with heap := h', toks := tk }) :
    wpAny (model P w) A (call (.type "set") [.ref l]) Q E s := by
  refine set_call ?_
  have new : SetR w (setNew w s.heap) s.heap.objs.size (fun _ => false) 0 := setR_fresh w
  generalize hH : setNew w s.heap = H1 at new ⊢
  have up : ∀ b o, s.heap.get? b = some o → H1.get? b = some o := fun b o e => by rw [← hH]; exact Heap.get?_push_of_some _ e
  have big : H1.objs.size = s.heap.objs.size + 1 := by rw [← hH, Heap.size_push]
  obtain ⟨o, es, ep, t, ho, hx, hd, gE, _, _, hb, hf, hn, hr, hld⟩ := new
  have es0 : es.toList = [] := List.length_eq_zero_iff.mp (by rw [Array.length_toList]; exact hn)
  have F0 : Fill P w H1 s.heap.objs.size [] (xs.take 0) := ⟨⟨o, es, ep, t, ho, hx, hd, by rw [es0], hb, hf, hr, hld⟩, (fun _ h => nomatch h), List.nodup_nil, (fun k => by simp)⟩
  have hT : Shared.TypeIs { s with heap := H1 } (.ref s.heap.objs.size) "set" := ⟨o, ho, hx.1⟩
  have lt : l < s.heap.objs.size := hl.elim (fun ⟨_, q, _⟩ => Heap.lt_size q) (fun ⟨_, q, _⟩ => Heap.lt_size q)
  have nl : l ≠ H1.objs.size := by rw [big]; exact Nat.ne_of_lt (Nat.lt_succ_of_lt lt)
  have off : s.heap.objs.size ∉ [H1.objs.size, l] := by
    rw [big]
    intro h
    rcases List.mem_cons.mp h with q | q
    · exact absurd q (Nat.ne_of_lt (Nat.lt_succ_self _))
    · exact absurd (List.mem_singleton.mp q) (Nat.ne_of_gt lt)
  have len : xs.length = items.size := by rw [← StrsAre.len_eq tx, Array.length_toList]
  have isx : ∀ (i : Nat) (v : Value), items[i]? = some v → ∃ (x : Str) (t : Tok), xs[i]? = some x ∧ v = Value.str x t := fun i v hv => by
    obtain ⟨t, e⟩ := SS.strs_at tx i v (by rw [Array.getElem?_toList]; exact hv)
    have hi : i < xs.length := by rw [len]; exact (Array.getElem?_eq_some_iff.mp hv).1
    exact ⟨_, t, by rw [List.getD_eq_getElem?_getD, List.getElem?_eq_getElem hi]; rfl, e⟩
  refine codeAny_call_builtin PySem.F.called_set.init.plain PySem.F.entry_set_init (check_set_init_1 hT ?_)
  have last : ∀ (St : Nat → Heap → Prop) (H2 : Heap), (∀ b o, H1.get? b = some o → H2.get? b = some o) → Walks P w A.in1.in1.in1 H1.objs.size [H1.objs.size, l] [H1.objs.size] items.size (fun i v => items[i]? = some v) St → St 0 H2 →
      codeAny (model P w) A.in1.in1 (.builtin "set.update.loop" ⟨[.ref s.heap.objs.size, .ref H1.objs.size], []⟩) (fun r s' => r = .ok (.ret .none) ∧ ∃ h' tk, s' = { s with heap := h', toks := tk } ∧ Q (.ref s.heap.objs.size) s') { s with heap := H2 } := fun St H2 kp W st => by
    refine fill_loop W.toS off len (by omega) isx (xs.drop 0) 0 _ [] rfl (Nat.zero_le _) st (F0.moved fun o e => kp _ o e) (Nat.le_refl _) fun s' es' mv F' el => ?_
    obtain ⟨h', g', d', tk', os'⟩ := s'
    obtain rfl : g' = s.gens := mv.gens
    obtain rfl : d' = s.drawn := mv.drawn
    obtain rfl : os' = s.os := mv.os
    refine ⟨rfl, h', tk', rfl, fin h' tk' es' F' (by rw [el]; rfl) fun b o e => mv.heap b o (fun z => ?_) (kp b o (up b o e))⟩
    have hb : b < s.heap.objs.size := Heap.lt_size e
    rcases List.mem_cons.mp z with q | q
    · exact Nat.ne_of_lt hb q
    · rw [List.mem_singleton.mp q, big] at hb
      exact absurd hb (Nat.not_lt.mpr (Nat.le_succ _))
  have hget : H1.get? s.heap.objs.size = some { cls := .type "set", dict := none, data := .set #[] 0 (.fresh 0 0 (!w.params.followText "set-order")) } := by rw [← hH]; exact Heap.get?_push_size _ rfl
  generalize (!w.params.followText "set-order") = led at hget
  have h3 : A.in1.in1.in1.handled = none := by simp [hh]
  rcases hl with hl | hl
  · obtain ⟨ol, hol, hcl, nn, hdl⟩ := hl
    have hol1 := up _ _ hol
    obtain ⟨c1, c2, c3, c4⟩ := ol
    simp only at hcl hdl
    subst hcl; subst hdl
    have g1 := PySem.F.sub_tuple_set; have g2 := PySem.F.sub_tuple_frozenset
    have g3 : (Value.type "tuple" == Value.type "dict") = false := by decide
    have it1 : H1.IsTuple l items := ⟨_, hol1, rfl, nn, rfl⟩
    unfold Builtin.«set.__init__» noKeywords Builtin.Frozenset.updateFrom
    generalize hPI : pyIter = PI
    wp_walk
    subst hPI
    refine wpAny_pyIter_tuple it1 (wpAny_bind (wpAny_runValue ?_))
    refine codeAny_mono (last _ _ (fun b o e => Heap.get?_push_of_some _ e) (Walks.tuple h3 _ l nl items) ⟨⟨_, Heap.get?_push_size _ rfl, rfl, rfl⟩, it1.push _⟩) fun r s' hq => ?_
    obtain ⟨rfl, h', tk, rfl, q⟩ := hq
    exact wpAny_pure (wpAny_pure ⟨rfl, q⟩)
  · obtain ⟨ol, hol, hcl, nn, hdl⟩ := hl
    have hol1 := up _ _ hol
    obtain ⟨c1, c2, c3, c4⟩ := ol
    simp only at hcl hdl
    subst hcl; subst hdl
    have g1 := PySem.F.sub_list_set; have g2 := PySem.F.sub_list_frozenset
    have g3 : (Value.type "list" == Value.type "dict") = false := by decide
    have it1 : H1.IsList l items := ⟨_, hol1, rfl, nn, rfl⟩
    unfold Builtin.«set.__init__» noKeywords Builtin.Frozenset.updateFrom
    generalize hPI : pyIter = PI
    wp_walk
    subst hPI
    refine wpAny_pyIter_list it1 (wpAny_bind (wpAny_runValue ?_))
    refine codeAny_mono (last _ _ (fun b o e => Heap.get?_push_of_some _ e) (Walks.list h3 _ l nl items) ⟨⟨_, Heap.get?_push_size _ rfl, rfl, rfl⟩, it1.push _⟩) fun r s' hq => ?_
    obtain ⟨rfl, h', tk, rfl, q⟩ := hq
    exact wpAny_pure (wpAny_pure ⟨rfl, q⟩)
end
end Kn
namespace Kn
open PySem PySem.Spec PyProof.Rows L2
section
variable {P : Program} {w : World} {A : Around} {E : Value → Shared → Prop} {s : Shared}
theorem txs_of : ∀ (l : List Value), (∀ v ∈ l, ∃ k tk, v = Value.str k tk) → ∃ ks : List Str, StrsAre l ks ∧ ks = l.map fun v => match v with | .str k _ => k | _ => ""
  | [], _ => ⟨[], .nil, rfl⟩
  | v :: l, h => by
    obtain ⟨ks, q1, q2⟩ := txs_of l fun u hu => h u (List.mem_cons_of_mem _ hu)
    obtain ⟨k, tk, rfl⟩ := h v List.mem_cons_self
    exact ⟨k :: ks, .cons k tk q1, by rw [q2]; rfl⟩
/-- sorted(s), s a set of texts, fewer than 64 -/
theorem sorted_fill {a : Addr} {es : List (Int × Value)} {ks : List Str} {Q : Value → Shared → Prop} (hh : A.handled = none) (F : Fill P w s.heap a es ks) (h64 : es.length < 64)
    (fin : ∀ (s' : Shared) (p : Addr) (out : Array Value) (c : Nat) (zs : List Str), (∀ b o, s.heap.get? b = some o → s'.heap.get? b = some o) → s'.gens = s.gens → s'.os = s.os → s.heap.objs.size ≤ p →
      s'.heap.get? p = some (seqObj "list" out c) → StrsAre out.toList zs → sortedS zs = true → zs.Nodup → (∀ k, k ∈ zs ↔ k ∈ ks) → Q (.ref p) s') :
    wpAny (model P w) A (call (.builtin "sorted") [.ref a]) Q E s := by
  obtain ⟨o, arr, ep, t, ho, hx, hd, hp, hb, hf, hr, hl⟩ := F.tab
  refine Calls.call_function_entry kind_sorted plain_sorted entry_sorted (args_sorted1 _) ?_
  unfold Builtin.«sorted»
  refine wpAny_bind (m := checkCount "sorted" 1 1 _) (wpAny_pure (wpAny_bind (collect_set (A := A.in1) hh ⟨o, ho, hx.1, hd⟩ hf hb hr hl fun s1 vs k1 hz g1 o1 pm => ?_)))
  have pe : vs.Perm (es.map (·.2)) := pm.trans (hp.map _)
  have lv : vs.length = es.length := by rw [pe.length_eq, List.length_map]
  obtain ⟨ws, tw, ew⟩ := txs_of vs fun v hv => by
    obtain ⟨e, he, q⟩ := List.mem_map.mp (pe.mem_iff.mp hv)
    obtain ⟨k, tk, q1, _⟩ := F.txt e he
    exact ⟨k, tk, by rw [← q]; exact q1⟩
  have pw : ws.Perm (es.map txK) := by
    rw [ew]
    have := pe.map fun v => match v with | Value.str k _ => k | _ => ""
    rw [List.map_map] at this
    exact this
  refine wpAny_bind (wpAny_newList ?_ (by rw [lv, sizeLine_eq]; omega))
  have hoL : (s1.heap.push (seqObj "list" vs.toArray 0)).get? s1.heap.objs.size = some (seqObj "list" vs.toArray 0) := Heap.get?_push_size _ rfl
  refine wpAny_bind (wpAny_holding (wpAny_call_entry slot_list_sort ⟨_, hoL, rfl⟩ entry_list_sort (list_sort_treeK strKind_oneLt hoL tw.keysOf (fun v₁ v₂ rest e => keyKind_strs (by rw [← e]; exact tw)) (by rw [lv]; exact h64) fun st' a1 a2 => ⟨_, rfl, ?_⟩) (args_list_sort _)))
  obtain ⟨zs, z1, z2, z3⟩ := sorted_out_str tw a1 a2
  obtain ⟨c, hc⟩ := sortedHeap_at (vs := vs) (out := (arrOf st').map (·.2)) hoL
  have pz : zs.Perm (es.map txK) := z2.trans pw
  refine wpAny_pure ⟨_, rfl, fin _ s1.heap.objs.size _ c zs (fun b u e => ?_) g1 o1 hz hc z1 z3 (pz.nodup_iff.mpr F.uni) fun k => by rw [pz.mem_iff, F.mem k]⟩
  have q := k1 b u e
  have lt := Heap.lt_size q
  show (sortedHeap (s1.heap.push (seqObj "list" vs.toArray 0)) s1.heap.objs.size vs _).get? b = some u
  rw [sortedHeap_old (Nat.ne_of_lt lt) (by rw [size_push']; exact Nat.lt_succ_of_lt lt)]
  exact Heap.get?_push_of_some _ q
end
section
variable {X : Cx}
/-- len(set(t)) -/
def tLenS (K : PySem.W.Frag) (ta : TE) : TE := fun σ H Q => ta σ H fun x H1 => ∃ (l : Addr) (xs : List Str), x = .ref l ∧ SqT K H1 l (xs.map V.str) ∧ xs.length ≤ 4000 ∧ Q (.int ((dcs [] xs 0 : Nat) : Int)) H1
theorem pe_lenS {a : Expr} {ta : TE} {p p2 q pos : Pos} (hc : X.calm = true) (hg : Gl X "len") (hm : X.mg "len" = none) (hg2 : Gl X "set") (hm2 : X.mg "set" = none) (ha : PE X a ta)
    (na : starEach [a] X.env = (false, eval a X.env) :: starEach [] X.env := by rfl) : PE X (.Call (.Name "len" p) [.Call (.Name "set" p2) [a] [] q] [] pos) (tLenS X.K ta) := by
  refine ⟨fun pins s σ H Q I h => Call_ (ld_blt I hg hm boot_len (PyProof.Rows.callWith_builtin1 (PyProof.Rows.args_cons ?_ rfl) rfl rfl))⟩
  refine Call_ (ld_blt I hg2 hm2 boot_set (PyProof.Rows.callWith_type1 (PyProof.Rows.args_cons (thn (ha.run pins s σ H _ I h) fun v s1 ⟨x, H1, I1, r1, q1⟩ => PyProof.Rows.args_nil ?_) na) na rfl))
  obtain ⟨l, xs, rfl, hq, few, q1⟩ := q1
  cases r1
  obtain ⟨its, r, pl, hz⟩ := I1.tuple hq
  refine set_texts (I1.ok.hd hc) (.inl pl) (by simpa using strsAre_of r) few fun h' tk es F el up => PyProof.Rows.args_nil ?_
  obtain ⟨o, arr, ep, t, ho, hx, hd, hp, hb, hf, _, _⟩ := F.tab
  have ea : arr.size = dcs [] xs 0 := by rw [← el, ← hp.length_eq, Array.length_toList]
  have I2 : Inv X pins σ H1 { s1 with heap := h', toks := tk } := I1.kept up
  have := dcs_le xs [] 0
  exact call_len_set ho hx hd hf (by rw [ea]; omega) ⟨.int ((dcs [] xs 0 : Nat) : Int), H1, I2.tok _, ⟨_, by rw [ea]⟩, q1⟩
/-- sorted(set(l)), l a list of texts, fewer than 64 -/
def tSortS (K : PySem.W.Frag) (ta : TE) : TE := fun σ H Q => ta σ H fun x H1 => ∃ (l : Addr) (xs : List Str), x = .ref l ∧ SqL K H1 l (xs.map V.str) ∧ xs.length < 64 ∧
  ∀ (zs : List Str) (p : Addr), sortedS zs = true → zs.Nodup → (∀ k, k ∈ zs ↔ k ∈ xs) → H1 p = none → Q (.ref p) (upd H1 p (.lst (zs.map V.str)))
theorem pe_sortS {a : Expr} {ta : TE} {p p2 q pos : Pos} (hc : X.calm = true) (hg : Gl X "sorted") (hm : X.mg "sorted" = none) (hg2 : Gl X "set") (hm2 : X.mg "set" = none) (ha : PE X a ta)
    (na : starEach [a] X.env = (false, eval a X.env) :: starEach [] X.env := by rfl) : PE X (.Call (.Name "sorted" p) [.Call (.Name "set" p2) [a] [] q] [] pos) (tSortS X.K ta) := by
  refine ⟨fun pins s σ H Q I h => Call_ (ld_blt I hg hm (show bootBuiltins "sorted" = some (.builtin "sorted") by decide +kernel) (PyProof.Rows.callWith_builtin1 (PyProof.Rows.args_cons ?_ rfl) rfl rfl))⟩
  refine Call_ (ld_blt I hg2 hm2 boot_set (PyProof.Rows.callWith_type1 (PyProof.Rows.args_cons (thn (ha.run pins s σ H _ I h) fun v s1 ⟨x, H1, I1, r1, q1⟩ => PyProof.Rows.args_nil ?_) na) na rfl))
  obtain ⟨l, xs, rfl, hq, few, q1⟩ := q1
  cases r1
  obtain ⟨its, r, pl, hz⟩ := I1.list hq
  refine set_texts (I1.ok.hd hc) (.inr pl.isList) (by simpa using strsAre_of r) (by omega) fun h' tk es F el up => PyProof.Rows.args_nil ?_
  have I2 : Inv X pins σ H1 { s1 with heap := h', toks := tk } := I1.kept up
  have := dcs_le xs [] 0
  refine sorted_fill (I1.ok.hd hc) F (by omega) fun s' p out c zs k g os hp hg' ht hs hu hm' => ?_
  have hn : H1 p = none := I2.hok.fresh hp
  have hlen : (zs.map V.str).length ≤ sizeLine := by
    have l1 : zs.length ≤ 64 := by
      have e1 : zs.length ≤ es.length := by
        have pz : zs.Perm (es.map txK) := (List.perm_ext_iff_of_nodup hu F.uni).mpr fun k => by rw [hm' k, F.mem k]
        rw [pz.length_eq, List.length_map]
        exact Nat.le_refl _
      omega
    rw [List.length_map, sizeLine_eq]
    omega
  generalize hS2 : ({ s1 with heap := h', toks := tk } : Shared) = s2 at I2 k g os hp
  have J : Inv X pins σ (upd H1 p (.lst (zs.map V.str))) { s2 with heap := s'.heap, gens := s'.gens, drawn := s'.drawn, toks := s'.toks } :=
    I2.call (ch := []) (Un.laid k hp hn) (I2.hok.laid k hp ⟨hlen, out.toList, c, vals_of_strs ht, hg'⟩) (by rw [g]; exact I2.bare) (fun _ z => nomatch z)
  have e : s' = { s2 with heap := s'.heap, gens := s'.gens, drawn := s'.drawn, toks := s'.toks } := by
    show s' = { heap := s'.heap, gens := s'.gens, drawn := s'.drawn, toks := s'.toks, os := s2.os }
    rw [← os]
  rw [e]
  exact ⟨.ref p, _, J, rfl, q1 zs p hs hu hm' hn⟩
end
end Kn
namespace Kn
open PySem PySem.Spec PyProof.Rows L2
section
variable {X : Cx}
/-! a displayed tuple, t + u: known not to have a dict -/
def tTupD (t : TA) : TE := fun σ H Q => t σ H fun xs H1 => xs.length ≤ sizeLine ∧ ∀ p o, H1 p = none → o.cls = .type "tuple" → o.dict = none → Q (.ref p) (upd H1 p (.frz o (.tup xs)))
theorem pe_tupD {es : List Expr} {t : TA} {pos : Pos} {x1} (h : PA X es t) : PE X (.Tuple es x1 pos) (tTupD t) := by
  refine ⟨fun pins s σ H Q I hq => ?_⟩
  refine wpAny_Tuple_spliced (thn (h.run pos pins s σ H _ I hq) fun us s1 ⟨xs, H1, I1, r, z, q⟩ => ⟨by rw [← r.length]; exact z, ?_⟩)
  have hf : H1 s1.heap.objs.size = none := I1.hok.fresh (Nat.le_refl _)
  refine ⟨.ref s1.heap.objs.size, _, I1.laid (t' := s1.toks) (o := .frz { cls := .type "tuple", data := .seq us.toArray } (.tup xs)) (fun b u e => Heap.get?_push_of_some _ e) (Nat.le_refl _) ?_, rfl, q _ _ hf rfl rfl⟩
  exact ⟨Heap.get?_push_size _ rfl, z, us, r, ⟨_, Heap.get?_push_size _ rfl, rfl, _, rfl⟩⟩
def rCatD (K : PySem.W.Frag) : R2 := fun x y H Q => ∃ a b xs ys, x = .ref a ∧ y = .ref b ∧ SqT K H a xs ∧ SqT K H b ys ∧ xs ≠ [] ∧ ys ≠ [] ∧ xs.length + ys.length ≤ sizeLine ∧
  ∀ p o, H p = none → o.cls = .type "tuple" → o.dict = none → Q (.ref p) (upd H p (.frz o (.tup (xs ++ ys))))
theorem op_catD : OpR X (binaryOp .Add) (rCatD X.K) := by
  intro pins s σ H x y v u Q I rx ry h
  obtain ⟨a, b, xs, ys, rfl, rfl, ha, hb, hx, hy, hz, q⟩ := h
  cases rx
  cases ry
  obtain ⟨its, r1, p1, _⟩ := I.tuple ha
  obtain ⟨its2, r2, p2, _⟩ := I.tuple hb
  refine HT.cat_tup p1 p2 (fun z => hx (r1.nil_iff.mp z)) (fun z => absurd (r2.nil_iff.mp z) hy) (fun z => ?_) (by rw [← r1.length, ← r2.length]; exact hz)
  refine ⟨.ref s.heap.objs.size, _, I.laid (t' := s.toks) (o := .frz { cls := .type "tuple", data := .seq (its ++ its2).toArray } (.tup (xs ++ ys))) (fun b ob q => Heap.get?_push_of_some _ q) (Nat.le_refl _) ?_, rfl, q _ _ (I.hok.fresh (Nat.le_refl _)) rfl rfl⟩
  exact ⟨Heap.get?_push_size _ rfl, by rw [List.length_append]; exact hz, _, r1.append r2, IsTup.new _ _⟩
/-! t.count(z), texts -/
def rTC (K : PySem.W.Frag) : V → List V → Hp → VK → Prop := fun x xs H Q => ∃ p, ∃ ys : List Str, ∃ z, x = .ref p ∧ xs = [.str z] ∧ SqT K H p (ys.map V.str) ∧ Q (.int ((ys.count z : Nat) : Int)) H
theorem mt_tcount : MtR X "tuple.count" (rTC X.K) := by
  intro pins s σ H x xs v us Q I rx rs h
  obtain ⟨p, ys, z, rfl, rfl, hq, q⟩ := h
  cases rx
  obtain ⟨u, rfl, t, rfl⟩ := vals1 rs
  obtain ⟨its, r, pl, hz⟩ := I.tuple hq
  obtain ⟨⟨cls, dd, dt, sl⟩, ho, hc, n, hd⟩ := pl
  simp only at hc hd
  subst hc
  subst hd
  have fl : (ys.map V.str).all flatV = true := by
    rw [List.all_map, List.all_eq_true]
    intro _ _
    rfl
  have ec : ∀ (l : List Str) (w : List Value), Vals (l.map V.str) w → w.countP (eqU (.str z)) = l.count z := by
    intro l
    induction l with
    | nil =>
      intro w hw
      cases hw
      rfl
    | cons y l ih =>
      intro w hw
      cases hw with
      | cons r1 r2 =>
        obtain ⟨t1, rfl⟩ := r1
        rw [List.countP_cons, ih _ r2, List.count_cons]
        rfl
  refine call_meets PySem.F.slot_tuple_count ⟨_, ho, rfl⟩ PySem.F.entry_tuple_count (PySem.F.args_tuple_count_2 _ _) (SeqAt.tuple_countAt p its.toArray n dd sl (.str z t) (eqU (.str z)))
    ⟨ho, fun w hw => mem_eqAt (x := .str z) ⟨t, rfl⟩ rfl r fl w (by simpa using hw), ?_⟩
  refine ⟨.int ((ys.count z : Nat) : Int), H, I.tok _, ⟨s.toks, ?_⟩, q⟩
  show Value.int ((its.toArray.toList.countP (eqU (.str z)) : Nat) : Int) s.toks = _
  rw [List.toList_toArray, ec ys its r]
/-! z[::-1] of a text -/
/-- as many signs, all of them the text's -/
theorem rev_str : RevR X (fun x H Q => ∃ z : Str, x = .str z ∧ z.length ≤ sizeLine ∧ ∀ z' : Str, z'.length = z.length → (∀ c ∈ z'.cps.toList, c ∈ z.cps.toList) → Q (.str z') H) := by
  intro pins s σ H x v sl lo up st Q J rx hs h1 h2 h3 want
  obtain ⟨z, rfl, zl, q⟩ := want
  obtain ⟨tz, rfl⟩ := rx
  cases h1; cases h2
  match h3 with
  | .int _ ti =>
    refine ⟨"str", _, F.slot_str_getitem.lookup, typeIs_str _ _ _, wpAny_getItem_str_slice (l := none) (u := none) (st := some (-1, ti)) hs rfl ?_⟩
    have len := step_rev_len z ti
    have all := step_rev_list z ti
    unfold Txt.sliceBy at len all
    unfold sliceMade
    have no : ¬ (((some ((-1 : Int), ti)).map (·.1)).getD 1 == 1 && (slicePicked z none none (some (-1, ti))).length == z.length) = true := by
      rw [show (((some ((-1 : Int), ti)).map (·.1)).getD 1 == 1) = false from rfl]
      exact Bool.false_ne_true
    rw [if_neg no] at len all ⊢
    refine ⟨by rw [len]; exact zl, .str _, H, J.tok _, ⟨_, rfl⟩, q _ len fun c hc => ?_⟩
    rw [all] at hc
    obtain ⟨i, hi, rfl⟩ := List.mem_map.mp hc
    have lt : z.length - 1 - i < z.cps.size := (by have := List.mem_range.mp hi; omega : z.length - 1 - i < z.length)
    rw [Array.getD_eq_getD_getElem?, Array.getElem?_eq_getElem lt]
    simp
abbrev tRevS (te : TE) : TE := tRev (fun x H Q => ∃ z : Str, x = .str z ∧ z.length ≤ sizeLine ∧ ∀ z' : Str, z'.length = z.length → (∀ c ∈ z'.cps.toList, c ∈ z.cps.toList) → Q (.str z') H) te
theorem pe_revS {e : Expr} {te : TE} {k : Nat} {p1 p2 p3 pos : Pos} (he : PE X e te) : PE X (.Subscript e (.Slice none none (some (.UnaryOp .USub (.Constant (.int 1) k p1) p2)) p3) pos) (tRevS te) := pe_rev rev_str he
end
end Kn
namespace Kn
open PySem PySem.Spec PyProof.Rows L2
/-! plain texts: signs below 128 -/
def Asc (z : Str) : Prop := ∀ c ∈ z.cps.toList, c < 128
theorem asc_app {a b : Str} (ha : Asc a) (hb : Asc b) : Asc (a ++ b) := fun c hc => by
  have : c ∈ a.cps.toList ++ b.cps.toList := by
    have e : (a ++ b).cps = a.cps ++ b.cps := rfl
    rw [e, Array.toList_append] at hc
    exact hc
  rcases List.mem_append.mp this with h | h
  · exact ha c h
  · exact hb c h
theorem asc_cut {z : Str} (h : Asc z) (lo hi : Option Int) : Asc (cutS z lo hi) := fun c hc => by
  unfold cutS at hc
  have hc : c ∈ (z.cps.toList.drop (HT.sIx z.length 0 lo)).take (HT.sIx z.length z.length hi - HT.sIx z.length 0 lo) := by simpa using hc
  exact h c (List.mem_of_mem_drop (List.mem_of_mem_take hc))
theorem asc_int (i : Int) : Asc (Str.ofString (toString i)) := fun c hc => by
  by_cases h : c < 128
  · exact h
  · exact absurd hc (int_text_free' c ⟨by omega, by omega⟩ i)
theorem up_one : ∀ c : Fin 128, ∃ x, x < 128 ∧ Unicode.upperOf c.val = [x] := by
  have h : ∀ c : Fin 128, (match Unicode.upperOf c.val with | [x] => decide (x < 128) | _ => false) = true := by decide +kernel
  intro c
  have := h c
  split at this
  · exact ⟨_, of_decide_eq_true this, by assumption⟩
  · cases this
theorem up_list : ∀ l : List Nat, (∀ c ∈ l, c < 128) → (l.flatMap Unicode.upperOf).length = l.length ∧ ∀ x ∈ l.flatMap Unicode.upperOf, x < 128
  | [], _ => ⟨rfl, fun x hx => by cases hx⟩
  | c :: l, h => by
    obtain ⟨x, hx, e⟩ := up_one ⟨c, h c List.mem_cons_self⟩
    obtain ⟨h1, h2⟩ := up_list l fun d hd => h d (List.mem_cons_of_mem _ hd)
    rw [List.flatMap_cons]
    have e' : Unicode.upperOf c = [x] := e
    rw [e']
    refine ⟨by rw [List.length_append, h1, List.length_cons]; simp; omega, fun y hy => ?_⟩
    rcases List.mem_append.mp hy with z | z
    · rw [List.mem_singleton] at z
      omega
    · exact h2 y z
theorem up_cps (z : Str) : (Txt.upper z).cps.toList = z.cps.toList.flatMap Unicode.upperOf := by
  show ((z.cps.mapIdx fun i c => (Unicode.upperOf c).toArray).flatten).toList = _
  rw [Array.toList_flatten, Array.toList_mapIdx]
  have e : z.cps.toList.mapIdx (fun i c => (Unicode.upperOf c).toArray) = z.cps.toList.map fun c => (Unicode.upperOf c).toArray := by
    rw [List.mapIdx_eq_zipIdx_map]
    conv => rhs; rw [← List.zipIdx_map_fst 0 z.cps.toList, List.map_map]
    rfl
  rw [e, List.map_map, List.flatMap_def]
  rfl
theorem up_ok {z : Str} (h : Asc z) : Asc (Txt.upper z) ∧ (Txt.upper z).length = z.length := by
  obtain ⟨h1, h2⟩ := up_list _ h
  refine ⟨fun c hc => h2 c (by rw [← up_cps]; exact hc), ?_⟩
  have e : (Txt.upper z).length = (Txt.upper z).cps.toList.length := by simp [Str.length]
  rw [e, up_cps, h1]
  simp [Str.length]
/-! how much there is of it -/
mutual
def wt : PyData → Nat
  | .none => 1
  | .bool _ => 1
  | .int i => 1 + i.natAbs
  | .str z => 1 + z.length
  | .list ds => 1 + wtA ds
  | .tuple ds => 1 + wtA ds
  | .dict _ => 1
def wtA : List PyData → Nat
  | [] => 0
  | d :: ds => wt d + wtA ds
end
mutual
def Nic : PyData → Prop
  | .none => True
  | .bool _ => True
  | .int _ => True
  | .str z => Asc z
  | .list ds => NicA ds
  | .tuple ds => NicA ds
  | .dict _ => False
def NicA : List PyData → Prop
  | [] => True
  | d :: ds => Nic d ∧ NicA ds
end
theorem wt_pos (d : PyData) : 1 ≤ wt d := by cases d <;> simp [wt]
theorem wtA_app : ∀ a b : List PyData, wtA (a ++ b) = wtA a + wtA b
  | [], b => by simp [wtA]
  | d :: a, b => by
    rw [List.cons_append, wtA, wtA, wtA_app a b]
    omega
theorem nicA_iff : ∀ ds : List PyData, NicA ds ↔ ∀ d ∈ ds, Nic d
  | [] => by simp [NicA]
  | d :: ds => by
    rw [NicA, nicA_iff ds]
    simp
theorem wtA_mem : ∀ {ds : List PyData} {d : PyData}, d ∈ ds → wt d ≤ wtA ds
  | [], _, h => by cases h
  | e :: ds, d, h => by
    rw [wtA]
    rcases List.mem_cons.mp h with z | z
    · rw [z]; omega
    · have := wtA_mem z
      omega
theorem wtA_len : ∀ ds : List PyData, ds.length ≤ wtA ds
  | [] => Nat.le_refl _
  | d :: ds => by
    have := wtA_len ds
    have := wt_pos d
    rw [wtA, List.length_cons]
    omega
theorem depthA_iff {n : Nat} : ∀ ds : List PyData, PyData.depthAll ds ≤ n ↔ ∀ d ∈ ds, d.depth ≤ n
  | [] => by simp [PyData.depthAll]
  | d :: ds => by
    rw [PyData.depthAll]
    have ih := depthA_iff (n := n) ds
    constructor
    · intro h e he
      rcases List.mem_cons.mp he with z | z
      · rw [z]; omega
      · exact ih.mp (by omega) e z
    · intro h
      have h1 := h d List.mem_cons_self
      have h2 := ih.mpr fun e he => h e (List.mem_cons_of_mem _ he)
      omega
/-- of at most n levels, w in all -/
def Gd (n w : Nat) (d : PyData) : Prop := d.depth ≤ n ∧ Nic d ∧ wt d ≤ w
theorem Gd.mono {n m w v : Nat} {d : PyData} (h : Gd n w d) (hn : n ≤ m) (hw : w ≤ v) : Gd m v d := ⟨Nat.le_trans h.1 hn, h.2.1, Nat.le_trans h.2.2 hw⟩
theorem gd_list {n w : Nat} {ds : List PyData} : Gd (n + 1) (w + 1) (.list ds) ↔ (∀ d ∈ ds, d.depth ≤ n ∧ Nic d) ∧ wtA ds ≤ w := by
  unfold Gd
  rw [PyData.depth, Nic, wt, nicA_iff]
  have := depthA_iff (n := n) ds
  constructor
  · rintro ⟨h1, h2, h3⟩
    exact ⟨fun d hd => ⟨this.mp (by omega) d hd, h2 d hd⟩, by omega⟩
  · rintro ⟨h1, h2⟩
    exact ⟨by have := this.mpr fun d hd => (h1 d hd).1; omega, fun d hd => (h1 d hd).2, by omega⟩
theorem gd_tup {n w : Nat} {ds : List PyData} : Gd (n + 1) (w + 1) (.tuple ds) ↔ (∀ d ∈ ds, d.depth ≤ n ∧ Nic d) ∧ wtA ds ≤ w := by
  unfold Gd
  rw [PyData.depth, Nic, wt, nicA_iff]
  have := depthA_iff (n := n) ds
  constructor
  · rintro ⟨h1, h2, h3⟩
    exact ⟨fun d hd => ⟨this.mp (by omega) d hd, h2 d hd⟩, by omega⟩
  · rintro ⟨h1, h2⟩
    exact ⟨by have := this.mpr fun d hd => (h1 d hd).1; omega, fun d hd => (h1 d hd).2, by omega⟩
/-! how long its text is -/
theorem textFrom_le : ∀ (ts : List Str) (k : Nat) (acc : Str), (textFrom k acc ts).length ≤ acc.length + piled ts
  | [], _, acc => by
    show acc.length ≤ acc.length + piled []
    omega
  | t :: ts, k, acc => by
    have h := textFrom_le ts (k + 1) (acc ++ (if k > 0 then ", " else "" : String) ++ t)
    have e : (acc ++ (if k > 0 then ", " else "" : String) ++ t).length ≤ acc.length + 2 + t.length := by
      rw [strLen_append, strLen_append]
      have h2 : (((if k > 0 then ", " else "" : String) : Str)).length ≤ 2 := by split <;> decide
      omega
    rw [piled_cons]
    show (textFrom (k + 1) _ ts).length ≤ _
    omega
theorem listText_le (ts : List Str) : (listText ts).length ≤ piled ts + 2 := by
  unfold listText
  rw [strLen_append]
  have h := textFrom_le ts 0 "["
  have h1 : ("[" : Str).length = 1 := rfl
  have h2 : ("]" : Str).length = 1 := rfl
  omega
mutual
theorem shown_le : ∀ d : PyData, Nic d → d.shown.length + 4 ≤ 16 * wt d
  | .none, _ => by rw [PyData.shown, wt]; decide
  | .bool b, _ => by rw [PyData.shown, wt]; cases b <;> decide
  | .int i, _ => by
    rw [PyData.shown, wt]
    have := len_str_of_int i
    show (Str.ofString (toString i)).length + 4 ≤ _
    omega
  | .str z, h => by
    rw [PyData.shown, wt]
    have := StrLaws.reprText_len z fun c hc => Nat.lt_trans ((show Asc z from by rw [Nic] at h; exact h) c hc) (by decide)
    omega
  | .list ds, h => by
    rw [PyData.shown, wt]
    have h1 := listText_le (PyData.shownAll ds)
    have h2 := shownA_le ds (by rw [Nic] at h; exact h)
    omega
  | .tuple ds, h => by
    rw [PyData.shown, wt]
    have h1 := fmt_text (PyData.shownAll ds)
    have h2 := shownA_le ds (by rw [Nic] at h; exact h)
    omega
  | .dict _, h => by rw [Nic] at h; exact h.elim
theorem shownA_le : ∀ ds : List PyData, NicA ds → piled (PyData.shownAll ds) ≤ 16 * wtA ds
  | [], _ => by rw [PyData.shownAll, wtA]; exact Nat.le_refl _
  | d :: ds, h => by
    rw [PyData.shownAll, wtA, piled_cons]
    rw [NicA] at h
    have h1 := shown_le d h.1
    have h2 := shownA_le ds h.2
    have := wt_pos d
    omega
end
mutual
theorem nic_show : ∀ d : PyData, Nic d → wt d ≤ 100000 → d.showable = true
  | .none, _, _ => by simp [PyData.showable]
  | .bool _, _, _ => by simp [PyData.showable]
  | .str _, _, _ => by simp [PyData.showable]
  | .int i, _, hw => by
    rw [wt] at hw
    rw [PyData.showable]
    refine decide_eq_true ?_
    have h1 : i.natAbs.log2 ≤ i.natAbs := Nat.log2_le_self _
    by_cases h0 : i.natAbs = 0
    · rw [h0]; decide
    · have := (Nat.log2_lt h0).mpr (show i.natAbs < 2 ^ 1900 from Nat.lt_of_lt_of_le (show i.natAbs < 2 ^ 17 by omega) (Nat.pow_le_pow_right (by decide) (by decide)))
      omega
  | .list ds, h, hw => by
    rw [wt] at hw
    rw [Nic] at h
    rw [PyData.showable]
    exact nic_showA ds h (by omega)
  | .tuple ds, h, hw => by
    rw [wt] at hw
    rw [Nic] at h
    rw [PyData.showable]
    exact nic_showA ds h (by omega)
  | .dict _, h, _ => by rw [Nic] at h; exact h.elim
theorem nic_showA : ∀ ds : List PyData, NicA ds → wtA ds ≤ 100000 → PyData.showableAll ds = true
  | [], _, _ => by simp [PyData.showableAll]
  | d :: ds, h, hw => by
    rw [wtA] at hw
    rw [NicA] at h
    rw [PyData.showableAll, nic_show d h.1 (by omega), nic_showA ds h.2 (by omega)]
    rfl
end
mutual
theorem nic_noDict : ∀ d : PyData, Nic d → d.hasDict = false
  | .none, _ => by simp [PyData.hasDict]
  | .bool _, _ => by simp [PyData.hasDict]
  | .str _, _ => by simp [PyData.hasDict]
  | .int i, _ => by simp [PyData.hasDict]
  | .list ds, h => by
    rw [Nic] at h
    rw [PyData.hasDict]
    exact nic_noDictA ds h
  | .tuple ds, h => by
    rw [Nic] at h
    rw [PyData.hasDict]
    exact nic_noDictA ds h
  | .dict _, h => by rw [Nic] at h; exact h.elim
theorem nic_noDictA : ∀ ds : List PyData, NicA ds → PyData.hasDictAll ds = false
  | [], _ => by simp [PyData.hasDictAll]
  | d :: ds, h => by
    rw [NicA] at h
    rw [PyData.hasDictAll, nic_noDict d h.1, nic_noDictA ds h.2]
    rfl
end
/-! lists of things beside lists of data -/
section
variable {K : PySem.W.Frag} {H : Hp}
theorem dpA_app : ∀ {xs ys : List V} {ds es : List PyData}, DpAll K H xs ds → DpAll K H ys es → DpAll K H (xs ++ ys) (ds ++ es)
  | _, _, _, _, .nil, h => h
  | _, _, _, _, .cons h hs, h2 => .cons h (dpA_app hs h2)
theorem dpA_take : ∀ (i : Nat) {xs : List V} {ds : List PyData}, DpAll K H xs ds → DpAll K H (xs.take i) (ds.take i)
  | 0, _, _, _ => by simp only [List.take_zero]; exact .nil
  | _ + 1, _, _, .nil => .nil
  | i + 1, _, _, .cons h hs => .cons h (dpA_take i hs)
theorem dpA_drop : ∀ (i : Nat) {xs : List V} {ds : List PyData}, DpAll K H xs ds → DpAll K H (xs.drop i) (ds.drop i)
  | 0, _, _, h => h
  | _ + 1, _, _, .nil => .nil
  | i + 1, _, _, .cons h hs => dpA_drop i hs
theorem dpA_rev : ∀ {xs : List V} {ds : List PyData}, DpAll K H xs ds → DpAll K H xs.reverse ds.reverse
  | _, _, .nil => .nil
  | _, _, .cons h hs => by
    rw [List.reverse_cons, List.reverse_cons]
    exact dpA_app (dpA_rev hs) (.cons h .nil)
theorem dpA_set : ∀ (i : Nat) {xs : List V} {ds : List PyData} {v : V} {d : PyData}, DpAll K H xs ds → Dp K H v d → DpAll K H (xs.set i v) (ds.set i d)
  | _, _, _, _, _, .nil, _ => by simp only [List.set_nil]; exact .nil
  | 0, _, _, _, _, .cons h hs, e => .cons e hs
  | i + 1, _, _, _, _, .cons h hs, e => .cons h (dpA_set i hs e)
theorem dpA_erase : ∀ (i : Nat) {xs : List V} {ds : List PyData}, DpAll K H xs ds → DpAll K H (xs.eraseIdx i) (ds.eraseIdx i)
  | _, _, _, .nil => by simp only [List.eraseIdx_nil]; exact .nil
  | 0, _, _, .cons h hs => hs
  | i + 1, _, _, .cons h hs => .cons h (dpA_erase i hs)
end
theorem wtA_rev : ∀ ds : List PyData, wtA ds.reverse = wtA ds
  | [] => rfl
  | d :: ds => by
    rw [List.reverse_cons, wtA_app, wtA_rev ds, wtA, wtA, wtA]
    omega
theorem wtA_set : ∀ (ds : List PyData) (i : Nat) (d e : PyData), ds[i]? = some d → wtA (ds.set i e) + wt d = wtA ds + wt e
  | [], _, _, _, h => by simp at h
  | x :: ds, 0, d, e, h => by
    cases (show some x = some d from h)
    rw [List.set_cons_zero, wtA, wtA]
    omega
  | x :: ds, i + 1, d, e, h => by
    have := wtA_set ds i d e (by simpa using h)
    rw [List.set_cons_succ, wtA, wtA]
    omega
theorem wtA_take_drop (ds : List PyData) (i : Nat) : wtA (ds.take i) + wtA (ds.drop i) = wtA ds := by rw [← wtA_app, List.take_append_drop]
theorem wtA_erase : ∀ (ds : List PyData) (i : Nat), wtA (ds.eraseIdx i) ≤ wtA ds
  | [], _ => by simp [wtA]
  | x :: ds, 0 => by
    rw [List.eraseIdx_cons_zero, wtA]
    omega
  | x :: ds, i + 1 => by
    have := wtA_erase ds i
    rw [List.eraseIdx_cons_succ, wtA, wtA]
    omega
/-! the heap without some of its objects -/
def wos (S : Addr → Bool) (H : Hp) : Hp := fun c => if S c = true then none else H c
theorem wos_ne {S : Addr → Bool} {c : Addr} {H : Hp} (h : S c = false) : wos S H c = H c := by
  unfold wos
  rw [h, if_neg Bool.false_ne_true]
theorem wos_some {S : Addr → Bool} {c : Addr} {H : Hp} {o : HO} (h : wos S H c = some o) : S c = false ∧ H c = some o := by
  unfold wos at h
  cases e : S c with
  | true =>
    rw [e, if_pos rfl] at h
    cases h
  | false =>
    rw [e, if_neg Bool.false_ne_true] at h
    exact ⟨rfl, h⟩
theorem wos_same {S : Addr → Bool} {b : Addr} {H H' : Hp} (hb : S b = true) (h : Off b H H') : Same (wos S H) (wos S H') := fun c o e => by
  obtain ⟨h1, h2⟩ := wos_some e
  rw [wos_ne h1]
  exact h c o h2 fun z => by rw [z, hb] at h1; cases h1
theorem wos_in {S : Addr → Bool} {H : Hp} : Same (wos S H) H := fun c o e => (wos_some e).2
end Kn
namespace Kn
open PySem PySem.Spec PyProof.Rows L2
theorem kn_app {α β : Type} {F : α → β → Prop} : ∀ {l1 : List α} {l2 : List β} {m1 : List α} {m2 : List β}, Paired F l1 l2 → Paired F m1 m2 → Paired F (l1 ++ m1) (l2 ++ m2)
  | _, _, _, _, .nil, h => h
  | _, _, _, _, .cons a t, h => .cons a (kn_app t h)
theorem kn_pin {α β : Type} {F : α → β → Prop} : ∀ {xs : List α} {ys : List β}, Paired F xs ys → ∀ {x : α}, x ∈ xs → ∃ y, F x y
  | _, _, .cons (b := y) h t, x, hx => by
    rcases List.mem_cons.mp hx with e | e
    · rw [e]
      exact ⟨y, h⟩
    · exact kn_pin t e
/-! dict of pairs, the pairs and what holds them lists or tuples -/
section
variable {X : Cx}
theorem kn_pairs {pins : List (Addr × Obj)} {σ : L2.St} {H : Hp} {s : Shared} (I : Inv X pins σ H s) : ∀ {ps : List Addr} {kvs : List (Key × V)}, Paired (fun p kv => SqT X.K H p [kV kv.1, kv.2] ∨ SqL X.K H p [kV kv.1, kv.2]) ps kvs →
    ∃ (vs : List (Value × Value)) (cs : List (Key × Value)), KV kvs cs ∧ vs.length = ps.length ∧ cs.length = ps.length ∧
      ∀ (j : Nat) (k v : Value), vs[j]? = some (k, v) → PairAt s.heap (ps.getD j 0) k v ∧ (ps.map Value.ref)[j]? = some (.ref (ps.getD j 0)) ∧ ∃ c, cs[j]? = some (c, v) ∧ (mixKind X.prog X.w).is c k = true
  | _, _, .nil => ⟨[], [], .nil, rfl, rfl, fun j k v e => by simp at e⟩
  | _, _, .cons (a := p) (b := kv) h t => by
    obtain ⟨vs, cs, r, l1, l2, hp⟩ := kn_pairs I t
    have two : ∃ u y, RelV (kV kv.1) u ∧ RelV kv.2 y ∧ PairAt s.heap p u y := by
      rcases h with h | h
      · obtain ⟨its, rv, ht, _⟩ := I.tuple h
        obtain ⟨u, y, ei, ru, ry⟩ := vals2 rv
        subst ei
        exact ⟨u, y, ru, ry, .inl ht⟩
      · obtain ⟨its, rv, ht, _⟩ := I.list h
        obtain ⟨u, y, ei, ru, ry⟩ := vals2 rv
        subst ei
        exact ⟨u, y, ru, ry, .inr ht.isList⟩
    obtain ⟨u, y, ru, ry, hpair⟩ := two
    refine ⟨(u, y) :: vs, (kv.1, y) :: cs, .cons ⟨rfl, ry⟩ r, by simp [l1], by simp [l2], fun j k v e => ?_⟩
    cases j with
    | zero =>
      have e' : (u, y) = (k, v) := Option.some.inj e
      cases e'
      exact ⟨hpair, rfl, kv.1, rfl, kV_is ru⟩
    | succ j =>
      obtain ⟨a1, a2, a3⟩ := hp j k v (by simpa using e)
      exact ⟨by simpa using a1, by simpa using a2, by simpa using a3⟩
def rDictA (K : PySem.W.Frag) : List V → Hp → VK → Prop := fun xs H Q => ∃ (a : Addr) (ps : List Addr) (kvs : List (Key × V)), xs = [.ref a] ∧ (((∃ ys, TupD H a ys) ∧ SqT K H a (ps.map V.ref)) ∨ SqL K H a (ps.map V.ref)) ∧ Paired (fun p kv => SqT K H p [kV kv.1, kv.2] ∨ SqL K H p [kV kv.1, kv.2]) ps kvs ∧
    ∀ p, H p = none → Q (.ref p) (upd H p (.dK (mergeK [] kvs)))
theorem cr_dictA (hcalm : X.calm = true) : CallR X (.type "dict") (rDictA X.K) := by
  intro pins s σ H xs us Q I r q
  obtain ⟨a, ps, kvs, rfl, hq, hp, q⟩ := q
  obtain ⟨u, rfl, rx⟩ := vals1 r
  cases rx
  obtain ⟨vs, cs, rel, l1, l2, hpr⟩ := kn_pairs I hp
  have items : ∀ its : List Value, its = ps.map Value.ref → PairItems s.heap its.toArray (fun j => ps.getD j 0) vs := fun its e => by
    subst e
    exact ⟨by simp [l1], fun j k v hj => ⟨by have := (hpr j k v hj).2.1; simpa using this, (hpr j k v hj).1⟩⟩
  have have1 : PairsHave (mixKind X.prog X.w) vs.length (PairRel vs) cs := ⟨by rw [l1, l2], fun i key v hr => (hpr i key v hr).2.2⟩
  have fin : ps.length ≤ sizeLine → ∀ h' tk, h'.DictOf (mixKind X.prog X.w) s.heap.objs.size (merged [] cs) → (∀ b o, b ∉ ([] : List Addr) → s.heap.get? b = some o → h'.get? b = some o) → EP X pins σ Q (.ref s.heap.objs.size) { s with heap := h', toks := tk } := fun hz h' tk hd' k => by
    have hm : (s.heap.objs.size == sysModules) = false := beq_eq_false_iff_ne.mpr (Nat.ne_of_gt I.big)
    have hlen : (mergeK [] kvs).length ≤ sizeLine := by
      refine Nat.le_trans (length_mergeK kvs []) ?_
      rw [List.length_nil, Nat.zero_add, rel.length, l2]
      exact hz
    exact ⟨.ref s.heap.objs.size, upd H s.heap.objs.size (.dK (mergeK [] kvs)), I.laid (t' := tk) (fun b o e => k b o (fun z => nomatch z) e) (Nat.le_refl _) (show ObjOk X.prog X.w _ _ _ (.dK (mergeK [] kvs)) from ⟨hlen, hm, merged [] cs, KV.merge rel .nil, hd'⟩), rfl, q _ (I.hok.fresh (Nat.le_refl _))⟩
  rcases hq with ⟨⟨ys, ob, hob, hc, hd⟩, sq⟩ | hq
  · obtain ⟨hget, _⟩ := I.hok a _ hob
    obtain ⟨its, rv, ⟨o2, ho2, _, nn, hdat⟩, hz⟩ := I.tuple sq
    have ei := refs_at rv
    rw [hget] at ho2
    cases ho2
    have hz : ps.length ≤ sizeLine := by simpa using hz
    exact PySem.call_dict_pairs (knd := mixKind X.prog X.w) (PairArg.tuple a its.toArray (fun j => ps.getD j 0) vs) (I.ok.hd hcalm) ⟨⟨ob, nn, hget, hc, hd, hdat⟩, items its ei⟩ have1 (by rw [l1]; exact hz) (fin hz)
  · obtain ⟨its, rv, pl, hz⟩ := I.list hq
    have ei := refs_at rv
    obtain ⟨o, n, ho, hc, hd, hdat⟩ := pl
    have hz : ps.length ≤ sizeLine := by simpa using hz
    exact PySem.call_dict_pairs (knd := mixKind X.prog X.w) (PairArg.list a its.toArray (fun j => ps.getD j 0) vs) (I.ok.hd hcalm) ⟨⟨o, n, ho, hc, hd, hdat⟩, items its ei⟩ have1 (by rw [l1]; exact hz) (fin hz)
end
end Kn
namespace Pl
open PySem PySem.Spec PyProof.Rows L2 Kn
/-- T: the tables of code objects; C: the class whose instances are told by their fields -/
class Tbs where
  T : List (Addr × Str)
  C : Addr
variable [Tbs]
/-! things by their worth alone -/
inductive D where
  | non
  | bl (b : Bool)
  | int (i : Int)
  | str (x : Str)
  | lst (l : List D)
  /-- a tuple: k tells whether it was written down as one (else it was made out of another thing) -/
  | tup (k : Bool) (l : List D)
  | dct (ks : List Key) (vs : List D)
  | dcT (ks : List (List Key)) (vs : List D)
  /-- an instance of the class: the names of its fields, what they hold -/
  | ins (ns : List Str) (vs : List D)
mutual
inductive Dd (G : Hp) : V → D → Prop
  | non : Dd G .non .non
  | bl (b : Bool) : Dd G (.bl b) (.bl b)
  | int (i : Int) : Dd G (.int i) (.int i)
  | str (x : Str) : Dd G (.str x) (.str x)
  | lst {a : Addr} {xs : List V} {ds : List D} : G a = some (.lst xs) → DdA G xs ds → Dd G (.ref a) (.lst ds)
  | tupM {a : Addr} {xs : List V} {ds : List D} : TupD G a xs → DdA G xs ds → Dd G (.ref a) (.tup false ds)
  | tupW {a : Addr} {xs : List V} {ds : List D} : G a = some (.tup xs) → DdA G xs ds → Dd G (.ref a) (.tup true ds)
  | dct {a : Addr} {o : Obj} {kvs : List (Key × V)} {ds : List D} : G a = some (.frz o (.dK kvs)) → DdA G (kvs.map (·.2)) ds → Dd G (.ref a) (.dct (kvs.map (·.1)) ds)
  | dcT {a : Addr} {o : Obj} {kvs : List (List Key × V)} {ds : List D} : G a = some (.frz o (.dT kvs)) → DdA G (kvs.map (·.2)) ds → Dd G (.ref a) (.dcT (kvs.map (·.1)) ds)
  | ins {a dx : Addr} {fs : List (Str × V)} {ds : List D} : G a = some (.ins Tbs.C dx fs) → DdA G (fs.map (·.2)) ds → Dd G (.ref a) (.ins (fs.map (·.1)) ds)
inductive DdA (G : Hp) : List V → List D → Prop
  | nil : DdA G [] []
  | cons {v : V} {vs : List V} {d : D} {ds : List D} : Dd G v d → DdA G vs ds → DdA G (v :: vs) (d :: ds)
end
mutual
theorem dd_same {G G' : Hp} (e : Same G G') : ∀ {v : V} {d : D}, Dd G v d → Dd G' v d
  | _, _, .non => .non
  | _, _, .bl b => .bl b
  | _, _, .int i => .int i
  | _, _, .str x => .str x
  | _, _, .lst h hs => .lst (e _ _ h) (dda_same e hs)
  | _, _, .tupM h hs => .tupM (h.same e) (dda_same e hs)
  | _, _, .tupW h hs => .tupW (e _ _ h) (dda_same e hs)
  | _, _, .dct h hs => .dct (e _ _ h) (dda_same e hs)
  | _, _, .dcT h hs => .dcT (e _ _ h) (dda_same e hs)
  | _, _, .ins h hs => .ins (e _ _ h) (dda_same e hs)
theorem dda_same {G G' : Hp} (e : Same G G') : ∀ {vs : List V} {ds : List D}, DdA G vs ds → DdA G' vs ds
  | _, _, .nil => .nil
  | _, _, .cons h hs => .cons (dd_same e h) (dda_same e hs)
end
section
variable {G : Hp}
theorem dda_len : ∀ {vs : List V} {ds : List D}, DdA G vs ds → vs.length = ds.length
  | _, _, .nil => rfl
  | _, _, .cons _ t => congrArg (· + 1) (dda_len t)
theorem dda_get : ∀ {vs : List V} {ds : List D}, DdA G vs ds → ∀ {i : Nat} {v : V}, vs[i]? = some v → ∃ d, ds[i]? = some d ∧ Dd G v d
  | _, _, .nil, i, v, e => by cases i <;> cases e
  | _, _, .cons h t, 0, v, e => by cases e; exact ⟨_, rfl, h⟩
  | _, _, .cons h t, i + 1, v, e => dda_get t (i := i) e
theorem dda_at : ∀ {vs : List V} {ds : List D}, DdA G vs ds → ∀ {i : Nat} {d : D}, ds[i]? = some d → ∃ v, vs[i]? = some v ∧ Dd G v d
  | _, _, .nil, i, v, e => by cases i <;> cases e
  | _, _, .cons h t, 0, v, e => by cases e; exact ⟨_, rfl, h⟩
  | _, _, .cons h t, i + 1, v, e => dda_at t (i := i) e
theorem dda_app : ∀ {vs : List V} {ds : List D} {ws : List V} {es : List D}, DdA G vs ds → DdA G ws es → DdA G (vs ++ ws) (ds ++ es)
  | _, _, _, _, .nil, k => k
  | _, _, _, _, .cons h t, k => .cons h (dda_app t k)
theorem dda_take : ∀ (n : Nat) {vs : List V} {ds : List D}, DdA G vs ds → DdA G (vs.take n) (ds.take n)
  | 0, _, _, _ => .nil
  | _ + 1, _, _, .nil => .nil
  | n + 1, _, _, .cons h t => .cons h (dda_take n t)
theorem dda_drop : ∀ (n : Nat) {vs : List V} {ds : List D}, DdA G vs ds → DdA G (vs.drop n) (ds.drop n)
  | 0, _, _, h => h
  | _ + 1, _, _, .nil => .nil
  | n + 1, _, _, .cons _ t => dda_drop n t
theorem dda_rev : ∀ {vs : List V} {ds : List D}, DdA G vs ds → DdA G vs.reverse ds.reverse
  | _, _, .nil => .nil
  | _, _, .cons h t => by
    rw [List.reverse_cons, List.reverse_cons]
    exact dda_app (dda_rev t) (.cons h .nil)
theorem dda_set : ∀ (n : Nat) {vs : List V} {ds : List D} {v : V} {d : D}, DdA G vs ds → Dd G v d → DdA G (vs.set n v) (ds.set n d)
  | _, _, _, _, _, .nil, _ => .nil
  | 0, _, _, _, _, .cons _ t, k => .cons k t
  | n + 1, _, _, _, _, .cons h t, k => .cons h (dda_set n t k)
theorem dda_erase : ∀ (n : Nat) {vs : List V} {ds : List D}, DdA G vs ds → DdA G (vs.eraseIdx n) (ds.eraseIdx n)
  | _, _, _, .nil => .nil
  | 0, _, _, .cons _ t => t
  | n + 1, _, _, .cons h t => .cons h (dda_erase n t)
theorem dda_strs : ∀ {xs : List Str} {vs : List V}, DdA G vs (xs.map D.str) → vs = xs.map V.str
  | [], _, .nil => rfl
  | x :: xs, _, .cons h t => by
    cases h
    rw [dda_strs t]
    rfl
theorem dda_ints : ∀ {xs : List Int} {vs : List V}, DdA G vs (xs.map D.int) → vs = xs.map V.int
  | [], _, .nil => rfl
  | x :: xs, _, .cons h t => by
    cases h
    rw [dda_ints t]
    rfl
theorem dda_bls : ∀ {xs : List Bool} {vs : List V}, DdA G vs (xs.map D.bl) → vs = xs.map V.bl
  | [], _, .nil => rfl
  | x :: xs, _, .cons h t => by
    cases h
    rw [dda_bls t]
    rfl
theorem dda_of_strs : ∀ (xs : List Str), DdA G (xs.map V.str) (xs.map D.str)
  | [] => .nil
  | x :: xs => .cons (.str x) (dda_of_strs xs)
theorem dda_of_ints : ∀ (xs : List Int), DdA G (xs.map V.int) (xs.map D.int)
  | [] => .nil
  | x :: xs => .cons (.int x) (dda_of_ints xs)
end
/-! tables of code objects: the tracked heap may have some that grow; nothing else of it changes by that -/
def NT (o : HO) : Prop := ∀ ps, o ≠ .tbl ps
theorem nt_lst {xs : List V} : NT (.lst xs) := fun _ z => by cases z
theorem nt_tup {xs : List V} : NT (.tup xs) := fun _ z => by cases z
theorem nt_frz {o : Obj} {u : HO} : NT (.frz o u) := fun _ z => by cases z
theorem nt_dK {o : List (Key × V)} : NT (.dK o) := fun _ z => by cases z
theorem nt_dT {o : List (List Key × V)} : NT (.dT o) := fun _ z => by cases z
theorem nt_ins {C d : Addr} {fs : List (Str × V)} : NT (.ins C d fs) := fun _ z => by cases z
theorem nt_own {x : Addr} : NT (.own x) := fun _ z => by cases z
theorem nt_code {c : Addr} {q : Str} : NT (LamX.CodeO c q) := LamX.codeO_ne
/-- what a frame alone may change: lists, dicts -/
def Chg (u : HO) : Prop := (∃ xs, u = .lst xs) ∨ (∃ kvs, u = .dK kvs) ∨ (∃ kvs, u = .dT kvs) ∨ ∃ C d fs, u = .ins C d fs
/-- G stands in H; the tables in H are good, none is in G -/
structure Le (G H : Hp) : Prop where
  same : Same G H
  tb : LamX.Tabs Tbs.T H
  nt : ∀ a o, G a = some o → NT o
instance {G H : Hp} : CoeFun (Le G H) (fun _ => ∀ a o, G a = some o → H a = some o) := ⟨fun l => l.same⟩
instance {G H : Hp} : Coe (Le G H) (Same G H) := ⟨fun l => l.same⟩
theorem Le.free {G H : Hp} (e : Le G H) {l : Addr} (h : H l = none) : G l = none := e.same.free h
theorem tabs_same {H H' : Hp} (t : LamX.Tabs Tbs.T H) (e : Same H H') : LamX.Tabs Tbs.T H' := t.ext e
theorem chg_nt {u : HO} (h : Chg u) : NT u := by
  rcases h with ⟨_, rfl⟩ | ⟨_, rfl⟩ | ⟨_, rfl⟩ | ⟨_, _, _, rfl⟩
  · exact nt_lst
  · exact nt_dK
  · exact nt_dT
  · exact nt_ins
theorem chg_tbl {ps : Array Value} : ¬ Chg (.tbl ps) := fun z => by
  rcases z with ⟨_, z⟩ | ⟨_, z⟩ | ⟨_, z⟩ | ⟨_, _, _, z⟩ <;> cases z
theorem chg_code {c : Addr} {q : Str} : ¬ Chg (LamX.CodeO c q) := fun z => by
  unfold LamX.CodeO at z
  rcases z with ⟨_, z⟩ | ⟨_, z⟩ | ⟨_, z⟩ | ⟨_, _, _, z⟩ <;> cases z
/-- what is no table is written over, and no code object -/
theorem tabs_put {H : Hp} {a : Addr} {o : HO} (t : LamX.Tabs Tbs.T H) (ha : ∀ u, H a = some u → Chg u) : LamX.Tabs Tbs.T (upd H a o) := fun p hp => by
  obtain ⟨ps, h1, h2, h3⟩ := t p hp
  have ne : ∀ b u, H b = some u → ¬ Chg u → b ≠ a := fun b u e n z => by
    subst z
    exact n (ha u e)
  refine ⟨ps, by rw [upd_ne (ne _ _ h1 chg_tbl)]; exact h1, h2, fun pos cv hc => ?_⟩
  obtain ⟨c, e1, e2⟩ := h3 pos cv hc
  exact ⟨c, e1, by rw [upd_ne (ne _ _ e2 chg_code)]; exact e2⟩
theorem Le.to {G H H' : Hp} (l : Le G H) (e : Same H H') : Le G H' := ⟨l.same.trans e, tabs_same l.tb e, l.nt⟩
theorem Le.trans {G H H' : Hp} (l : Le G H) (e : Same H H') : Le G H' := l.to e
theorem Le.sub {G G' H : Hp} (l : Le G' H) (e : Same G G') : Le G H := ⟨e.trans l.same, l.tb, fun a o h => l.nt a o (e a o h)⟩
theorem Le.new {G H : Hp} {p : Addr} {o : HO} (l : Le G H) (n : H p = none) (w : NT o) : Le (upd G p o) (upd H p o) :=
  ⟨fun a u e => by
    by_cases ha : a = p
    · subst ha; rw [upd_same] at e ⊢; exact e
    · rw [upd_ne ha] at e ⊢; exact l.same _ _ e, tabs_same l.tb (same_new n), fun a u e => by
    by_cases ha : a = p
    · subst ha; rw [upd_same] at e; cases e; exact w
    · rw [upd_ne ha] at e; exact l.nt _ _ e⟩
theorem Le.good {G H : Hp} {a : Addr} {o : HO} (l : Le G H) (ha : H a = some o) (w : NT o) : Le (upd G a o) H :=
  ⟨fun c u e => by
    by_cases hc : c = a
    · subst hc; rw [upd_same] at e; rw [← e]; exact ha
    · rw [upd_ne hc] at e; exact l.same _ _ e, l.tb, fun c u e => by
    by_cases hc : c = a
    · subst hc; rw [upd_same] at e; cases e; exact w
    · rw [upd_ne hc] at e; exact l.nt _ _ e⟩
theorem Le.put {G H : Hp} {a : Addr} {o : HO} (l : Le G H) (hg : G a = none) (ha : ∀ u, H a = some u → Chg u) : Le G (upd H a o) :=
  ⟨fun c u e => by
    rw [upd_ne (ne_of_none e hg)]
    exact l.same _ _ e, tabs_put l.tb ha, l.nt⟩
/-! the slots by their worth: what may still change is a list of the slot's own -/
inductive Sl where
  | un
  | val (d : D)
  /-- l: lent by the caller -/
  | own (l : Bool) (ds : List D)
abbrev Rh := List Sl
structure Rep (G H : Hp) (σ : L2.St) (ρ : Rh) : Prop where
  le : Le G H
  len : σ.length = ρ.length
  val : ∀ {i : Nat} {d : D}, ρ[i]? = some (.val d) → ∃ v, σ[i]? = some (some v) ∧ Dd G v d
  own : ∀ {i : Nat} {l : Bool} {ds : List D}, ρ[i]? = some (.own l ds) → ∃ a xs, σ[i]? = some (some (.ref a)) ∧ H a = some (.lst xs) ∧ G a = none ∧ DdA G xs ds
  inj : ∀ {i j : Nat} {l l' : Bool} {ds ds' : List D} {a : Addr}, ρ[i]? = some (.own l ds) → ρ[j]? = some (.own l' ds') → σ[i]? = some (some (.ref a)) → σ[j]? = some (some (.ref a)) → i = j
def Fp (σ : L2.St) (ρ : Rh) (a : Addr) : Prop := ∃ (i : Nat) (l : Bool) (ds : List D), ρ[i]? = some (.own l ds) ∧ σ[i]? = some (some (.ref a))
/-- the slots are the same, but for what lists of their own hold -/
def Kp (ρ ρ' : Rh) : Prop := ρ.length = ρ'.length ∧ ∀ i : Nat, ρ'[i]? = ρ[i]? ∨ ∃ l ds ds', ρ[i]? = some (.own l ds) ∧ ρ'[i]? = some (.own l ds')
theorem Kp.refl (ρ : Rh) : Kp ρ ρ := ⟨rfl, fun _ => .inl rfl⟩
theorem Kp.trans {a b c : Rh} (x : Kp a b) (y : Kp b c) : Kp a c := by
  refine ⟨x.1.trans y.1, fun i => ?_⟩
  rcases x.2 i with h | ⟨l, ds, ds', h1, h2⟩ <;> rcases y.2 i with k | ⟨l', es, es', k1, k2⟩
  · exact .inl (k.trans h)
  · exact .inr ⟨l', es, es', h.symm.trans k1, k2⟩
  · exact .inr ⟨l, ds, ds', h1, k.trans h2⟩
  · rw [h2] at k1
    cases k1
    exact .inr ⟨l, ds, es', h1, k2⟩
theorem Kp.to {ρ ρ' : Rh} (k : Kp ρ ρ') {i : Nat} {l : Bool} {ds : List D} (h : ρ[i]? = some (.own l ds)) : ∃ ds', ρ'[i]? = some (.own l ds') := by
  rcases k.2 i with e | ⟨l', es, es', h1, h2⟩
  · exact ⟨ds, e.trans h⟩
  · rw [h] at h1
    cases h1
    exact ⟨es', h2⟩
theorem Kp.of {ρ ρ' : Rh} (k : Kp ρ ρ') {i : Nat} {l : Bool} {ds : List D} (h : ρ'[i]? = some (.own l ds)) : ∃ ds', ρ[i]? = some (.own l ds') := by
  rcases k.2 i with e | ⟨l', es, es', h1, h2⟩
  · exact ⟨ds, e.symm.trans h⟩
  · rw [h] at h2
    cases h2
    exact ⟨es, h1⟩
theorem Kp.fp {σ : L2.St} {ρ ρ' : Rh} (k : Kp ρ ρ') {a : Addr} (h : Fp σ ρ' a) : Fp σ ρ a := by
  obtain ⟨i, l, ds, h1, h2⟩ := h
  obtain ⟨ds', h3⟩ := k.of h1
  exact ⟨i, l, ds', h3, h2⟩
/-- from the heap H, of which G stays for good, to H' and G' -/
structure Go (G H G' H' : Hp) (F : Addr → Prop) : Prop where
  gg : Same G G'
  le : Le G' H'
  off : ∀ a o, H a = some o → ¬ F a → (w : NT o := by first | exact nt_lst | exact nt_tup | exact nt_frz | exact nt_ins | exact nt_own | assumption) → H' a = some o
  new : ∀ a o, H a = some o → G a = none → ¬ F a → (w : Chg o := by first | exact .inl ⟨_, rfl⟩ | exact .inr (.inl ⟨_, rfl⟩) | exact .inr (.inr (.inl ⟨_, rfl⟩)) | exact .inr (.inr (.inr ⟨_, _, _, rfl⟩)) | assumption) → G' a = none
  dom : ∀ a, H' a = none → H a = none
theorem Go.refl {G H : Hp} {F : Addr → Prop} (h : Le G H) : Go G H G H F := ⟨Same.refl G, h, fun _ _ h _ _ => h, fun _ _ _ h _ _ => h, fun _ h => h⟩
theorem Go.there {G H G' H' : Hp} {F : Addr → Prop} (g : Go G H G' H' F) {x : Addr} {o : HO} (h : H x = some o) : ∃ o', H' x = some o' := by
  cases e : H' x with
  | some o' => exact ⟨o', rfl⟩
  | none => rw [g.dom x e] at h; cases h
theorem Go.trans {G H G1 H1 G2 H2 : Hp} {F F1 : Addr → Prop} (a : Go G H G1 H1 F) (b : Go G1 H1 G2 H2 F1) (hF : ∀ x o, H x = some o → F1 x → F x) : Go G H G2 H2 F :=
  ⟨a.gg.trans b.gg, b.le, fun x o h n w => b.off x o (a.off x o h n w) (fun z => n (hF x o h z)) w, fun x o h g n c => by
    have e := a.off x o h n (chg_nt c)
    exact b.new x o e (a.new x o h g n) fun z => n (hF x o h z), fun x h => a.dom x (b.dom x h)⟩
structure Tr (G H : Hp) (σ : L2.St) (ρ : Rh) (G' H' : Hp) (ρ' : Rh) : Prop where
  go : Go G H G' H' (Fp σ ρ)
  rep : Rep G' H' σ ρ'
  kp : Kp ρ ρ'
section
variable {G H G1 H1 G2 H2 : Hp} {σ : L2.St} {ρ ρ1 ρ2 : Rh}
theorem Tr.refl (r : Rep G H σ ρ) : Tr G H σ ρ G H ρ := ⟨Go.refl r.le, r, Kp.refl ρ⟩
theorem Tr.trans (a : Tr G H σ ρ G1 H1 ρ1) (b : Tr G1 H1 σ ρ1 G2 H2 ρ2) : Tr G H σ ρ G2 H2 ρ2 :=
  ⟨a.go.trans b.go (fun x o _ z => a.kp.fp z), b.rep, a.kp.trans b.kp⟩
/-- nothing that stood is changed -/
abbrev Ex (G H G' H' : Hp) : Prop := Go G H G' H' fun _ => False
theorem Rep.ext (r : Rep G H σ ρ) (e : Ex G H G1 H1) : Rep G1 H1 σ ρ := by
  refine ⟨e.le, r.len, fun h => ?_, fun h => ?_, r.inj⟩
  · obtain ⟨v, h1, h2⟩ := r.val h
    exact ⟨v, h1, dd_same e.gg h2⟩
  · obtain ⟨a, xs, h1, h2, h3, h4⟩ := r.own h
    exact ⟨a, xs, h1, e.off a _ h2 id, e.new a _ h2 h3 id, dda_same e.gg h4⟩
theorem Tr.ext (r : Rep G H σ ρ) (e : Ex G H G1 H1) : Tr G H σ ρ G1 H1 ρ :=
  ⟨⟨e.gg, e.le, fun a o h _ w => e.off a o h id w, fun a o h g _ w => e.new a o h g id, e.dom⟩, r.ext e, Kp.refl ρ⟩
theorem Ex.trans (a : Ex G H G1 H1) (b : Ex G1 H1 G2 H2) : Ex G H G2 H2 := Go.trans a b (fun _ _ _ z => z)
theorem Ex.same (e : Ex G H G1 H1) : LamX.ExtN H H1 := fun a o h w => e.off a o h id w
theorem Ex.refl (h : Le G H) : Ex G H G H := Go.refl h
/-- a new thing, for good -/
theorem ex_new {p : Addr} {o : HO} (h : Le G H) (n : H p = none) (w : NT o := by first | exact nt_lst | exact nt_tup | exact nt_frz | exact nt_ins | exact nt_own | assumption) : Ex G H (upd G p o) (upd H p o) := by
  have gn : G p = none := h.free n
  refine ⟨same_new gn, h.new n w, fun a u e _ _ => (same_new n) a u e, fun a u e g _ _ => ?_, fun a => (same_new n).free⟩
  rw [upd_ne (ne_of_none e n)]; exact g
/-- a new thing that may change -/
theorem ex_own {p : Addr} {o : HO} (h : Le G H) (n : H p = none) : Ex G H G (upd H p o) :=
  ⟨Same.refl G, h.to (same_new n), fun a u e _ _ => (same_new n) a u e, fun _ _ _ g _ _ => g, fun a => (same_new n).free⟩
end
/-- a tuple that stands is for good -/
theorem good_tup {G H : Hp} {p : Addr} {xs : List V} (h : Le G H) (hp : H p = some (.tup xs)) : ∃ G', Ex G H G' H ∧ G' p = some (.tup xs) := by
  cases hg : G p with
  | some o =>
    have := h.same p o hg
    rw [hp] at this
    cases this
    exact ⟨G, Ex.refl h, hg⟩
  | none =>
    refine ⟨upd G p (.tup xs), ⟨same_new hg, h.good hp nt_tup, fun a o e _ _ => e, fun a o e g _ c => ?_, fun _ e => e⟩, upd_same⟩
    have ne : a ≠ p := fun z => by
      subst z
      rw [hp] at e
      cases e
      rcases c with ⟨_, z⟩ | ⟨_, z⟩ | ⟨_, z⟩ | ⟨_, _, _, z⟩ <;> cases z
    rw [upd_ne ne]
    exact g
/-! what is read of an expression: m tells its worth by the slots' worths -/
abbrev Me := Rh → Option (D × Rh)
abbrev Mt := Rh → Option (Bool × Rh)
abbrev Ma := Rh → Option (List D × Rh)
def R (m : Me) : TE := fun σ H Q => ∃ G ρ d ρ', Rep G H σ ρ ∧ m ρ = some (d, ρ') ∧ ∀ G' H' v, Tr G H σ ρ G' H' ρ' → Dd G' v d → Q v H'
def RT (m : Mt) : TT := fun σ H Q => ∃ G ρ d ρ', Rep G H σ ρ ∧ m ρ = some (d, ρ') ∧ ∀ G' H', Tr G H σ ρ G' H' ρ' → Q d H'
def RA (m : Ma) : TA := fun σ H Q => ∃ G ρ d ρ', Rep G H σ ρ ∧ m ρ = some (d, ρ') ∧ ∀ G' H' vs, Tr G H σ ρ G' H' ρ' → DdA G' vs d → Q vs H'
/-- .. whose worth is a new list that nobody else has -/
def RF (m : Ma) : TE := fun σ H Q => ∃ G ρ d ρ', Rep G H σ ρ ∧ m ρ = some (d, ρ') ∧ ∀ G' H' a xs, Tr G H σ ρ G' H' ρ' → H a = none → H' a = some (.lst xs) → G' a = none → DdA G' xs d → Q (.ref a) H'
theorem imp {X : Cx} {e : Expr} {t t' : TE} (h : PE X e t) (hi : ∀ σ H Q, t' σ H Q → t σ H Q) : PE X e t' := ⟨fun pins s σ H Q I q => h.run pins s σ H Q I (hi σ H Q q)⟩
theorem impT {X : Cx} {e : Expr} {t t' : TT} (h : PT X e t) (hi : ∀ σ H Q, t' σ H Q → t σ H Q) : PT X e t' := ⟨fun pins s σ H Q I q => h.run pins s σ H Q I (hi σ H Q q)⟩
theorem impW {X : Cx} {e : Expr} {t t' : TT} (h : PW X e t) (hi : ∀ σ H Q, t' σ H Q → t σ H Q) : PW X e t' := ⟨fun wh pins s σ H Q I q => h.run wh pins s σ H Q I (hi σ H Q q)⟩
theorem impA {X : Cx} {e : List Expr} {t t' : TA} (h : PA X e t) (hi : ∀ σ H Q, t' σ H Q → t σ H Q) : PA X e t' := ⟨fun p pins s σ H Q I q => h.run p pins s σ H Q I (hi σ H Q q)⟩
theorem impS {X : Cx} {e : Stmt} {t t' : TS} (h : PS X e t) (hi : ∀ D σ H, t' D σ H → t D σ H) : PS X e t' := ⟨fun pins s σ H D I q => h.run pins s σ H D I (hi D σ H q)⟩
theorem impSs {X : Cx} {e : List Stmt} {t t' : TS} (h : PSs X e t) (hi : ∀ D σ H, t' D σ H → t D σ H) : PSs X e t' := ⟨fun pins s σ H D I q => h.run pins s σ H D I (hi D σ H q)⟩
/-- a list that nobody else has is for good from now on -/
def mL (m : Ma) : Me := fun ρ => (m ρ).map fun p => (.lst p.1, p.2)
theorem fresh_for_good {G H : Hp} {σ : L2.St} {ρ : Rh} {a : Addr} {xs : List V} {G' H' : Hp} {ρ' : Rh} (r : Rep G H σ ρ) (t : Tr G H σ ρ G' H' ρ') (hn : H a = none) (ha : H' a = some (.lst xs)) (hg : G' a = none) : Tr G H σ ρ (upd G' a (.lst xs)) H' ρ' := by
  have sg : Same G' (upd G' a (.lst xs)) := same_new hg
  have le : Le (upd G' a (.lst xs)) H' := t.go.le.good ha nt_lst
  refine ⟨⟨t.go.gg.trans sg, le, fun a o h n w => t.go.off a o h n w, fun c o h g n w => ?_, t.go.dom⟩, ⟨le, t.rep.len, fun h => ?_, fun h => ?_, t.rep.inj⟩, t.kp⟩
  · rw [upd_ne (ne_of_none h hn)]; exact t.go.new c o h g n
  · obtain ⟨v, h1, h2⟩ := t.rep.val h
    exact ⟨v, h1, dd_same sg h2⟩
  · obtain ⟨c, ys, h1, h2, h3, h4⟩ := t.rep.own h
    refine ⟨c, ys, h1, h2, ?_, dda_same sg h4⟩
    have hne : c ≠ a := fun e => by
      subst e
      obtain ⟨ds0, h5⟩ := t.kp.of h
      obtain ⟨c', zs, h6, h7, _⟩ := r.own h5
      rw [h1] at h6
      cases h6
      rw [hn] at h7
      cases h7
    rw [upd_ne hne]; exact h3
theorem qe_good {X : Cx} {e : Expr} {m : Ma} (h : PE X e (RF m)) : PE X e (R (mL m)) := by
  refine imp h fun σ H Q ⟨G, ρ, d, ρ', r, e, k⟩ => ?_
  unfold mL at e
  cases q : m ρ with
  | none => rw [q] at e; cases e
  | some p =>
    rw [q] at e
    cases e
    exact ⟨G, ρ, p.1, p.2, r, q, fun G' H' a xs t hn ha hg hd => k _ H' _ (fresh_for_good r t hn ha hg) (.lst upd_same (dda_same (same_new hg) hd))⟩
end Pl
namespace Pl
open PySem PySem.Spec PyProof.Rows L2 Kn
variable [Tbs]
theorem bnd {α β : Type} {x : Option α} {f : α → Option β} {b : β} (h : x.bind f = some b) : ∃ a, x = some a ∧ f a = some b := Option.bind_eq_some_iff.mp h
theorem mpd {α β : Type} {x : Option α} {f : α → β} {b : β} (h : x.map f = some b) : ∃ a, x = some a ∧ f a = b := Option.map_eq_some_iff.mp h
section
variable {X : Cx}
/-! names, constants -/
def mVar (i : Nat) : Me := fun ρ => match ρ[i]? with | some (.val d) => some (d, ρ) | _ => none
theorem mVar_inv {i : Nat} {ρ ρ' : Rh} {d : D} (h : mVar i ρ = some (d, ρ')) : ρ[i]? = some (.val d) ∧ ρ' = ρ := by
  unfold mVar at h
  split at h
  · rename_i e
    cases h
    exact ⟨e, rfl⟩
  · cases h
theorem qe_var (i : Nat) {x : Str} {pos : Pos} (hN : X.N[i]? = some x := by rfl) (hv : Vis X.env.scope x := by first | exact Or.inl rfl | exact Or.inr (Or.inl rfl) | exact Or.inr (Or.inr rfl)) (hd : (x == ("__debug__" : Str)) = false := by decide)
    (hcd : (x == ("__classdict__" : Str)) = false := by decide) : PE X (.Name x pos) (R (mVar i)) := by
  refine imp (pe_var hN hv hd hcd) fun σ H Q ⟨G, ρ, d, ρ', r, e, k⟩ => ?_
  obtain ⟨e1, rfl⟩ := mVar_inv e
  obtain ⟨v, h1, h2⟩ := r.val e1
  exact ⟨v, h1, k G H v (Tr.refl r) h2⟩
def mC (d : D) : Me := fun ρ => some (d, ρ)
theorem rc {v : V} {d : D} (hv : ∀ G, Dd G v d) (σ : L2.St) (H : Hp) (Q : VK) (h : R (mC d) σ H Q) : tC v σ H Q := by
  obtain ⟨G, ρ, d', ρ', r, e, k⟩ := h
  cases e
  exact k G H v (Tr.refl r) (hv G)
theorem qe_int {i : Int} {j : Nat} {pos : Pos} : PE X (.Constant (.int i) j pos) (R (mC (.int i))) := imp pe_int (rc fun _ => .int i)
theorem qe_bl {b : Bool} {j : Nat} {pos : Pos} : PE X (.Constant (.bool b) j pos) (R (mC (.bl b))) := imp pe_bl (rc fun _ => .bl b)
theorem qe_non {j : Nat} {pos : Pos} : PE X (.Constant .none j pos) (R (mC .non)) := imp pe_non (rc fun _ => .non)
theorem qe_str {x : Str} {j : Nat} {pos : Pos} : PE X (.Constant (.str x) j pos) (R (mC (.str x))) := imp pe_str (rc fun _ => .str x)
theorem qe_glob {x : Str} {v : V} {u : Value} {pos : Pos} {d : D} (hg : Gl X x) (hm : X.mg x = some u) (r : RelV v u) (hv : ∀ G, Dd G v d) (hd : (x == ("__debug__" : Str)) = false := by decide) : PE X (.Name x pos) (R (mC d)) := imp (pe_glob hg hm r hd) (rc hv)
/-! what comes of a rule -/
def Ans (G H : Hp) (d : D) (Q : VK) : Prop := ∀ G' H' v, Ex G H G' H' → Dd G' v d → Q v H'
def AnsF (G H : Hp) (ds : List D) (Q : VK) : Prop := ∀ G' H' a xs, Ex G H G' H' → H a = none → H' a = some (.lst xs) → G' a = none → DdA G' xs ds → Q (.ref a) H'
theorem Ans.sc {G H : Hp} {v : V} {d : D} {Q : VK} (k : Ans G H d Q) (h : Le G H) (hv : Dd G v d) : Q v H := k G H v (Ex.refl h) hv
theorem AnsF.nw {G H : Hp} {ds : List D} {Q : VK} (k : AnsF G H ds Q) (h : Le G H) {p : Addr} {xs : List V} (hp : H p = none) (hd : DdA G xs ds) : Q (.ref p) (upd H p (.lst xs)) :=
  k G _ p xs (ex_own h hp) hp upd_same (h.free hp) hd
theorem Ans.lst {G H : Hp} {ds : List D} {Q : VK} (k : Ans G H (.lst ds) Q) (h : Le G H) {p : Addr} {xs : List V} (hp : H p = none) (hd : DdA G xs ds) : Q (.ref p) (upd H p (.lst xs)) :=
  k _ _ _ (ex_new h hp) (.lst upd_same (dda_same (same_new (h.free hp)) hd))
theorem Ans.tupM {G H : Hp} {ds : List D} {Q : VK} (k : Ans G H (.tup false ds) Q) (h : Le G H) {p : Addr} {xs : List V} {o : Obj} (hp : H p = none) (hc : o.cls = .type "tuple") (hx : o.dict = none) (hd : DdA G xs ds) : Q (.ref p) (upd H p (.frz o (.tup xs))) :=
  k _ _ _ (ex_new h hp) (.tupM ⟨o, upd_same, hc, hx⟩ (dda_same (same_new (h.free hp)) hd))
theorem Ans.tupW {G H : Hp} {ds : List D} {Q : VK} (k : Ans G H (.tup true ds) Q) (h : Le G H) {p : Addr} {xs : List V} (hp : H p = none) (hd : DdA G xs ds) : Q (.ref p) (upd H p (.tup xs)) :=
  k _ _ _ (ex_new h hp) (.tupW upd_same (dda_same (same_new (h.free hp)) hd))
def OpD (r : R2) (f : D → D → Option D) : Prop := ∀ (G H : Hp) (x y : V) (a b d : D) (Q : VK), Le G H → Dd G x a → Dd G y b → f a b = some d → Ans G H d Q → r x y H Q
def OpF (r : R2) (f : D → D → Option (List D)) : Prop := ∀ (G H : Hp) (x y : V) (a b : D) (d : List D) (Q : VK), Le G H → Dd G x a → Dd G y b → f a b = some d → AnsF G H d Q → r x y H Q
def mOp {α : Type} (f : D → D → Option α) (a b : Me) : Rh → Option (α × Rh) := fun ρ => (a ρ).bind fun p => (b p.2).bind fun q => (f p.1 q.1).map fun d => (d, q.2)
theorem mOp_inv {α : Type} {f : D → D → Option α} {a b : Me} {ρ ρ' : Rh} {d : α} (h : mOp f a b ρ = some (d, ρ')) : ∃ x ρ1 y, a ρ = some (x, ρ1) ∧ b ρ1 = some (y, ρ') ∧ f x y = some d := by
  obtain ⟨p, e1, h⟩ := bnd h
  obtain ⟨q, e2, h⟩ := bnd h
  obtain ⟨z, e3, h⟩ := mpd h
  cases h
  exact ⟨p.1, p.2, q.1, e1, e2, e3⟩
theorem op_of {r : R2} {f : D → D → Option D} {ma mb : Me} (hf : OpD r f) (σ : L2.St) (H : Hp) (Q : VK) (h : R (mOp f ma mb) σ H Q) : tOp r (R ma) (R mb) σ H Q := by
  obtain ⟨G, ρ, d, ρ', rp, e, k⟩ := h
  obtain ⟨x, ρ1, y, e1, e2, e3⟩ := mOp_inv e
  refine ⟨G, ρ, x, ρ1, rp, e1, fun G1 H1 v t1 hv => ⟨G1, ρ1, y, ρ', t1.rep, e2, fun G2 H2 u t2 hu => ?_⟩⟩
  exact hf G2 H2 v u x y d Q t2.rep.le (dd_same t2.go.gg hv) hu e3 fun G3 H3 z ex hz => k G3 H3 z ((t1.trans t2).trans (Tr.ext t2.rep ex)) hz
theorem AnsF.tr {G0 H0 G H : Hp} {σ : L2.St} {ρ ρ' : Rh} {ds : List D} {Q : VK} (t : Tr G0 H0 σ ρ G H ρ') (hn : ∀ a, H a = none → H0 a = none)
    (k : ∀ G' H' a xs, Tr G0 H0 σ ρ G' H' ρ' → H0 a = none → H' a = some (.lst xs) → G' a = none → DdA G' xs ds → Q (.ref a) H') : AnsF G H ds Q :=
  fun G' H' a xs ex n ha hg hd => k G' H' a xs (t.trans (Tr.ext t.rep ex)) (hn a n) ha hg hd
theorem Tr.back {G H : Hp} {σ : L2.St} {ρ : Rh} {G' H' : Hp} {ρ' : Rh} (r : Rep G H σ ρ) (t : Tr G H σ ρ G' H' ρ') {a : Addr} (h : H' a = none) : H a = none := t.go.dom a h
theorem opF_of {r : R2} {f : D → D → Option (List D)} {ma mb : Me} (hf : OpF r f) (σ : L2.St) (H : Hp) (Q : VK) (h : RF (mOp f ma mb) σ H Q) : tOp r (R ma) (R mb) σ H Q := by
  obtain ⟨G, ρ, d, ρ', rp, e, k⟩ := h
  obtain ⟨x, ρ1, y, e1, e2, e3⟩ := mOp_inv e
  refine ⟨G, ρ, x, ρ1, rp, e1, fun G1 H1 v t1 hv => ⟨G1, ρ1, y, ρ', t1.rep, e2, fun G2 H2 u t2 hu => ?_⟩⟩
  have t := t1.trans t2
  exact hf G2 H2 v u x y d Q t2.rep.le (dd_same t2.go.gg hv) hu e3 (AnsF.tr t (fun a n => t.back rp n) k)
theorem qe_op {op : Operator} {r : R2} {f : D → D → Option D} {a b : Expr} {ma mb : Me} {pos : Pos} (ho : OpR X (binaryOp op) r ∧ OpD r f) (ha : PE X a (R ma)) (hb : PE X b (R mb)) : PE X (.BinOp a op b pos) (R (mOp f ma mb)) := imp (pe_op ho.1 ha hb) (op_of ho.2)
theorem qf_op {op : Operator} {r : R2} {f : D → D → Option (List D)} {a b : Expr} {ma mb : Me} {pos : Pos} (ho : OpR X (binaryOp op) r ∧ OpF r f) (ha : PE X a (R ma)) (hb : PE X b (R mb)) : PE X (.BinOp a op b pos) (RF (mOp f ma mb)) := imp (pe_op ho.1 ha hb) (opF_of ho.2)
theorem qe_cmp {op : CmpOp} {r : R2} {f : D → D → Option D} {a b : Expr} {ma mb : Me} {pos : Pos} (ho : OpR X (compareOp op) r ∧ OpD r f) (ha : PE X a (R ma)) (hb : PE X b (R mb)) (hm : behindInMarks op b = false) : PE X (.Compare a [op] [b] pos) (R (mOp f ma mb)) := imp (pe_cmpR ho.1 ha hb hm) (op_of ho.2)
theorem qe_ix {r : R2} {f : D → D → Option D} {a b : Expr} {ma mb : Me} {pos : Pos} (ho : IxR X r ∧ OpD r f) (ha : PE X a (R ma)) (hb : PE X b (R mb)) (hs : PlainIx b) : PE X (.Subscript a b pos) (R (mOp f ma mb)) := imp (pe_ix ho.1 ha hb hs) (op_of ho.2)
/-! tests -/
def mB (m : Me) : Mt := fun ρ => match m ρ with | some (.bl b, ρ') => some (b, ρ') | _ => none
theorem mB_inv {m : Me} {ρ ρ' : Rh} {b : Bool} (h : mB m ρ = some (b, ρ')) : m ρ = some (.bl b, ρ') := by
  unfold mB at h
  split at h
  · rename_i e
    cases h
    exact e
  · cases h
theorem b_of {m : Me} (σ : L2.St) (H : Hp) (Q : Bool → Hp → Prop) (h : RT (mB m) σ H Q) : R m σ H fun x H' => ∃ k, x = .bl k ∧ Q k H' := by
  obtain ⟨G, ρ, d, ρ', rp, e, k⟩ := h
  refine ⟨G, ρ, _, ρ', rp, mB_inv e, fun G' H' v t hv => ?_⟩
  cases hv
  exact ⟨d, rfl, k G' H' t⟩
theorem qt_val {e : Expr} {m : Me} (h : PE X e (R m)) (he : ∀ whole, isTrue e X.env whole = (do let v ← whole; standAt e.pos; holding [v] (truthy v)) := by intro _; rfl) : PT X e (RT (mB m)) := impT (pt_val h he) b_of
theorem qt_cmp {op : CmpOp} {r : R2} {f : D → D → Option D} {a b : Expr} {ma mb : Me} {pos : Pos} (ho : OpR X (compareOp op) r ∧ OpD r f) (ha : PE X a (R ma)) (hb : PE X b (R mb)) (hm : behindInMarks op b = false) : PT X (.Compare a [op] [b] pos) (RT (mB (mOp f ma mb))) :=
  impT (pt_cmpR ho.1 ha hb hm) fun σ H Q h => op_of ho.2 σ H _ (b_of σ H Q h)
def mAnd (a b : Mt) : Mt := fun ρ => (a ρ).bind fun p => if p.1 then b p.2 else some (false, p.2)
def mOr (a b : Mt) : Mt := fun ρ => (a ρ).bind fun p => if p.1 then some (true, p.2) else b p.2
def mNot (a : Mt) : Mt := fun ρ => (a ρ).map fun p => (!p.1, p.2)
theorem qw_and1 {a : Expr} {m : Mt} {pos : Pos} (ha : PT X a (RT m)) : PW X (.BoolOp .And [a] pos) (RT m) := pw_and1 ha
theorem qw_or1 {a : Expr} {m : Mt} {pos : Pos} (ha : PT X a (RT m)) : PW X (.BoolOp .Or [a] pos) (RT m) := pw_or1 ha
theorem qw_and {a b : Expr} {rest : List Expr} {m n : Mt} {pos : Pos} (ha : PT X a (RT m)) (hb : PW X (.BoolOp .And (b :: rest) pos) (RT n)) : PW X (.BoolOp .And (a :: b :: rest) pos) (RT (mAnd m n)) := by
  refine impW (pw_and ha hb) fun σ H Q ⟨G, ρ, d, ρ', rp, e, k⟩ => ?_
  obtain ⟨p, e1, h⟩ := bnd e
  refine ⟨G, ρ, p.1, p.2, rp, e1, fun G1 H1 t1 => ?_⟩
  cases hp : p.1 with
  | true =>
    rw [hp] at h
    exact iteT ⟨G1, p.2, d, ρ', t1.rep, h, fun G2 H2 t2 => k G2 H2 (t1.trans t2)⟩
  | false =>
    rw [hp] at h
    cases h
    exact iteF (k G1 H1 t1)
theorem qw_or {a b : Expr} {rest : List Expr} {m n : Mt} {pos : Pos} (ha : PT X a (RT m)) (hb : PW X (.BoolOp .Or (b :: rest) pos) (RT n)) : PW X (.BoolOp .Or (a :: b :: rest) pos) (RT (mOr m n)) := by
  refine impW (pw_or ha hb) fun σ H Q ⟨G, ρ, d, ρ', rp, e, k⟩ => ?_
  obtain ⟨p, e1, h⟩ := bnd e
  refine ⟨G, ρ, p.1, p.2, rp, e1, fun G1 H1 t1 => ?_⟩
  cases hp : p.1 with
  | true =>
    rw [hp] at h
    cases h
    exact iteT (k G1 H1 t1)
  | false =>
    rw [hp] at h
    exact iteF ⟨G1, p.2, d, ρ', t1.rep, h, fun G2 H2 t2 => k G2 H2 (t1.trans t2)⟩
theorem qt_not {a : Expr} {m : Mt} {pos : Pos} (ha : PT X a (RT m)) : PT X (.UnaryOp .Not a pos) (RT (mNot m)) := by
  refine impT (pt_not ha) fun σ H Q ⟨G, ρ, d, ρ', rp, e, k⟩ => ?_
  obtain ⟨p, e1, h⟩ := mpd e
  cases h
  exact ⟨G, ρ, p.1, p.2, rp, e1, k⟩
/-- .. as worths -/
def mV (m : Mt) : Me := fun ρ => (m ρ).map fun p => (.bl p.1, p.2)
def mAndV (a b : Me) : Me := fun ρ => (mB a ρ).bind fun p => if p.1 then b p.2 else some (.bl false, p.2)
def mOrV (a b : Me) : Me := fun ρ => (mB a ρ).bind fun p => if p.1 then some (.bl true, p.2) else b p.2
theorem qe_one {op : BoolOp} {a : Expr} {m : Me} {pos : Pos} (h : PE X a (R m)) : PE X (.BoolOp op [a] pos) (R m) := pe_one h
theorem qe_and {a b : Expr} {rest : List Expr} {m n : Me} {pos : Pos} (ha : PE X a (R m)) (hb : PE X (.BoolOp .And (b :: rest) pos) (R n)) : PE X (.BoolOp .And (a :: b :: rest) pos) (R (mAndV m n)) := by
  refine imp (pe_and ha hb) fun σ H Q ⟨G, ρ, d, ρ', rp, e, k⟩ => ?_
  obtain ⟨p, e1, h⟩ := bnd e
  refine ⟨G, ρ, _, p.2, rp, mB_inv e1, fun G1 H1 v t1 hv => ?_⟩
  cases hv
  refine ⟨p.1, rfl, ?_⟩
  cases hp : p.1 with
  | true =>
    rw [hp] at h
    exact iteT ⟨G1, p.2, d, ρ', t1.rep, h, fun G2 H2 v t2 hv => k G2 H2 v (t1.trans t2) hv⟩
  | false =>
    rw [hp] at h
    cases h
    exact iteF (k G1 H1 _ t1 (.bl false))
theorem qe_or {a b : Expr} {rest : List Expr} {m n : Me} {pos : Pos} (ha : PE X a (R m)) (hb : PE X (.BoolOp .Or (b :: rest) pos) (R n)) : PE X (.BoolOp .Or (a :: b :: rest) pos) (R (mOrV m n)) := by
  refine imp (pe_or ha hb) fun σ H Q ⟨G, ρ, d, ρ', rp, e, k⟩ => ?_
  obtain ⟨p, e1, h⟩ := bnd e
  refine ⟨G, ρ, _, p.2, rp, mB_inv e1, fun G1 H1 v t1 hv => ?_⟩
  cases hv
  refine ⟨p.1, rfl, ?_⟩
  cases hp : p.1 with
  | false =>
    rw [hp] at h
    exact iteF ⟨G1, p.2, d, ρ', t1.rep, h, fun G2 H2 v t2 hv => k G2 H2 v (t1.trans t2) hv⟩
  | true =>
    rw [hp] at h
    cases h
    exact iteT (k G1 H1 _ t1 (.bl true))
def mNotV (a : Me) : Me := fun ρ => (mB a ρ).map fun p => (.bl (!p.1), p.2)
theorem qe_not {a : Expr} {m : Me} {pos : Pos} (ha : PE X a (R m)) : PE X (.UnaryOp .Not a pos) (R (mNotV m)) := by
  refine imp (pe_not ha) fun σ H Q ⟨G, ρ, d, ρ', rp, e, k⟩ => ?_
  obtain ⟨p, e1, h⟩ := mpd e
  cases h
  refine ⟨G, ρ, _, p.2, rp, mB_inv e1, fun G1 H1 v t1 hv => ?_⟩
  cases hv
  exact ⟨p.1, rfl, k G1 H1 _ t1 (.bl _)⟩
def mIf (c : Mt) (a b : Me) : Me := fun ρ => (c ρ).bind fun p => if p.1 then a p.2 else b p.2
theorem qe_if {c a b : Expr} {m : Mt} {ma mb : Me} {pos : Pos} (hc : PT X c (RT m)) (ha : PE X a (R ma)) (hb : PE X b (R mb)) : PE X (.IfExp c a b pos) (R (mIf m ma mb)) := by
  refine imp (pe_ifExp hc ha hb) fun σ H Q ⟨G, ρ, d, ρ', rp, e, k⟩ => ?_
  obtain ⟨p, e1, h⟩ := bnd e
  refine ⟨G, ρ, p.1, p.2, rp, e1, fun G1 H1 t1 => ?_⟩
  cases hp : p.1 with
  | true =>
    rw [hp] at h
    exact iteT ⟨G1, p.2, d, ρ', t1.rep, h, fun G2 H2 v t2 hv => k G2 H2 v (t1.trans t2) hv⟩
  | false =>
    rw [hp] at h
    exact iteF ⟨G1, p.2, d, ρ', t1.rep, h, fun G2 H2 v t2 hv => k G2 H2 v (t1.trans t2) hv⟩
/-! arguments -/
def mNil : Ma := fun ρ => some ([], ρ)
def mCons (a : Me) (b : Ma) : Ma := fun ρ => (a ρ).bind fun p => (b p.2).map fun q => (p.1 :: q.1, q.2)
theorem qa_nil : PA X [] (RA mNil) := by
  refine impA pa_nil fun σ H Q ⟨G, ρ, d, ρ', rp, e, k⟩ => ?_
  cases e
  exact k G H [] (Tr.refl rp) .nil
theorem qa_cons {e : Expr} {es : List Expr} {m : Me} {n : Ma} (ha : PE X e (R m)) (hr : PA X es (RA n)) (hs : starEach (e :: es) X.env = (false, eval e X.env) :: starEach es X.env := by rfl) : PA X (e :: es) (RA (mCons m n)) := by
  refine impA (pa_cons ha hr hs) fun σ H Q ⟨G, ρ, d, ρ', rp, e, k⟩ => ?_
  obtain ⟨p, e1, h⟩ := bnd e
  obtain ⟨q, e2, h⟩ := mpd h
  cases h
  exact ⟨G, ρ, p.1, p.2, rp, e1, fun G1 H1 v t1 hv => ⟨G1, p.2, q.1, q.2, t1.rep, e2, fun G2 H2 vs t2 hvs => k G2 H2 (v :: vs) (t1.trans t2) (.cons (dd_same t2.go.gg hv) hvs)⟩⟩
/-! displays -/
theorem sz5 {n : Nat} (h : n ≤ 100000) : n ≤ sizeLine := Nat.le_trans h (by decide)
def mTup (k : Bool) (m : Ma) : Me := fun ρ => (m ρ).bind fun p => if p.1.length ≤ 100000 then some (.tup k p.1, p.2) else none
def mDisp (m : Ma) : Ma := fun ρ => (m ρ).bind fun p => if p.1.length ≤ 100000 then some p else none
theorem mTup_inv {k : Bool} {m : Ma} {ρ ρ' : Rh} {d : D} (h : mTup k m ρ = some (d, ρ')) : ∃ ds, m ρ = some (ds, ρ') ∧ ds.length ≤ 100000 ∧ d = .tup k ds := by
  obtain ⟨p, e1, h⟩ := bnd h
  split at h
  · rename_i hl
    cases h
    exact ⟨p.1, e1, hl, rfl⟩
  · cases h
theorem qe_tupM {es : List Expr} {m : Ma} {pos : Pos} {x1} (h : PA X es (RA m)) : PE X (.Tuple es x1 pos) (R (mTup false m)) := by
  refine imp (pe_tupD h) fun σ H Q ⟨G, ρ, d, ρ', rp, e, k⟩ => ?_
  obtain ⟨ds, e1, hl, rfl⟩ := mTup_inv e
  exact ⟨G, ρ, ds, ρ', rp, e1, fun G1 H1 vs t1 hv => ⟨by rw [dda_len hv]; exact sz5 hl, fun p o hp hc hx => Ans.tupM (fun G2 H2 v ex hv2 => k G2 H2 v (t1.trans (Tr.ext t1.rep ex)) hv2) t1.rep.le hp hc hx hv⟩⟩
theorem qe_tupW {es : List Expr} {m : Ma} {pos : Pos} {x1} (h : PA X es (RA m)) : PE X (.Tuple es x1 pos) (R (mTup true m)) := by
  refine imp (pe_tup h) fun σ H Q ⟨G, ρ, d, ρ', rp, e, k⟩ => ?_
  obtain ⟨ds, e1, hl, rfl⟩ := mTup_inv e
  exact ⟨G, ρ, ds, ρ', rp, e1, fun G1 H1 vs t1 hv => ⟨by rw [dda_len hv]; exact sz5 hl, fun p hp => Ans.tupW (fun G2 H2 v ex hv2 => k G2 H2 v (t1.trans (Tr.ext t1.rep ex)) hv2) t1.rep.le hp hv⟩⟩
theorem qf_lst {es : List Expr} {m : Ma} {pos : Pos} (h : PA X es (RA m)) : PE X (.List es pos) (RF (mDisp m)) := by
  refine imp (pe_lst h) fun σ H Q ⟨G, ρ, d, ρ', rp, e, k⟩ => ?_
  obtain ⟨p, e1, e⟩ := bnd e
  split at e
  · rename_i hl
    cases e
    exact ⟨G, ρ, d, ρ', rp, e1, fun G1 H1 vs t1 hv => ⟨by rw [dda_len hv]; exact sz5 hl, fun p hp => AnsF.nw (AnsF.tr t1 (fun a n => t1.back rp n) k) t1.rep.le hp hv⟩⟩
  · cases e
/-! built-ins -/
def CallD (r : List V → Hp → VK → Prop) (f : List D → Option D) : Prop := ∀ (G H : Hp) (xs : List V) (ds : List D) (d : D) (Q : VK), Le G H → DdA G xs ds → f ds = some d → Ans G H d Q → r xs H Q
def CallF (r : List V → Hp → VK → Prop) (f : List D → Option (List D)) : Prop := ∀ (G H : Hp) (xs : List V) (ds : List D) (d : List D) (Q : VK), Le G H → DdA G xs ds → f ds = some d → AnsF G H d Q → r xs H Q
def mCall {α : Type} (f : List D → Option α) (m : Ma) : Rh → Option (α × Rh) := fun ρ => (m ρ).bind fun p => (f p.1).map fun d => (d, p.2)
theorem mCall_inv {α : Type} {f : List D → Option α} {m : Ma} {ρ ρ' : Rh} {d : α} (h : mCall f m ρ = some (d, ρ')) : ∃ ds, m ρ = some (ds, ρ') ∧ f ds = some d := by
  obtain ⟨p, e1, h⟩ := bnd h
  obtain ⟨z, e3, h⟩ := mpd h
  cases h
  exact ⟨p.1, e1, e3⟩
theorem call_of {r : List V → Hp → VK → Prop} {f : List D → Option D} {m : Ma} (hf : CallD r f) (σ : L2.St) (H : Hp) (Q : VK) (h : R (mCall f m) σ H Q) : tCB r (RA m) σ H Q := by
  obtain ⟨G, ρ, d, ρ', rp, e, k⟩ := h
  obtain ⟨ds, e1, e2⟩ := mCall_inv e
  exact ⟨G, ρ, ds, ρ', rp, e1, fun G1 H1 vs t1 hv => hf G1 H1 vs ds d Q t1.rep.le hv e2 fun G2 H2 v ex hv2 => k G2 H2 v (t1.trans (Tr.ext t1.rep ex)) hv2⟩
theorem callF_of {r : List V → Hp → VK → Prop} {f : List D → Option (List D)} {m : Ma} (hf : CallF r f) (σ : L2.St) (H : Hp) (Q : VK) (h : RF (mCall f m) σ H Q) : tCB r (RA m) σ H Q := by
  obtain ⟨G, ρ, d, ρ', rp, e, k⟩ := h
  obtain ⟨ds, e1, e2⟩ := mCall_inv e
  exact ⟨G, ρ, ds, ρ', rp, e1, fun G1 H1 vs t1 hv => hf G1 H1 vs ds d Q t1.rep.le hv e2 (AnsF.tr t1 (fun a n => t1.back rp n) k)⟩
section
variable {id T : String} {x : Str} {e : Expr} {es : List Expr} {m : Ma} {p pos : Pos} {r : List V → Hp → VK → Prop} {f : List D → Option D} {g : List D → Option (List D)}
theorem qe_b (hc : CallR X (.builtin id) r ∧ CallD r f) (hg : Gl X x) (hm : X.mg x = none) (hv : bootBuiltins x = some (.builtin id)) (ha : PA X (e :: es) (RA m)) (hn : x ≠ "__name__" := by decide) (hdb : (x == ("__debug__" : Str)) = false := by decide)
    (he : starEach (e :: es) X.env = (false, eval e X.env) :: starEach es X.env := by rfl) (hpl : (backTo pos (starEach es X.env)).any (·.1) = false := by rfl) : PE X (.Call (.Name x p) (e :: es) [] pos) (R (mCall f m)) := imp (pe_callB hc.1 hg hm hv ha hn hdb he hpl) (call_of hc.2)
theorem qf_b (hc : CallR X (.builtin id) r ∧ CallF r g) (hg : Gl X x) (hm : X.mg x = none) (hv : bootBuiltins x = some (.builtin id)) (ha : PA X (e :: es) (RA m)) (hn : x ≠ "__name__" := by decide) (hdb : (x == ("__debug__" : Str)) = false := by decide)
    (he : starEach (e :: es) X.env = (false, eval e X.env) :: starEach es X.env := by rfl) (hpl : (backTo pos (starEach es X.env)).any (·.1) = false := by rfl) : PE X (.Call (.Name x p) (e :: es) [] pos) (RF (mCall g m)) := imp (pe_callB hc.1 hg hm hv ha hn hdb he hpl) (callF_of hc.2)
theorem qe_ty (hc : CallR X (.type T) r ∧ CallD r f) (hg : Gl X x) (hm : X.mg x = none) (hv : bootBuiltins x = some (.type T)) (ha : PA X (e :: es) (RA m)) (hn : x ≠ "__name__" := by decide) (hdb : (x == ("__debug__" : Str)) = false := by decide)
    (he : starEach (e :: es) X.env = (false, eval e X.env) :: starEach es X.env := by rfl) (hpl : (backTo pos (starEach es X.env)).any (·.1) = false := by rfl) : PE X (.Call (.Name x p) (e :: es) [] pos) (R (mCall f m)) := imp (pe_callTy hc.1 hg hm hv ha hn hdb he hpl) (call_of hc.2)
theorem qf_ty (hc : CallR X (.type T) r ∧ CallF r g) (hg : Gl X x) (hm : X.mg x = none) (hv : bootBuiltins x = some (.type T)) (ha : PA X (e :: es) (RA m)) (hn : x ≠ "__name__" := by decide) (hdb : (x == ("__debug__" : Str)) = false := by decide)
    (he : starEach (e :: es) X.env = (false, eval e X.env) :: starEach es X.env := by rfl) (hpl : (backTo pos (starEach es X.env)).any (·.1) = false := by rfl) : PE X (.Call (.Name x p) (e :: es) [] pos) (RF (mCall g m)) := imp (pe_callTy hc.1 hg hm hv ha hn hdb he hpl) (callF_of hc.2)
end
end
end Pl
namespace Pl
open PySem PySem.Spec PyProof.Rows L2 Kn
variable [Tbs]
/-! the library's own data -/
mutual
def D.py : D → PyData
  | .non => .none
  | .bl b => .bool b
  | .int i => .int i
  | .str x => .str x
  | .lst l => .list (pyA l)
  | .tup _ l => .tuple (pyA l)
  | .dct _ _ => .dict []
  | .dcT _ _ => .dict []
  | .ins _ _ => .dict []
def pyA : List D → List PyData
  | [] => []
  | d :: ds => d.py :: pyA ds
end
theorem sq_l {K : PySem.W.Frag} {G : Hp} {a : Addr} {xs : List V} (h : G a = some (.lst xs)) : SqL K G a xs := .inl (.inl h)
theorem sq_t {K : PySem.W.Frag} {G : Hp} {a : Addr} {xs : List V} (h : G a = some (.tup xs)) : SqT K G a xs := .inl (.inl h)
mutual
theorem dd_dp {K : PySem.W.Frag} {G : Hp} : ∀ {v : V} {d : D}, Dd G v d → d.py.canLay0 = true → Dp K G v d.py
  | _, _, .non, _ => .non
  | _, _, .bl b, _ => .bl b
  | _, _, .int i, _ => .int i
  | _, _, .str x, _ => .str x
  | _, _, .lst h hs, c => .lst (sq_l h) (dda_dp hs c)
  | _, _, .tupM h hs, c => .tup h.sq (dda_dp hs c)
  | _, _, .tupW h hs, c => .tup (sq_t h) (dda_dp hs c)
  | _, _, .dct _ _, c => by simp [D.py, PyData.canLay0] at c
  | _, _, .dcT _ _, c => by simp [D.py, PyData.canLay0] at c
  | _, _, .ins _ _, c => by simp [D.py, PyData.canLay0] at c
theorem dda_dp {K : PySem.W.Frag} {G : Hp} : ∀ {vs : List V} {ds : List D}, DdA G vs ds → PyData.canLayAll0 (pyA ds) = true → DpAll K G vs (pyA ds)
  | _, _, .nil, _ => .nil
  | _, _, .cons h hs, c => by
    have c' : (PyData.canLay0 _ && PyData.canLayAll0 _) = true := c
    rw [Bool.and_eq_true] at c'
    exact .cons (dd_dp h c'.1) (dda_dp hs c'.2)
end
section
variable {X : Cx}
/-! + - * // % ** -/
def addD : D → D → Option D
  | .int i, .int j => some (.int (i + j))
  | .str a, .str b => if a.length + b.length ≤ 100000 then some (.str (a ++ b)) else none
  | .lst a, .lst b => if a.length + b.length ≤ 100000 then some (.lst (a ++ b)) else none
  | .tup _ a, .tup _ b => if 0 < a.length ∧ 0 < b.length ∧ a.length + b.length ≤ 100000 then some (.tup false (a ++ b)) else none
  | _, _ => none
theorem some_if {c : Prop} [Decidable c] {α : Type} {a b : α} (h : (if c then some a else none) = some b) : c ∧ a = b := by
  split at h
  · rename_i hc
    exact ⟨hc, Option.some.inj h⟩
  · cases h
theorem ne_nil {α : Type} {l : List α} (h : 0 < l.length) : l ≠ [] := fun e => by subst e; simp at h
theorem o_add : OpR X (binaryOp .Add) (fun x y H Q => rI0 (fun i j => .int (i + j)) x y H Q ∨ (∃ i j, x = .str i ∧ y = .str j ∧ i.length + j.length ≤ sizeLine ∧ Q (.str (i ++ j)) H) ∨ rCat x y H Q ∨ rCatD X.K x y H Q) ∧
    OpD (fun x y H Q => rI0 (fun i j => .int (i + j)) x y H Q ∨ (∃ i j, x = .str i ∧ y = .str j ∧ i.length + j.length ≤ sizeLine ∧ Q (.str (i ++ j)) H) ∨ rCat x y H Q ∨ rCatD X.K x y H Q) addD := by
  refine ⟨op_add.or (op_add_str.or (op_cat.or op_catD)), fun G H x y a b d Q le ha hb e k => ?_⟩
  unfold addD at e
  split at e
  · cases ha; cases hb; cases e
    exact .inl ⟨_, _, rfl, rfl, k.sc le (.int _)⟩
  · cases ha; cases hb
    obtain ⟨hl, rfl⟩ := some_if e
    exact .inr (.inl ⟨_, _, rfl, rfl, sz5 hl, k.sc le (.str _)⟩)
  · obtain ⟨hl, rfl⟩ := some_if e
    cases ha with
    | lst h1 h2 =>
      cases hb with
      | lst h3 h4 => exact .inr (.inr (.inl ⟨_, _, _, _, rfl, rfl, le _ _ h1, le _ _ h3, by rw [dda_len h2, dda_len h4]; exact sz5 hl, fun p hp => k.lst le hp (dda_app h2 h4)⟩))
  · obtain ⟨⟨l1, l2, hl⟩, rfl⟩ := some_if e
    obtain ⟨p, xs, rfl, hp, hx⟩ : ∃ p xs, x = .ref p ∧ SqT X.K H p xs ∧ DdA G xs _ := by
      cases ha with
      | tupM h1 h2 => exact ⟨_, _, rfl, (h1.same le).sq, h2⟩
      | tupW h1 h2 => exact ⟨_, _, rfl, sq_t (le _ _ h1), h2⟩
    obtain ⟨q, ys, rfl, hq, hy⟩ : ∃ p xs, y = .ref p ∧ SqT X.K H p xs ∧ DdA G xs _ := by
      cases hb with
      | tupM h1 h2 => exact ⟨_, _, rfl, (h1.same le).sq, h2⟩
      | tupW h1 h2 => exact ⟨_, _, rfl, sq_t (le _ _ h1), h2⟩
    exact .inr (.inr (.inr ⟨p, q, xs, ys, rfl, rfl, hp, hq, ne_nil (by rw [dda_len hx]; exact l1), ne_nil (by rw [dda_len hy]; exact l2), by rw [dda_len hx, dda_len hy]; exact sz5 hl, fun z o hz hc hd => k.tupM le hz hc hd (dda_app hx hy)⟩))
  · cases e
def catF : D → D → Option (List D)
  | .lst a, .lst b => if a.length + b.length ≤ 100000 then some (a ++ b) else none
  | _, _ => none
theorem o_catF : OpR X (binaryOp .Add) rCat ∧ OpF rCat catF := by
  refine ⟨op_cat, fun G H x y a b d Q le ha hb e k => ?_⟩
  unfold catF at e
  split at e
  · obtain ⟨hl, rfl⟩ := some_if e
    cases ha with
    | lst h1 h2 =>
      cases hb with
      | lst h3 h4 => exact ⟨_, _, _, _, rfl, rfl, le _ _ h1, le _ _ h3, by rw [dda_len h2, dda_len h4]; exact sz5 hl, fun p hp => k.nw le hp (dda_app h2 h4)⟩
  · cases e
def intD (f : Int → Int → Option Int) : D → D → Option D
  | .int i, .int j => (f i j).map D.int
  | _, _ => none
theorem intD_inv {f : Int → Int → Option Int} {a b d : D} (h : intD f a b = some d) : ∃ i j r, a = .int i ∧ b = .int j ∧ f i j = some r ∧ d = .int r := by
  unfold intD at h
  split at h
  · obtain ⟨r, e, rfl⟩ := mpd h
    exact ⟨_, _, r, rfl, rfl, e, rfl⟩
  · cases h
theorem o_sub : OpR X (binaryOp .Sub) (rI0 fun i j => .int (i - j)) ∧ OpD (rI0 fun i j => .int (i - j)) (intD fun i j => some (i - j)) := by
  refine ⟨op_sub, fun G H x y a b d Q le ha hb e k => ?_⟩
  obtain ⟨i, j, r, rfl, rfl, h, rfl⟩ := intD_inv e
  cases h; cases ha; cases hb
  exact ⟨_, _, rfl, rfl, k.sc le (.int _)⟩
def mulF (i j : Int) : Option Int := if (-(2 ^ 64) < i ∧ i < 2 ^ 64) ∨ (-(2 ^ 64) < j ∧ j < 2 ^ 64) then some (i * j) else none
def mulD : D → D → Option D
  | .int i, .int j => (mulF i j).map D.int
  | .lst a, .int k => if 0 ≤ k ∧ k ≤ 1000 ∧ a.length * k.toNat ≤ 100000 then some (.lst (List.replicate k.toNat a).flatten) else none
  | _, _ => none
theorem dda_rep {G : Hp} {vs : List V} {ds : List D} (h : DdA G vs ds) : ∀ n : Nat, DdA G (List.replicate n vs).flatten (List.replicate n ds).flatten
  | 0 => .nil
  | n + 1 => by
    rw [List.replicate_succ, List.replicate_succ, List.flatten_cons, List.flatten_cons]
    exact dda_app h (dda_rep h n)
theorem o_mul : OpR X (binaryOp .Mult) (fun x y H Q => rI CMul (fun i j => .int (i * j)) x y H Q ∨ rRep x y H Q) ∧ OpD (fun x y H Q => rI CMul (fun i j => .int (i * j)) x y H Q ∨ rRep x y H Q) mulD := by
  refine ⟨op_mul.or op_rep, fun G H x y a b d Q le ha hb e k => ?_⟩
  unfold mulD at e
  split at e
  · obtain ⟨r, e1, rfl⟩ := mpd e
    unfold mulF at e1
    obtain ⟨hc, rfl⟩ := some_if e1
    cases ha; cases hb
    exact .inl ⟨_, _, rfl, rfl, hc, k.sc le (.int _)⟩
  · obtain ⟨⟨h0, h1, hl⟩, rfl⟩ := some_if e
    cases hb
    cases ha with
    | lst h1' h2 => exact .inr ⟨_, _, _, rfl, rfl, le _ _ h1', by omega, by omega, by rw [dda_len h2]; exact sz5 hl, fun p hp => k.lst le hp (dda_rep h2 _)⟩
  · cases e
def fdivF (i j : Int) : Option Int := if 0 < j ∧ j < 1073741824 then some (i / j) else none
theorem o_fdiv : OpR X (binaryOp .FloorDiv) (rI CDiv fun i j => .int (i / j)) ∧ OpD (rI CDiv fun i j => .int (i / j)) (intD fdivF) := by
  refine ⟨op_fdiv, fun G H x y a b d Q le ha hb e k => ?_⟩
  obtain ⟨i, j, r, rfl, rfl, h, rfl⟩ := intD_inv e
  unfold fdivF at h
  obtain ⟨hc, rfl⟩ := some_if h
  cases ha; cases hb
  exact ⟨_, _, rfl, rfl, hc, k.sc le (.int _)⟩
def modF (i j : Int) : Option Int := if 0 < j then some (i % j) else none
theorem o_mod : OpR X (binaryOp .Mod) (rI (fun _ j => 0 < j) fun i j => .int (i % j)) ∧ OpD (rI (fun _ j => 0 < j) fun i j => .int (i % j)) (intD modF) := by
  refine ⟨op_mod, fun G H x y a b d Q le ha hb e k => ?_⟩
  obtain ⟨i, j, r, rfl, rfl, h, rfl⟩ := intD_inv e
  unfold modF at h
  obtain ⟨hc, rfl⟩ := some_if h
  cases ha; cases hb
  exact ⟨_, _, rfl, rfl, hc, k.sc le (.int _)⟩
def powF (i j : Int) : Option Int := if 0 ≤ j ∧ j ≤ 1000000 ∧ i.natAbs < 2 ^ 64 then some (i ^ j.toNat) else none
theorem o_pow : OpR X (binaryOp .Pow) (rI CPow fun i j => .int (i ^ j.toNat)) ∧ OpD (rI CPow fun i j => .int (i ^ j.toNat)) (intD powF) := by
  refine ⟨op_pow, fun G H x y a b d Q le ha hb e k => ?_⟩
  obtain ⟨i, j, r, rfl, rfl, h, rfl⟩ := intD_inv e
  unfold powF at h
  obtain ⟨hc, rfl⟩ := some_if h
  cases ha; cases hb
  exact ⟨_, _, rfl, rfl, hc, k.sc le (.int _)⟩
/-! -e -/
def mNeg (m : Me) : Me := fun ρ => (m ρ).bind fun p => match p.1 with | .int i => some (.int (-i), p.2) | _ => none
theorem qe_neg {a : Expr} {m : Me} {pos : Pos} (h : PE X a (R m)) : PE X (.UnaryOp .USub a pos) (R (mNeg m)) := by
  refine imp (pe_un un_neg h) fun σ H Q ⟨G, ρ, d, ρ', rp, e, k⟩ => ?_
  obtain ⟨p, e1, e⟩ := bnd e
  split at e
  · rename_i i hi
    cases e
    refine ⟨G, ρ, p.1, p.2, rp, e1, fun G1 H1 v t1 hv => ?_⟩
    rw [hi] at hv
    cases hv
    exact ⟨_, rfl, k G1 H1 _ t1 (.int _)⟩
  · cases e
/-! == != < <= > >= -/
def eqSc : D → D → Option Bool
  | .non, .non => some true
  | .int i, .int j => some (decide (i = j))
  | .bl i, .bl j => some (decide (i = j))
  | .str i, .str j => some (decide (i = j))
  | .non, .int _ => some false | .int _, .non => some false | .non, .bl _ => some false | .bl _, .non => some false | .non, .str _ => some false | .str _, .non => some false
  | .int _, .str _ => some false | .str _, .int _ => some false | .bl _, .str _ => some false | .str _, .bl _ => some false
  | _, _ => none
def eqB (a b : D) : Option Bool := match eqSc a b with
  | some r => some r
  | none => if SeqAt.shaped a.py = true ∧ SeqAt.shaped b.py = true then some (PyData.eqv a.py b.py) else none
theorem eqSc_ok {G : Hp} {a b : D} {x y : V} {r : Bool} (h : eqSc a b = some r) (ha : Dd G x a) (hb : Dd G y b) : scal x y = true ∧ decide (x = y) = r := by
  unfold eqSc at h
  split at h <;> first | (cases h; cases ha; cases hb; exact ⟨rfl, by simp⟩) | cases h
theorem shaped_lay {d : PyData} (h : SeqAt.shaped d = true) : d.canLay0 = true := by
  unfold SeqAt.shaped at h
  rw [Bool.and_eq_true] at h
  exact h.1
def eqDD (a b : D) : Option D := (eqB a b).map D.bl
def neDD (a b : D) : Option D := (eqB a b).map fun r => .bl (!r)
theorem o_eq (hu : X.A.units + 64 < cLine) : OpR X (compareOp .Eq) (fun x y H Q => rEq x y H Q ∨ rEqD X.K x y H Q) ∧ OpD (fun x y H Q => rEq x y H Q ∨ rEqD X.K x y H Q) eqDD := by
  refine ⟨op_eq.or (op_eqD hu), fun G H x y a b d Q le ha hb e k => ?_⟩
  obtain ⟨r, e1, rfl⟩ := mpd e
  clear e
  unfold eqB at e1
  split at e1
  · rename_i q hq
    cases e1
    obtain ⟨h1, h2⟩ := eqSc_ok hq ha hb
    exact .inl ⟨h1, by rw [h2]; exact k.sc le (.bl _)⟩
  · obtain ⟨hc, rfl⟩ := some_if e1
    exact .inr ⟨_, _, dp_same le (dd_dp ha (shaped_lay hc.1)), dp_same le (dd_dp hb (shaped_lay hc.2)), hc.1, hc.2, k.sc le (.bl _)⟩
theorem o_ne (hu : X.A.units + 64 < cLine) : OpR X (compareOp .NotEq) (fun x y H Q => rNe x y H Q ∨ rNeD X.K x y H Q) ∧ OpD (fun x y H Q => rNe x y H Q ∨ rNeD X.K x y H Q) neDD := by
  refine ⟨op_ne.or (op_neD hu), fun G H x y a b d Q le ha hb e k => ?_⟩
  obtain ⟨r, e1, rfl⟩ := mpd e
  clear e
  unfold eqB at e1
  split at e1
  · rename_i q hq
    cases e1
    obtain ⟨h1, h2⟩ := eqSc_ok hq ha hb
    exact .inl ⟨h1, by rw [h2]; exact k.sc le (.bl _)⟩
  · obtain ⟨hc, rfl⟩ := some_if e1
    exact .inr ⟨_, _, dp_same le (dd_dp ha (shaped_lay hc.1)), dp_same le (dd_dp hb (shaped_lay hc.2)), hc.1, hc.2, k.sc le (.bl _)⟩
def cmpD (f : Int → Int → Bool) : D → D → Option D
  | .int i, .int j => some (.bl (f i j))
  | _, _ => none
theorem cmp_ok {f : Int → Int → Bool} : OpD (rI0 fun i j => .bl (f i j)) (cmpD f) := by
  intro G H x y a b d Q le ha hb e k
  unfold cmpD at e
  split at e
  · cases e; cases ha; cases hb
    exact ⟨_, _, rfl, rfl, k.sc le (.bl _)⟩
  · cases e
theorem o_lt : OpR X (compareOp .Lt) (rI0 fun i j => .bl (decide (i < j))) ∧ OpD (rI0 fun i j => .bl (decide (i < j))) (cmpD fun i j => decide (i < j)) := ⟨op_lt, cmp_ok⟩
theorem o_le : OpR X (compareOp .LtE) (rI0 fun i j => .bl (decide (i ≤ j))) ∧ OpD (rI0 fun i j => .bl (decide (i ≤ j))) (cmpD fun i j => decide (i ≤ j)) := ⟨op_le, cmp_ok⟩
theorem o_gt : OpR X (compareOp .Gt) (rI0 fun i j => .bl (decide (j < i))) ∧ OpD (rI0 fun i j => .bl (decide (j < i))) (cmpD fun i j => decide (j < i)) := ⟨op_gt, cmp_ok⟩
theorem o_ge : OpR X (compareOp .GtE) (rI0 fun i j => .bl (decide (j ≤ i))) ∧ OpD (rI0 fun i j => .bl (decide (j ≤ i))) (cmpD fun i j => decide (j ≤ i)) := ⟨op_ge, cmp_ok⟩
/-! is, is not: None and truths -/
def noneD : D → Bool
  | .non => true
  | _ => false
def isB : D → D → Option Bool
  | .bl a, .bl b => some (decide (a = b))
  | a, .non => some (noneD a)
  | _, _ => none
theorem isN {G : Hp} {x : V} {a : D} (h : Dd G x a) : decide (x = .non) = noneD a := by cases h <;> simp [noneD]
theorem o_is : OpR X (compareOp .Is) (fun x y H Q => rIsB x y H Q ∨ (y = .non ∧ Q (.bl (decide (x = .non))) H)) ∧ OpD (fun x y H Q => rIsB x y H Q ∨ (y = .non ∧ Q (.bl (decide (x = .non))) H)) (fun a b => (isB a b).map D.bl) := by
  refine ⟨op_isBl.or op_isN, fun G H x y a b d Q le ha hb e k => ?_⟩
  obtain ⟨r, e1, rfl⟩ := mpd e
  clear e
  unfold isB at e1
  split at e1
  · cases e1; cases ha; cases hb
    exact .inl ⟨_, _, rfl, rfl, k.sc le (.bl _)⟩
  · cases hb
    refine .inr ⟨rfl, ?_⟩
    rw [isN ha]
    cases e1
    exact k.sc le (.bl _)
  · cases e1
theorem o_isnot : OpR X (compareOp .IsNot) (fun x y H Q => rNotB x y H Q ∨ (y = .non ∧ Q (.bl (!decide (x = .non))) H)) ∧ OpD (fun x y H Q => rNotB x y H Q ∨ (y = .non ∧ Q (.bl (!decide (x = .non))) H)) (fun a b => (isB a b).map fun r => .bl (!r)) := by
  refine ⟨op_notBl.or op_notN, fun G H x y a b d Q le ha hb e k => ?_⟩
  obtain ⟨r, e1, rfl⟩ := mpd e
  clear e
  unfold isB at e1
  split at e1
  · cases e1; cases ha; cases hb
    exact .inl ⟨_, _, rfl, rfl, k.sc le (.bl _)⟩
  · cases hb
    refine .inr ⟨rfl, ?_⟩
    rw [isN ha]
    cases e1
    exact k.sc le (.bl _)
  · cases e1
/-! in, not in: rows of flat things, dicts, texts -/
def flatD : D → Bool
  | .non => true | .bl _ => true | .int _ => true | .str _ => true | _ => false
def eqFl : D → D → Bool
  | .non, .non => true
  | .bl a, .bl b => a == b
  | .bl a, .int b => (if a then 1 else 0) == b
  | .int a, .bl b => a == (if b then 1 else 0)
  | .int a, .int b => a == b
  | .str a, .str b => a == b
  | _, _ => false
theorem flat_of {G : Hp} {x : V} {a : D} (h : Dd G x a) : flatV x = flatD a := by cases h <;> rfl
theorem eqFl_of {G : Hp} {x y : V} {a b : D} (h : Dd G x a) (h' : Dd G y b) : eqV x y = eqFl a b := by cases h <;> cases h' <;> rfl
theorem flats_of {G : Hp} : ∀ {xs : List V} {ds : List D}, DdA G xs ds → xs.all flatV = ds.all flatD
  | _, _, .nil => rfl
  | _, _, .cons h t => by rw [List.all_cons, List.all_cons, flat_of h, flats_of t]
theorem inV_of {G : Hp} {x : V} {a : D} (hx : Dd G x a) : ∀ {xs : List V} {ds : List D}, DdA G xs ds → inV x xs = ds.any fun b => eqFl b a
  | _, _, .nil => rfl
  | _, _, .cons h t => by
    unfold inV
    rw [List.any_cons, List.any_cons, eqFl_of h hx]
    have := inV_of hx t
    unfold inV at this
    rw [this]
def keyD : D → Option Key
  | .int i => some (.inl i)
  | .str x => some (.inr x)
  | _ => none
theorem keyD_v {G : Hp} {x : V} {a : D} {k : Key} (h : Dd G x a) (e : keyD a = some k) : x = kV k := by
  cases h <;> cases e <;> rfl
def keysD : List D → Option (List Key)
  | [] => some []
  | d :: ds => (keyD d).bind fun k => (keysD ds).map fun ks => k :: ks
theorem keysD_v {G : Hp} : ∀ {xs : List V} {ds : List D} {ks : List Key}, DdA G xs ds → keysD ds = some ks → xs = ks.map kV
  | _, _, _, .nil, e => by cases e; rfl
  | _, _, _, .cons h t, e => by
    obtain ⟨k, e1, e⟩ := bnd e
    obtain ⟨ks', e2, rfl⟩ := mpd e
    rw [keyD_v h e1, keysD_v t e2]
    rfl
/-- a worth by its key -/
def look {κ : Type} [DecidableEq κ] : List κ → List D → κ → Option D
  | k :: ks, d :: ds, q => if k = q then some d else look ks ds q
  | _, _, _ => none
theorem look_val {κ : Type} [DecidableEq κ] {G : Hp} (q : κ) : ∀ (kvs : List (κ × V)) {ds : List D}, DdA G (kvs.map (·.2)) ds → match look (kvs.map (·.1)) ds q with | some d => ∃ v, valV kvs q = some v ∧ Dd G v d | none => valV kvs q = none
  | [], _, .nil => rfl
  | p :: kvs, _, .cons (d := d) (ds := ds) h t => by
    show match (if p.1 = q then some d else look (kvs.map (·.1)) ds q) with | some d => ∃ v, valV (p :: kvs) q = some v ∧ Dd G v d | none => valV (p :: kvs) q = none
    by_cases e : p.1 = q
    · rw [if_pos e]
      exact ⟨p.2, valV_pos e, h⟩
    · rw [if_neg e, valV_neg e]
      exact look_val q kvs t
theorem look_some {κ : Type} [DecidableEq κ] {G : Hp} {q : κ} {kvs : List (κ × V)} {ds : List D} {d : D} (h : DdA G (kvs.map (·.2)) ds) (e : look (kvs.map (·.1)) ds q = some d) : ∃ v, valV kvs q = some v ∧ Dd G v d := by
  have := look_val q kvs h
  rw [e] at this
  exact this
theorem look_is {κ : Type} [DecidableEq κ] {G : Hp} (q : κ) {kvs : List (κ × V)} {ds : List D} (h : DdA G (kvs.map (·.2)) ds) : (valV kvs q).isSome = (look (kvs.map (·.1)) ds q).isSome := by
  have := look_val q kvs h
  cases e2 : look (kvs.map (·.1)) ds q with
  | some d =>
    rw [e2] at this
    obtain ⟨v, e, _⟩ := this
    rw [e]
    rfl
  | none =>
    rw [e2] at this
    rw [show valV kvs q = none from this]
    rfl
def inB : D → D → Option Bool
  | a, .lst l => if flatD a = true ∧ l.all flatD = true then some (l.any fun b => eqFl b a) else none
  | a, .tup _ l => if flatD a = true ∧ l.all flatD = true then some (l.any fun b => eqFl b a) else none
  | a, .dct ks ds => (keyD a).map fun k => (look ks ds k).isSome
  | .tup true l, .dcT ks ds => (keysD l).map fun k => (look ks ds k).isSome
  | .str a, .str b => some (!(Builtin.Str.occurrences b a 0 b.length 1).isEmpty)
  | _, _ => none
def rInD (K : PySem.W.Frag) : R2 := fun x y H Q => rIn K false x y H Q ∨ (∃ i j, x = .str i ∧ y = .str j ∧ Q (.bl (!(Builtin.Str.occurrences j i 0 j.length 1).isEmpty)) H) ∨ ∃ a o, y = .ref a ∧ DGet H a x o ∧ Q (.bl o.isSome) H
def rNinD (K : PySem.W.Frag) : R2 := fun x y H Q => rIn K true x y H Q ∨ (∃ i j, x = .str i ∧ y = .str j ∧ Q (.bl (!(!(Builtin.Str.occurrences j i 0 j.length 1).isEmpty))) H) ∨ ∃ a o, y = .ref a ∧ DGet H a x o ∧ Q (.bl (!o.isSome)) H
theorem op_inDct (hu : X.A.units + 1 < cLine) : OpR X (compareOp .In) (fun x y H Q => ∃ a o, y = .ref a ∧ DGet H a x o ∧ Q (.bl o.isSome) H) := by
  intro pins s σ H x y v u Q I rx ry h
  obtain ⟨a, o, rfl, g, q⟩ := h
  obtain rfl : u = Value.ref a := ry
  exact d_in hu I g rx fun s3 I3 => ⟨.bl o.isSome, H, I3, rfl, q⟩
theorem op_ninDct (hu : X.A.units + 1 < cLine) : OpR X (compareOp .NotIn) (fun x y H Q => ∃ a o, y = .ref a ∧ DGet H a x o ∧ Q (.bl (!o.isSome)) H) := by
  intro pins s σ H x y v u Q I rx ry h
  obtain ⟨a, o, rfl, g, q⟩ := h
  obtain rfl : u = Value.ref a := ry
  exact d_notIn hu I g rx fun s3 I3 => ⟨.bl (!o.isSome), H, I3, rfl, q⟩
/-- what a dict holds, by the key's worth -/
theorem dget_k {G H : Hp} {a : Addr} {o : Obj} {kvs : List (Key × V)} {ds : List D} {x : V} {w : D} {k : Key} (le : Le G H) (hg : G a = some (.frz o (.dK kvs))) (hx : Dd G x w) (hk : keyD w = some k) : DGet H a x (valV kvs k) := by
  rw [keyD_v hx hk]
  exact .inl ⟨kvs, k, .inr ⟨o, le _ _ hg⟩, rfl, rfl⟩
theorem dget_t {G H : Hp} {a : Addr} {o : Obj} {kvs : List (List Key × V)} {x : V} {l : List D} {k : List Key} (le : Le G H) (hg : G a = some (.frz o (.dT kvs))) (hx : Dd G x (.tup true l)) (hk : keysD l = some k) : DGet H a x (valV kvs k) := by
  cases hx with
  | tupW h1 h2 =>
    rw [keysD_v h2 hk] at h1
    exact .inr ⟨kvs, k, _, .inr ⟨o, le _ _ hg⟩, rfl, le _ _ h1, rfl⟩
theorem in_of {G H : Hp} {x y : V} {a b : D} {r : Bool} (K : PySem.W.Frag) (le : Le G H) (ha : Dd G x a) (hb : Dd G y b) (e : inB a b = some r) (neg : Bool) (Q : VK) (q : Q (.bl (if neg then !r else r)) H) :
    rIn K neg x y H Q ∨ (∃ i j, x = .str i ∧ y = .str j ∧ Q (.bl (if neg then !(!(Builtin.Str.occurrences j i 0 j.length 1).isEmpty) else !(Builtin.Str.occurrences j i 0 j.length 1).isEmpty)) H) ∨ ∃ a o, y = .ref a ∧ DGet H a x o ∧ Q (.bl (if neg then !o.isSome else o.isSome)) H := by
  unfold inB at e
  split at e
  · obtain ⟨⟨h1, h2⟩, rfl⟩ := some_if e
    cases hb with
    | lst h3 h4 => exact .inl ⟨_, _, rfl, .inl (sq_l (le _ _ h3)), by rw [flat_of ha]; exact h1, by rw [flats_of h4]; exact h2, by rw [inV_of ha h4]; exact q⟩
  · obtain ⟨⟨h1, h2⟩, rfl⟩ := some_if e
    cases hb with
    | tupM h3 h4 => exact .inl ⟨_, _, rfl, .inr ((h3.same le).sq), by rw [flat_of ha]; exact h1, by rw [flats_of h4]; exact h2, by rw [inV_of ha h4]; exact q⟩
    | tupW h3 h4 => exact .inl ⟨_, _, rfl, .inr (sq_t (le _ _ h3)), by rw [flat_of ha]; exact h1, by rw [flats_of h4]; exact h2, by rw [inV_of ha h4]; exact q⟩
  · obtain ⟨k, e1, rfl⟩ := mpd e
    cases hb with
    | dct h3 h4 => exact .inr (.inr ⟨_, _, rfl, dget_k (ds := []) le h3 ha e1, by rw [look_is k h4]; exact q⟩)
  · obtain ⟨k, e1, rfl⟩ := mpd e
    cases hb with
    | dcT h3 h4 => exact .inr (.inr ⟨_, _, rfl, dget_t le h3 ha e1, by rw [look_is k h4]; exact q⟩)
  · cases e; cases ha; cases hb
    exact .inr (.inl ⟨_, _, rfl, rfl, q⟩)
  · cases e
theorem o_in (hu : X.A.units + 1 < cLine) : OpR X (compareOp .In) (rInD X.K) ∧ OpD (rInD X.K) (fun a b => (inB a b).map D.bl) := by
  refine ⟨op_in_seq.or (op_in_str.or (op_inDct hu)), fun G H x y a b d Q le ha hb e k => ?_⟩
  obtain ⟨r, e1, rfl⟩ := mpd e
  exact in_of X.K le ha hb e1 false Q (k.sc le (.bl _))
theorem o_nin (hu : X.A.units + 1 < cLine) : OpR X (compareOp .NotIn) (rNinD X.K) ∧ OpD (rNinD X.K) (fun a b => (inB a b).map fun r => .bl (!r)) := by
  refine ⟨op_notIn_seq.or (op_notIn_str.or (op_ninDct hu)), fun G H x y a b d Q le ha hb e k => ?_⟩
  obtain ⟨r, e1, rfl⟩ := mpd e
  exact in_of X.K le ha hb e1 true Q (k.sc le (.bl _))
/-! e[i] -/
def ixD : D → D → Option D
  | .lst l, .int i => atI l i
  | .tup _ l, .int i => atI l i
  | .str z, .int i => if z.length ≤ 100000 then (atI z.cps.toList i).map fun c => .str ⟨#[c]⟩ else none
  | .dct ks ds, a => (keyD a).bind fun k => look ks ds k
  | .dcT ks ds, .tup true l => (keysD l).bind fun k => look ks ds k
  | _, _ => none
theorem dda_atI {G : Hp} {xs : List V} {ds : List D} {i : Int} {d : D} (h : DdA G xs ds) (e : atI ds i = some d) : ∃ v, atI xs i = some v ∧ Dd G v d := by
  unfold atI at e ⊢
  obtain ⟨j, e1, e2⟩ := bnd e
  obtain ⟨v, e3, e4⟩ := dda_at h e2
  exact ⟨v, by rw [dda_len h, e1]; exact e3, e4⟩
def rIxD (K : PySem.W.Frag) : R2 := fun x y H Q => rIx K x y H Q ∨ ∃ a v, x = .ref a ∧ DGet H a y (some v) ∧ Q v H
theorem ix_dct (hu : X.A.units + 1 < cLine) : IxR X (fun x y H Q => ∃ a v, x = .ref a ∧ DGet H a y (some v) ∧ Q v H) := by
  intro value slice pins s σ H x y v u Q I rx ry h hs
  obtain ⟨a, w, rfl, g, q⟩ := h
  obtain rfl : v = Value.ref a := rx
  exact tail_any (dict_typeIs I g) PySem.F.slot_dict_getitem.lookup (d_getItem hu I g ry fun w' s3 I3 rw' => ⟨w, H, I3, rw', q⟩) hs
theorem o_ix (hu : X.A.units + 1 < cLine) : IxR X (rIxD X.K) ∧ OpD (rIxD X.K) ixD := by
  refine ⟨ix_seq.or (ix_dct hu), fun G H x y a b d Q le ha hb e k => ?_⟩
  unfold ixD at e
  split at e
  · cases hb
    cases ha with
    | lst h1 h2 =>
      obtain ⟨v, e1, e2⟩ := dda_atI h2 e
      exact .inl (.inl ⟨_, _, _, v, rfl, rfl, sq_l (le _ _ h1), e1, k.sc le e2⟩)
  · cases hb
    cases ha with
    | tupM h1 h2 =>
      obtain ⟨v, e1, e2⟩ := dda_atI h2 e
      exact .inl (.inr (.inl ⟨_, _, _, v, rfl, rfl, (h1.same le).sq, e1, k.sc le e2⟩))
    | tupW h1 h2 =>
      obtain ⟨v, e1, e2⟩ := dda_atI h2 e
      exact .inl (.inr (.inl ⟨_, _, _, v, rfl, rfl, sq_t (le _ _ h1), e1, k.sc le e2⟩))
  · split at e
    · rename_i hl
      obtain ⟨c, e1, rfl⟩ := mpd e
      cases ha; cases hb
      exact .inl (.inr (.inr ⟨_, _, c, rfl, rfl, sz5 hl, e1, k.sc le (.str _)⟩))
    · cases e
  · obtain ⟨q, e1, e2⟩ := bnd e
    cases ha with
    | dct h3 h4 =>
      obtain ⟨v, e3, e4⟩ := look_some h4 e2
      exact .inr ⟨_, v, rfl, by rw [← e3]; exact dget_k (ds := []) le h3 hb e1, k.sc le e4⟩
  · obtain ⟨q, e1, e2⟩ := bnd e
    cases ha with
    | dcT h3 h4 =>
      obtain ⟨v, e3, e4⟩ := look_some h4 e2
      exact .inr ⟨_, v, rfl, by rw [← e3]; exact dget_t le h3 hb e1, k.sc le e4⟩
  · cases e
end
end Pl
namespace Pl
open PySem PySem.Spec PyProof.Rows L2 Kn
variable [Tbs]
/-! what is walked -/
def WalkD (J : It) (G : Hp) (ds : List D) : Prop := Walk J ds.length (fun H => Same G H) (fun i H x H' => ∃ d, ds[i]? = some d ∧ ∀ G1, Same G G1 → Le G1 H → ∃ G2, Ex G1 H G2 H' ∧ Dd G2 x d)
def RI (m : Ma) : TI := fun σ H K => ∃ G ρ d ρ', Rep G H σ ρ ∧ m ρ = some (d, ρ') ∧ ∀ G' H' J, Tr G H σ ρ G' H' ρ' → WalkD J G' d → K J H'
theorem impI {X : Cx} {tg e : Expr} {t t' : TI} (h : PI X tg e t) (hi : ∀ σ H Q, t' σ H Q → t σ H Q) : PI X tg e t' := ⟨fun pins s σ H Q I q => h.run pins s σ H Q I (hi σ H Q q)⟩
theorem PI.or {X : Cx} {tg e : Expr} {t t' : TI} (h : PI X tg e t) (h' : PI X tg e t') : PI X tg e (fun σ H Q => t σ H Q ∨ t' σ H Q) := by
  refine ⟨fun pins s σ H Q I q => ?_⟩
  rcases q with q | q
  · exact h.run pins s σ H Q I q
  · exact h'.run pins s σ H Q I q
theorem walk_at {J : It} {G : Hp} {xs : List V} {ds : List D} {P : Hp → Prop} (w : Walk J xs.length P (YAt xs)) (hp : ∀ H, Same G H → P H) (h : DdA G xs ds) : WalkD J G ds := by
  unfold WalkD
  rw [← dda_len h]
  refine w.mono hp fun i H x H' hi le y => ?_
  obtain ⟨rfl, e⟩ := y
  obtain ⟨d, e1, e2⟩ := dda_get h e
  exact ⟨d, e1, fun G1 s1 s2 => ⟨G1, Ex.refl s2, dd_same s1 e2⟩⟩
def prs : List D → List D → List D
  | a :: as, b :: bs => .tup true [a, b] :: prs as bs
  | _, _ => []
theorem prs_len : ∀ as bs : List D, (prs as bs).length = min as.length bs.length
  | [], _ => by simp [prs]
  | _ :: _, [] => by simp [prs]
  | a :: as, b :: bs => by rw [prs, List.length_cons, prs_len as bs, List.length_cons, List.length_cons]; omega
theorem prs_get : ∀ {as bs : List D} {i : Nat} {a b : D}, as[i]? = some a → bs[i]? = some b → (prs as bs)[i]? = some (.tup true [a, b])
  | a :: as, b :: bs, 0, _, _, h1, h2 => by cases h1; cases h2; rfl
  | a :: as, b :: bs, i + 1, _, _, h1, h2 => prs_get (as := as) (bs := bs) (i := i) h1 h2
  | [], _, i, _, _, h1, _ => by cases i <;> cases h1
  | _ :: _, [], i, _, _, _, h2 => by cases i <;> cases h2
theorem walk_pr {J : It} {G : Hp} {fx fy : Nat → Option V} {as bs : List D} {n : Nat} {P : Hp → Prop} (w : Walk J n P (YPair fx fy)) (hn : n = min as.length bs.length) (hp : ∀ H, Same G H → P H) (hx : ∀ i x, fx i = some x → ∃ a, as[i]? = some a ∧ Dd G x a) (hy : ∀ i y, fy i = some y → ∃ b, bs[i]? = some b ∧ Dd G y b) : WalkD J G (prs as bs) := by
  unfold WalkD
  rw [prs_len, ← hn]
  refine w.mono hp fun i H v H' hi le y => ?_
  obtain ⟨T, x, y, rfl, hT, rfl, e1, e2⟩ := y
  obtain ⟨a, h1, h2⟩ := hx i x e1
  obtain ⟨b, h3, h4⟩ := hy i y e2
  refine ⟨_, prs_get h1 h3, fun G1 s1 s2 => ⟨_, ex_new s2 hT, .tupW upd_same ?_⟩⟩
  have sn : Same G1 (upd G1 T (.tup [x, y])) := same_new (s2.free hT)
  exact .cons (dd_same (s1.trans sn) h2) (.cons (dd_same (s1.trans sn) h4) .nil)
def chD (z : Str) : List D := z.cps.toList.map fun c => .str ⟨#[c]⟩
def keyToD : Key → D
  | .inl i => .int i
  | .inr x => .str x
theorem keyTo {G : Hp} (k : Key) : Dd G (kV k) (keyToD k) := by cases k <;> constructor
theorem keysTo {G : Hp} : ∀ q : List Key, DdA G (q.map kV) (q.map keyToD)
  | [] => .nil
  | k :: ks => .cons (keyTo k) (keysTo ks)
def itD : D → Option (List D)
  | .lst l => some l
  | .tup _ l => some l
  | .str z => some (chD z)
  | .dct ks _ => some (ks.map keyToD)
  | .dcT ks _ => some (ks.map fun k => .tup true (k.map keyToD))
  | _ => none
def mIt (m : Me) : Ma := fun ρ => (m ρ).bind fun p => (itD p.1).map fun l => (l, p.2)
theorem mIt_inv {m : Me} {ρ ρ' : Rh} {ds : List D} (h : mIt m ρ = some (ds, ρ')) : ∃ d, m ρ = some (d, ρ') ∧ itD d = some ds := by
  obtain ⟨p, e1, h⟩ := bnd h
  obtain ⟨z, e2, h⟩ := mpd h
  cases h
  exact ⟨p.1, e1, e2⟩
section
variable {X : Cx} {tg : Expr}
theorem qi_seq {e : Expr} {m : Me} (he : PE X e (R m)) : PI X tg e (RI (mIt m)) := by
  refine impI (PI.or (pi_list he) (PI.or (pi_tup he) (PI.or (pi_str he) (pi_keys he)))) fun σ H Q ⟨G, ρ, ds, ρ', rp, e, k⟩ => ?_
  obtain ⟨d, e1, e2⟩ := mIt_inv e
  cases d with
  | lst l =>
    cases e2
    refine .inl ⟨G, ρ, _, ρ', rp, e1, fun G1 H1 v t hv => ?_⟩
    cases hv with
    | lst h1 h2 => exact ⟨_, rfl, ⟨_, sq_l (t.rep.le _ _ h1)⟩, k G1 H1 _ t (walk_at walk_list (fun H s => sq_l (s _ _ h1)) h2)⟩
  | tup w l =>
    cases e2
    refine .inr (.inl ⟨G, ρ, _, ρ', rp, e1, fun G1 H1 v t hv => ?_⟩)
    cases hv with
    | tupM h1 h2 => exact ⟨_, rfl, ⟨_, (h1.same t.rep.le).sq⟩, k G1 H1 _ t (walk_at walk_tup (fun H s => (h1.same s).sq) h2)⟩
    | tupW h1 h2 => exact ⟨_, rfl, ⟨_, sq_t (t.rep.le _ _ h1)⟩, k G1 H1 _ t (walk_at walk_tup (fun H s => sq_t (s _ _ h1)) h2)⟩
  | str z =>
    cases e2
    refine .inr (.inr (.inl ⟨G, ρ, _, ρ', rp, e1, fun G1 H1 v t hv => ?_⟩))
    cases hv
    refine ⟨z, rfl, k G1 H1 _ t ?_⟩
    unfold WalkD
    rw [show (chD z).length = z.cps.size by simp [chD]]
    refine walk_str.mono (fun _ _ => trivial) fun i H x H' hi le y => ?_
    obtain ⟨rfl, c, hc, rfl⟩ := y
    exact ⟨.str ⟨#[c]⟩, by simp [chD, hc], fun G1 s1 s2 => ⟨G1, Ex.refl s2, .str _⟩⟩
  | dct ks vs =>
    cases e2
    refine .inr (.inr (.inr ⟨G, ρ, _, ρ', rp, e1, fun G1 H1 v t hv => ?_⟩))
    cases hv with
    | dct h1 h2 =>
      rename_i a o kvs
      refine ⟨_, _, rfl, .inl ⟨_, t.rep.le _ _ h1, k G1 H1 _ t ?_⟩⟩
      unfold WalkD
      rw [show ((kvs.map (·.1)).map keyToD).length = kvs.length by simp]
      refine walk_keys.mono (fun H s => s _ _ h1) fun i H x H' hi le y => ?_
      obtain ⟨rfl, q, v, e, rfl⟩ := y
      exact ⟨keyToD q, by simp [e], fun G1 s1 s2 => ⟨G1, Ex.refl s2, keyTo q⟩⟩
  | dcT ks vs =>
    cases e2
    refine .inr (.inr (.inr ⟨G, ρ, _, ρ', rp, e1, fun G1 H1 v t hv => ?_⟩))
    cases hv with
    | dcT h1 h2 =>
      rename_i a o kvs
      refine ⟨_, _, rfl, .inr ⟨_, t.rep.le _ _ h1, k G1 H1 _ t ?_⟩⟩
      unfold WalkD
      rw [show ((kvs.map (·.1)).map fun k => D.tup true (k.map keyToD)).length = kvs.length by simp]
      refine walk_keysT.mono (fun H s => s _ _ h1) fun i H x H' hi le y => ?_
      obtain ⟨rfl, q, v, p, e, rfl, hp⟩ := y
      refine ⟨.tup true (q.map keyToD), by simp [e], fun G1 s1 s2 => ?_⟩
      obtain ⟨G2, ex, g2⟩ := good_tup s2 hp
      exact ⟨G2, ex, .tupW g2 (keysTo q)⟩
  | _ => cases e2
/-- range(n), range(a, b) -/
def rng (lo : Int) (n : Nat) : List D := (List.range n).map fun (i : Nat) => .int (lo + i)
def rng1 : List D → Option (List D)
  | [.int j] => if -(2 ^ 62) ≤ j ∧ j < 2 ^ 62 then some (rng 0 j.toNat) else none
  | _ => none
def rng2 : List D → Option (List D)
  | [.int i, .int j] => if -(2 ^ 62) ≤ i ∧ i < 2 ^ 62 ∧ -(2 ^ 62) ≤ j ∧ j < 2 ^ 62 then some (rng i (j - i).toNat) else none
  | _ => none
theorem walk_rng {G : Hp} {lo : Int} {n : Nat} : WalkD (Itr lo n) G (rng lo n) := by
  unfold WalkD
  rw [show (rng lo n).length = n by simp [rng]]
  refine walk_range.mono (fun _ _ => trivial) fun i H x H' hi le y => ?_
  obtain ⟨rfl, rfl⟩ := y
  exact ⟨.int (lo + i), by simp [rng, hi], fun G1 s1 s2 => ⟨G1, Ex.refl s2, .int _⟩⟩
theorem qi_range1 {a : Expr} {m : Ma} {p pos : Pos} (hg : Gl X "range") (hm : X.mg "range" = none) (ha : PA X [a] (RA m)) (hs : starEach [a] X.env = [(false, eval a X.env)] := by rfl) : PI X tg (.Call (.Name "range" p) [a] [] pos) (RI (mCall rng1 m)) := by
  refine impI (pi_range1 hg hm ha hs) fun σ H Q ⟨G, ρ, ds, ρ', rp, e, k⟩ => ?_
  obtain ⟨l, e1, e2⟩ := mCall_inv e
  refine ⟨G, ρ, l, ρ', rp, e1, fun G1 H1 vs t hv => ?_⟩
  unfold rng1 at e2
  split at e2
  · obtain ⟨hc, rfl⟩ := some_if e2
    cases hv with
    | cons h1 h2 =>
      cases h1; cases h2
      exact ⟨_, rfl, hc.1, hc.2, k G1 H1 _ t walk_rng⟩
  · cases e2
theorem qi_range2 {a b : Expr} {m : Ma} {p pos : Pos} (hg : Gl X "range") (hm : X.mg "range" = none) (ha : PA X [a, b] (RA m)) (hs : starEach [a, b] X.env = [(false, eval a X.env), (false, eval b X.env)] := by rfl) (hs2 : starEach [b] X.env = [(false, eval b X.env)] := by rfl) : PI X tg (.Call (.Name "range" p) [a, b] [] pos) (RI (mCall rng2 m)) := by
  refine impI (pi_range2 hg hm ha hs hs2) fun σ H Q ⟨G, ρ, ds, ρ', rp, e, k⟩ => ?_
  obtain ⟨l, e1, e2⟩ := mCall_inv e
  refine ⟨G, ρ, l, ρ', rp, e1, fun G1 H1 vs t hv => ?_⟩
  unfold rng2 at e2
  split at e2
  · obtain ⟨hc, rfl⟩ := some_if e2
    cases hv with
    | cons h1 h2 =>
      cases h2 with
      | cons h2 h3 =>
        cases h1; cases h2; cases h3
        exact ⟨_, _, rfl, hc, k G1 H1 _ t walk_rng⟩
  · cases e2
theorem tup_cases {G : Hp} {v : V} {w : Bool} {l : List D} (K : PySem.W.Frag) (hv : Dd G v (.tup w l)) : ∃ a xs, v = .ref a ∧ DdA G xs l ∧ ∀ H, Same G H → SqT K H a xs := by
  cases hv with
  | tupM h1 h2 => exact ⟨_, _, rfl, h2, fun H s => (h1.same s).sq⟩
  | tupW h1 h2 => exact ⟨_, _, rfl, h2, fun H s => sq_t (s _ _ h1)⟩
def seqD : D → Option (List D)
  | .lst l => some l
  | .tup _ l => some l
  | _ => none
theorem seqD_inv {d : D} {l : List D} (h : seqD d = some l) : d = .lst l ∨ ∃ w, d = .tup w l := by
  unfold seqD at h
  split at h <;> cases h
  · exact .inl rfl
  · exact .inr ⟨_, rfl⟩
def nums (n : Nat) : List D := (List.range n).map fun (i : Nat) => .int (i : Int)
def enD : List D → Option (List D)
  | [d] => (seqD d).map fun l => prs (nums l.length) l
  | _ => none
theorem qi_enum {e : Expr} {m : Ma} {p pos tpos : Pos} {elts : List Expr} {kk : Nat} (hg : Gl X "enumerate") (hm : X.mg "enumerate" = none) (ha : PA X [e] (RA m)) (hs : starEach [e] X.env = [(false, eval e X.env)] := by rfl) : PI X (.Tuple elts kk tpos) (.Call (.Name "enumerate" p) [e] [] pos) (RI (mCall enD m)) := by
  refine impI (PI.or (pi_enum hg hm ha hs) (pi_enT hg hm ha hs)) fun σ H Q ⟨G, ρ, ds, ρ', rp, e, k⟩ => ?_
  obtain ⟨l, e1, e2⟩ := mCall_inv e
  unfold enD at e2
  split at e2
  · rename_i d
    obtain ⟨l, e3, rfl⟩ := mpd e2
    have nm : ∀ (n : Nat) (G : Hp) (i : Nat) (x : V), some (V.int (i : Nat)) = some x → i < n → ∃ a, (nums n)[i]? = some a ∧ Dd G x a := fun n G i x h hi => by
      cases h
      exact ⟨.int i, by simp [nums, hi], .int _⟩
    have wk : ∀ {J : It} {G1 : Hp} {xs : List V} {P : Hp → Prop}, Walk J xs.length P (YPair (fun i => some (.int (i : Nat))) (fun i => xs[i]?)) → (∀ H, Same G1 H → P H) → DdA G1 xs l → WalkD J G1 (prs (nums l.length) l) := fun {J G1 xs P} w hp hd => by
      have hl := dda_len hd
      refine walk_pr (fx := fun i => if i < xs.length then some (.int (i : Nat)) else none) (fy := fun i => xs[i]?) (P := P) ⟨w.goes, w.stops, fun i H x H' hi g y => ?_⟩ (by simp [nums, hl]) hp (fun i x h => ?_) (fun i y h => dda_get hd h)
      · obtain ⟨T, a, b, h1, h2, h3, h4, h5⟩ := w.yields i H x H' hi g y
        exact ⟨T, a, b, h1, h2, h3, by simp [hi] at h4 ⊢; exact h4, h5⟩
      · by_cases hi : i < xs.length
        · simp only [hi, if_true] at h
          exact nm _ _ i x h (by omega)
        · simp [hi] at h
    rcases seqD_inv e3 with rfl | ⟨w, rfl⟩
    · refine .inl ⟨G, ρ, _, ρ', rp, e1, fun G1 H1 vs t hv => ?_⟩
      cases hv with
      | cons h1 h2 =>
        cases h2
        cases h1 with
        | lst h1 h2 => exact ⟨_, _, rfl, sq_l (t.rep.le _ _ h1), k G1 H1 _ t (wk walk_enum (fun H s => sq_l (s _ _ h1)) h2)⟩
    · refine .inr ⟨G, ρ, _, ρ', rp, e1, fun G1 H1 vs t hv => ?_⟩
      cases hv with
      | cons h1 h2 =>
        cases h2
        cases h1 with
        | tupM h1 h2 => exact ⟨_, _, rfl, (h1.same t.rep.le).sq, k G1 H1 _ t (wk walk_enT (fun H s => (h1.same s).sq) h2)⟩
        | tupW h1 h2 => exact ⟨_, _, rfl, sq_t (t.rep.le _ _ h1), k G1 H1 _ t (wk walk_enT (fun H s => sq_t (s _ _ h1)) h2)⟩
  · cases e2
/-- zip of two lists, of two tuples -/
def zipD : List D → Option (List D)
  | [.lst a, .lst b] => some (prs a b)
  | [.tup _ a, .tup _ b] => some (prs a b)
  | _ => none
theorem qi_zip {e e2 : Expr} {m : Ma} {p pos tpos : Pos} {elts : List Expr} {kk : Nat} (hg : Gl X "zip") (hm : X.mg "zip" = none) (ha : PA X [e, e2] (RA m))
    (hs : starEach [e, e2] X.env = (false, eval e X.env) :: starEach [e2] X.env := by rfl) (hpl : (backTo pos (starEach [e2] X.env)).any (·.1) = false := by rfl) : PI X (.Tuple elts kk tpos) (.Call (.Name "zip" p) [e, e2] [] pos) (RI (mCall zipD m)) := by
  refine impI (RZ.pi_zipA hg hm ha hs hpl) fun σ H Q ⟨G, ρ, ds, ρ', rp, e, k⟩ => ?_
  obtain ⟨l, e1, e2⟩ := mCall_inv e
  refine ⟨G, ρ, l, ρ', rp, e1, fun G1 H1 vs t hv => ?_⟩
  unfold zipD at e2
  split at e2
  · cases e2
    cases hv with
    | cons h1 h2 =>
      cases h2 with
      | cons h2 h3 =>
        cases h3
        cases h1 with
        | lst h1 h1' =>
          cases h2 with
          | lst h2 h2' => exact ⟨_, _, _, _, rfl, .inl ⟨sq_l (t.rep.le _ _ h1), sq_l (t.rep.le _ _ h2), k G1 H1 _ t (walk_pr (walk_zip rfl) (by rw [dda_len h1', dda_len h2']) (fun H s => ⟨sq_l (s _ _ h1), sq_l (s _ _ h2)⟩) (fun i x h => dda_get h1' h) (fun i y h => dda_get h2' h))⟩⟩
  · cases e2
    cases hv with
    | cons h1 h2 =>
      cases h2 with
      | cons h2 h3 =>
        cases h3
        obtain ⟨a, xs, rfl, h1', z1⟩ := tup_cases X.K h1
        obtain ⟨b, ys, rfl, h2', z2⟩ := tup_cases X.K h2
        exact ⟨_, _, _, _, rfl, .inr ⟨z1 _ t.rep.le, z2 _ t.rep.le, k G1 H1 _ t (walk_pr (walk_zpT rfl) (by rw [dda_len h1', dda_len h2']) (fun H s => ⟨z1 H s, z2 H s⟩) (fun i x h => dda_get h1' h) (fun i y h => dda_get h2' h))⟩⟩
  · cases e2
/-- reversed of a list, of a tuple -/
def mRv (m : Me) : Ma := fun ρ => (m ρ).bind fun p => (seqD p.1).map fun l => (l.reverse, p.2)
theorem walk_rvT {K : PySem.W.Frag} {a : Addr} {xs : List V} : Walk (RT.ItvT K a xs.length) xs.length (fun H => SqT K H a xs) (fun i H x H' => H' = H ∧ xs[xs.length - 1 - i]? = some x) :=
  ⟨fun i _ lt q => ⟨lt, xs, xs[xs.length - 1 - i]'(by omega), q, by simp [show xs.length - 1 - i < xs.length by omega]⟩, fun _ _ => Nat.le_refl _, fun _ _ _ _ _ q y => ⟨y.1, y.2 xs q⟩⟩
theorem walk_rv {J : It} {G : Hp} {xs : List V} {ds : List D} {P : Hp → Prop} (w : Walk J xs.length P (fun i H x H' => H' = H ∧ xs[xs.length - 1 - i]? = some x)) (hp : ∀ H, Same G H → P H) (h : DdA G xs ds) : WalkD J G ds.reverse := by
  unfold WalkD
  rw [List.length_reverse, ← dda_len h]
  refine w.mono hp fun i H x H' hi le y => ?_
  obtain ⟨rfl, e⟩ := y
  obtain ⟨d, e1, e2⟩ := dda_get h e
  exact ⟨d, by rw [List.getElem?_reverse (by rw [← dda_len h]; exact hi), ← dda_len h]; exact e1, fun G1 s1 s2 => ⟨G1, Ex.refl s2, dd_same s1 e2⟩⟩
theorem qi_rev {e : Expr} {m : Me} {p pos : Pos} (hg : Gl X "reversed") (hm : X.mg "reversed" = none) (he : PE X e (R m)) (hs : starEach [e] X.env = (false, eval e X.env) :: starEach [] X.env := by rfl) : PI X tg (.Call (.Name "reversed" p) [e] [] pos) (RI (mRv m)) := by
  refine impI (RT.pi_revA hg hm he hs) fun σ H Q ⟨G, ρ, ds, ρ', rp, e, k⟩ => ?_
  obtain ⟨q, e1, e⟩ := bnd e
  obtain ⟨l, e2, e⟩ := mpd e
  cases e
  refine ⟨G, ρ, q.1, q.2, rp, e1, fun G1 H1 v t hv => ?_⟩
  rcases seqD_inv e2 with z | ⟨w, z⟩
  · rw [z] at hv
    cases hv with
    | lst h1 h2 => exact ⟨_, _, rfl, .inl ⟨sq_l (t.rep.le _ _ h1), k G1 H1 _ t (walk_rv walk_rev (fun H s => sq_l (s _ _ h1)) h2)⟩⟩
  · rw [z] at hv
    obtain ⟨a, xs, rfl, h2, z⟩ := tup_cases X.K hv
    exact ⟨_, _, rfl, .inr ⟨z _ t.rep.le, k G1 H1 _ t (walk_rv walk_rvT z h2)⟩⟩
end
/-! targets -/
def setV (i : Nat) (d : D) (ρ : Rh) : Option Rh := match ρ[i]? with
  | some .un => some (ρ.set i (.val d))
  | some (.val _) => some (ρ.set i (.val d))
  | _ => none
def noOwn (ρ : Rh) (i : Nat) : Prop := ∀ l ds, ρ[i]? ≠ some (.own l ds)
theorem setV_inv {i : Nat} {d : D} {ρ ρ' : Rh} (h : setV i d ρ = some ρ') : ρ' = ρ.set i (.val d) ∧ i < ρ.length ∧ noOwn ρ i := by
  unfold setV at h
  split at h
  · rename_i e
    cases h
    exact ⟨rfl, (List.getElem?_eq_some_iff.mp e).1, fun l ds z => by rw [e] at z; cases z⟩
  · rename_i e
    cases h
    exact ⟨rfl, (List.getElem?_eq_some_iff.mp e).1, fun l ds z => by rw [e] at z; cases z⟩
  · cases h
def setAll : List Nat → List D → Rh → Option Rh
  | [], [], ρ => some ρ
  | i :: is, d :: ds, ρ => (setV i d ρ).bind fun ρ' => setAll is ds ρ'
  | _, _, _ => none
/-- a slot that is no list of its own is set -/
theorem Rep.set {G H : Hp} {σ : L2.St} {ρ : Rh} {i : Nat} {v : V} {d : D} (r : Rep G H σ ρ) (hv : Dd G v d) (hi : i < ρ.length) : Rep G H (σ.set i (some v)) (ρ.set i (.val d)) := by
  have hσ : i < σ.length := by rw [r.len]; exact hi
  have ne : ∀ {j : Nat} {l : Bool} {ds : List D}, (ρ.set i (.val d))[j]? = some (.own l ds) → j ≠ i ∧ ρ[j]? = some (.own l ds) := fun {j l ds} h => by
    by_cases hj : j = i
    · subst hj
      rw [List.getElem?_set_self hi] at h
      cases h
    · rw [List.getElem?_set_ne (Ne.symm hj)] at h
      exact ⟨hj, h⟩
  refine ⟨r.le, by simp [r.len], fun {j e} h => ?_, fun {j l ds} h => ?_, fun {j k l l' ds ds' a} h1 h2 h3 h4 => ?_⟩
  · by_cases hj : j = i
    · subst hj
      rw [List.getElem?_set_self hi] at h
      cases h
      exact ⟨v, List.getElem?_set_self hσ, hv⟩
    · rw [List.getElem?_set_ne (Ne.symm hj)] at h ⊢
      exact r.val h
  · obtain ⟨hj, h⟩ := ne h
    rw [List.getElem?_set_ne (Ne.symm hj)]
    exact r.own h
  · obtain ⟨hj, h1⟩ := ne h1
    obtain ⟨hk, h2⟩ := ne h2
    rw [List.getElem?_set_ne (Ne.symm hj)] at h3
    rw [List.getElem?_set_ne (Ne.symm hk)] at h4
    exact r.inj h1 h2 h3 h4
abbrev Mg := D → Rh → Option Rh
def RG (ts : List Nat) (mg : Mg) : TG := fun v σ H Q => ∃ G ρ d ρ', Rep G H σ ρ ∧ Dd G v d ∧ mg d ρ = some ρ' ∧ ∀ σ', Rep G H σ' ρ' → σ'.length = σ.length → (∀ i, i ∉ ts → σ'[i]? = σ[i]? ∧ ρ'[i]? = ρ[i]?) → (∀ i, i ∈ ts → noOwn ρ i ∧ noOwn ρ' i) → ρ'.length = ρ.length → Q σ' H
theorem impG {X : Cx} {tg : Expr} {t t' : TG} (h : PG X tg t) (hi : ∀ v σ H Q, t' v σ H Q → t v σ H Q) : PG X tg t' := ⟨fun pins s σ H v u Q I r q => h.run pins s σ H v u Q I r (hi v σ H Q q)⟩
theorem PG.or {X : Cx} {tg : Expr} {t t' : TG} (h : PG X tg t) (h' : PG X tg t') : PG X tg (fun v σ H Q => t v σ H Q ∨ t' v σ H Q) := by
  refine ⟨fun pins s σ H v u Q I r q => ?_⟩
  rcases q with q | q
  · exact h.run pins s σ H v u Q I r q
  · exact h'.run pins s σ H v u Q I r q
section
variable {X : Cx}
theorem qg_name {i : Nat} {x : Str} {pos : Pos} (h : PG X (.Name x pos) (gName i)) : PG X (.Name x pos) (RG [i] (setV i)) := by
  refine impG h fun v σ H Q ⟨G, ρ, d, ρ', r, hv, e, k⟩ => ?_
  obtain ⟨rfl, hi, hn⟩ := setV_inv e
  refine k _ (r.set hv hi) (by simp) (fun j hj => ?_) (fun j hj => ?_) (by simp)
  · have hj' : i ≠ j := fun z => hj (by simp [z])
    exact ⟨List.getElem?_set_ne hj', List.getElem?_set_ne hj'⟩
  · have e : j = i := by simpa using hj
    subst e
    exact ⟨hn, fun l ds z => by rw [List.getElem?_set_self hi] at z; cases z⟩
/-- a pair's two names -/
def tg2 (i j : Nat) : Mg := fun d ρ => (seqD d).bind fun l => setAll [i, j] l ρ
theorem two_of {i j : Nat} {G H : Hp} {σ : L2.St} {ρ ρ' : Rh} {Q : L2.St → Hp → Prop} {l : List D} {xs : List V} (r : Rep G H σ ρ) (hx : DdA G xs l) (e : setAll [i, j] l ρ = some ρ')
    (k : ∀ σ', Rep G H σ' ρ' → σ'.length = σ.length → (∀ a, a ∉ [i, j] → σ'[a]? = σ[a]? ∧ ρ'[a]? = ρ[a]?) → (∀ a, a ∈ [i, j] → noOwn ρ a ∧ noOwn ρ' a) → ρ'.length = ρ.length → Q σ' H) : xs.length = 2 ∧ gCons (gName i) (gCons (gName j) gNil) xs σ H Q := by
  cases hx with
  | nil => cases e
  | cons h1 hx =>
    obtain ⟨ρ1, e1, e⟩ := bnd e
    cases hx with
    | nil => cases e
    | cons h2 hx =>
      obtain ⟨ρ2, e2, e⟩ := bnd e
      cases hx with
      | cons _ _ => cases e
      | nil =>
        cases e
        obtain ⟨rfl, hi, hn⟩ := setV_inv e1
        obtain ⟨rfl, hj, hm⟩ := setV_inv e2
        refine ⟨rfl, _, _, rfl, _, _, rfl, rfl, k _ ((r.set h1 hi).set h2 hj) (by simp) (fun a ha => ?_) (fun a ha => ?_) (by simp)⟩
        · have a1 : i ≠ a := fun z => ha (by simp [z])
          have a2 : j ≠ a := fun z => ha (by simp [z])
          rw [List.getElem?_set_ne a2, List.getElem?_set_ne a1, List.getElem?_set_ne a2, List.getElem?_set_ne a1]
          exact ⟨rfl, rfl⟩
        · have no : ∀ (ρ : Rh) (b : Nat) (d : D), noOwn ρ a → noOwn (ρ.set b (.val d)) a := fun ρ b d h l ds z => by
            by_cases hb : b = a
            · subst hb
              by_cases hl : b < ρ.length
              · rw [List.getElem?_set_self hl] at z; cases z
              · rw [List.getElem?_set, if_pos rfl, if_neg hl] at z; cases z
            · rw [List.getElem?_set_ne hb] at z; exact h l ds z
          have na : noOwn ρ a := by
            rcases (show a = i ∨ a = j by simpa using ha) with rfl | rfl
            · exact hn
            · by_cases hij : i = a
              · subst hij; exact hn
              · intro l ds z
                exact hm l ds (by rw [List.getElem?_set_ne hij]; exact z)
          exact ⟨na, no _ _ _ (no _ _ _ na)⟩
theorem qg_pair {i j : Nat} {es : List Expr} {kk : Nat} {pos : Pos} (h : PG X (.Tuple es kk pos) (gTup X.K 2 (gCons (gName i) (gCons (gName j) gNil)))) (h' : PG X (.Tuple es kk pos) (gUnl X.K 2 (gCons (gName i) (gCons (gName j) gNil)))) : PG X (.Tuple es kk pos) (RG [i, j] (tg2 i j)) := by
  refine impG (PG.or h h') fun v σ H Q ⟨G, ρ, d, ρ', r, hv, e, k⟩ => ?_
  obtain ⟨l, e1, e⟩ := bnd e
  rcases seqD_inv e1 with rfl | ⟨w, rfl⟩
  · cases hv with
    | lst h1 h2 =>
      obtain ⟨z1, z2⟩ := two_of r h2 e k
      exact .inr ⟨_, _, rfl, sq_l (r.le _ _ h1), z1, z2⟩
  · obtain ⟨a, xs, rfl, h2, z⟩ := tup_cases X.K hv
    obtain ⟨z1, z2⟩ := two_of r h2 e k
    exact .inl ⟨a, xs, rfl, z H r.le, z1, z2⟩
end
end Pl
namespace Pl
open PySem PySem.Spec PyProof.Rows L2 Kn
variable [Tbs]
/-! comprehensions -/
def wipeR (ρ : Rh) : List Nat → Rh
  | [] => ρ
  | v :: vs => (wipeR ρ vs).set v .un
theorem wipeR_len (ρ : Rh) : ∀ vs : List Nat, (wipeR ρ vs).length = ρ.length
  | [] => rfl
  | v :: vs => by rw [wipeR, List.length_set, wipeR_len ρ vs]
theorem wipeR_out {ρ : Rh} {i : Nat} : ∀ {vs : List Nat}, i ∉ vs → (wipeR ρ vs)[i]? = ρ[i]?
  | [], _ => rfl
  | v :: vs, h => by
    rw [wipeR, List.getElem?_set_ne (fun e => h (by simp [e])), wipeR_out (fun z => h (by simp [z]))]
theorem wipeR_in {ρ : Rh} {i : Nat} : ∀ {vs : List Nat}, i ∈ vs → i < ρ.length → (wipeR ρ vs)[i]? = some .un
  | [], h, _ => nomatch h
  | v :: vs, h, hl => by
    rw [wipeR]
    by_cases e : v = i
    · subst e
      exact List.getElem?_set_self (by rw [wipeR_len]; exact hl)
    · rw [List.getElem?_set_ne e]
      exact wipeR_in ((List.mem_cons.mp h).resolve_left (Ne.symm e)) hl
theorem wipeR_no {ρ : Rh} {i : Nat} {vs : List Nat} (h : i ∈ vs) : noOwn (wipeR ρ vs) i := fun l ds z => by
  by_cases hl : i < ρ.length
  · rw [wipeR_in h hl] at z; cases z
  · rw [List.getElem?_eq_none (by rw [wipeR_len]; omega)] at z; cases z
theorem wipeR_own {ρ : Rh} {i : Nat} {vs : List Nat} {l : Bool} {ds : List D} (h : (wipeR ρ vs)[i]? = some (.own l ds)) : i ∉ vs ∧ ρ[i]? = some (.own l ds) := by
  by_cases hi : i ∈ vs
  · exact (wipeR_no hi l ds h).elim
  · exact ⟨hi, by rw [← wipeR_out hi]; exact h⟩
def unwipe (ρ ρw : Rh) : List Nat → Rh
  | [] => ρw
  | v :: vs => match ρ[v]? with
    | some s => (unwipe ρ ρw vs).set v s
    | none => unwipe ρ ρw vs
theorem unwipe_len (ρ ρw : Rh) : ∀ vs : List Nat, (unwipe ρ ρw vs).length = ρw.length
  | [] => rfl
  | v :: vs => by
    rw [unwipe]
    split
    · rw [List.length_set, unwipe_len ρ ρw vs]
    · exact unwipe_len ρ ρw vs
theorem unwipe_out {ρ ρw : Rh} {i : Nat} : ∀ {vs : List Nat}, i ∉ vs → (unwipe ρ ρw vs)[i]? = ρw[i]?
  | [], _ => rfl
  | v :: vs, h => by
    have ih := unwipe_out (ρ := ρ) (ρw := ρw) (i := i) (vs := vs) fun z => h (by simp [z])
    rw [unwipe]
    split
    · rw [List.getElem?_set_ne (fun e => h (by simp [e])), ih]
    · exact ih
theorem unwipe_in {ρ ρw : Rh} {i : Nat} (hl : ρ.length = ρw.length) : ∀ {vs : List Nat}, i ∈ vs → (unwipe ρ ρw vs)[i]? = ρ[i]?
  | [], h => nomatch h
  | v :: vs, h => by
    rw [unwipe]
    by_cases e : v = i
    · subst e
      split
      · rename_i s hs
        rw [hs]
        exact List.getElem?_set_self (by rw [unwipe_len, ← hl]; exact (List.getElem?_eq_some_iff.mp hs).1)
      · rename_i hs
        rw [hs]
        exact List.getElem?_eq_none (by rw [unwipe_len, ← hl]; exact List.getElem?_eq_none_iff.mp hs)
    · have ih := unwipe_in (ρ := ρ) (ρw := ρw) (i := i) hl ((List.mem_cons.mp h).resolve_left (Ne.symm e))
      split
      · rw [List.getElem?_set_ne e, ih]
      · exact ih
theorem wipe_in {σ : L2.St} {i : Nat} : ∀ {vs : List Nat}, i ∈ vs → i < σ.length → (wipe σ vs)[i]? = some none
  | [], h, _ => nomatch h
  | v :: vs, h, hl => by
    unfold wipe
    by_cases e : v = i
    · subst e
      exact List.getElem?_set_self (by rw [wipe_length]; exact hl)
    · rw [List.getElem?_set_ne e]
      exact wipe_in ((List.mem_cons.mp h).resolve_left (Ne.symm e)) hl
theorem wipe_eq {σ σ' : L2.St} {vs : List Nat} (hl : σ'.length = σ.length) (h : ∀ i, i ∉ vs → σ'[i]? = σ[i]?) : wipe σ' vs = wipe σ vs := by
  refine List.ext_getElem? fun i => ?_
  by_cases hi : i ∈ vs
  · by_cases hlt : i < σ.length
    · rw [wipe_in hi hlt, wipe_in hi (by omega)]
    · rw [List.getElem?_eq_none (by rw [wipe_length]; omega), List.getElem?_eq_none (by rw [wipe_length]; omega)]
  · rw [wipe_out hi, wipe_out hi, h i hi]
theorem Rep.wipe {G H : Hp} {σ : L2.St} {ρ : Rh} (r : Rep G H σ ρ) (vs : List Nat) : Rep G H (wipe σ vs) (wipeR ρ vs) := by
  refine ⟨r.le, by rw [wipe_length, wipeR_len]; exact r.len, fun {i d} h => ?_, fun {i l ds} h => ?_, fun {i j l l' ds ds' a} h1 h2 h3 h4 => ?_⟩
  · have hi : i ∉ vs := fun z => by
      rw [wipeR_in z (by have := (List.getElem?_eq_some_iff.mp h).1; rw [wipeR_len] at this; exact this)] at h
      cases h
    rw [wipeR_out hi] at h
    rw [wipe_out hi]
    exact r.val h
  · obtain ⟨hi, h⟩ := wipeR_own h
    rw [wipe_out hi]
    exact r.own h
  · obtain ⟨hi, h1⟩ := wipeR_own h1
    obtain ⟨hj, h2⟩ := wipeR_own h2
    rw [wipe_out hi] at h3
    rw [wipe_out hj] at h4
    exact r.inj h1 h2 h3 h4
theorem Rep.poke {G H : Hp} {σ : L2.St} {ρ : Rh} {p : Addr} {o : HO} (r : Rep G H σ ρ) (hg : G p = none) (hf : ¬ Fp σ ρ p) (hp : ∀ u, H p = some u → Chg u) : Rep G (upd H p o) σ ρ := by
  refine ⟨r.le.put hg hp, r.len, r.val, fun {i l ds} h => ?_, r.inj⟩
  · obtain ⟨a, xs, h1, h2, h3, h4⟩ := r.own h
    refine ⟨a, xs, h1, ?_, h3, h4⟩
    rw [upd_ne (fun e => hf ⟨i, l, ds, h, by rw [← e]; exact h1⟩)]
    exact h2
theorem fp_some {G H : Hp} {σ : L2.St} {ρ : Rh} (r : Rep G H σ ρ) {a : Addr} (h : Fp σ ρ a) : ∃ xs, H a = some (.lst xs) := by
  obtain ⟨i, l, ds, h1, h2⟩ := h
  obtain ⟨b, xs, h3, h4, _⟩ := r.own h1
  rw [h2] at h3
  cases h3
  exact ⟨xs, h4⟩
theorem Tr.poke {G0 H0 G H : Hp} {σ : L2.St} {ρ ρ' : Rh} {p : Addr} {o : HO} (r0 : Rep G0 H0 σ ρ) (t : Tr G0 H0 σ ρ G H ρ') (hn : H0 p = none) (hg : G p = none) (hp : ∀ u, H p = some u → Chg u) : Tr G0 H0 σ ρ G (upd H p o) ρ' := by
  have hf : ¬ Fp σ ρ' p := fun z => by
    obtain ⟨xs, e⟩ := fp_some r0 (t.kp.fp z)
    rw [hn] at e
    cases e
  have rp := t.rep.poke (o := o) hg hf hp
  exact ⟨⟨t.go.gg, rp.le, fun a u e n w => by rw [upd_ne (ne_of_none e hn)]; exact t.go.off a u e n w, fun a o h g n w => t.go.new a o h g n w, fun a h => t.go.dom a (by
    by_cases ha : a = p
    · subst ha; rw [upd_same] at h; cases h
    · rw [upd_ne ha] at h; exact h)⟩, rp, t.kp⟩
def lcL (tg : Mg) (tt : Mt) (te : Me) (vs : List Nat) : List D → Rh → Option (List D × Rh)
  | [], ρ => some ([], ρ)
  | d :: ds, ρ => (tg d ρ).bind fun ρ1 => (tt ρ1).bind fun p => if p.1 = true then (te p.2).bind fun q => (lcL tg tt te vs ds (wipeR q.2 vs)).map fun r => (q.1 :: r.1, r.2) else lcL tg tt te vs ds (wipeR p.2 vs)
def isOwn : Option Sl → Bool
  | some (.own _ _) => true
  | _ => false
def mLc (src : Ma) (tg : Mg) (tt : Mt) (te : Me) (vs : List Nat) : Ma := fun ρ => (src ρ).bind fun p => if (vs.all fun i => !isOwn p.2[i]?) = true ∧ p.1.length ≤ 100000 then (lcL tg tt te vs p.1 (wipeR p.2 vs)).map fun r => (r.1, unwipe p.2 r.2 vs) else none
/-- from the wiped slots back -/
theorem Tr.unwipe {G H G1 H1 : Hp} {σ : L2.St} {ρ ρ' : Rh} {vs : List Nat} (r : Rep G H σ ρ) (hv : ∀ i ∈ vs, noOwn ρ i) (t : Tr G H (wipe σ vs) (wipeR ρ vs) G1 H1 ρ') : Tr G H σ ρ G1 H1 (Pl.unwipe ρ ρ' vs) := by
  have hl : ρ.length = ρ'.length := by rw [← t.kp.1, wipeR_len]
  have ow : ∀ {i : Nat} {l : Bool} {ds : List D}, (Pl.unwipe ρ ρ' vs)[i]? = some (.own l ds) → i ∉ vs ∧ ρ'[i]? = some (.own l ds) := fun {i l ds} h => by
    by_cases hi : i ∈ vs
    · rw [unwipe_in hl hi] at h
      exact (hv i hi l ds h).elim
    · rw [unwipe_out hi] at h
      exact ⟨hi, h⟩
  have fpw : ∀ a, Fp (L2.wipe σ vs) (wipeR ρ vs) a → Fp σ ρ a := fun a ⟨i, l, ds, h1, h2⟩ => by
    obtain ⟨hi, h1⟩ := wipeR_own h1
    rw [wipe_out hi] at h2
    exact ⟨i, l, ds, h1, h2⟩
  refine ⟨⟨t.go.gg, t.go.le, fun a o h n w => t.go.off a o h (fun z => n (fpw a z)) w, fun a o h g n w => t.go.new a o h g fun z => n (fpw a z), t.go.dom⟩, ⟨t.rep.le, by rw [unwipe_len, ← hl]; exact r.len, fun {i d} h => ?_, fun {i l ds} h => ?_, fun {i j l l' ds ds' a} h1 h2 h3 h4 => ?_⟩, by rw [unwipe_len]; exact hl, fun i => ?_⟩
  · by_cases hi : i ∈ vs
    · rw [unwipe_in hl hi] at h
      obtain ⟨v, h1, h2⟩ := r.val h
      exact ⟨v, h1, dd_same t.go.gg h2⟩
    · rw [unwipe_out hi] at h
      obtain ⟨v, h1, h2⟩ := t.rep.val h
      rw [wipe_out hi] at h1
      exact ⟨v, h1, h2⟩
  · obtain ⟨hi, h⟩ := ow h
    obtain ⟨a, xs, h1, h2⟩ := t.rep.own h
    rw [wipe_out hi] at h1
    exact ⟨a, xs, h1, h2⟩
  · obtain ⟨hi, h1⟩ := ow h1
    obtain ⟨hj, h2⟩ := ow h2
    exact t.rep.inj h1 h2 (by rw [wipe_out hi]; exact h3) (by rw [wipe_out hj]; exact h4)
  · by_cases hi : i ∈ vs
    · exact .inl (unwipe_in hl hi)
    · rw [unwipe_out hi]
      have := t.kp.2 i
      rw [wipeR_out hi] at this
      exact this
/-- one turn: a target is set, what is done then leaves the slots' kinds -/
theorem Tr.turn {G H G1 H1 G2 H2 : Hp} {σ0 σ2 : L2.St} {ρ ρt ρ3 : Rh} {ts vs : List Nat} (hts : ∀ i ∈ ts, i ∈ vs) (r : Rep G H (wipe σ0 vs) ρ) (hun : ∀ i ∈ vs, ∀ s, ρ[i]? = some s → s = .un) (ex : Ex G H G1 H1) (hl : σ2.length = σ0.length) (hlr : ρt.length = ρ.length)
    (hσ : ∀ i, i ∉ ts → σ2[i]? = (wipe σ0 vs)[i]? ∧ ρt[i]? = ρ[i]?) (hno : ∀ i, i ∈ ts → noOwn ρ i ∧ noOwn ρt i) (t : Tr G1 H1 σ2 ρt G2 H2 ρ3) : Tr G H (wipe σ0 vs) ρ G2 H2 (wipeR ρ3 vs) ∧ ∀ i ∈ vs, ∀ s, (wipeR ρ3 vs)[i]? = some s → s = .un := by
  have we : L2.wipe σ2 vs = L2.wipe σ0 vs := wipe_eq hl fun i hi => by
    rw [(hσ i fun z => hi (hts i z)).1, wipe_out hi]
  have fpt : ∀ a, Fp σ2 ρt a → Fp (L2.wipe σ0 vs) ρ a := fun a ⟨i, l, ds, h1, h2⟩ => by
    have hi : i ∉ ts := fun z => (hno i z).2 l ds h1
    rw [(hσ i hi).2] at h1
    rw [(hσ i hi).1] at h2
    exact ⟨i, l, ds, h1, h2⟩
  have l3 : ρ3.length = ρ.length := by rw [← t.kp.1, hlr]
  refine ⟨⟨?_, ?_, ?_, fun i => ?_⟩, fun i hi s h => ?_⟩
  · have g1 : Go G H G1 H1 (Fp (L2.wipe σ0 vs) ρ) := ⟨ex.gg, ex.le, fun a o h _ w => ex.off a o h id w, fun a o h g _ w => ex.new a o h g id, ex.dom⟩
    exact g1.trans t.go fun a o _ z => fpt a z
  · rw [← we]
    exact t.rep.wipe vs
  · rw [wipeR_len, l3]
  · by_cases hi : i ∈ vs
    · left
      by_cases hlt : i < ρ3.length
      · rw [wipeR_in hi hlt]
        have : ∃ s, ρ[i]? = some s := ⟨ρ[i]'(by omega), List.getElem?_eq_getElem (by omega)⟩
        obtain ⟨s, hs⟩ := this
        rw [hs, hun i hi s hs]
      · rw [List.getElem?_eq_none (by rw [wipeR_len]; omega), List.getElem?_eq_none (by omega)]
    · rw [wipeR_out hi]
      have := t.kp.2 i
      rw [(hσ i fun z => hi (hts i z)).2] at this
      exact this
  · by_cases hlt : i < ρ3.length
    · rw [wipeR_in hi hlt] at h
      cases h
      rfl
    · rw [List.getElem?_eq_none (by rw [wipeR_len]; omega)] at h
      cases h
def mYes : Mt := fun ρ => some (true, ρ)
section
variable {X : Cx}
theorem impTs {e : List Expr} {t t' : TT} (h : PTs X e t) (hi : ∀ σ H Q, t' σ H Q → t σ H Q) : PTs X e t' := ⟨fun pins s σ H Q I q => h.run pins s σ H Q I (hi σ H Q q)⟩
theorem qts_nil : PTs X [] (RT mYes) := impTs pts_nil fun σ H Q ⟨G, ρ, d, ρ', r, e, k⟩ => by
  cases e
  exact k G H (Tr.refl r)
theorem qts_one {c : Expr} {m : Mt} (h : PT X c (RT m)) : PTs X [c] (RT m) := pts_one h
theorem drop_get {α : Type} {l : List α} {i : Nat} {d : α} (h : l[i]? = some d) : l.drop i = d :: l.drop (i + 1) := by
  obtain ⟨hi, e⟩ := List.getElem?_eq_some_iff.mp h
  rw [List.drop_eq_getElem_cons hi, e]
theorem lc_of {src : Ma} {ts : List Nat} {tg : Mg} {tt : Mt} {te : Me} {vs : List Nat} (hts : ∀ i ∈ ts, i ∈ vs) (σ : L2.St) (H : Hp) (Q : VK) (h : RF (mLc src tg tt te vs) σ H Q) : tLc (RI src) (RG ts tg) (RT tt) (R te) vs σ H Q := by
  obtain ⟨G, ρ, ds, ρ', rp, e, k⟩ := h
  obtain ⟨p, e1, e⟩ := bnd e
  split at e
  · rename_i hc
    obtain ⟨hv, hlen⟩ := hc
    obtain ⟨w, e2, e⟩ := mpd e
    cases e
    refine ⟨G, ρ, p.1, p.2, rp, e1, fun G1 H1 J t1 wk => ?_⟩
    intro Dl hD
    have no : ∀ i ∈ vs, noOwn p.2 i := fun i hi l es z => by
      have := List.all_eq_true.mp hv i hi
      rw [z] at this
      cases this
    have r1w := t1.rep.wipe vs
    refine lc_it wk (fun i H2 => ∃ Gi ρi xs acc rest, Tr G1 H1 (wipe σ vs) (wipeR p.2 vs) Gi H2 ρi ∧ (∀ j ∈ vs, ∀ s, ρi[j]? = some s → s = .un) ∧ H2 Dl = some (.lst xs) ∧ Gi Dl = none ∧ DdA Gi xs acc ∧ xs.length ≤ i ∧
      lcL tg tt te vs (p.1.drop i) ρi = some (rest, w.2) ∧ acc ++ rest = w.1) ?_ (fun i H2 _ ⟨Gi, ρi, _, _, _, t, _⟩ => t.go.gg.trans t.go.le) (fun i x H2 H3 hi ⟨Gi, ρi, xs, acc, rest, t, hun, hd, hg, hx, hxl, el, ea⟩ y => ?_) (fun H2 ⟨Gi, ρi, xs, acc, rest, t, hun, hd, hg, hx, hxl, el, ea⟩ => ?_)
    · refine ⟨G1, _, [], [], w.1, Tr.poke r1w (Tr.refl r1w) hD (t1.rep.le.free hD) (fun u z => by rw [hD] at z; cases z), fun j hj s hs => ?_, upd_same, t1.rep.le.free hD, .nil, Nat.zero_le _, by rw [List.drop_zero]; exact e2, rfl⟩
      rw [wipeR_in hj (by have := (List.getElem?_eq_some_iff.mp hs).1; rw [wipeR_len] at this; exact this)] at hs
      cases hs
      rfl
    · obtain ⟨d, hd1, hy⟩ := y
      obtain ⟨G2, ex, hxd⟩ := hy Gi t.go.gg t.go.le
      rw [drop_get hd1] at el
      obtain ⟨ρt, eg, el⟩ := bnd el
      obtain ⟨q, et, el⟩ := bnd el
      refine ⟨G2, ρi, d, ρt, t.rep.ext ex, hxd, eg, fun σ2 r2 sl hσ hno hlr => ⟨wipe_eq (by rw [sl, wipe_length]) fun i hi => by rw [(hσ i fun z => hi (hts i z)).1, wipe_out hi], ?_⟩⟩
      have slen : σ2.length = σ.length := by rw [sl, wipe_length]
      have hDf : ∀ {G' H' : Hp} {ρ'' : Rh}, Tr G1 H1 (wipe σ vs) (wipeR p.2 vs) G' H' ρ'' → ¬ Fp (wipe σ vs) ρ'' Dl := fun t' z => by
        obtain ⟨zs, z⟩ := fp_some r1w (t'.kp.fp z)
        rw [hD] at z
        cases z
      refine ⟨G2, ρt, q.1, q.2, r2, et, fun G3 H4 t3 => ?_⟩
      have tA := Tr.turn hts t.rep hun ex slen hlr hσ hno t3
      cases hq : q.1 with
      | false =>
        rw [hq] at el
        rw [if_neg Bool.false_ne_true] at el
        refine iteF ⟨G3, wipeR q.2 vs, xs, acc, rest, t.trans tA.1, tA.2, tA.1.go.off _ _ hd (hDf t), tA.1.go.new _ _ hd hg (hDf t), dda_same tA.1.go.gg hx, by omega, el, ea⟩
      | true =>
        rw [hq, if_pos rfl] at el
        obtain ⟨u, eu, el⟩ := bnd el
        obtain ⟨z, ez, el⟩ := mpd el
        obtain ⟨el1, el2⟩ := Prod.mk.inj el
        subst el1
        refine iteT ⟨G3, q.2, u.1, u.2, t3.rep, eu, fun G4 H5 y t4 hy => ?_⟩
        have tB := Tr.turn hts t.rep hun ex slen hlr hσ hno (t3.trans t4)
        have hd5 := tB.1.go.off _ _ hd (hDf t)
        have hg5 := tB.1.go.new _ _ hd hg (hDf t)
        refine ⟨xs, hd5, ?_, G4, wipeR u.2 vs, xs ++ [y], acc ++ [u.1], z.1, Tr.poke r1w (t.trans tB.1) hD hg5 (fun u z => by rw [hd5] at z; cases z; exact .inl ⟨_, rfl⟩), tB.2, upd_same, hg5, dda_app (dda_same tB.1.go.gg hx) (.cons hy .nil), by simp; omega, by rw [← el2]; exact ez, by rw [List.append_assoc]; exact ea⟩
        exact Nat.lt_of_le_of_lt hxl (Nat.lt_of_lt_of_le (Nat.lt_of_lt_of_le hi hlen) (by decide))
    · rw [List.drop_length] at el
      cases el
      rw [List.append_nil] at ea
      subst ea
      exact k Gi H2 Dl xs (t1.trans (Tr.unwipe t1.rep no t)) (t1.back rp hD) hd hg hx
  · cases e
theorem qf_lc {elt tg iter : Expr} {ifs : List Expr} {scope : Scope} {own : List (Str × Nat)} {pos : Pos} {src : Ma} {ts : List Nat} {g : Mg} {tt : Mt} {te : Me} (hc : X.calm = true) (hN : X.N.Nodup) (hi : PI X tg iter (RI src)) (ok : BlkOk X.N X.env.scope scope own)
    (hg : ∀ (s : Shared) (H : Hp) (C : Addr) (cl : List (Str × Addr)) (fp : List Addr), PG (X.blk s H scope (compEnvC scope cl C X.env) fp) tg (RG ts g)) (ht : ∀ (s : Shared) (H : Hp) (C : Addr) (cl : List (Str × Addr)) (fp : List Addr), PTs (X.blk s H scope (compEnvC scope cl C X.env) fp) ifs (RT tt))
    (he : ∀ (s : Shared) (H : Hp) (C : Addr) (cl : List (Str × Addr)) (fp : List Addr), PE (X.blk s H scope (compEnvC scope cl C X.env) fp) elt (R te)) (hts : ∀ i ∈ ts, i ∈ own.map (·.2) := by decide) (hs : ∀ x, foldedSetIterable iter X.env x = pure x := by intro _; rfl) :
    PE X (.ListComp elt [⟨tg, iter, ifs, 0⟩] scope pos) (RF (mLc src g tt te (own.map (·.2)))) := imp (pe_lc hc hN hi ok hg ht he hs) (lc_of hts)
end
end Pl
namespace Pl
open PySem PySem.Spec PyProof.Rows L2 Kn
variable [Tbs]
/-! statements -/
inductive Out where
  | nx (ρ : Rh)
  | rt (d : D) (ρ : Rh)
  /-- a list that nobody else has -/
  | rf (ds : List D) (ρ : Rh)
abbrev Ms := Rh → Option Out
structure TrS (G H : Hp) (σ : L2.St) (ρ : Rh) (G' H' : Hp) (σ' : L2.St) (ρ' : Rh) : Prop where
  go : Go G H G' H' (Fp σ ρ)
  rep : Rep G' H' σ' ρ'
  fp : ∀ a, Fp σ' ρ' a → Fp σ ρ a ∨ H a = none
  len : ρ'.length = ρ.length
  lent : ∀ {i : Nat} {ds : List D}, ρ[i]? = some (.own true ds) → σ'[i]? = σ[i]? ∧ ∃ ds', ρ'[i]? = some (.own true ds')
section
variable {G H G1 H1 G2 H2 : Hp} {σ σ1 σ2 : L2.St} {ρ ρ1 ρ2 : Rh}
theorem TrS.trans (a : TrS G H σ ρ G1 H1 σ1 ρ1) (b : TrS G1 H1 σ1 ρ1 G2 H2 σ2 ρ2) : TrS G H σ ρ G2 H2 σ2 ρ2 := by
  refine ⟨a.go.trans b.go fun x o h z => ?_, b.rep, fun x z => ?_, b.len.trans a.len, fun {i ds} h => ?_⟩
  · rcases a.fp x z with z | z
    · exact z
    · rw [h] at z; cases z
  · rcases b.fp x z with z | z
    · exact a.fp x z
    · cases e : H x with
      | none => exact .inr rfl
      | some o =>
        by_cases f : Fp σ ρ x
        · exact .inl f
        · obtain ⟨o', e'⟩ := a.go.there e
          rw [e'] at z
          cases z
  · obtain ⟨h1, ds', h2⟩ := a.lent h
    obtain ⟨h3, h4⟩ := b.lent h2
    exact ⟨h3.trans h1, h4⟩
theorem Tr.s (t : Tr G H σ ρ G1 H1 ρ1) : TrS G H σ ρ G1 H1 σ ρ1 :=
  ⟨t.go, t.rep, fun a z => .inl (t.kp.fp z), t.kp.1.symm, fun {i ds} h => ⟨rfl, t.kp.to h⟩⟩
theorem TrS.refl (r : Rep G H σ ρ) : TrS G H σ ρ G H σ ρ := (Tr.refl r).s
end
/-- it was not there, or it's a slot's own, not lent -/
def Nw (H : Hp) (σ : L2.St) (ρ : Rh) (a : Addr) : Prop := H a = none ∨ ∃ (i : Nat) (ds : List D), ρ[i]? = some (.own false ds) ∧ σ[i]? = some (some (.ref a))
theorem Nw.trans {G H G1 H1 : Hp} {σ σ1 : L2.St} {ρ ρ1 : Rh} {a : Addr} (t : TrS G H σ ρ G1 H1 σ1 ρ1) (n : Nw H1 σ1 ρ1 a) : Nw H σ ρ a := by
  rcases n with n | ⟨i, ds, h1, h2⟩
  · exact .inl (t.go.dom a n)
  · rcases t.fp a ⟨i, false, ds, h1, h2⟩ with ⟨j, l, es, h3, h4⟩ | z
    · cases l with
      | false => exact .inr ⟨j, es, h3, h4⟩
      | true =>
        obtain ⟨h5, es', h6⟩ := t.lent h3
        have e := t.rep.inj h1 h6 h2 (h5.trans h4)
        subst e
        rw [h1] at h6
        cases h6
    · exact .inl z
def Fin (D : Ends) (G H : Hp) (σ : L2.St) (ρ : Rh) : Out → Prop
  | .nx ρ' => ∀ G' H' σ', TrS G H σ ρ G' H' σ' ρ' → D.nx σ' H'
  | .rt d ρ' => ∀ G' H' σ' v, TrS G H σ ρ G' H' σ' ρ' → Dd G' v d → D.rt v H'
  | .rf ds ρ' => ∀ G' H' σ' a xs, TrS G H σ ρ G' H' σ' ρ' → Nw H σ ρ a → H' a = some (.lst xs) → G' a = none → DdA G' xs ds → D.rt (.ref a) H'
def RS (m : Ms) : TS := fun D σ H => ∃ G ρ o, Rep G H σ ρ ∧ m ρ = some o ∧ Fin D G H σ ρ o
theorem Fin.trans {D : Ends} {G H G1 H1 : Hp} {σ σ1 : L2.St} {ρ ρ1 : Rh} {o : Out} (t : TrS G H σ ρ G1 H1 σ1 ρ1) (f : Fin D G H σ ρ o) : Fin D G1 H1 σ1 ρ1 o := by
  cases o with
  | nx ρ' => exact fun G' H' σ' u => f G' H' σ' (t.trans u)
  | rt d ρ' => exact fun G' H' σ' v u hv => f G' H' σ' v (t.trans u) hv
  | rf ds ρ' => exact fun G' H' σ' a xs u n => f G' H' σ' a xs (t.trans u) (n.trans t)
def isLent : Option Sl → Bool
  | some (.own true _) => true
  | _ => false
/-- a slot is given another thing -/
theorem TrS.set {G H : Hp} {σ : L2.St} {ρ : Rh} {i : Nat} {v : V} {d : D} (r : Rep G H σ ρ) (hi : i < ρ.length) (hl : isLent ρ[i]? = false) (hv : Dd G v d) : TrS G H σ ρ G H (σ.set i (some v)) (ρ.set i (.val d)) := by
  refine ⟨Go.refl r.le, r.set hv hi, fun a ⟨j, l, ds, h1, h2⟩ => ?_, by simp, fun {j ds} h => ?_⟩
  · by_cases hj : j = i
    · subst hj
      rw [List.getElem?_set_self hi] at h1
      cases h1
    · rw [List.getElem?_set_ne (Ne.symm hj)] at h1 h2
      exact .inl ⟨j, l, ds, h1, h2⟩
  · have hj : j ≠ i := fun e => by
      subst e
      rw [h] at hl
      cases hl
    rw [List.getElem?_set_ne (Ne.symm hj), List.getElem?_set_ne (Ne.symm hj)]
    exact ⟨rfl, ds, h⟩
theorem Rep.setO {G H : Hp} {σ : L2.St} {ρ : Rh} {i : Nat} {a : Addr} {xs : List V} {ds : List D} (r : Rep G H σ ρ) (hi : i < ρ.length) (ha : H a = some (.lst xs)) (hg : G a = none) (hx : DdA G xs ds) (hf : ¬ Fp σ ρ a) : Rep G H (σ.set i (some (.ref a))) (ρ.set i (.own false ds)) := by
  have hσ : i < σ.length := by rw [r.len]; exact hi
  refine ⟨r.le, by simp [r.len], fun {j e} h => ?_, fun {j l es} h => ?_, fun {j k l l' es es' b} h1 h2 h3 h4 => ?_⟩
  · by_cases hj : j = i
    · subst hj
      rw [List.getElem?_set_self hi] at h
      cases h
    · rw [List.getElem?_set_ne (Ne.symm hj)] at h ⊢
      exact r.val h
  · by_cases hj : j = i
    · subst hj
      rw [List.getElem?_set_self hi] at h
      cases h
      exact ⟨a, xs, List.getElem?_set_self hσ, ha, hg, hx⟩
    · rw [List.getElem?_set_ne (Ne.symm hj)] at h ⊢
      exact r.own h
  · by_cases hj : j = i
    · by_cases hk : k = i
      · rw [hj, hk]
      · subst hj
        rw [List.getElem?_set_ne (Ne.symm hk)] at h2 h4
        rw [List.getElem?_set_self hσ] at h3
        cases h3
        exact (hf ⟨k, l', es', h2, h4⟩).elim
    · by_cases hk : k = i
      · subst hk
        rw [List.getElem?_set_ne (Ne.symm hj)] at h1 h3
        rw [List.getElem?_set_self hσ] at h4
        cases h4
        exact (hf ⟨j, l, es, h1, h3⟩).elim
      · rw [List.getElem?_set_ne (Ne.symm hj)] at h1 h3
        rw [List.getElem?_set_ne (Ne.symm hk)] at h2 h4
        exact r.inj h1 h2 h3 h4
theorem TrS.setO {G0 H0 G H : Hp} {σ : L2.St} {ρ0 ρ : Rh} {i : Nat} {a : Addr} {xs : List V} {ds : List D} (r0 : Rep G0 H0 σ ρ0) (t : Tr G0 H0 σ ρ0 G H ρ) (hi : i < ρ.length) (hl : isLent ρ[i]? = false) (hn : H0 a = none) (ha : H a = some (.lst xs)) (hg : G a = none) (hx : DdA G xs ds) :
    TrS G0 H0 σ ρ0 G H (σ.set i (some (.ref a))) (ρ.set i (.own false ds)) := by
  have hσ : i < σ.length := by rw [t.rep.len]; exact hi
  have hf : ¬ Fp σ ρ a := fun z => by
    obtain ⟨zs, e⟩ := fp_some r0 (t.kp.fp z)
    rw [hn] at e
    cases e
  refine ⟨t.go, t.rep.setO hi ha hg hx hf, fun b ⟨j, l, es, h1, h2⟩ => ?_, by rw [List.length_set, ← t.kp.1], fun {j es} h => ?_⟩
  · by_cases hj : j = i
    · subst hj
      rw [List.getElem?_set_self hσ] at h2
      cases h2
      exact .inr hn
    · rw [List.getElem?_set_ne (Ne.symm hj)] at h1 h2
      exact .inl (t.kp.fp ⟨j, l, es, h1, h2⟩)
  · obtain ⟨es', h1⟩ := t.kp.to h
    have hj : j ≠ i := fun e => by
      subst e
      rw [h1] at hl
      cases hl
    rw [List.getElem?_set_ne (Ne.symm hj), List.getElem?_set_ne (Ne.symm hj)]
    exact ⟨rfl, es', h1⟩
def mSet (i : Nat) (m : Me) : Ms := fun ρ => (m ρ).bind fun p => if i < p.2.length ∧ isLent p.2[i]? = false then some (.nx (p.2.set i (.val p.1))) else none
def mSetO (i : Nat) (m : Ma) : Ms := fun ρ => (m ρ).bind fun p => if i < p.2.length ∧ isLent p.2[i]? = false then some (.nx (p.2.set i (.own false p.1))) else none
theorem set_of {i : Nat} {m : Me} (D : Ends) (σ : L2.St) (H : Hp) (h : RS (mSet i m) D σ H) : tAsg (R m) (gName i) D σ H := by
  obtain ⟨G, ρ, o, r, e, f⟩ := h
  obtain ⟨p, e1, e⟩ := bnd e
  obtain ⟨⟨hi, hl⟩, rfl⟩ := some_if e
  exact ⟨G, ρ, p.1, p.2, r, e1, fun G1 H1 v t hv => f G1 H1 _ (t.s.trans (TrS.set t.rep hi hl hv))⟩
theorem setO_of {i : Nat} {m : Ma} (D : Ends) (σ : L2.St) (H : Hp) (h : RS (mSetO i m) D σ H) : tAsg (RF m) (gName i) D σ H := by
  obtain ⟨G, ρ, o, r, e, f⟩ := h
  obtain ⟨p, e1, e⟩ := bnd e
  obtain ⟨⟨hi, hl⟩, rfl⟩ := some_if e
  exact ⟨G, ρ, p.1, p.2, r, e1, fun G1 H1 a xs t hn ha hg hx => f G1 H1 _ (TrS.setO r t hi hl hn ha hg hx)⟩
section
variable {X : Cx} {pos : Pos}
theorem qs_set {i : Nat} {x : Str} {e : Expr} {m : Me} {pos' : Pos} (hN : X.N.Nodup) (hi : X.N[i]? = some x) (hx : Loc X.env.scope x) (he : PE X e (R m)) (hs : swapsWith e (some (.Name x pos')) pos.line X.env = pure false := by rfl) (hf : X.fn x = true ∨ X.env.scope.names.lookup x = some .local := by first | exact .inl rfl | exact .inr rfl | assumption) :
    PS X (.Assign [.Name x pos'] e pos) (RS (mSet i m)) := impS (ps_set hN hi hx he hs hf) set_of
theorem qs_setO {i : Nat} {x : Str} {e : Expr} {m : Ma} {pos' : Pos} (hN : X.N.Nodup) (hi : X.N[i]? = some x) (hx : Loc X.env.scope x) (he : PE X e (RF m)) (hs : swapsWith e (some (.Name x pos')) pos.line X.env = pure false := by rfl) (hf : X.fn x = true ∨ X.env.scope.names.lookup x = some .local := by first | exact .inl rfl | exact .inr rfl | assumption) :
    PS X (.Assign [.Name x pos'] e pos) (RS (mSetO i m)) := impS (ps_set hN hi hx he hs hf) setO_of
/-- name = [.. for ..] -/
theorem fresh_val {m : Ma} {i : Nat} (D : Ends) (σ : L2.St) (H : Hp) (h : RS (mSet i (mL m)) D σ H) : tAsg (RF m) (gName i) D σ H := by
  obtain ⟨G, ρ, o, r, e, f⟩ := h
  obtain ⟨p, e1, e⟩ := bnd e
  obtain ⟨⟨hi, hl⟩, rfl⟩ := some_if e
  obtain ⟨q, e2, rfl⟩ := mpd e1
  exact ⟨G, ρ, q.1, q.2, r, e2, fun G1 H1 a xs t hn ha hg hx => f _ H1 _ ((fresh_for_good r t hn ha hg).s.trans (TrS.set (fresh_for_good r t hn ha hg).rep hi hl (.lst upd_same (dda_same (same_new hg) hx))))⟩
section
variable {i : Nat} {y : Str} {py : Pos} {elt tg iter : Expr} {ifs : List Expr} {scope : Scope} {own : List (Str × Nat)} {pos spos : Pos} {src : Ma} {ts : List Nat} {g : Mg} {tt : Mt} {te : Me}
theorem qs_lcO (hc : X.calm = true) (hN : X.N.Nodup) (hy : X.N[i]? = some y) (hyl : X.env.scope.names.lookup y = some .local)
    (hsw : swapsWith (.ListComp elt [⟨tg, iter, ifs, 0⟩] scope pos) (some (.Name y py)) spos.line X.env = pure true) (hi : PI X tg iter (RI src)) (ok : BlkOk X.N X.env.scope scope own)
    (hg : ∀ (s : Shared) (H : Hp) (C : Addr) (cl : List (Str × Addr)) (fp : List Addr), PG (X.blk s H scope (compEnvC scope cl C X.env) fp) tg (RG ts g)) (ht : ∀ (s : Shared) (H : Hp) (C : Addr) (cl : List (Str × Addr)) (fp : List Addr), PTs (X.blk s H scope (compEnvC scope cl C X.env) fp) ifs (RT tt))
    (he : ∀ (s : Shared) (H : Hp) (C : Addr) (cl : List (Str × Addr)) (fp : List Addr), PE (X.blk s H scope (compEnvC scope cl C X.env) fp) elt (R te)) (hts : ∀ i ∈ ts, i ∈ own.map (·.2) := by decide) (hs : ∀ x, foldedSetIterable iter X.env x = pure x := by intro _; rfl) :
    PS X (.Assign [.Name y py] (.ListComp elt [⟨tg, iter, ifs, 0⟩] scope pos) spos) (RS (mSetO i (mLc src g tt te (own.map (·.2))))) :=
  impS (ps_setLc hc hN hy hyl hsw hi ok hg ht he hs) fun D σ H h => lc_of hts σ H _ (setO_of D σ H h)
theorem qs_lc (hc : X.calm = true) (hN : X.N.Nodup) (hy : X.N[i]? = some y) (hyl : X.env.scope.names.lookup y = some .local)
    (hsw : swapsWith (.ListComp elt [⟨tg, iter, ifs, 0⟩] scope pos) (some (.Name y py)) spos.line X.env = pure true) (hi : PI X tg iter (RI src)) (ok : BlkOk X.N X.env.scope scope own)
    (hg : ∀ (s : Shared) (H : Hp) (C : Addr) (cl : List (Str × Addr)) (fp : List Addr), PG (X.blk s H scope (compEnvC scope cl C X.env) fp) tg (RG ts g)) (ht : ∀ (s : Shared) (H : Hp) (C : Addr) (cl : List (Str × Addr)) (fp : List Addr), PTs (X.blk s H scope (compEnvC scope cl C X.env) fp) ifs (RT tt))
    (he : ∀ (s : Shared) (H : Hp) (C : Addr) (cl : List (Str × Addr)) (fp : List Addr), PE (X.blk s H scope (compEnvC scope cl C X.env) fp) elt (R te)) (hts : ∀ i ∈ ts, i ∈ own.map (·.2) := by decide) (hs : ∀ x, foldedSetIterable iter X.env x = pure x := by intro _; rfl) :
    PS X (.Assign [.Name y py] (.ListComp elt [⟨tg, iter, ifs, 0⟩] scope pos) spos) (RS (mSet i (mL (mLc src g tt te (own.map (·.2)))))) :=
  impS (ps_setLc hc hN hy hyl hsw hi ok hg ht he hs) fun D σ H h => lc_of hts σ H _ (fresh_val D σ H h)
end
/-! blocks, if, return -/
def mNx : Ms := fun ρ => some (.nx ρ)
def mSeq (a b : Ms) : Ms := fun ρ => (a ρ).bind fun o => match o with | .nx ρ' => b ρ' | .rt d ρ' => some (.rt d ρ') | .rf d ρ' => some (.rf d ρ')
theorem qss_nil : PSs X [] (RS mNx) := impSs pss_nil fun D σ H ⟨G, ρ, o, r, e, f⟩ => by
  cases e
  exact f G H σ (TrS.refl r)
theorem qss_one {st : Stmt} {m : Ms} (h : PS X st (RS m)) : PSs X [st] (RS m) := pss_one h
theorem qss_cons {st : Stmt} {rest : List Stmt} {a b : Ms} (h1 : PS X st (RS a)) (h2 : PSs X rest (RS b)) : PSs X (st :: rest) (RS (mSeq a b)) := by
  refine impSs (pss_cons h1 h2) fun D σ H ⟨G, ρ, o, r, e, f⟩ => ?_
  obtain ⟨p, e1, e⟩ := bnd e
  refine ⟨G, ρ, p, r, e1, ?_⟩
  cases p with
  | nx ρ1 => exact fun G1 H1 σ1 t => ⟨G1, ρ1, o, t.rep, e, f.trans t⟩
  | rt d ρ1 =>
    cases e
    exact f
  | rf d ρ1 =>
    cases e
    exact f
def mIfS (c : Mt) (a b : Ms) : Ms := fun ρ => (c ρ).bind fun p => if p.1 = true then a p.2 else b p.2
theorem qs_if {c : Expr} {a b : List Stmt} {m : Mt} {ma mb : Ms} (hc : PT X c (RT m)) (ha : PSs X a (RS ma)) (hb : PSs X b (RS mb)) : PS X (.If c a b pos) (RS (mIfS m ma mb)) := by
  refine impS (ps_if hc ha hb) fun D σ H ⟨G, ρ, o, r, e, f⟩ => ?_
  obtain ⟨p, e1, e⟩ := bnd e
  refine ⟨G, ρ, p.1, p.2, r, e1, fun G1 H1 t => ?_⟩
  cases hp : p.1 with
  | true =>
    rw [hp, if_pos rfl] at e
    exact iteT ⟨G1, p.2, o, t.rep, e, f.trans t.s⟩
  | false =>
    rw [hp, if_neg Bool.false_ne_true] at e
    exact iteF ⟨G1, p.2, o, t.rep, e, f.trans t.s⟩
def mRet (m : Me) : Ms := fun ρ => (m ρ).map fun p => .rt p.1 p.2
theorem qs_ret {e : Expr} {m : Me} (he : PE X e (R m)) : PS X (.Return (some e) pos) (RS (mRet m)) := by
  refine impS (ps_ret he) fun D σ H ⟨G, ρ, o, r, e, f⟩ => ?_
  obtain ⟨p, e1, rfl⟩ := mpd e
  exact ⟨G, ρ, p.1, p.2, r, e1, fun G1 H1 v t hv => f G1 H1 σ v t.s hv⟩
def mRetF (m : Ma) : Ms := fun ρ => (m ρ).map fun p => .rf p.1 p.2
theorem qs_retF {e : Expr} {m : Ma} (he : PE X e (RF m)) : PS X (.Return (some e) pos) (RS (mRetF m)) := by
  refine impS (ps_ret he) fun D σ H ⟨G, ρ, o, r, e, f⟩ => ?_
  obtain ⟨p, e1, rfl⟩ := mpd e
  exact ⟨G, ρ, p.1, p.2, r, e1, fun G1 H1 a xs t hn ha hg hx => f G1 H1 σ a xs t.s (.inl hn) ha hg hx⟩
/-- return of a slot's own list -/
def mRetO (i : Nat) : Ms := fun ρ => match ρ[i]? with | some (.own false ds) => some (.rf ds ρ) | _ => none
theorem qs_retO {e : Expr} {i : Nat} (he : PE X e (tVar i)) : PS X (.Return (some e) pos) (RS (mRetO i)) := by
  refine impS (ps_ret he) fun D σ H ⟨G, ρ, o, r, e, f⟩ => ?_
  unfold mRetO at e
  split at e
  · rename_i ds h
    cases e
    obtain ⟨a, xs, h1, h2, h3, h4⟩ := r.own h
    exact ⟨_, h1, f G H σ a xs (TrS.refl r) (.inr ⟨i, ds, h, h1⟩) h2 h3 h4⟩
  · cases e
def mEx {α : Type} (m : Rh → Option (α × Rh)) : Ms := fun ρ => (m ρ).map fun p => .nx p.2
theorem qs_expr {e : Expr} {m : Me} (he : PE X e (R m)) (hs : swapsWith e none pos.line X.env = pure false := by rfl) : PS X (.Expr e pos) (RS (mEx m)) := by
  refine impS (ps_expr he hs) fun D σ H ⟨G, ρ, o, r, e, f⟩ => ?_
  obtain ⟨p, e1, rfl⟩ := mpd e
  exact ⟨G, ρ, p.1, p.2, r, e1, fun G1 H1 v t hv => f G1 H1 σ t.s⟩
def mDead : Ms := fun _ => none
theorem qs_dead {st : Stmt} : PS X st (RS mDead) := impS s_dead fun D σ H ⟨_, _, _, _, e, _⟩ => nomatch e
theorem qss_dead {st : List Stmt} : PSs X st (RS mDead) := ⟨fun _ _ _ _ _ _ ⟨_, _, _, _, e, _⟩ => nomatch e⟩
/-- a list of a slot's own is for good from here on -/
def mFz (i : Nat) (m : Ms) : Ms := fun ρ => match ρ[i]? with | some (.own false ds) => m (ρ.set i (.val (.lst ds))) | _ => none
theorem TrS.frz {G H : Hp} {σ : L2.St} {ρ : Rh} {i : Nat} {ds : List D} (r : Rep G H σ ρ) (h : ρ[i]? = some (.own false ds)) : ∃ G', TrS G H σ ρ G' H σ (ρ.set i (.val (.lst ds))) := by
  obtain ⟨a, xs, h1, h2, h3, h4⟩ := r.own h
  have hi : i < ρ.length := (List.getElem?_eq_some_iff.mp h).1
  have sn : Same G (upd G a (.lst xs)) := same_new h3
  have le : Le (upd G a (.lst xs)) H := r.le.good h2 nt_lst
  have ne : ∀ {j : Nat} {l : Bool} {es : List D}, (ρ.set i (.val (.lst ds)))[j]? = some (.own l es) → j ≠ i ∧ ρ[j]? = some (.own l es) := fun {j l es} h => by
    by_cases hj : j = i
    · subst hj
      rw [List.getElem?_set_self hi] at h
      cases h
    · rw [List.getElem?_set_ne (Ne.symm hj)] at h
      exact ⟨hj, h⟩
  refine ⟨_, ⟨sn, le, fun _ _ h _ _ => h, fun b o hb g n w => ?_, fun _ h => h⟩, ⟨le, by rw [List.length_set]; exact r.len, fun {j d} hj => ?_, fun {j l es} hj => ?_, fun {j k l l' es es' b} g1 g2 g3 g4 => r.inj (ne g1).2 (ne g2).2 g3 g4⟩, fun b ⟨j, l, es, g1, g2⟩ => .inl ⟨j, l, es, (ne g1).2, g2⟩, by simp, fun {j es} hj => ?_⟩
  · rw [upd_ne (fun e => n ⟨i, false, ds, h, by rw [e]; exact h1⟩)]
    exact g
  · by_cases hji : j = i
    · subst hji
      rw [List.getElem?_set_self hi] at hj
      cases hj
      exact ⟨_, h1, .lst upd_same (dda_same sn h4)⟩
    · rw [List.getElem?_set_ne (Ne.symm hji)] at hj
      obtain ⟨v, g1, g2⟩ := r.val hj
      exact ⟨v, g1, dd_same sn g2⟩
  · obtain ⟨hji, hj⟩ := ne hj
    obtain ⟨b, ys, g1, g2, g3, g4⟩ := r.own hj
    refine ⟨b, ys, g1, g2, ?_, dda_same sn g4⟩
    rw [upd_ne (fun e => hji (r.inj hj h (by rw [← e]; exact g1) h1))]
    exact g3
  · have hji : j ≠ i := fun e => by
      subst e
      rw [h] at hj
      cases hj
    rw [List.getElem?_set_ne (Ne.symm hji)]
    exact ⟨rfl, es, hj⟩
theorem qss_frz {i : Nat} {sts : List Stmt} {m : Ms} (h : PSs X sts (RS m)) : PSs X sts (RS (mFz i m)) := by
  refine impSs h fun D σ H ⟨G, ρ, o, r, e, f⟩ => ?_
  unfold mFz at e
  split at e
  · rename_i ds h
    obtain ⟨G', t⟩ := TrS.frz r h
    exact ⟨G', _, o, t.rep, e, f.trans t⟩
  · cases e
/-! for -/
def forL (tg : Mg) (body : Ms) : List D → Rh → Option Out
  | [], ρ => some (.nx ρ)
  | d :: ds, ρ => (tg d ρ).bind fun ρ1 => (body ρ1).bind fun o => match o with | .nx ρ2 => forL tg body ds ρ2 | .rt d ρ2 => some (.rt d ρ2) | .rf d ρ2 => some (.rf d ρ2)
def mFor (src : Ma) (tg : Mg) (body : Ms) : Ms := fun ρ => (src ρ).bind fun p => forL tg body p.1 p.2
theorem TrS.tgt {G H : Hp} {σ σ' : L2.St} {ρ ρ' : Rh} {ts : List Nat} (r : Rep G H σ ρ) (r' : Rep G H σ' ρ') (hσ : ∀ i, i ∉ ts → σ'[i]? = σ[i]? ∧ ρ'[i]? = ρ[i]?) (hno : ∀ i, i ∈ ts → noOwn ρ i ∧ noOwn ρ' i) (hl : ρ'.length = ρ.length) : TrS G H σ ρ G H σ' ρ' := by
  refine ⟨Go.refl r.le, r', fun a ⟨j, l, ds, h1, h2⟩ => ?_, hl, fun {j ds} h => ?_⟩
  · have hj : j ∉ ts := fun z => (hno j z).2 l ds h1
    rw [(hσ j hj).2] at h1
    rw [(hσ j hj).1] at h2
    exact .inl ⟨j, l, ds, h1, h2⟩
  · have hj : j ∉ ts := fun z => (hno j z).1 true ds h
    exact ⟨(hσ j hj).1, ds, (hσ j hj).2.trans h⟩
theorem for_of {src : Ma} {ts : List Nat} {tg : Mg} {body : Ms} (D : Ends) (σ : L2.St) (H : Hp) (h : RS (mFor src tg body) D σ H) : tFor (RI src) (RG ts tg) (RS body) D σ H := by
  obtain ⟨G, ρ, o, r, e, f⟩ := h
  obtain ⟨p, e1, e⟩ := bnd e
  refine ⟨G, ρ, p.1, p.2, r, e1, fun G1 H1 J t1 wk => ?_⟩
  refine for_it wk (fun i σ2 H2 => ∃ G2 ρ2, TrS G1 H1 σ p.2 G2 H2 σ2 ρ2 ∧ forL tg body (p.1.drop i) ρ2 = some o) ⟨G1, p.2, TrS.refl t1.rep, by rw [List.drop_zero]; exact e⟩ (fun i σ2 H2 _ ⟨G2, ρ2, t, _⟩ => t.go.gg.trans t.go.le) (fun i x σ2 H2 H3 hi ⟨G2, ρ2, t, el⟩ y => ?_) (fun σ2 H2 ⟨G2, ρ2, t, el⟩ => ?_)
  · obtain ⟨d, hd1, hy⟩ := y
    obtain ⟨G3, ex, hx⟩ := hy G2 t.go.gg t.go.le
    rw [drop_get hd1] at el
    obtain ⟨ρt, eg, el⟩ := bnd el
    obtain ⟨q, eb, el⟩ := bnd el
    have t3 := t.trans (Tr.ext t.rep ex).s
    refine ⟨G3, ρ2, d, ρt, t3.rep, hx, eg, fun σ3 r3 sl hσ hno hl => ⟨G3, ρt, q, r3, eb, ?_⟩⟩
    have t4 := t3.trans (TrS.tgt t3.rep r3 hσ hno hl)
    cases q with
    | nx ρ5 => exact fun G5 H5 σ5 t5 => ⟨G5, ρ5, t4.trans t5, el⟩
    | rt d ρ5 =>
      cases el
      exact fun G5 H5 σ5 v t5 hv => f G5 H5 σ5 v (t1.s.trans (t4.trans t5)) hv
    | rf d ρ5 =>
      cases el
      exact fun G5 H5 σ5 a xs t5 n => f G5 H5 σ5 a xs (t1.s.trans (t4.trans t5)) (n.trans (t1.s.trans t4))
  · rw [List.drop_length] at el
    cases el
    exact f G2 H2 σ2 (t1.s.trans t)
theorem qs_for {tg iter : Expr} {body : List Stmt} {src : Ma} {ts : List Nat} {g : Mg} {m : Ms} (hp : PassesOwn (model X.prog X.w) X.A X.env X.xe) (hc : X.calm = true) (hi : PI X tg iter (RI src)) (hg : PG X tg (RG ts g)) (hb : PSs X body (RS m))
    (hs : ∀ x, foldedSetIterable iter X.env x = pure x := by intro _; rfl) : PS X (.For tg iter body [] pos) (RS (mFor src g m)) := impS (ps_for hp hc hi hg hb hs) for_of
/-! while -/
def whileN (c : Mt) (b : Ms) : Nat → Rh → Option Out
  | 0, _ => none
  | n + 1, ρ => (c ρ).bind fun p => if p.1 = true then (b p.2).bind fun o => match o with | .nx ρ' => whileN c b n ρ' | .rt d ρ' => some (.rt d ρ') | .rf d ρ' => some (.rf d ρ') else some (.nx p.2)
open Classical in
noncomputable def mWhile (c : Mt) (b : Ms) : Ms := fun ρ => if h : ∃ n o, whileN c b n ρ = some o then some (Classical.choose (Classical.choose_spec h)) else none
theorem while_of {c : Mt} {b : Ms} (D : Ends) (σ : L2.St) (H : Hp) (h : RS (mWhile c b) D σ H) : tWhile (RT c) (RS b) D σ H := by
  obtain ⟨G, ρ, o, r, e, f⟩ := h
  unfold mWhile at e
  split at e
  · rename_i hx
    cases e
    have hw := Classical.choose_spec (Classical.choose_spec hx)
    generalize Classical.choose (Classical.choose_spec hx) = o at hw f
    generalize Classical.choose hx = n at hw
    refine ⟨fun m σ2 H2 => ∃ G2 ρ2, TrS G H σ ρ G2 H2 σ2 ρ2 ∧ whileN c b m ρ2 = some o, ⟨n, G, ρ, TrS.refl r, hw⟩, fun m σ2 H2 ⟨G2, ρ2, t, ew⟩ => ?_⟩
    cases m with
    | zero => cases ew
    | succ m =>
      obtain ⟨p, e1, ew⟩ := bnd ew
      refine ⟨G2, ρ2, p.1, p.2, t.rep, e1, fun G3 H3 t3 => ?_⟩
      cases hp : p.1 with
      | false =>
        rw [hp, if_neg Bool.false_ne_true] at ew
        cases ew
        exact iteF (f G3 H3 σ2 (t.trans t3.s))
      | true =>
        rw [hp, if_pos rfl] at ew
        obtain ⟨q, e2, ew⟩ := bnd ew
        refine iteT ⟨fun σ4 H4 => ∃ G4 ρ4, TrS G H σ ρ G4 H4 σ4 ρ4 ∧ whileN c b m ρ4 = some o, fun σ4 H4 h => ⟨m, Nat.lt_succ_self m, h⟩, G3, p.2, q, t3.rep, e2, ?_⟩
        cases q with
        | nx ρ5 => exact fun G5 H5 σ5 t5 => ⟨G5, ρ5, (t.trans t3.s).trans t5, ew⟩
        | rt d ρ5 =>
          cases ew
          exact fun G5 H5 σ5 v t5 hv => f G5 H5 σ5 v ((t.trans t3.s).trans t5) hv
        | rf d ρ5 =>
          cases ew
          exact fun G5 H5 σ5 a xs t5 n => f G5 H5 σ5 a xs ((t.trans t3.s).trans t5) (n.trans (t.trans t3.s))
  · cases e
theorem qs_while {c : Expr} {body : List Stmt} {m : Mt} {b : Ms} (hp : PassesOwn (model X.prog X.w) X.A X.env X.xe) (hc : PT X c (RT m)) (hb : PSs X body (RS b)) : PS X (.While c body [] pos) (RS (mWhile m b)) := impS (ps_while hp hc hb) while_of
end
end Pl
namespace Pl
open PySem PySem.Spec PyProof.Rows L2 Kn
variable [Tbs]
/-! lists of a slot's own: changed, read -/
theorem Tr.mut {G H : Hp} {σ : L2.St} {ρ : Rh} {i : Nat} {l : Bool} {ds ds' : List D} {a : Addr} {xs : List V} (r : Rep G H σ ρ) (h : ρ[i]? = some (.own l ds)) (hσ : σ[i]? = some (some (.ref a))) (hx : DdA G xs ds') :
    Tr G H σ ρ G (upd H a (.lst xs)) (ρ.set i (.own l ds')) := by
  have hi : i < ρ.length := (List.getElem?_eq_some_iff.mp h).1
  obtain ⟨a', xs0, h1, h2, h3, h4⟩ := r.own h
  rw [hσ] at h1
  cases h1
  have le : Le G (upd H a (.lst xs)) := r.le.put h3 fun u z => by rw [h2] at z; cases z; exact .inl ⟨_, rfl⟩
  refine ⟨⟨Same.refl G, le, fun c o e n w => ?_, fun _ _ _ g _ _ => g, fun c e => ?_⟩, ⟨le, by rw [List.length_set]; exact r.len, fun {j d} hj => ?_, fun {j l' es} hj => ?_, fun {j k l1 l2 es es' b} g1 g2 g3 g4 => ?_⟩, by rw [List.length_set], fun j => ?_⟩
  · rw [upd_ne (fun e2 => n ⟨i, l, ds, h, by rw [e2]; exact hσ⟩)]
    exact e
  · by_cases hc : c = a
    · subst hc; rw [upd_same] at e; cases e
    · rw [upd_ne hc] at e; exact e
  · by_cases hji : j = i
    · subst hji
      rw [List.getElem?_set_self hi] at hj
      cases hj
    · rw [List.getElem?_set_ne (Ne.symm hji)] at hj
      exact r.val hj
  · by_cases hji : j = i
    · subst hji
      rw [List.getElem?_set_self hi] at hj
      cases hj
      exact ⟨a, xs, hσ, upd_same, h3, hx⟩
    · rw [List.getElem?_set_ne (Ne.symm hji)] at hj
      obtain ⟨b, ys, g1, g2, g3, g4⟩ := r.own hj
      refine ⟨b, ys, g1, ?_, g3, g4⟩
      rw [upd_ne (fun e => hji (r.inj hj h (by rw [← e]; exact g1) hσ))]
      exact g2
  · have back : ∀ {j : Nat} {l1 : Bool} {es : List D}, (ρ.set i (.own l ds'))[j]? = some (.own l1 es) → ∃ l2 es', ρ[j]? = some (.own l2 es') := fun {j l1 es} g => by
      by_cases hji : j = i
      · subst hji
        exact ⟨l, ds, h⟩
      · rw [List.getElem?_set_ne (Ne.symm hji)] at g
        exact ⟨_, _, g⟩
    obtain ⟨_, _, g1'⟩ := back g1
    obtain ⟨_, _, g2'⟩ := back g2
    exact r.inj g1' g2' g3 g4
  · by_cases hji : j = i
    · subst hji
      exact .inr ⟨l, ds, ds', h, List.getElem?_set_self hi⟩
    · exact .inl (List.getElem?_set_ne (Ne.symm hji))
/-- a method that changes the list: by what it holds and the arguments, what it tells and what it holds then -/
def MtO (r : V → List V → Hp → VK → Prop) (f : List D → List D → Option (D × List D)) : Prop := ∀ (G H : Hp) (a : Addr) (xs vs : List V) (ds as ds' : List D) (d : D) (Q : VK), H a = some (.lst xs) → DdA G xs ds → DdA G vs as → f ds as = some (d, ds') →
  (∀ xs' v, DdA G xs' ds' → Dd G v d → Q v (upd H a (.lst xs'))) → r (.ref a) vs H Q
theorem isOwn_inv {o : Option Sl} (h : isOwn o = true) : ∃ l ds, o = some (.own l ds) := by
  unfold isOwn at h
  split at h
  · exact ⟨_, _, rfl⟩
  · cases h
def mMeth (i : Nat) (f : List D → List D → Option (D × List D)) (m : Ma) : Me := fun ρ => if isOwn ρ[i]? = true then (m ρ).bind fun p => match p.2[i]? with
  | some (.own l ds) => (f ds p.1).map fun q => (q.1, p.2.set i (.own l q.2))
  | _ => none else none
theorem mMeth_inv {i : Nat} {f : List D → List D → Option (D × List D)} {m : Ma} {ρ ρ' : Rh} {d : D} (h : mMeth i f m ρ = some (d, ρ')) : ∃ as ρ1 l ds ds', m ρ = some (as, ρ1) ∧ ρ1[i]? = some (.own l ds) ∧ f ds as = some (d, ds') ∧ ρ' = ρ1.set i (.own l ds') ∧ ∃ l0 ds0, ρ[i]? = some (.own l0 ds0) := by
  unfold mMeth at h
  split at h
  · rename_i h0
    obtain ⟨p, e1, h⟩ := bnd h
    split at h
    · rename_i l ds hd
      obtain ⟨q, e2, h⟩ := mpd h
      cases h
      exact ⟨p.1, p.2, l, ds, q.2, e1, hd, e2, rfl, isOwn_inv h0⟩
    · cases h
  · cases h
theorem meth_of {K : PySem.W.Frag} {r : V → List V → Hp → VK → Prop} {f : List D → List D → Option (D × List D)} {m : Ma} {i : Nat} (hf : MtO r f) (σ : L2.St) (H : Hp) (Q : VK) (h : R (mMeth i f m) σ H Q) : tBM K "list" r (tVar i) (RA m) σ H Q := by
  obtain ⟨G, ρ, d, ρ', rp, e, k⟩ := h
  obtain ⟨as, ρ1, l, ds, ds', e1, hd, e2, rfl, l0, ds0, h0⟩ := mMeth_inv e
  obtain ⟨a, xs, h1, h2, _⟩ := rp.own h0
  refine ⟨_, h1, .inl ⟨rfl, xs, sq_l h2⟩, G, ρ, as, ρ1, rp, e1, fun G1 H1 vs t hv => ?_⟩
  obtain ⟨a', xs1, h3, h4, h5, h6⟩ := t.rep.own hd
  rw [h1] at h3
  cases h3
  exact hf G1 H1 a xs1 vs ds as ds' d Q h4 h6 hv e2 fun xs' v hx hv2 => k G1 _ v (t.trans (Tr.mut t.rep hd h1 hx)) hv2
def appF : List D → List D → Option (D × List D)
  | ds, [d] => if ds.length < 100000 then some (.non, ds ++ [d]) else none
  | _, _ => none
theorem sz6 {n : Nat} (h : n < 100000) : n < sizeLine := Nat.lt_of_lt_of_le h (by decide)
theorem o_app : MtO rAppend appF := by
  intro G H a xs vs ds as ds' d Q ha hx hv e k
  unfold appF at e
  split at e
  · obtain ⟨hl, e⟩ := some_if e
    cases e
    cases hv with
    | cons h1 h2 =>
      cases h2
      exact ⟨a, xs, _, rfl, rfl, ha, by rw [dda_len hx]; exact sz6 hl, k _ _ (dda_app hx (.cons h1 .nil)) .non⟩
  · cases e
def insF : List D → List D → Option (D × List D)
  | ds, [.int i, d] => if ds.length < 100000 ∧ 0 ≤ i ∧ i < 2 ^ 63 then some (.non, ds.take i.toNat ++ [d] ++ ds.drop i.toNat) else none
  | _, _ => none
theorem o_ins : MtO (fun x vs H Q => ∃ (l : Addr) (xs : List V) (i : Int) (y : V), x = .ref l ∧ vs = [.int i, y] ∧ H l = some (.lst xs) ∧ xs.length < sizeLine ∧ 0 ≤ i ∧ i < 2 ^ 63 ∧ Q .non (upd H l (.lst (xs.take i.toNat ++ [y] ++ xs.drop i.toNat)))) insF := by
  intro G H a xs vs ds as ds' d Q ha hx hv e k
  unfold insF at e
  split at e
  · obtain ⟨⟨hl, h0, h1⟩, e⟩ := some_if e
    cases e
    cases hv with
    | cons q1 q2 =>
      cases q2 with
      | cons q2 q3 =>
        cases q1; cases q3
        exact ⟨a, xs, _, _, rfl, rfl, ha, by rw [dda_len hx]; exact sz6 hl, h0, h1, k _ _ (dda_app (dda_app (dda_take _ hx) (.cons q2 .nil)) (dda_drop _ hx)) .non⟩
  · cases e
def popF : List D → List D → Option (D × List D)
  | ds, [.int i] => if -(2 ^ 63) ≤ i ∧ i < 2 ^ 63 then (seqIndex? i ds.length).bind fun k => (ds[k]?).map fun d => (d, ds.eraseIdx k) else none
  | _, _ => none
theorem o_pop : MtO rPopAt popF := by
  intro G H a xs vs ds as ds' d Q ha hx hv e k
  unfold popF at e
  split at e
  · split at e
    · rename_i hb
      obtain ⟨j, e1, e⟩ := bnd e
      obtain ⟨y, e2, e⟩ := mpd e
      cases e
      cases hv with
      | cons q1 q2 =>
        cases q1; cases q2
        obtain ⟨v, e3, e4⟩ := dda_at hx e2
        exact ⟨a, xs, _, j, v, rfl, rfl, ha, hb.1, hb.2, by rw [dda_len hx]; exact e1, e3, k _ _ (dda_erase j hx) e4⟩
    · cases e
  · cases e
section
variable {X : Cx}
section
variable {i : Nat} {x name : Str} {e : Expr} {es : List Expr} {m : Ma} {p apos cpos : Pos} {id : String} {r : V → List V → Hp → VK → Prop} {f : List D → List D → Option (D × List D)}
theorem qe_mo (slot : Slot "list" name id) (hty : typeOf (.builtin id) = pure (.type "method_descriptor")) (hm : MtR X id r) (hf : MtO r f) (ho : PE X (.Name x p) (tVar i)) (ha : PA X (e :: es) (RA m))
    (hbase : attributeBase (.Name x p) name X.env (eval (.Name x p) X.env) = eval (.Name x p) X.env := by rfl)
    (hfew : ((backTo cpos (starEach (e :: es) X.env)).all (fun x => !x.1) && (backToKw cpos (keywordEach [] X.env)).all (fun x => x.1.isSome)
      && decide ((e :: es).length + ([] : List Keyword).length + (if ([] : List Keyword).isEmpty then 0 else 1) < 30)) = true := by rfl)
    (hline : (apos.endLine == cpos.line) = true := by rfl) (hs : starEach (e :: es) X.env = (false, eval e X.env) :: starEach es X.env := by rfl) (hplain : (backTo cpos (starEach es X.env)).any (·.1) = false := by rfl) :
    PE X (.Call (.Attribute (.Name x p) name apos) (e :: es) [] cpos) (R (mMeth i f m)) := imp (pe_bm PySem.F.plainAttrs_list slot hty hm ho ha hbase hfew hline hs hplain) (meth_of hf)
end
/-! own[e], len(own): read -/
def mIxO (i : Nat) (m : Me) : Me := fun ρ => if isOwn ρ[i]? = true then (m ρ).bind fun p => match p.2[i]?, p.1 with
  | some (.own _ ds), .int j => (atI ds j).map fun d => (d, p.2)
  | _, _ => none else none
theorem qe_ixO {i : Nat} {x : Str} {b : Expr} {m : Me} {p pos : Pos} (ho : PE X (.Name x p) (tVar i)) (hb : PE X b (R m)) (hs : PlainIx b) : PE X (.Subscript (.Name x p) b pos) (R (mIxO i m)) := by
  refine imp (pe_ix ix_list ho hb hs) fun σ H Q ⟨G, ρ, d, ρ', rp, e, k⟩ => ?_
  unfold mIxO at e
  split at e
  case isFalse => cases e
  rename_i h0
  obtain ⟨l0, ds0, h0⟩ := isOwn_inv h0
  obtain ⟨q, e1, e⟩ := bnd e
  split at e
  · rename_i l ds j h1 h2
    obtain ⟨y, e2, e⟩ := mpd e
    cases e
    obtain ⟨a, xs, g1, g2, _⟩ := rp.own h0
    refine ⟨_, g1, G, ρ, q.1, q.2, rp, e1, fun G1 H1 v t hv => ?_⟩
    rw [h2] at hv
    cases hv
    obtain ⟨a', xs1, g3, g4, g5, g6⟩ := t.rep.own h1
    rw [g1] at g3
    cases g3
    obtain ⟨w, g7, g8⟩ := dda_atI g6 e2
    exact ⟨a, xs1, j, w, rfl, rfl, sq_l g4, g7, k G1 H1 w t g8⟩
  · cases e
def mLenO (i : Nat) : Me := fun ρ => match ρ[i]? with | some (.own _ ds) => some (.int ds.length, ρ) | _ => none
theorem qe_lenO {i : Nat} {x : Str} {p q pos : Pos} (hm : X.mg "len" = none) (hg : Gl X "len") (ho : PE X (.Name x p) (tVar i)) : PE X (.Call (.Name "len" q) [.Name x p] [] pos) (R (mLenO i)) := by
  refine imp (pe_callB call_len_seq hg hm PySem.boot_len (pa_cons ho pa_nil)) fun σ H Q ⟨G, ρ, d, ρ', rp, e, k⟩ => ?_
  unfold mLenO at e
  split at e
  · rename_i l ds h
    cases e
    obtain ⟨a, xs, g1, g2, g3, g4⟩ := rp.own h
    exact ⟨_, g1, a, xs, rfl, .inl (sq_l g2), by rw [dda_len g4]; exact k G H _ (Tr.refl rp) (.int _)⟩
  · cases e
/-! own[e] = v -/
def mPut (i : Nat) (me mv : Me) : Ms := fun ρ => (mv ρ).bind fun p => if isOwn p.2[i]? = true then (me p.2).bind fun q => match q.2[i]?, q.1 with
  | some (.own l ds), .int j => (ixN ds.length j).map fun n => .nx (q.2.set i (.own l (ds.set n p.1)))
  | _, _ => none else none
theorem put_of {i : Nat} {me mv : Me} (D : Ends) (σ : L2.St) (H : Hp) (h : RS (mPut i me mv) D σ H) : tAsg (R mv) (gSub (tVar i) (R me) rSetL) D σ H := by
  obtain ⟨G, ρ, o, r, e, f⟩ := h
  obtain ⟨p, e1, e⟩ := bnd e
  split at e
  case isFalse => cases e
  rename_i h0
  obtain ⟨l0, ds0, h0⟩ := isOwn_inv h0
  obtain ⟨q, e2, e⟩ := bnd e
  split at e
  · rename_i l ds j h1 h2
    obtain ⟨n, e3, rfl⟩ := mpd e
    refine ⟨G, ρ, p.1, p.2, r, e1, fun G1 H1 v t1 hv => ?_⟩
    obtain ⟨a, xs, g1, g2, _⟩ := t1.rep.own h0
    refine ⟨_, g1, G1, p.2, q.1, q.2, t1.rep, e2, fun G2 H2 u t2 hu => ?_⟩
    rw [h2] at hu
    cases hu
    obtain ⟨a', xs1, g3, g4, g5, g6⟩ := t2.rep.own h1
    rw [g1] at g3
    cases g3
    exact ⟨a, xs1, j, n, rfl, rfl, g4, by rw [dda_len g6]; exact e3, f G2 _ σ ((t1.trans t2).trans (Tr.mut t2.rep h1 g1 (dda_set n g6 (dd_same t2.go.gg hv)))).s⟩
  · cases e
theorem qs_put {i : Nat} {me mv : Me} {tg e : Expr} {pos : Pos} (he : PE X e (R mv)) (hg : PG X tg (gSub (tVar i) (R me) rSetL)) (hs : swapsWithSole [tg] e pos.line X.env = pure false := by rfl) (hw : swappedStores [tg] e X.env = pure none := by rfl)
    (h1 : (assignEach [tg] X.env).map (·.2) = [assign tg X.env] := by rfl) : PS X (.Assign [tg] e pos) (RS (mPut i me mv)) := impS (ps_asg he hg hs hw h1) put_of
/-! name op= e -/
def mAug (i : Nat) (f : Int → Int → Option Int) (m : Me) : Ms := fun ρ => match ρ[i]? with
  | some (.val (.int a)) => (m ρ).bind fun p => match p.1 with
    | .int b => (f a b).bind fun c => if i < p.2.length ∧ isLent p.2[i]? = false then some (.nx (p.2.set i (.val (.int c)))) else none
    | _ => none
  | _ => none
theorem qs_aug {i : Nat} {x : Str} {e : Expr} {m : Me} {op : Operator} {C : Int → Int → Prop} {g : Int → Int → Int} {f : Int → Int → Option Int} {pos pos' : Pos} (hN : X.N.Nodup) (hi : X.N[i]? = some x) (hx : Loc X.env.scope x) (he : PE X e (R m)) (ho : OpR X (inplaceOp op) (rI C fun i j => .int (g i j))) (hC : ∀ a b c, f a b = some c → C a b ∧ c = g a b)
    (hf : X.fn x = true ∨ X.env.scope.names.lookup x = some .local := by first | exact .inl rfl | exact .inr rfl | assumption) : PS X (.AugAssign (.Name x pos') op e pos) (RS (mAug i f m)) := by
  refine impS (ps_aug hN hi hx he (ti := rI C fun i j => .int (g i j)) ho hf) fun D σ H ⟨G, ρ, o, r, e, k⟩ => ?_
  unfold mAug at e
  split at e
  · rename_i a ha
    obtain ⟨p, e1, e⟩ := bnd e
    split at e
    · rename_i b hb
      obtain ⟨c, e2, e⟩ := bnd e
      obtain ⟨⟨h1, h2⟩, rfl⟩ := some_if e
      obtain ⟨v, g1, g2⟩ := r.val ha
      cases g2
      refine ⟨_, g1, G, ρ, p.1, p.2, r, e1, fun G1 H1 v t hv => ?_⟩
      rw [hb] at hv
      cases hv
      obtain ⟨hc, rfl⟩ := hC a b c e2
      exact ⟨a, b, rfl, rfl, hc, k G1 H1 _ (t.s.trans (TrS.set t.rep h1 h2 (.int _)))⟩
    · cases e
  · cases e
end
/-! defs -/
def SpP (F : List D → Option D) : Sp := fun vs H Q _ => ∃ G ds d, Le G H ∧ DdA G vs ds ∧ F ds = some d ∧ Ans G H d Q
def SpO (F : List D → Option (List D)) : Sp := fun vs H Q _ => ∃ G ds d, Le G H ∧ DdA G vs ds ∧ F ds = some d ∧ AnsF G H d Q
def SpB (F : List D → List D → Option (D × List D)) : Sp := fun vs H Q _ => ∃ G b xs bs ws ds d bs', vs = .ref b :: ws ∧ Le G H ∧ H b = some (.lst xs) ∧ G b = none ∧ DdA G xs bs ∧ DdA G ws ds ∧ F bs ds = some (d, bs') ∧
  ∀ G' H' v xs', Go G H G' H' (· = b) → H' b = some (.lst xs') → G' b = none → DdA G' xs' bs' → Dd G' v d → Q v H'
def begin0 (k : Nat) (ds : List D) : Rh := ds.map Sl.val ++ List.replicate k .un
def runP (n k : Nat) (m : Ms) : List D → Option D := fun ds => if ds.length = n then match m (begin0 k ds) with
  | some (.rt d _) => some d
  | some (.nx _) => some .non
  | _ => none else none
def runO (n k : Nat) (m : Ms) : List D → Option (List D) := fun ds => if ds.length = n then match m (begin0 k ds) with
  | some (.rf d _) => some d
  | _ => none else none
def beginB (k : Nat) (bs ds : List D) : Rh := .own true bs :: begin0 k ds
def runB (n k : Nat) (m : Ms) : List D → List D → Option (D × List D) := fun bs ds => if ds.length = n then match m (beginB k bs ds) with
  | some (.rt d ρ) => match (ρ[0]? : Option Sl) with | some (.own _ bs') => some (d, bs') | _ => none
  | some (.nx ρ) => match (ρ[0]? : Option Sl) with | some (.own _ bs') => some (.non, bs') | _ => none
  | _ => none else none
theorem begin_get {k : Nat} {ds : List D} {i : Nat} : (begin0 k ds)[i]? = if i < ds.length then (ds[i]?).map Sl.val else if i < ds.length + k then some .un else none := by
  unfold begin0
  by_cases h : i < ds.length
  · rw [if_pos h, List.getElem?_append_left (by simpa using h), List.getElem?_map]
  · rw [if_neg h, List.getElem?_append_right (by simp; omega), List.length_map]
    by_cases h2 : i < ds.length + k
    · rw [if_pos h2, List.getElem?_replicate_of_lt (by omega)]
    · rw [if_neg h2, List.getElem?_eq_none (by simp; omega)]
theorem begin_noown {k : Nat} {ds : List D} {i : Nat} {l : Bool} {es : List D} : (begin0 k ds)[i]? ≠ some (.own l es) := by
  rw [begin_get]
  split
  · cases ds[i]? <;> simp
  · split <;> simp
theorem start_get {N : List Str} {vs : List V} {i : Nat} {v : V} (h : vs[i]? = some v) : (start N vs)[i]? = some (some v) := by
  unfold L2.start
  have hi := (List.getElem?_eq_some_iff.mp h).1
  rw [List.getElem?_append_left (by simpa using hi), List.getElem?_map, h]
  rfl
theorem rep_begin {G H : Hp} {N : List Str} {vs : List V} {ds : List D} {k : Nat} (le : Le G H) (hv : DdA G vs ds) (hn : N.length = ds.length + k) : Rep G H (start N vs) (begin0 k ds) := by
  refine ⟨le, ?_, fun {i d} h => ?_, fun {i l es} h => (begin_noown h).elim, fun {i j l l' es es' a} h _ _ _ => (begin_noown h).elim⟩
  · have := dda_len hv
    simp [L2.start, begin0]
    omega
  · rw [begin_get] at h
    split at h
    · obtain ⟨e, h1, h2⟩ := mpd h
      cases h2
      obtain ⟨v, h3, h4⟩ := dda_at hv h1
      exact ⟨v, start_get h3, h4⟩
    · split at h <;> cases h
theorem rep_beginB {G H : Hp} {N : List Str} {b : Addr} {xs ws : List V} {bs ds : List D} {k : Nat} (le : Le G H) (hb : H b = some (.lst xs)) (hg : G b = none) (hx : DdA G xs bs) (hv : DdA G ws ds) (hn : N.length = ds.length + 1 + k) : Rep G H (start N (.ref b :: ws)) (beginB k bs ds) := by
  have e0 : (start N (.ref b :: ws))[0]? = some (some (.ref b)) := start_get rfl
  refine ⟨le, ?_, fun {i d} h => ?_, fun {i l es} h => ?_, fun {i j l l' es es' a} h1 h2 _ _ => ?_⟩
  · have := dda_len hv
    simp [L2.start, beginB, begin0]
    omega
  · cases i with
    | zero => cases h
    | succ i =>
      have h : (begin0 k ds)[i]? = some (.val d) := h
      rw [begin_get] at h
      split at h
      · obtain ⟨e, h1, h2⟩ := mpd h
        cases h2
        obtain ⟨v, h3, h4⟩ := dda_at hv h1
        exact ⟨v, start_get (i := i + 1) h3, h4⟩
      · split at h <;> cases h
  · cases i with
    | zero =>
      cases h
      exact ⟨b, xs, e0, hb, hg, hx⟩
    | succ i => exact (begin_noown (show (begin0 k ds)[i]? = _ from h)).elim
  · cases i with
    | succ i => exact (begin_noown (show (begin0 k ds)[i]? = _ from h1)).elim
    | zero =>
      cases j with
      | zero => rfl
      | succ j => exact (begin_noown (show (begin0 k ds)[j]? = _ from h2)).elim
theorem fin_P {G H : Hp} {σ : L2.St} {ds : List D} {n k : Nat} {m : Ms} {d : D} {Q : VK} (r : Rep G H σ (begin0 k ds)) (e : runP n k m ds = some d) (q : Ans G H d Q) : RS m { nx := fun _ H' => Q .non H', rt := Q } σ H := by
  unfold runP at e
  split at e
  · have ex : ∀ {G' H' σ' ρ'}, TrS G H σ (begin0 k ds) G' H' σ' ρ' → Ex G H G' H' := fun t =>
      ⟨t.go.gg, t.go.le, fun a o h _ w => t.go.off a o h (fun ⟨i, l, es, z, _⟩ => begin_noown z) w, fun a o h g _ w => t.go.new a o h g fun ⟨i, l, es, z, _⟩ => begin_noown z, t.go.dom⟩
    split at e
    · rename_i x ρ' hm
      cases e
      exact ⟨G, _, _, r, hm, fun G' H' σ' v t hv => q G' H' v (ex t) hv⟩
    · rename_i ρ' hm
      cases e
      exact ⟨G, _, _, r, hm, fun G' H' σ' t => q G' H' .non (ex t) .non⟩
    · cases e
  · cases e
theorem fin_O {G H : Hp} {σ : L2.St} {ds : List D} {n k : Nat} {m : Ms} {d : List D} {Q : VK} (r : Rep G H σ (begin0 k ds)) (e : runO n k m ds = some d) (q : AnsF G H d Q) : RS m { nx := fun _ H' => Q .non H', rt := Q } σ H := by
  unfold runO at e
  split at e
  · split at e
    · rename_i x ρ' hm
      cases e
      refine ⟨G, _, _, r, hm, fun G' H' σ' a xs t n ha hg hx => q G' H' a xs ⟨t.go.gg, t.go.le, fun a o h _ w => t.go.off a o h (fun ⟨i, l, es, z, _⟩ => begin_noown z) w, fun a o h g _ w => t.go.new a o h g fun ⟨i, l, es, z, _⟩ => begin_noown z, t.go.dom⟩ ?_ ha hg hx⟩
      rcases n with n | ⟨i, es, z, _⟩
      · exact n
      · exact (begin_noown z).elim
    · cases e
  · cases e
theorem fin_B {G H : Hp} {σ : L2.St} {b : Addr} {bs ds bs' : List D} {n k : Nat} {m : Ms} {d : D} {Q : VK} (r : Rep G H σ (beginB k bs ds)) (h0 : σ[0]? = some (some (.ref b))) (e : runB n k m bs ds = some (d, bs'))
    (q : ∀ G' H' v xs', Go G H G' H' (· = b) → H' b = some (.lst xs') → G' b = none → DdA G' xs' bs' → Dd G' v d → Q v H') : RS m { nx := fun _ H' => Q .non H', rt := Q } σ H := by
  unfold runB at e
  split at e
  · have fpb : ∀ a, Fp σ (beginB k bs ds) a → a = b := fun a ⟨i, l, es, z, z2⟩ => by
      cases i with
      | zero =>
        rw [h0] at z2
        cases z2
        rfl
      | succ i => exact (begin_noown (show (begin0 k ds)[i]? = _ from z)).elim
    have ex : ∀ {G' H' σ' ρ'}, TrS G H σ (beginB k bs ds) G' H' σ' ρ' → Go G H G' H' (· = b) := fun t =>
      ⟨t.go.gg, t.go.le, fun a o h n w => t.go.off a o h (fun z => n (fpb a z)) w, fun a o h g n w => t.go.new a o h g fun z => n (fpb a z), t.go.dom⟩
    have fin : ∀ {G' H' σ' ρ' l es}, TrS G H σ (beginB k bs ds) G' H' σ' ρ' → ρ'[0]? = some (.own l es) → ∃ xs', H' b = some (.lst xs') ∧ G' b = none ∧ DdA G' xs' es := fun {G' H' σ' ρ' l es} t z => by
      obtain ⟨h1, _⟩ := t.lent (i := 0) (ds := bs) rfl
      obtain ⟨a, xs', z1, z2, z3, z4⟩ := t.rep.own z
      rw [h1, h0] at z1
      cases z1
      exact ⟨xs', z2, z3, z4⟩
    split at e
    · rename_i x ρ' hm
      split at e
      · rename_i l es hz
        cases e
        refine ⟨G, _, _, r, hm, fun G' H' σ' v t hv => ?_⟩
        obtain ⟨xs', z1, z2, z3⟩ := fin t hz
        exact q G' H' v xs' (ex t) z1 z2 z3 hv
      · cases e
    · rename_i ρ' hm
      split at e
      · rename_i l es hz
        cases e
        refine ⟨G, _, _, r, hm, fun G' H' σ' t => ?_⟩
        obtain ⟨xs', z1, z2, z3⟩ := fin t hz
        exact q G' H' .non xs' (ex t) z1 z2 z3 .non
      · cases e
    · cases e
  · cases e
section
variable {P : Program} {w : World} {K : PySem.W.Frag} {mg : Str → Option Value} {base : Heap} {x qual : Str} {st : Stmt} {f : Addr} {fd : FuncData} {N ps : List Str} {k : Nat} {m : Ms}
theorem runP_len {n k : Nat} {m : Ms} {ds : List D} {d : D} (h : runP n k m ds = some d) : ds.length = n := by
  unfold runP at h
  split at h
  · assumption
  · cases h
theorem runO_len {n k : Nat} {m : Ms} {ds : List D} {d : List D} (h : runO n k m ds = some d) : ds.length = n := by
  unfold runO at h
  split at h
  · assumption
  · cases h
theorem runB_len {n k : Nat} {m : Ms} {bs ds : List D} {d : D × List D} (h : runB n k m bs ds = some d) : ds.length = n := by
  unfold runB at h
  split at h
  · assumption
  · cases h
abbrev Body (P : Program) (w : World) (K : PySem.W.Frag) (mg : Str → Option Value) (base : Heap) (N : List Str) (qual : Str) (st : Stmt) (f : Addr) (k : Nat) (m : Ms) : Prop := ∀ (cdv : Value) (A : Around) (outer : List Env) (s : Shared) (H : Hp) (E : XK), Room k (A.deeper (envOfC qual (defScope st) s.heap.objs.size f cdv)) →
  PSs (cxOf CX0 P w K mg base N qual (defScope st) f cdv A outer s H E).nox (defBody st) (RS m)
abbrev BodyG (P : Program) (w : World) (K : PySem.W.Frag) (mg : Str → Option Value) (base : Heap) (N : List Str) (qual : Str) (st : Stmt) (f : Addr) (k : Nat) (m : Ms) : Prop := ∀ (cdv : Value) (A : Around) (outer : List Env) (s : Shared) (H : Hp) (E : XK), A.guards = some [] → Room k (A.deeper (envOfC qual (defScope st) s.heap.objs.size f cdv)) →
  PSs (cxOf CX0 P w K mg base N qual (defScope st) f cdv A outer s H E).nox (defBody st) (RS m)
theorem fnP (F : Fun K x qual st f fd) (S : FnScope N ps (defScope st)) {n u : Nat} (hn : ps.length = n) (hN : N.length = n + u) (hb : Body P w K mg base N qual st f k m) : FnOk P w K mg base CX0 (k + 1) f fd ps (SpP (runP n u m)) := by
  refine F.ok S (fun vs H Q E ⟨G, ds, d, _, hv, e, _⟩ => by rw [dda_len hv, runP_len e, hn]) fun cdv A outer s H vs Q E hr ⟨G, ds, d, le, hv, e, q⟩ => ?_
  exact ⟨_, hb cdv A outer s H E hr, fin_P (rep_begin le hv (by rw [runP_len e]; exact hN)) e q⟩
theorem fnO (F : Fun K x qual st f fd) (S : FnScope N ps (defScope st)) {n u : Nat} (hn : ps.length = n) (hN : N.length = n + u) (hb : Body P w K mg base N qual st f k m) : FnOk P w K mg base CX0 (k + 1) f fd ps (SpO (runO n u m)) := by
  refine F.ok S (fun vs H Q E ⟨G, ds, d, _, hv, e, _⟩ => by rw [dda_len hv, runO_len e, hn]) fun cdv A outer s H vs Q E hr ⟨G, ds, d, le, hv, e, q⟩ => ?_
  exact ⟨_, hb cdv A outer s H E hr, fin_O (rep_begin le hv (by rw [runO_len e]; exact hN)) e q⟩
theorem fnB (F : Fun K x qual st f fd) (S : FnScope N ps (defScope st)) {n u : Nat} (hn : ps.length = n + 1) (hN : N.length = n + 1 + u) (hb : Body P w K mg base N qual st f k m) : FnOk P w K mg base CX0 (k + 1) f fd ps (SpB (runB n u m)) := by
  refine F.ok S (fun vs H Q E ⟨G, b, xs, bs, ws, ds, d, bs', ev, _, _, _, _, hv, e, _⟩ => by rw [ev, List.length_cons, dda_len hv, runB_len e, hn]) fun cdv A outer s H vs Q E hr ⟨G, b, xs, bs, ws, ds, d, bs', ev, le, hb1, hg, hx, hv, e, q⟩ => ?_
  subst ev
  exact ⟨_, hb cdv A outer s H E hr, fin_B (rep_beginB le hb1 hg hx hv (by rw [runB_len e]; exact hN)) (start_get rfl) e q⟩
theorem fnGB (F : Fun K x qual st f fd) (S : FnScope N ps (defScope st)) {n u : Nat} (hn : ps.length = n + 1) (hN : N.length = n + 1 + u) (hb : BodyG P w K mg base N qual st f k m) : FnG P w K mg base CX0 (k + 1) f fd ps (SpB (runB n u m)) := by
  refine okG F S (fun vs H Q E ⟨G, b, xs, bs, ws, ds, d, bs', ev, _, _, _, _, hv, e, _⟩ => by rw [ev, List.length_cons, dda_len hv, runB_len e, hn]) fun cdv A outer s H vs Q E hgd hr ⟨G, b, xs, bs, ws, ds, d, bs', ev, le, hb1, hg, hx, hv, e, q⟩ => ?_
  subst ev
  exact ⟨_, hb cdv A outer s H E hgd hr, fin_B (rep_beginB le hb1 hg hx hv (by rw [runB_len e]; exact hN)) (start_get rfl) e q⟩
end
/-! calls of defs -/
section
variable {X : Cx} {k : Nat} {f : Addr} {fd : FuncData} {ps : List Str} {x : Str} {p pos : Pos} {e : Expr} {es : List Expr} {m : Ma}
theorem qe_call {F : List D → Option D} (Fn : FnOk X.prog X.w X.K X.mg X.base CX0 k f fd ps (SpP F)) (hr : Room k X.A) (hg : Gl X x) (hm : X.mg x = some (.ref f)) (hk : PySem.W.keepIn X.K (.ref f) = true) (hb : Binds X.K fd ps [])
    (ha : PA X (e :: es) (RA m)) (hdb : (x == ("__debug__" : Str)) = false := by decide) (he : starEach (e :: es) X.env = (false, eval e X.env) :: starEach es X.env := by rfl) (hpl : (backTo pos (starEach es X.env)).any (·.1) = false := by rfl) :
    PE X (.Call (.Name x p) (e :: es) [] pos) (R (mCall F m)) := by
  refine imp (pe_call Fn hr hg hm hk hb .nil pass0 ha hdb he hpl) fun σ H Q ⟨G, ρ, d, ρ', rp, e, k⟩ => ?_
  obtain ⟨ds, e1, e2⟩ := mCall_inv e
  refine ⟨G, ρ, ds, ρ', rp, e1, fun G1 H1 vs t hv => ?_⟩
  show SpP F (vs ++ []) H1 Q E0
  rw [List.append_nil]
  exact ⟨G1, ds, d, t.rep.le, hv, e2, fun G2 H2 v ex hv2 => k G2 H2 v (t.trans (Tr.ext t.rep ex)) hv2⟩
theorem qf_call {F : List D → Option (List D)} (Fn : FnOk X.prog X.w X.K X.mg X.base CX0 k f fd ps (SpO F)) (hr : Room k X.A) (hg : Gl X x) (hm : X.mg x = some (.ref f)) (hk : PySem.W.keepIn X.K (.ref f) = true) (hb : Binds X.K fd ps [])
    (ha : PA X (e :: es) (RA m)) (hdb : (x == ("__debug__" : Str)) = false := by decide) (he : starEach (e :: es) X.env = (false, eval e X.env) :: starEach es X.env := by rfl) (hpl : (backTo pos (starEach es X.env)).any (·.1) = false := by rfl) :
    PE X (.Call (.Name x p) (e :: es) [] pos) (RF (mCall F m)) := by
  refine imp (pe_call Fn hr hg hm hk hb .nil pass0 ha hdb he hpl) fun σ H Q ⟨G, ρ, d, ρ', rp, e, k⟩ => ?_
  obtain ⟨ds, e1, e2⟩ := mCall_inv e
  refine ⟨G, ρ, ds, ρ', rp, e1, fun G1 H1 vs t hv => ?_⟩
  show SpO F (vs ++ []) H1 Q E0
  rw [List.append_nil]
  exact ⟨G1, ds, d, t.rep.le, hv, e2, AnsF.tr t (fun a n => t.back rp n) k⟩
/-- .. handed a slot's own list first -/
def mCallB (i : Nat) (F : List D → List D → Option (D × List D)) (m : Ma) : Me := mMeth i F m
theorem callB_of {i : Nat} {F : List D → List D → Option (D × List D)} (σ : L2.St) (H : Hp) (Q : VK) (h : R (mCallB i F m) σ H Q) : tCall (SpB F) [] E0 (tCons (tVar i) (RA m)) σ H Q := by
  obtain ⟨G, ρ, d, ρ', rp, e, k⟩ := h
  obtain ⟨as, ρ1, l, ds, ds', e1, hd, e2, rfl, l0, ds0, h0⟩ := mMeth_inv e
  obtain ⟨a, xs, h1, h2, _⟩ := rp.own h0
  refine ⟨_, h1, G, ρ, as, ρ1, rp, e1, fun G1 H1 vs t hv => ?_⟩
  show SpB F (_ :: vs ++ []) H1 Q E0
  rw [List.append_nil]
  obtain ⟨a', xs1, h3, h4, h5, h6⟩ := t.rep.own hd
  rw [h1] at h3
  cases h3
  refine ⟨G1, a, xs1, ds, vs, as, d, ds', rfl, t.rep.le, h4, h5, h6, hv, e2, fun G2 H2 v xs2 g ha hg hx hv2 => k G2 H2 v (t.trans ?_) hv2⟩
  have hi : i < ρ1.length := (List.getElem?_eq_some_iff.mp hd).1
  have inFp : Fp σ ρ1 a := ⟨i, l, ds, hd, h1⟩
  refine ⟨⟨g.gg, g.le, fun c o hc n w => g.off c o hc (fun z => n (by rw [z]; exact inFp)) w, fun c o hc gc n w => g.new c o hc gc fun z => n (by rw [z]; exact inFp), g.dom⟩, ⟨g.le, by rw [List.length_set]; exact t.rep.len, fun {j y} hj => ?_, fun {j l' es} hj => ?_, fun {j n l1 l2 es es' b} g1 g2 g3 g4 => ?_⟩, by rw [List.length_set], fun j => ?_⟩
  · by_cases hji : j = i
    · subst hji
      rw [List.getElem?_set_self hi] at hj
      cases hj
    · rw [List.getElem?_set_ne (Ne.symm hji)] at hj
      obtain ⟨v, z1, z2⟩ := t.rep.val hj
      exact ⟨v, z1, dd_same g.gg z2⟩
  · by_cases hji : j = i
    · subst hji
      rw [List.getElem?_set_self hi] at hj
      cases hj
      exact ⟨a, xs2, h1, ha, hg, hx⟩
    · rw [List.getElem?_set_ne (Ne.symm hji)] at hj
      obtain ⟨b, ys, z1, z2, z3, z4⟩ := t.rep.own hj
      have ne : ¬ b = a := fun e => hji (t.rep.inj hj hd (by rw [← e]; exact z1) h1)
      exact ⟨b, ys, z1, g.off _ _ z2 ne, g.new _ _ z2 z3 ne, dda_same g.gg z4⟩
  · have back : ∀ {j : Nat} {l1 : Bool} {es : List D}, (ρ1.set i (.own l ds'))[j]? = some (.own l1 es) → ∃ l2 es', ρ1[j]? = some (.own l2 es') := fun {j l1 es} g => by
      by_cases hji : j = i
      · subst hji
        exact ⟨l, ds, hd⟩
      · rw [List.getElem?_set_ne (Ne.symm hji)] at g
        exact ⟨_, _, g⟩
    obtain ⟨_, _, g1'⟩ := back g1
    obtain ⟨_, _, g2'⟩ := back g2
    exact t.rep.inj g1' g2' g3 g4
  · by_cases hji : j = i
    · subst hji
      exact .inr ⟨l, ds, ds', hd, List.getElem?_set_self hi⟩
    · exact .inl (List.getElem?_set_ne (Ne.symm hji))
theorem qe_callB {i : Nat} {y : Str} {py : Pos} {F : List D → List D → Option (D × List D)} (Fn : FnOk X.prog X.w X.K X.mg X.base CX0 k f fd ps (SpB F)) (hr : Room k X.A) (hg : Gl X x) (hm : X.mg x = some (.ref f)) (hk : PySem.W.keepIn X.K (.ref f) = true) (hb : Binds X.K fd ps [])
    (ho : PE X (.Name y py) (tVar i)) (ha : PA X es (RA m)) (hs : starEach (.Name y py :: es) X.env = (false, eval (.Name y py) X.env) :: starEach es X.env := by rfl) (hdb : (x == ("__debug__" : Str)) = false := by decide) (hpl : (backTo pos (starEach es X.env)).any (·.1) = false := by rfl) :
    PE X (.Call (.Name x p) (.Name y py :: es) [] pos) (R (mCallB i F m)) := imp (pe_call Fn hr hg hm hk hb .nil pass0 (pa_cons ho ha hs) hdb hs hpl) callB_of
theorem qe_callGB {i : Nat} {y : Str} {py : Pos} {F : List D → List D → Option (D × List D)} (hgd : X.A.guards = some []) (Fn : FnG X.prog X.w X.K X.mg X.base CX0 k f fd ps (SpB F)) (hr : Room k X.A) (hg : Gl X x) (hm : X.mg x = some (.ref f)) (hk : PySem.W.keepIn X.K (.ref f) = true) (hb : Binds X.K fd ps [])
    (ho : PE X (.Name y py) (tVar i)) (ha : PA X es (RA m)) (hs : starEach (.Name y py :: es) X.env = (false, eval (.Name y py) X.env) :: starEach es X.env := by rfl) (hdb : (x == ("__debug__" : Str)) = false := by decide) (hpl : (backTo pos (starEach es X.env)).any (·.1) = false := by rfl) :
    PE X (.Call (.Name x p) (.Name y py :: es) [] pos) (R (mCallB i F m)) := imp (pe_callG hgd Fn hr hg hm hk hb pass0 (pa_cons ho ha hs) hdb hs hpl) callB_of
end
end Pl
namespace Kn
open PySem PySem.Spec PyProof.Rows L2
/-! zip of two texts -/
def ItzS (x y : Str) : It :=
  ⟨fun i _ => i < min x.cps.size y.cps.size, fun i H v H' => ∃ T c d, v = .ref T ∧ H T = none ∧ H' = upd H T (.tup [.str ⟨#[c]⟩, .str ⟨#[d]⟩]) ∧ x.cps[i]? = some c ∧ y.cps[i]? = some d, fun i _ => i = min x.cps.size y.cps.size⟩
theorem turn_zS {P : Program} {w : World} {K : PySem.W.Frag} {elts : List Expr} {kk : Nat} {tpos : Pos} {z TI TO i1 i2 : Addr} {x y : Str} {t u : Tok} (D : ZipSep2 z TI TO i1 i2 [i1] [i2]) :
    Turn P w K (.Tuple elts kk tpos) (ItzS x y) [z, TI, TO, i1, i2] z (fun i h => IsZip h z TI TO .none ∧ IsTupOf2 h TI (.ref i1) (.ref i2) ∧ (∃ a b, IsTupOf2 h TO a b) ∧ h.IsStrIter i1 (strIterType x) x t i ∧ h.IsStrIter i2 (strIterType y) y u i) where
  mem := by simp
  obj := fun i h st c hc => by
    obtain ⟨hz, hTI, ⟨a, b, hTO⟩, ⟨o1, e1, _, d1⟩, ⟨o2, e2, _, d2⟩⟩ := st
    rcases (show c = z ∨ c = TI ∨ c = TO ∨ c = i1 ∨ c = i2 by simpa using hc) with q | q | q | q | q
    · rw [q]; exact ⟨_, hz, fun v q => nomatch q⟩
    · rw [q]; exact ⟨_, hTI, fun v q => nomatch q⟩
    · rw [q]; exact ⟨_, hTO, fun v q => nomatch q⟩
    · rw [q]; exact ⟨o1, e1, fun v q => by rw [d1] at q; cases q⟩
    · rw [q]; exact ⟨o2, e2, fun v q => by rw [d2] at q; cases q⟩
  keep := fun i h h' st k => by
    obtain ⟨hz, hTI, ⟨a, b, hTO⟩, ⟨o1, e1, r1⟩, ⟨o2, e2, r2⟩⟩ := st
    exact ⟨k z (by simp) _ hz, k TI (by simp) _ hTI, ⟨a, b, k TO (by simp) _ hTO⟩, ⟨o1, k i1 (by simp) _ e1, r1⟩, ⟨o2, k i2 (by simp) _ e2, r2⟩⟩
  item := by
    intro X hP hw hK hc i pins s σ H E I hf st hg
    subst hP hw hK
    have hh : X.A.handled = none := I.ok.hd hc
    have W := WalksT.zipD2 (prog := X.prog) (w := X.w) (A := X.A) D (Draws.text (A := X.A.in1) hh i1 x t) (Draws.text (A := X.A.in1) hh i2 y u)
    refine W.item i s _ _ hg st fun T vals h' tk hv hT hTv hMid hk => ?_
    obtain ⟨x1, x2, ⟨c, tc, hc1, e1⟩, ⟨d, td, hd1, e2⟩, ev⟩ := hv
    subst ev e1 e2
    refine ⟨_, rfl, W.go elts kk tpos i T { s with heap := h', toks := tk } _ _ hMid fun h'' st'' hk'' => ?_⟩
    have hTw := W.apart i T h' hMid
    obtain ⟨oT, hoT, hcT, nT, hdT⟩ := id hTv
    have hT2 := hk'' T oT hTw hoT
    have fresh : H T = none := I.hok.fresh hT
    have new : ObjOk X.prog X.w (upd H T (.tup [.str ⟨#[c]⟩, .str ⟨#[d]⟩])) h'' T (.tup [.str ⟨#[c]⟩, .str ⟨#[d]⟩]) :=
      ⟨by show 2 ≤ sizeLine; decide, [.str ⟨#[c]⟩ tc, .str ⟨#[d]⟩ td], .cons ⟨_, rfl⟩ (.cons ⟨_, rfl⟩ .nil), ⟨oT, hT2, hcT, nT, hdT⟩⟩
    have I1 : Inv X pins σ (upd H T (.tup [.str ⟨#[c]⟩, .str ⟨#[d]⟩])) { s with heap := h'', toks := tk } :=
      I.turnedNew (ch := [z, TI, TO, i1, i2]) (fun b ob hb q => by
        have hbw : b ∉ [z, TO, i1, i2] := fun hm => hb (by
          simp only [List.mem_cons, List.not_mem_nil, or_false] at hm ⊢
          rcases hm with h | h | h | h
          · exact .inl h
          · exact .inr (.inr (.inl h))
          · exact .inr (.inr (.inr (.inl h)))
          · exact .inr (.inr (.inr (.inr h))))
        exact hk'' b ob hbw (hk b ob hbw q)) hf hT new
    refine ⟨.ref T, _, I1, rfl, ⟨T, c, d, rfl, fresh, rfl, hc1, hd1⟩, st'', fun b hb => ?_⟩
    have hbT : b ≠ T := fun e => by
      have hfb := hf b hb
      have hlt : b < s.heap.objs.size := by
        obtain ⟨hz, hTI, ⟨_, _, hTO⟩, ⟨o1, e1, _⟩, ⟨o2, e2, _⟩⟩ := st
        rcases (show b = z ∨ b = TI ∨ b = TO ∨ b = i1 ∨ b = i2 by simpa using hb) with q | q | q | q | q
        · rw [q]; exact Heap.lt_size hz
        · rw [q]; exact Heap.lt_size hTI
        · rw [q]; exact Heap.lt_size hTO
        · rw [q]; exact Heap.lt_size e1
        · rw [q]; exact Heap.lt_size e2
      rw [e] at hlt
      exact absurd hlt (Nat.not_lt.mpr hT)
    rw [upd_ne hbT]
    exact (hf b hb).1
  done := by
    intro X hP hw hK hc i pins s σ H E I hf st hg
    subst hP hw hK
    have hh : X.A.handled = none := I.ok.hd hc
    have W := WalksT.zipD2 (prog := X.prog) (w := X.w) (A := X.A) D (Draws.text (A := X.A.in1) hh i1 x t) (Draws.text (A := X.A.in1) hh i2 y u)
    obtain rfl : i = min x.cps.size y.cps.size := hg
    refine W.done s _ _ st fun h' tk hk => ⟨rfl, ?_⟩
    exact I.turnedL (ch := [z, TI, TO, i1, i2]) (fun b ob hb q => hk b ob (fun hm => hb (by
          simp only [List.mem_cons, List.not_mem_nil, or_false] at hm ⊢
          rcases hm with h | h | h | h
          · exact .inl h
          · exact .inr (.inr (.inl h))
          · exact .inr (.inr (.inr (.inl h)))
          · exact .inr (.inr (.inr (.inr h))))) q) hf
  self := fun A i s Q E st h => wpAny_pyIter_zip st.1 h
end Kn
namespace Kn
open PySem PySem.Spec PyProof.Rows L2
def iZipS (ta : TA) : TI := fun σ H R => ta σ H fun vs H1 => ∃ x y : Str, vs = [.str x, .str y] ∧ R (ItzS x y) H1
theorem pi_zipS {X : Cx} {e e2 : Expr} {ta : TA} {p pos tpos : Pos} {elts : List Expr} {kk : Nat} (hg : Gl X "zip") (hm : X.mg "zip" = none) (ha : PA X [e, e2] ta)
    (hs : starEach [e, e2] X.env = (false, eval e X.env) :: starEach [e2] X.env := by rfl) (hpl : (backTo pos (starEach [e2] X.env)).any (·.1) = false := by rfl) :
    PI X (.Tuple elts kk tpos) (.Call (.Name "zip" p) [e, e2] [] pos) (iZipS ta) := by
  refine ⟨fun pins s σ H R I h => ?_⟩
  refine Call_ (ld_blt I hg hm PyProof.Rows.boot_zip (PyProof.Rows.callWith_type1 (thn (ha.run pos pins s σ H _ I h) fun us s1 ⟨vs, H1, I1, r1, q1⟩ => ?_) hs hpl))
  obtain ⟨x, y, ex, q⟩ := q1
  subst ex
  cases r1 with
  | cons r rr =>
    cases rr with
    | cons r' rr =>
      cases rr
      obtain ⟨t, rfl⟩ := r
      obtain ⟨u, rfl⟩ := r'
      have fresh5 : ∀ c, c ∈ [s1.heap.objs.size + 4, s1.heap.objs.size + 2, s1.heap.objs.size + 3, s1.heap.objs.size, s1.heap.objs.size + 1] → FpOk X pins H1 c := fun c hcm => by
        have e' : c = s1.heap.objs.size + 4 ∨ c = s1.heap.objs.size + 2 ∨ c = s1.heap.objs.size + 3 ∨ c = s1.heap.objs.size ∨ c = s1.heap.objs.size + 1 := by simpa using hcm
        have hle : s1.heap.objs.size ≤ c := by
          rcases e' with z | z | z | z | z
          · rw [z]; exact Nat.le_add_right _ _
          · rw [z]; exact Nat.le_add_right _ _
          · rw [z]; exact Nat.le_add_right _ _
          · rw [z]; exact Nat.le_refl _
          · rw [z]; exact Nat.le_add_right _ _
        exact I1.fpOk hle (I1.hok.fresh hle)
      refine zip_begins2 (begins_text x t) (begins_text y u) trivial trivial fun h' hz hTI hTO h1 h2 hsz hk => wpAny_pyIter_zip hz ?_
      have I2 : Inv X pins σ H1 { s1 with heap := h' } := I1.kept (t' := s1.toks) hk
      exact ⟨s1.heap.objs.size + 4, [s1.heap.objs.size + 4, s1.heap.objs.size + 2, s1.heap.objs.size + 3, s1.heap.objs.size, s1.heap.objs.size + 1], _, _, H1, rfl, I2, turn_zS (t := t) (u := u) (zip_sep2 (fp1 := []) (fp2 := []) (fun _ h => nomatch h) (fun _ h => nomatch h)), ⟨hz, hTI, ⟨_, _, hTO⟩, ⟨_, h1, rfl, rfl⟩, ⟨_, h2, rfl, rfl⟩⟩, fresh5, q⟩
theorem walk_zS {x y : Str} {n : Nat} (hn : n = min x.cps.size y.cps.size) : Walk (ItzS x y) n (fun _ => True) (YPair (fun i => x.cps[i]?.map fun c => V.str ⟨#[c]⟩) (fun i => y.cps[i]?.map fun c => V.str ⟨#[c]⟩)) :=
  ⟨fun i H hi _ => (show i < min x.cps.size y.cps.size by omega), fun H _ => hn, fun i H v H' hi _ h => by
    obtain ⟨T, c, d, e1, e2, e3, e4, e5⟩ := h
    exact ⟨T, _, _, e1, e2, e3, by show Option.map _ x.cps[i]? = _; rw [e4]; rfl, by show Option.map _ y.cps[i]? = _; rw [e5]; rfl⟩⟩
section
variable {X : Cx}
def rMulS : R2 := fun x y H Q => ∃ (z : Str) (n : Nat), x = .str z ∧ y = .int (n : Int) ∧ 2 ≤ n ∧ n ≤ 1000 ∧ 1 ≤ z.length ∧ z.length ≤ 1000 ∧ (Str.mk ((List.replicate n z.cps).foldl (· ++ ·) #[])).length ≤ sizeLine ∧ Q (.str ⟨(List.replicate n z.cps).foldl (· ++ ·) #[]⟩) H
theorem op_mulS : OpR X (binaryOp .Mult) rMulS := by
  intro pins s σ H x y v u Q I rx ry h
  obtain ⟨z, n, rfl, rfl, h2, hn, hz1, hz, hl, q⟩ := h
  obtain ⟨t, rfl⟩ := rx
  obtain ⟨t', rfl⟩ := ry
  have hm : z.length * n ≤ 1000 * 1000 := Nat.mul_le_mul hz hn
  refine PySem.P.mul_str ?_ (fun _ _ h => ?_) (fun _ _ => ?_) ?_
  · rw [decide_eq_false (by omega), decide_eq_false (by omega)]; rfl
  · have h3 : (2 ^ 63 - 1 : Int) / 1000 ≤ (2 ^ 63 - 1) / (n : Int) := by
      rw [Int.le_ediv_iff_mul_le (by omega)]
      have : (2 ^ 63 - 1 : Int) / 1000 * (n : Int) ≤ (2 ^ 63 - 1 : Int) / 1000 * 1000 := Int.mul_le_mul_of_nonneg_left (by omega) (by decide)
      omega
    omega
  · rw [Int.toNat_natCast]
    exact decide_eq_false (Nat.not_lt.mpr (Nat.le_trans hm (by decide)))
  · rw [if_neg (by omega : ¬ ((n : Int) < 1)), if_neg (by
      intro e
      rcases Bool.or_eq_true_iff.mp e with e | e
      · have := of_decide_eq_true (show decide ((n : Int) = 1) = true from e); omega
      · have : z.length = 0 := eq_of_beq e
        omega)]
    rw [Int.toNat_natCast]
    exact ⟨hl, .str _, H, I.kept (t' := _) fun _ _ z => z, ⟨_, rfl⟩, q⟩
/-! repr of any data -/
theorem cr_reprA (hg : X.A.guards = some []) (hu : X.A.units + 64 < cLine) : CallR X (.builtin "repr") (fun vs H Q => ∃ (x : V) (d : PyData), vs = [x] ∧ Dp X.K H x d ∧ Gd 50 100000 d ∧ Q (.str d.shown) H) := by
  intro pins s σ H vs us Q I r h
  obtain ⟨x, d, rfl, hd, hG, q⟩ := h
  have hs : d.shown.length ≤ sizeLine := by
    have := shown_le d hG.2.1
    have := hG.2.2
    exact Nat.le_trans (by omega : d.shown.length ≤ 1600000) (by decide)
  have hsh := nic_show d hG.2.1 hG.2.2
  cases d with
  | dict kvs => cases hd
  | none =>
    cases hd
    obtain ⟨u, rfl, ru⟩ := vals1 r
    cases ru
    exact PySem.P.repr_of_none ⟨.str _, H, I.kept (t' := _) fun _ _ z => z, ⟨_, rfl⟩, q⟩
  | bool b =>
    cases hd
    obtain ⟨u, rfl, ru⟩ := vals1 r
    cases ru
    refine PySem.P.repr_of_bool ⟨.str _, H, I.kept (t' := _) fun _ _ z => z, ⟨_, rfl⟩, ?_⟩
    cases b <;> exact q
  | int i =>
    cases hd
    obtain ⟨u, rfl, ru⟩ := vals1 r
    obtain ⟨t, rfl⟩ := ru
    exact PySem.P.repr_of_int (of_decide_eq_true hsh) ⟨.str _, H, I.kept (t' := _) fun _ _ z => z, ⟨_, rfl⟩, q⟩
  | str z =>
    cases hd
    obtain ⟨u, rfl, ru⟩ := vals1 r
    obtain ⟨t, rfl⟩ := ru
    exact PySem.P.repr_of_str ⟨.str _, H, I.kept (t' := _) fun _ _ z => z, ⟨_, rfl⟩, q⟩ hs
  | list ds => exact cr_repr hg hu pins s σ H _ us Q I r ⟨_, _, rfl, hd, rfl, hsh, nic_noDict _ hG.2.1, Nat.le_trans hG.1 (by decide), hs, q⟩
  | tuple ds => exact cr_repr hg hu pins s σ H _ us Q I r ⟨_, _, rfl, hd, rfl, hsh, nic_noDict _ hG.2.1, Nat.le_trans hG.1 (by decide), hs, q⟩
end
end Kn
namespace Pl
open PySem PySem.Spec PyProof.Rows L2 Kn
variable [Tbs]
section
variable {X : Cx}
/-! built-ins -/
theorem one_inv {G : Hp} {vs : List V} {a : D} (h : DdA G vs [a]) : ∃ v, vs = [v] ∧ Dd G v a := by
  cases h with
  | cons h1 h2 =>
    cases h2
    exact ⟨_, rfl, h1⟩
theorem two_inv {G : Hp} {vs : List V} {a b : D} (h : DdA G vs [a, b]) : ∃ v w, vs = [v, w] ∧ Dd G v a ∧ Dd G w b := by
  cases h with
  | cons h1 h2 =>
    obtain ⟨w, rfl, h3⟩ := one_inv h2
    exact ⟨_, _, rfl, h1, h3⟩
def lenD : List D → Option D
  | [.lst l] => some (.int l.length)
  | [.tup _ l] => some (.int l.length)
  | [.str z] => if z.length ≤ 100000 then some (.int z.length) else none
  | _ => none
theorem c_len : CallR X (.builtin "len") (fun xs H Q => (∃ p ys, xs = [.ref p] ∧ (SqL X.K H p ys ∨ SqT X.K H p ys) ∧ Q (.int ys.length) H) ∨ ∃ z, xs = [.str z] ∧ z.length ≤ sizeLine ∧ Q (.int z.length) H) ∧ CallD (fun xs H Q => (∃ p ys, xs = [.ref p] ∧ (SqL X.K H p ys ∨ SqT X.K H p ys) ∧ Q (.int ys.length) H) ∨ ∃ z, xs = [.str z] ∧ z.length ≤ sizeLine ∧ Q (.int z.length) H) lenD := by
  refine ⟨call_len_seq.or call_len_str, fun G H vs ds d Q le hv e k => ?_⟩
  unfold lenD at e
  split at e
  · cases e
    obtain ⟨v, rfl, h⟩ := one_inv hv
    cases h with
    | lst h1 h2 => exact .inl ⟨_, _, rfl, .inl (sq_l (le _ _ h1)), by rw [dda_len h2]; exact k.sc le (.int _)⟩
  · cases e
    obtain ⟨v, rfl, h⟩ := one_inv hv
    obtain ⟨a, xs, rfl, h2, z⟩ := tup_cases X.K h
    exact .inl ⟨_, _, rfl, .inr (z H le), by rw [dda_len h2]; exact k.sc le (.int _)⟩
  · obtain ⟨hl, rfl⟩ := some_if e
    obtain ⟨v, rfl, h⟩ := one_inv hv
    cases h
    exact .inr ⟨_, rfl, sz5 hl, k.sc le (.int _)⟩
  · cases e
def absD : List D → Option D
  | [.int i] => some (.int (if i < 0 then -i else i))
  | _ => none
theorem c_abs : CallR X (.builtin "abs") (fun xs H Q => ∃ i, xs = [.int i] ∧ Q (.int (if i < 0 then -i else i)) H) ∧ CallD (fun xs H Q => ∃ i, xs = [.int i] ∧ Q (.int (if i < 0 then -i else i)) H) absD := by
  refine ⟨call_abs, fun G H vs ds d Q le hv e k => ?_⟩
  unfold absD at e
  split at e
  · cases e
    obtain ⟨v, rfl, h⟩ := one_inv hv
    cases h
    exact ⟨_, rfl, k.sc le (.int _)⟩
  · cases e
def int1D : List D → Option D
  | [.int i] => some (.int i)
  | [.bl b] => some (.int (if b then 1 else 0))
  | _ => none
theorem c_int : CallR X (.type "int") (fun xs H Q => (∃ i, xs = [.int i] ∧ Q (.int i) H) ∨ ∃ k, xs = [.bl k] ∧ Q (.int (if k then 1 else 0)) H) ∧ CallD (fun xs H Q => (∃ i, xs = [.int i] ∧ Q (.int i) H) ∨ ∃ k, xs = [.bl k] ∧ Q (.int (if k then 1 else 0)) H) int1D := by
  refine ⟨call_int1, fun G H vs ds d Q le hv e k => ?_⟩
  unfold int1D at e
  split at e
  · cases e
    obtain ⟨v, rfl, h⟩ := one_inv hv
    cases h
    exact .inl ⟨_, rfl, k.sc le (.int _)⟩
  · cases e
    obtain ⟨v, rfl, h⟩ := one_inv hv
    cases h
    exact .inr ⟨_, rfl, k.sc le (.int _)⟩
  · cases e
def i2D (f : Int → Int → Int) : List D → Option D
  | [.int i, .int j] => some (.int (f i j))
  | _ => none
theorem c_i2 {f : Int → Int → Int} : CallD (fun xs H Q => ∃ i j, xs = [.int i, .int j] ∧ Q (.int (f i j)) H) (i2D f) := by
  intro G H vs ds d Q le hv e k
  unfold i2D at e
  split at e
  · cases e
    obtain ⟨v, w, rfl, h1, h2⟩ := two_inv hv
    cases h1; cases h2
    exact ⟨_, _, rfl, k.sc le (.int _)⟩
  · cases e
theorem c_max (hc : X.calm = true) : CallR X (.builtin "max") (fun xs H Q => ∃ i j, xs = [.int i, .int j] ∧ Q (.int (if j > i then j else i)) H) ∧ CallD (fun xs H Q => ∃ i j, xs = [.int i, .int j] ∧ Q (.int (if j > i then j else i)) H) (i2D fun i j => if j > i then j else i) := ⟨call_max2 hc, c_i2⟩
theorem c_min (hc : X.calm = true) : CallR X (.builtin "min") (fun xs H Q => ∃ i j, xs = [.int i, .int j] ∧ Q (.int (if j < i then j else i)) H) ∧ CallD (fun xs H Q => ∃ i j, xs = [.int i, .int j] ∧ Q (.int (if j < i then j else i)) H) (i2D fun i j => if j < i then j else i) := ⟨call_min2 hc, c_i2⟩
/-- tuple(..) of a list, of a tuple -/
def tupleD : List D → Option D
  | [.lst l] => some (.tup false l)
  | [.tup false l] => some (.tup false l)
  | _ => none
def rTupleD (K : PySem.W.Frag) : List V → Hp → VK → Prop := fun xs H Q => (∃ p ys, xs = [.ref p] ∧ SqL K H p ys ∧ ∀ l o, H l = none → o.cls = .type "tuple" → o.dict = none → Q (.ref l) (upd H l (.frz o (.tup ys)))) ∨ ∃ a ys, xs = [.ref a] ∧ SqT K H a ys ∧ Q (.ref a) H
theorem c_tuple : CallR X (.type "tuple") (rTupleD X.K) ∧ CallD (rTupleD X.K) tupleD := by
  refine ⟨cr_tupD.or call_tupleT, fun G H vs ds d Q le hv e k => ?_⟩
  unfold tupleD at e
  split at e
  · cases e
    obtain ⟨v, rfl, h⟩ := one_inv hv
    cases h with
    | lst h1 h2 => exact .inl ⟨_, _, rfl, sq_l (le _ _ h1), fun l o hl hc hd => k.tupM le hl hc hd h2⟩
  · cases e
    obtain ⟨v, rfl, h⟩ := one_inv hv
    have h' := h
    obtain ⟨a, xs, rfl, h2, z⟩ := tup_cases X.K h
    exact .inr ⟨_, _, rfl, z H le, k.sc le h'⟩
  · cases e
/-- list(..) of a list, of a tuple: a new one -/
def listF : List D → Option (List D)
  | [.lst l] => some l
  | [.tup _ l] => some l
  | _ => none
theorem c_list : CallR X (.type "list") (fun xs H Q => ∃ p ys, xs = [.ref p] ∧ (SqL X.K H p ys ∨ SqT X.K H p ys) ∧ ∀ l, H l = none → Q (.ref l) (upd H l (.lst ys))) ∧ CallF (fun xs H Q => ∃ p ys, xs = [.ref p] ∧ (SqL X.K H p ys ∨ SqT X.K H p ys) ∧ ∀ l, H l = none → Q (.ref l) (upd H l (.lst ys))) listF := by
  refine ⟨call_list_of, fun G H vs ds d Q le hv e k => ?_⟩
  unfold listF at e
  split at e
  · cases e
    obtain ⟨v, rfl, h⟩ := one_inv hv
    cases h with
    | lst h1 h2 => exact ⟨_, _, rfl, .inl (sq_l (le _ _ h1)), fun l hl => k.nw le hl h2⟩
  · cases e
    obtain ⟨v, rfl, h⟩ := one_inv hv
    obtain ⟨a, xs, rfl, h2, z⟩ := tup_cases X.K h
    exact ⟨_, _, rfl, .inr (z H le), fun l hl => k.nw le hl h2⟩
  · cases e
/-- sorted(..) of texts: a new list -/
def strsOf : List D → Option (List Str)
  | [] => some []
  | .str x :: ds => (strsOf ds).map fun xs => x :: xs
  | _ :: _ => none
theorem strsOf_inv : ∀ {ds : List D} {xs : List Str}, strsOf ds = some xs → ds = xs.map D.str
  | [], _, h => by cases h; rfl
  | .str x :: ds, _, h => by
    obtain ⟨ys, e, rfl⟩ := mpd h
    rw [strsOf_inv e]
    rfl
  | .non :: _, _, h => nomatch h
  | .bl _ :: _, _, h => nomatch h
  | .int _ :: _, _, h => nomatch h
  | .lst _ :: _, _, h => nomatch h
  | .tup _ _ :: _, _, h => nomatch h
  | .dct _ _ :: _, _, h => nomatch h
  | .dcT _ _ :: _, _, h => nomatch h
  | .ins _ _ :: _, _, h => nomatch h
theorem strsOf_map : ∀ xs : List Str, strsOf (xs.map D.str) = some xs
  | [] => rfl
  | x :: xs => by
    show (strsOf (xs.map D.str)).map _ = _
    rw [strsOf_map xs]
    rfl
def leS (a b : Str) : Bool := decide (a.cps.toList ≤ b.cps.toList)
def sortS (xs : List Str) : List Str := xs.mergeSort leS
theorem leS_trans (a b c : Str) (h1 : leS a b = true) (h2 : leS b c = true) : leS a c = true := decide_eq_true (List.le_trans (of_decide_eq_true h1) (of_decide_eq_true h2))
theorem leS_total (a b : Str) : (leS a b || leS b a) = true := by
  rcases List.le_total a.cps.toList b.cps.toList with h | h
  · rw [leS, decide_eq_true h]; rfl
  · rw [show leS b a = true from decide_eq_true h, Bool.or_true]
theorem sortS_perm (xs : List Str) : (sortS xs).Perm xs := List.mergeSort_perm xs leS
theorem sortS_pw (xs : List Str) : (sortS xs).Pairwise (fun a b => a.cps.toList ≤ b.cps.toList) :=
  (List.pairwise_mergeSort leS_trans leS_total xs).imp fun h => of_decide_eq_true h
theorem sortS_one {xs ys : List Str} (hp : ys.Perm xs) (h : ys.Pairwise (fun a b => a.cps.toList ≤ b.cps.toList)) : ys = sortS xs :=
  List.Perm.eq_of_pairwise (fun x y _ _ h1 h2 => str_ext (List.le_antisymm h1 h2)) h (sortS_pw xs) (hp.trans (sortS_perm xs).symm)
theorem sortS_len (xs : List Str) : (sortS xs).length = xs.length := (sortS_perm xs).length_eq
theorem sortS_same {xs ys : List Str} (h : xs.Perm ys) : sortS xs = sortS ys := sortS_one ((sortS_perm xs).trans h) (sortS_pw xs)
def sortF : List D → Option (List D)
  | [d] => (seqD d).bind fun l => (strsOf l).bind fun xs => if xs.length < 64 then some ((sortS xs).map D.str) else none
  | _ => none
theorem c_sort : CallR X (.builtin "sorted") (rSortT X.K) ∧ CallF (rSortT X.K) sortF := by
  refine ⟨cr_sortT2, fun G H vs ds d Q le hv e k => ?_⟩
  unfold sortF at e
  split at e
  · obtain ⟨l, e1, e⟩ := bnd e
    obtain ⟨xs, e2, e⟩ := bnd e
    obtain ⟨hl, rfl⟩ := some_if e
    obtain ⟨v, rfl, h⟩ := one_inv hv
    rw [strsOf_inv e2] at e1
    have fin : ∀ (ys : List Str) (p : Addr), ys.Perm xs → sortedS ys = true → H p = none → Q (.ref p) (upd H p (.lst (ys.map V.str))) := fun ys p hp hs np => by
      rw [sortS_one hp (sorted_pw hs)]
      exact k.nw le np (dda_of_strs _)
    rcases seqD_inv e1 with rfl | ⟨w, rfl⟩
    · cases h with
      | lst h1 h2 =>
        rw [dda_strs h2] at h1
        exact ⟨_, xs, rfl, .inl (sq_l (le _ _ h1)), hl, fin⟩
    · obtain ⟨a, ys, rfl, h2, z⟩ := tup_cases X.K h
      rw [dda_strs h2] at z
      exact ⟨_, xs, rfl, .inr (z H le), hl, fin⟩
  · cases e
/-- all(..) of truths -/
def blsOf : List D → Option (List Bool)
  | [] => some []
  | .bl x :: ds => (blsOf ds).map fun xs => x :: xs
  | _ :: _ => none
theorem blsOf_inv : ∀ {ds : List D} {xs : List Bool}, blsOf ds = some xs → ds = xs.map D.bl
  | [], _, h => by cases h; rfl
  | .bl x :: ds, _, h => by
    obtain ⟨ys, e, rfl⟩ := mpd h
    rw [blsOf_inv e]
    rfl
  | .non :: _, _, h => nomatch h
  | .str _ :: _, _, h => nomatch h
  | .int _ :: _, _, h => nomatch h
  | .lst _ :: _, _, h => nomatch h
  | .tup _ _ :: _, _, h => nomatch h
  | .dct _ _ :: _, _, h => nomatch h
  | .dcT _ _ :: _, _, h => nomatch h
  | .ins _ _ :: _, _, h => nomatch h
theorem blsOf_map : ∀ xs : List Bool, blsOf (xs.map D.bl) = some xs
  | [] => rfl
  | x :: xs => by
    show (blsOf (xs.map D.bl)).map _ = _
    rw [blsOf_map xs]
    rfl
def allD : List D → Option D
  | [.lst l] => (blsOf l).map fun bs => .bl (bs.all id)
  | _ => none
theorem c_all (hc : X.calm = true) : CallR X (.builtin "all") (rAll X.K) ∧ CallD (rAll X.K) allD := by
  refine ⟨cr_all hc, fun G H vs ds d Q le hv e k => ?_⟩
  unfold allD at e
  split at e
  · obtain ⟨bs, e1, rfl⟩ := mpd e
    obtain ⟨v, rfl, h⟩ := one_inv hv
    rw [blsOf_inv e1] at h
    cases h with
    | lst h1 h2 =>
      rw [dda_bls h2] at h1
      exact ⟨_, bs, rfl, sq_l (le _ _ h1), k.sc le (.bl _)⟩
  · cases e
/-- isinstance(e, T), isinstance(e, (S, T)) -/
def tyD : D → String
  | .non => "NoneType" | .bl _ => "bool" | .int _ => "int" | .str _ => "str" | .lst _ => "list" | .tup _ _ => "tuple" | .dct _ _ => "dict" | .dcT _ _ => "dict" | .ins _ _ => "object"
def plainD : D → Bool
  | .dcT _ _ => false
  | .ins _ _ => false
  | _ => true
theorem dd_ty {K : PySem.W.Frag} {G H : Hp} {x : V} {d : D} (h : Dd G x d) (le : Le G H) (p : plainD d = true) : TyX K H x (.type (tyD d)) := by
  cases h with
  | non => exact .base .non
  | bl b => exact .base (.bl b)
  | int i => exact .base (.int i)
  | str s => exact .base (.str s)
  | lst h _ => exact .base (.lst (le _ _ h))
  | tupM h _ =>
    obtain ⟨o, e, _⟩ := h
    exact .fTuple (le _ _ e)
  | tupW h _ => exact .base (.tup (le _ _ h))
  | dct h _ => exact .fDict (le _ _ h)
  | dcT h _ => cases p
  | ins h _ => cases p
def isiD (T : String) (d : D) : Option D := if plainD d = true then (kitB (tyD d) T).map D.bl else none
def mIsi (T : String) (m : Me) : Me := fun ρ => (m ρ).bind fun p => (isiD T p.1).map fun d => (d, p.2)
theorem qe_isi {e : Expr} {m : Me} {T : Str} {S : String} {p q pos : Pos} (hg : Gl X "isinstance") (hm : X.mg "isinstance" = none) (hb : bootBuiltins "isinstance" = some (.builtin "isinstance")) (he : PE X e (R m)) (hT : PE X (.Name T q) (tC (.ty S))) (hs1 : starEach [e, .Name T q] X.env = (false, eval e X.env) :: starEach [.Name T q] X.env := by rfl) (hs2 : starEach [.Name T q] X.env = (false, eval (.Name T q) X.env) :: starEach [] X.env := by rfl) (hpl : (backTo pos (starEach [.Name T q] X.env)).any (·.1) = false := by rfl) :
    PE X (.Call (.Name "isinstance" p) [e, .Name T q] [] pos) (R (mIsi S m)) := by
  refine imp (pe_callB call_isi hg hm hb (pa_cons he (pa_cons hT pa_nil hs2) hs1) (by decide) (by decide) hs1 hpl) fun σ H Q ⟨G, ρ, d, ρ', rp, e, k⟩ => ?_
  obtain ⟨z, e1, e⟩ := bnd e
  obtain ⟨y, e2, e⟩ := mpd e
  cases e
  refine ⟨G, ρ, z.1, z.2, rp, e1, fun G1 H1 v t hv => ?_⟩
  unfold isiD at e2
  split at e2
  · rename_i hp
    obtain ⟨b, e3, rfl⟩ := mpd e2
    exact ⟨v, .ty S, _, _, b, rfl, .ty S, dd_ty hv t.rep.le hp, kit_ty e3, k G1 H1 _ t (.bl b)⟩
  · cases e2
def isi2D (S T : String) (d : D) : Option D := if plainD d = true then (kitB (tyD d) S).bind fun a => (kitB (tyD d) T).map fun b => .bl (a || b) else none
def mIsi2 (S T : String) (m : Me) : Me := fun ρ => (m ρ).bind fun p => (isi2D S T p.1).map fun d => (d, p.2)
theorem qe_isi2 {e : Expr} {m : Me} {A B : Str} {S T : String} {p q1 q2 q3 pos : Pos} {kk : Nat} (hg : Gl X "isinstance") (hm : X.mg "isinstance" = none) (hb : bootBuiltins "isinstance" = some (.builtin "isinstance")) (he : PE X e (R m)) (hT : PE X (.Tuple [.Name A q1, .Name B q2] kk q3) (tTup (tCons (tC (.ty S)) (tCons (tC (.ty T)) tNil))))
    (hs1 : starEach [e, .Tuple [.Name A q1, .Name B q2] kk q3] X.env = (false, eval e X.env) :: starEach [.Tuple [.Name A q1, .Name B q2] kk q3] X.env := by rfl) (hs2 : starEach [.Tuple [.Name A q1, .Name B q2] kk q3] X.env = (false, eval (.Tuple [.Name A q1, .Name B q2] kk q3) X.env) :: starEach [] X.env := by rfl) (hpl : (backTo pos (starEach [.Tuple [.Name A q1, .Name B q2] kk q3] X.env)).any (·.1) = false := by rfl) :
    PE X (.Call (.Name "isinstance" p) [e, .Tuple [.Name A q1, .Name B q2] kk q3] [] pos) (R (mIsi2 S T m)) := by
  refine imp (pe_callB call_isiT hg hm hb (pa_cons he (pa_cons hT pa_nil hs2) hs1) (by decide) (by decide) hs1 hpl) fun σ H Q ⟨G, ρ, d, ρ', rp, e, k⟩ => ?_
  obtain ⟨z, e1, e⟩ := bnd e
  obtain ⟨y, e2, e⟩ := mpd e
  cases e
  refine ⟨G, ρ, z.1, z.2, rp, e1, fun G1 H1 v t hv => ?_⟩
  unfold isi2D at e2
  split at e2
  · rename_i hp
    obtain ⟨a, e3, e2⟩ := bnd e2
    obtain ⟨b, e4, rfl⟩ := mpd e2
    refine ⟨by show 2 ≤ sizeLine; decide, fun tp htp => ?_⟩
    have ex := ex_own (o := .tup [.ty S, .ty T]) t.rep.le htp
    exact ⟨v, tp, _, _, [.type S, .type T], a || b, rfl, upd_same, .cons (.ty S) (.cons (.ty T) .nil), dd_ty hv ex.le hp, kit2 e3 e4, k _ _ _ (t.trans (Tr.ext t.rep ex)) (.bl _)⟩
  · cases e2
open Classical in
noncomputable def reprD : List D → Option D
  | [d] => if Gd 50 100000 d.py ∧ d.py.canLay0 = true then some (.str d.py.shown) else none
  | _ => none
open Classical in
theorem c_repr (hg : X.A.guards = some []) (hu : X.A.units + 64 < cLine) : CallR X (.builtin "repr") (fun vs H Q => ∃ (x : V) (d : PyData), vs = [x] ∧ Dp X.K H x d ∧ Gd 50 100000 d ∧ Q (.str d.shown) H) ∧ CallD (fun vs H Q => ∃ (x : V) (d : PyData), vs = [x] ∧ Dp X.K H x d ∧ Gd 50 100000 d ∧ Q (.str d.shown) H) reprD := by
  refine ⟨cr_reprA hg hu, fun G H vs ds d Q le hv e k => ?_⟩
  unfold reprD at e
  split at e
  · obtain ⟨hc, rfl⟩ := some_if e
    obtain ⟨v, rfl, h⟩ := one_inv hv
    exact ⟨v, _, rfl, dp_same le (dd_dp h hc.2), hc.1, k.sc le (.str _)⟩
  · cases e
/-- dict(..) of pairs by place -/
def pairOf : D → Option (Key × D)
  | .lst [a, b] => (keyD a).map fun k => (k, b)
  | .tup _ [a, b] => (keyD a).map fun k => (k, b)
  | _ => none
def pairsOf : List D → Option (List (Key × D))
  | [] => some []
  | d :: ds => (pairOf d).bind fun p => (pairsOf ds).map fun ps => p :: ps
def putD {κ : Type} [DecidableEq κ] (kvs : List (κ × D)) (k : κ) (d : D) : List (κ × D) := if (kvs.any fun kv => decide (kv.1 = k)) = true then kvs.map fun kv => if kv.1 = k then (kv.1, d) else kv else kvs ++ [(k, d)]
def mergeD (kvs : List (Key × D)) : List (Key × D) := kvs.foldl (fun acc kv => putD acc kv.1 kv.2) []
end
end Pl
namespace Pl
open PySem PySem.Spec PyProof.Rows L2 Kn
variable [Tbs]
/-! a dict that is made stays as it is -/
def lockQ (Q : VK) : VK := fun v H' => ∃ a u, v = .ref a ∧ H' a = some u ∧ Mut (some u) ∧ ∀ o, Q v (upd H' a (.frz o u))
section
variable {X : Cx}
theorem ep_lock {pins : List (Addr × Obj)} {σ : L2.St} {Q : VK} {u : Value} {s : Shared} (h : EP X pins σ (lockQ Q) u s) : EP X pins σ Q u s := by
  obtain ⟨v, H', I, r, a, o, rfl, h1, mu, q⟩ := h
  obtain ⟨od, I'⟩ := I.lock h1 mu
  exact ⟨_, _, I', r, q od⟩
theorem pe_lock {e : Expr} {t : TE} (h : PE X e t) : PE X e (fun σ H Q => t σ H (lockQ Q)) := ⟨fun pins s σ H Q I q => thn (h.run pins s σ H _ I q) fun u s' => ep_lock⟩
theorem cr_lock {f : Value} {r : List V → Hp → VK → Prop} (h : CallR X f r) : CallR X f (fun xs H Q => r xs H (lockQ Q)) := fun pins s σ H xs us Q I rv q => thn (h pins s σ H xs us _ I rv q) fun u s' => ep_lock
/-! dict(..) -/
def KD {κ : Type} (G : Hp) : List (κ × V) → List (κ × D) → Prop := Paired fun p q => p.1 = q.1 ∧ Dd G p.2 q.2
theorem KD.same {κ : Type} {G G' : Hp} (s : Same G G') : ∀ {a : List (κ × V)} {b : List (κ × D)}, KD G a b → KD G' a b
  | _, _, .nil => .nil
  | _, _, .cons h t => .cons ⟨h.1, dd_same s h.2⟩ (KD.same s t)
theorem KD.keys {κ : Type} {G : Hp} : ∀ {a : List (κ × V)} {b : List (κ × D)}, KD G a b → a.map (·.1) = b.map (·.1) ∧ DdA G (a.map (·.2)) (b.map (·.2))
  | _, _, .nil => ⟨rfl, .nil⟩
  | _, _, .cons h t => by
    obtain ⟨h1, h2⟩ := KD.keys t
    exact ⟨by rw [List.map_cons, List.map_cons, h.1, h1], .cons h.2 h2⟩
theorem KD.any {κ : Type} [DecidableEq κ] {G : Hp} (k : κ) : ∀ {a : List (κ × V)} {b : List (κ × D)}, KD G a b → (a.any fun kv => decide (kv.1 = k)) = b.any fun kv => decide (kv.1 = k)
  | _, _, .nil => rfl
  | _, _, .cons h t => by rw [List.any_cons, List.any_cons, h.1, KD.any k t]
theorem KD.repl {κ : Type} [DecidableEq κ] {G : Hp} (k : κ) {v : V} {d : D} (hv : Dd G v d) : ∀ {a : List (κ × V)} {b : List (κ × D)}, KD G a b → KD G (a.map fun kv => if kv.1 = k then (kv.1, v) else kv) (b.map fun kv => if kv.1 = k then (kv.1, d) else kv)
  | _, _, .nil => .nil
  | p :: _, q :: _, .cons h t => by
    rw [List.map_cons, List.map_cons]
    refine .cons ?_ (KD.repl k hv t)
    by_cases e : p.1 = k
    · rw [if_pos e, if_pos (h.1 ▸ e)]
      exact ⟨h.1, hv⟩
    · rw [if_neg e, if_neg (fun z => e (h.1.trans z))]
      exact h
theorem KD.app {κ : Type} {G : Hp} : ∀ {a : List (κ × V)} {b : List (κ × D)} {c : List (κ × V)} {d : List (κ × D)}, KD G a b → KD G c d → KD G (a ++ c) (b ++ d)
  | _, _, _, _, .nil, h => h
  | _, _, _, _, .cons h t, k => .cons h (KD.app t k)
theorem KD.put {κ : Type} [DecidableEq κ] {G : Hp} {a : List (κ × V)} {b : List (κ × D)} (h : KD G a b) (k : κ) {v : V} {d : D} (hv : Dd G v d) : KD G (putK a k v) (putD b k d) := by
  unfold putK putD
  rw [h.any k]
  split
  · exact h.repl k hv
  · exact h.app (.cons ⟨rfl, hv⟩ .nil)
theorem KD.merge {G : Hp} : ∀ {more : List (Key × V)} {md : List (Key × D)} {a : List (Key × V)} {b : List (Key × D)}, KD G more md → KD G a b → KD G (mergeK a more) (md.foldl (fun acc kv => putD acc kv.1 kv.2) b)
  | _, _, _, _, .nil, h => h
  | p :: _, q :: _, _, _, .cons hp t, h => by
    show KD G (mergeK (putK _ p.1 p.2) _) (List.foldl _ (putD _ q.1 q.2) _)
    rw [hp.1]
    exact KD.merge t (h.put q.1 hp.2)
theorem Ans.dct {G H : Hp} {Q : VK} {kd : List (Key × D)} {kvs : List (Key × V)} (k : Ans G H (.dct (kd.map (·.1)) (kd.map (·.2))) Q) (h : Le G H) {p : Addr} (hp : H p = none) (hk : KD G kvs kd) : lockQ Q (.ref p) (upd H p (.dK kvs)) := by
  refine ⟨p, _, rfl, upd_same, trivial, fun o => ?_⟩
  rw [upd_upd]
  obtain ⟨h1, h2⟩ := hk.keys
  refine k _ _ _ (ex_new h hp) ?_
  rw [← h1]
  exact .dct upd_same (dda_same (same_new (h.free hp)) h2)
def dictD : List D → Option D
  | [.lst l] => (pairsOf l).map fun ps => .dct ((mergeD ps).map (·.1)) ((mergeD ps).map (·.2))
  | [.tup false l] => (pairsOf l).map fun ps => .dct ((mergeD ps).map (·.1)) ((mergeD ps).map (·.2))
  | _ => none
theorem pairs_ok {K : PySem.W.Frag} {G : Hp} : ∀ {l : List D} {xs : List V} {ps : List (Key × D)}, DdA G xs l → pairsOf l = some ps → ∃ (as : List Addr) (kvs : List (Key × V)), xs = as.map V.ref ∧ KD G kvs ps ∧ ∀ H, Same G H → Paired (fun p (kv : Key × V) => SqT K H p [kV kv.1, kv.2] ∨ SqL K H p [kV kv.1, kv.2]) as kvs
  | _, _, _, .nil, e => by
    cases e
    exact ⟨[], [], rfl, .nil, fun _ _ => .nil⟩
  | d :: _, _, _, .cons h t, e => by
    obtain ⟨p, e1, e⟩ := bnd e
    obtain ⟨ps', e2, rfl⟩ := mpd e
    obtain ⟨as, kvs, rfl, h1, h2⟩ := pairs_ok (K := K) t e2
    unfold pairOf at e1
    split at e1
    · obtain ⟨k, e3, rfl⟩ := mpd e1
      cases h with
      | lst h3 h4 =>
        obtain ⟨v, w, rfl, h5, h6⟩ := two_inv h4
        rw [keyD_v h5 e3] at h3
        exact ⟨_ :: as, (k, w) :: kvs, rfl, .cons ⟨rfl, h6⟩ h1, fun H s => .cons (.inr (sq_l (s _ _ h3))) (h2 H s)⟩
    · obtain ⟨k, e3, rfl⟩ := mpd e1
      obtain ⟨a, xs, rfl, h4, z⟩ := tup_cases K h
      obtain ⟨v, w, rfl, h5, h6⟩ := two_inv h4
      rw [keyD_v h5 e3] at z
      exact ⟨a :: as, (k, w) :: kvs, rfl, .cons ⟨rfl, h6⟩ h1, fun H s => .cons (.inl (z H s)) (h2 H s)⟩
    · cases e1
theorem c_dict (hc : X.calm = true) : CallR X (.type "dict") (fun xs H Q => rDictA X.K xs H (lockQ Q)) ∧ CallD (fun xs H Q => rDictA X.K xs H (lockQ Q)) dictD := by
  refine ⟨cr_lock (cr_dictA hc), fun G H vs ds d Q le hv e k => ?_⟩
  unfold dictD at e
  split at e
  · obtain ⟨ps, e1, rfl⟩ := mpd e
    obtain ⟨v, rfl, h⟩ := one_inv hv
    cases h with
    | lst h1 h2 =>
      obtain ⟨as, kvs, rfl, h3, h4⟩ := pairs_ok (K := X.K) h2 e1
      exact ⟨_, as, kvs, rfl, .inr (sq_l (le _ _ h1)), h4 H le, fun p hp => k.dct le hp (KD.merge h3 .nil)⟩
  · obtain ⟨ps, e1, rfl⟩ := mpd e
    obtain ⟨v, rfl, h⟩ := one_inv hv
    cases h with
    | tupM h1 h2 =>
      obtain ⟨as, kvs, rfl, h3, h4⟩ := pairs_ok (K := X.K) h2 e1
      exact ⟨_, as, kvs, rfl, .inl ⟨⟨_, h1.same le⟩, (h1.same le).sq⟩, h4 H le, fun p hp => k.dct le hp (KD.merge h3 .nil)⟩
  · cases e
/-! slices of lists -/
def cutL (xs : List D) (lo hi : Option Int) : List D := (xs.drop (HT.sIx xs.length 0 lo)).take (HT.sIx xs.length xs.length hi - HT.sIx xs.length 0 lo)
theorem cut_ok {G : Hp} {xs : List V} {ds : List D} (h : DdA G xs ds) (lo hi : Option Int) : DdA G (cutV xs lo hi) (cutL ds lo hi) := by
  unfold cutV cutL
  rw [dda_len h]
  exact dda_take _ (dda_drop _ h)
abbrev Mo := Rh → Option (Option Int × Rh)
def moN : Mo := fun ρ => some (none, ρ)
def moS (m : Me) : Mo := fun ρ => (m ρ).bind fun p => match p.1 with | .int i => some (some i, p.2) | _ => none
def RO (m : Mo) : TO := fun σ H Q => ∃ G ρ d ρ', Rep G H σ ρ ∧ m ρ = some (d, ρ') ∧ ∀ G' H', Tr G H σ ρ G' H' ρ' → Q d H'
theorem impO {e : Option Expr} {t t' : TO} (h : PO X e t) (hi : ∀ σ H Q, t' σ H Q → t σ H Q) : PO X e t' := ⟨fun pins s σ H Q I q => h.run pins s σ H Q I (hi σ H Q q)⟩
theorem qo_none : PO X none (RO moN) := impO po_none fun σ H Q ⟨G, ρ, d, ρ', r, e, k⟩ => by
  cases e
  exact k G H (Tr.refl r)
theorem qo_some {e : Expr} {m : Me} (h : PE X e (R m)) : PO X (some e) (RO (moS m)) := impO (po_some h) fun σ H Q ⟨G, ρ, d, ρ', r, e, k⟩ => by
  obtain ⟨p, e1, e⟩ := bnd e
  split at e
  · rename_i i hi
    cases e
    refine ⟨G, ρ, p.1, p.2, r, e1, fun G1 H1 v t hv => ?_⟩
    rw [hi] at hv
    cases hv
    exact ⟨i, rfl, k G1 H1 t⟩
  · cases e
def mSl (m : Me) (lo hi : Mo) : Ma := fun ρ => (m ρ).bind fun p => (lo p.2).bind fun q => (hi q.2).bind fun r => match p.1 with | .lst l => some (cutL l q.1 r.1, r.2) | _ => none
theorem qf_slice {e : Expr} {lo hi : Option Expr} {m : Me} {ml mh : Mo} {p2 pos : Pos} (he : PE X e (R m)) (hl : PO X lo (RO ml)) (hh : PO X hi (RO mh)) : PE X (.Subscript e (.Slice lo hi none p2) pos) (RF (mSl m ml mh)) := by
  refine imp (pe_slice sl_list he hl hh) fun σ H Q ⟨G, ρ, d, ρ', rp, e, k⟩ => ?_
  obtain ⟨p, e1, e⟩ := bnd e
  obtain ⟨q, e2, e⟩ := bnd e
  obtain ⟨r, e3, e⟩ := bnd e
  split at e
  · rename_i l hl
    cases e
    refine ⟨G, ρ, p.1, p.2, rp, e1, fun G1 H1 v t1 hv => ⟨G1, p.2, q.1, q.2, t1.rep, e2, fun G2 H2 t2 => ⟨G2, q.2, r.1, r.2, t2.rep, e3, fun G3 H3 t3 => ?_⟩⟩⟩
    have t := (t1.trans t2).trans t3
    rw [hl] at hv
    have hv := dd_same (t2.go.gg.trans t3.go.gg) hv
    cases hv with
    | lst h1 h2 => exact ⟨_, _, rfl, sq_l (t3.rep.le _ _ h1), fun z hz => AnsF.nw (AnsF.tr t (fun a n => t.back rp n) k) t3.rep.le hz (cut_ok h2 _ _)⟩
  · cases e
/-- e[::-1] of a list -/
def mRevL (m : Me) : Ma := fun ρ => (m ρ).bind fun p => match p.1 with | .lst l => some (l.reverse, p.2) | _ => none
theorem qf_revL {e : Expr} {m : Me} {k : Nat} {p1 p2 p3 pos : Pos} (he : PE X e (R m)) : PE X (.Subscript e (.Slice none none (some (.UnaryOp .USub (.Constant (.int 1) k p1) p2)) p3) pos) (RF (mRevL m)) := by
  refine imp (pe_revL he) fun σ H Q ⟨G, ρ, d, ρ', rp, e, k⟩ => ?_
  obtain ⟨p, e1, e⟩ := bnd e
  split at e
  · rename_i l hl
    cases e
    refine ⟨G, ρ, p.1, p.2, rp, e1, fun G1 H1 v t hv => ?_⟩
    rw [hl] at hv
    cases hv with
    | lst h1 h2 => exact ⟨_, _, rfl, sq_l (t.rep.le _ _ h1), fun z hz => AnsF.nw (AnsF.tr t (fun a n => t.back rp n) k) t.rep.le hz (dda_rev h2)⟩
  · cases e
/-! f(k = e, ..) -/
theorem impK {kws : List Keyword} {t t' : TA} (h : PK X kws t) (hi : ∀ σ H Q, t' σ H Q → t σ H Q) : PK X kws t' := ⟨fun p pins s σ H Q I q => h.run p pins s σ H Q I (hi σ H Q q)⟩
theorem qk_nil : PK X [] (RA mNil) := by
  refine impK pk_nil fun σ H Q ⟨G, ρ, d, ρ', rp, e, k⟩ => ?_
  cases e
  exact k G H [] (Tr.refl rp) .nil
theorem qk_cons {e : Expr} {nm : Option Str} {kpos : Pos} {kws : List Keyword} {m : Me} {n : Ma} (ha : PE X e (R m)) (hr : PK X kws (RA n)) : PK X (⟨nm, e, kpos⟩ :: kws) (RA (mCons m n)) := by
  refine impK (pk_cons ha hr) fun σ H Q ⟨G, ρ, d, ρ', rp, e, k⟩ => ?_
  obtain ⟨p, e1, h⟩ := bnd e
  obtain ⟨q, e2, h⟩ := mpd h
  cases h
  exact ⟨G, ρ, p.1, p.2, rp, e1, fun G1 H1 v t1 hv => ⟨G1, p.2, q.1, q.2, t1.rep, e2, fun G2 H2 vs t2 hvs => k G2 H2 (v :: vs) (t1.trans t2) (.cons (dd_same t2.go.gg hv) hvs)⟩⟩
theorem dda_perm {G : Hp} : ∀ (is : List Nat) {zs : List V} {ds : List D}, DdA G zs ds → DdA G (perm is zs) (perm is ds)
  | [], _, _, _ => .nil
  | i :: is, zs, ds, r => by
    have ih := dda_perm is r
    unfold perm at ih ⊢
    rw [List.filterMap_cons, List.filterMap_cons]
    cases e : zs[i]? with
    | none =>
      have e2 : ds[i]? = none := by
        rw [List.getElem?_eq_none_iff] at e ⊢
        have := dda_len r
        omega
      rw [e2]
      exact ih
    | some v =>
      obtain ⟨d, hd, h⟩ := dda_get r e
      rw [hd]
      exact .cons h ih
section
variable {k : Nat} {f : Addr} {fd : FuncData} {ps ks : List Str} {x : Str} {p pos : Pos} {kws : List Keyword} {m : Ma} {is : List Nat}
theorem qe_callK {F : List D → Option D} (Fn : FnOk X.prog X.w X.K X.mg X.base CX0 k f fd ps (SpP F)) (hr : Room k X.A) (hg : Gl X x) (hm : X.mg x = some (.ref f)) (hk : PySem.W.keepIn X.K (.ref f) = true) (hb : KBinds X.K fd ps ks (onlyK is) (onlyK is))
    (hkw : PK X kws (RA m)) (hall : (backToKw pos (keywordEach kws X.env)).all (·.1.isSome) = true := by rfl) (hks : (backToKw pos (keywordEach kws X.env)).filterMap (·.1) = ks := by rfl)
    (hdb : (x == ("__debug__" : Str)) = false := by decide) (hpl : ((backTo pos (starEach [] X.env)).any (·.1) || (backToKw pos (keywordEach kws X.env)).any (·.1.isNone)) = false := by rfl) :
    PE X (.Call (.Name x p) [] kws pos) (R (mCall (fun ds => F (perm is ds)) m)) := by
  refine imp (pe_callK0 Fn hr hg hm hk hb pass0 hkw hall hks hdb hpl) fun σ H Q ⟨G, ρ, d, ρ', rp, e, k⟩ => ?_
  obtain ⟨ds, e1, e2⟩ := mCall_inv e
  exact ⟨G, ρ, ds, ρ', rp, e1, fun G1 H1 vs t hv => ⟨G1, perm is ds, d, t.rep.le, dda_perm is hv, e2, fun G2 H2 v ex hv2 => k G2 H2 v (t.trans (Tr.ext t.rep ex)) hv2⟩⟩
theorem qf_callK {F : List D → Option (List D)} (Fn : FnOk X.prog X.w X.K X.mg X.base CX0 k f fd ps (SpO F)) (hr : Room k X.A) (hg : Gl X x) (hm : X.mg x = some (.ref f)) (hk : PySem.W.keepIn X.K (.ref f) = true) (hb : KBinds X.K fd ps ks (onlyK is) (onlyK is))
    (hkw : PK X kws (RA m)) (hall : (backToKw pos (keywordEach kws X.env)).all (·.1.isSome) = true := by rfl) (hks : (backToKw pos (keywordEach kws X.env)).filterMap (·.1) = ks := by rfl)
    (hdb : (x == ("__debug__" : Str)) = false := by decide) (hpl : ((backTo pos (starEach [] X.env)).any (·.1) || (backToKw pos (keywordEach kws X.env)).any (·.1.isNone)) = false := by rfl) :
    PE X (.Call (.Name x p) [] kws pos) (RF (mCall (fun ds => F (perm is ds)) m)) := by
  refine imp (pe_callK0 Fn hr hg hm hk hb pass0 hkw hall hks hdb hpl) fun σ H Q ⟨G, ρ, d, ρ', rp, e, k⟩ => ?_
  obtain ⟨ds, e1, e2⟩ := mCall_inv e
  exact ⟨G, ρ, ds, ρ', rp, e1, fun G1 H1 vs t hv => ⟨G1, perm is ds, d, t.rep.le, dda_perm is hv, e2, AnsF.tr t (fun a n => t.back rp n) k⟩⟩
end
/-! a, b = e1, e2: things set side by side, some of them new lists -/
inductive Ag where
  | v (m : Me)
  | f (m : Ma)
def mPar : List Ag → Rh → Option (List Sl × Rh)
  | [], ρ => some ([], ρ)
  | .v m :: r, ρ => (m ρ).bind fun p => (mPar r p.2).map fun q => (.val p.1 :: q.1, q.2)
  | .f m :: r, ρ => (m ρ).bind fun p => (mPar r p.2).map fun q => (.own false p.1 :: q.1, q.2)
def tPars : List Ag → TA
  | [] => tNil
  | .v m :: r => tCons (R m) (tPars r)
  | .f m :: r => tCons (RF m) (tPars r)
/-- the values beside the slots -/
structure Beside (G H H0 : Hp) (vs : List V) (ss : List Sl) : Prop where
  len : vs.length = ss.length
  val : ∀ {i : Nat} {d : D}, ss[i]? = some (.val d) → ∃ v, vs[i]? = some v ∧ Dd G v d
  own : ∀ {i : Nat} {l : Bool} {ds : List D}, ss[i]? = some (.own l ds) → l = false ∧ ∃ a xs, vs[i]? = some (.ref a) ∧ H a = some (.lst xs) ∧ G a = none ∧ DdA G xs ds ∧ H0 a = none
  inj : ∀ {i j : Nat} {l l' : Bool} {ds ds' : List D} {a : Addr}, ss[i]? = some (.own l ds) → ss[j]? = some (.own l' ds') → vs[i]? = some (.ref a) → vs[j]? = some (.ref a) → i = j
theorem pars_of : ∀ (l : List Ag) {σ : L2.St} {G H : Hp} {ρ ρ' : Rh} {ss : List Sl} {Q : List V → Hp → Prop}, Rep G H σ ρ → mPar l ρ = some (ss, ρ') → (∀ G' H' vs, Tr G H σ ρ G' H' ρ' → Beside G' H' H vs ss → Q vs H') → tPars l σ H Q
  | [], σ, G, H, ρ, ρ', ss, Q, r, e, k => by
    cases e
    exact k G H [] (Tr.refl r) ⟨rfl, fun h => by simp at h, fun h => by simp at h, fun h => by simp at h⟩
  | .v m :: l, σ, G, H, ρ, ρ', ss, Q, r, e, k => by
    obtain ⟨p, e1, e⟩ := bnd e
    obtain ⟨q, e2, e⟩ := mpd e
    cases e
    refine ⟨G, ρ, p.1, p.2, r, e1, fun G1 H1 v t1 hv => pars_of l t1.rep e2 fun G2 H2 vs t2 b => k G2 H2 (v :: vs) (t1.trans t2) ⟨by rw [List.length_cons, List.length_cons, b.len], fun {i d} h => ?_, fun {i l ds} h => ?_, fun {i j l l' ds ds' a} h1 h2 h3 h4 => ?_⟩⟩
    · cases i with
      | zero => cases h; exact ⟨v, rfl, dd_same t2.go.gg hv⟩
      | succ i => exact b.val (i := i) h
    · cases i with
      | zero => cases h
      | succ i =>
        obtain ⟨e, a, xs, z1, z2, z3, z4, z5⟩ := b.own (i := i) h
        exact ⟨e, a, xs, z1, z2, z3, z4, t1.go.dom a z5⟩
    · cases i with
      | zero => cases h1
      | succ i =>
        cases j with
        | zero => cases h2
        | succ j => rw [b.inj (i := i) (j := j) h1 h2 h3 h4]
  | .f m :: l, σ, G, H, ρ, ρ', ss, Q, r, e, k => by
    obtain ⟨p, e1, e⟩ := bnd e
    obtain ⟨q, e2, e⟩ := mpd e
    cases e
    refine ⟨G, ρ, p.1, p.2, r, e1, fun G1 H1 a xs t1 hn ha hg hx => pars_of l t1.rep e2 fun G2 H2 vs t2 b => k G2 H2 (.ref a :: vs) (t1.trans t2) ?_⟩
    have nf : ¬ Fp σ p.2 a := fun z => by
      obtain ⟨zs, z⟩ := fp_some r (t1.kp.fp z)
      rw [hn] at z
      cases z
    refine ⟨by rw [List.length_cons, List.length_cons, b.len], fun {i d} h => ?_, fun {i l ds} h => ?_, fun {i j l l' ds ds' c} h1 h2 h3 h4 => ?_⟩
    · cases i with
      | zero => cases h
      | succ i => exact b.val (i := i) h
    · cases i with
      | zero =>
        cases h
        exact ⟨rfl, a, xs, rfl, t2.go.off _ _ ha nf, t2.go.new _ _ ha hg nf, dda_same t2.go.gg hx, hn⟩
      | succ i =>
        obtain ⟨e, c, ys, z1, z2, z3, z4, z5⟩ := b.own (i := i) h
        exact ⟨e, c, ys, z1, z2, z3, z4, t1.go.dom c z5⟩
    · cases i with
      | zero =>
        cases j with
        | zero => rfl
        | succ j =>
          cases h3
          obtain ⟨_, c, ys, z1, _, _, _, z5⟩ := b.own (i := j) h2
          have h4 : vs[j]? = some (.ref a) := h4
          rw [h4] at z1
          cases z1
          rw [ha] at z5
          cases z5
      | succ i =>
        cases j with
        | zero =>
          cases h4
          obtain ⟨_, c, ys, z1, _, _, _, z5⟩ := b.own (i := i) h1
          have h3 : vs[i]? = some (.ref a) := h3
          rw [h3] at z1
          cases z1
          rw [ha] at z5
          cases z5
        | succ j => rw [b.inj (i := i) (j := j) h1 h2 h3 h4]
/-- one of them is set -/
theorem TrS.put1 {G H H0 : Hp} {σ0 σ : L2.St} {G0 : Hp} {ρ0 ρ : Rh} {i n : Nat} {vs : List V} {ss : List Sl} {v : V} {s : Sl} (t : TrS G0 H0 σ0 ρ0 G H σ ρ) (b : Beside G H H0 vs ss) (hv : vs[n]? = some v) (hs : ss[n]? = some s) (hu : s ≠ .un) (hi : i < ρ.length) (hl : isLent ρ[i]? = false)
    (nf : ∀ a, vs[n]? = some (.ref a) → (∃ l ds, s = .own l ds) → ¬ Fp σ ρ a) : TrS G0 H0 σ0 ρ0 G H (σ.set i (some v)) (ρ.set i s) := by
  cases s with
  | un => exact (hu rfl).elim
  | val d =>
    obtain ⟨w, h1, h2⟩ := b.val hs
    rw [hv] at h1
    cases h1
    exact t.trans (TrS.set t.rep hi hl h2)
  | own l ds =>
    obtain ⟨rfl, a, xs, h1, h2, h3, h4, h5⟩ := b.own hs
    rw [hv] at h1
    cases h1
    have rp := t.rep.setO hi h2 h3 h4 (nf a hv ⟨_, _, rfl⟩)
    have hσ : i < σ.length := by rw [t.rep.len]; exact hi
    refine ⟨t.go, rp, fun c ⟨j, l, es, z1, z2⟩ => ?_, by rw [List.length_set, t.len], fun {j es} h => ?_⟩
    · by_cases hj : j = i
      · subst hj
        rw [List.getElem?_set_self hσ] at z2
        cases z2
        exact .inr h5
      · rw [List.getElem?_set_ne (Ne.symm hj)] at z1 z2
        exact t.fp c ⟨j, l, es, z1, z2⟩
    · obtain ⟨z1, es', z2⟩ := t.lent h
      have hj : j ≠ i := fun e => by
        subst e
        rw [z2] at hl
        cases hl
      rw [List.getElem?_set_ne (Ne.symm hj), List.getElem?_set_ne (Ne.symm hj)]
      exact ⟨z1, es', z2⟩
def mPar2 (i j : Nat) (l : List Ag) : Ms := fun ρ => (mPar l ρ).bind fun p => match p.1 with
  | [s, t] => if i < p.2.length ∧ j < p.2.length ∧ isLent p.2[i]? = false ∧ isLent p.2[j]? = false then some (.nx ((p.2.set i s).set j t)) else none
  | _ => none
def mPar3 (i j n : Nat) (l : List Ag) : Ms := fun ρ => (mPar l ρ).bind fun p => match p.1 with
  | [s, t, u] => if (i < p.2.length ∧ j < p.2.length ∧ n < p.2.length) ∧ isLent p.2[i]? = false ∧ isLent p.2[j]? = false ∧ isLent p.2[n]? = false then some (.nx (((p.2.set i s).set j t).set n u)) else none
  | _ => none
theorem mPar_un : ∀ (l : List Ag) {ρ ρ' : Rh} {ss : List Sl}, mPar l ρ = some (ss, ρ') → ∀ s ∈ ss, s ≠ .un
  | [], _, _, _, e => by cases e; intro s hs; cases hs
  | .v m :: l, _, _, _, e => by
    obtain ⟨p, e1, e⟩ := bnd e
    obtain ⟨q, e2, e⟩ := mpd e
    cases e
    intro s hs
    rcases List.mem_cons.mp hs with rfl | hs
    · exact fun z => nomatch z
    · exact mPar_un l e2 s hs
  | .f m :: l, _, _, _, e => by
    obtain ⟨p, e1, e⟩ := bnd e
    obtain ⟨q, e2, e⟩ := mpd e
    cases e
    intro s hs
    rcases List.mem_cons.mp hs with rfl | hs
    · exact fun z => nomatch z
    · exact mPar_un l e2 s hs
theorem isLent_set {ρ : Rh} {i j : Nat} {s : Sl} (h : isLent ρ[j]? = false) (hs : isLent (some s) = false) : isLent (ρ.set i s)[j]? = false := by
  by_cases e : i = j
  · subst e
    by_cases hi : i < ρ.length
    · rw [List.getElem?_set_self hi]; exact hs
    · rw [List.getElem?_set, if_pos rfl, if_neg hi]; rfl
  · rw [List.getElem?_set_ne e]; exact h
theorem Beside.lent {G H H0 : Hp} {vs : List V} {ss : List Sl} (b : Beside G H H0 vs ss) {n : Nat} {s : Sl} (h : ss[n]? = some s) : isLent (some s) = false := by
  cases s with
  | own l ds =>
    obtain ⟨rfl, _⟩ := b.own h
    rfl
  | _ => rfl
/-- no slot has it -/
theorem Beside.nofp {G H H0 G0 : Hp} {σ : L2.St} {ρ ρ' : Rh} {vs : List V} {ss : List Sl} (r0 : Rep G0 H0 σ ρ) (t : Tr G0 H0 σ ρ G H ρ') (b : Beside G H H0 vs ss) {n : Nat} {a : Addr} {l : Bool} {ds : List D} (h : ss[n]? = some (.own l ds)) (hv : vs[n]? = some (.ref a)) : ¬ Fp σ ρ' a := fun z => by
  obtain ⟨zs, z⟩ := fp_some r0 (t.kp.fp z)
  obtain ⟨_, c, xs, z1, _, _, _, z5⟩ := b.own h
  rw [hv] at z1
  cases z1
  rw [z] at z5
  cases z5
theorem fp_set {σ : L2.St} {ρ : Rh} {i : Nat} {v : V} {s : Sl} {a : Addr} (hl : σ.length = ρ.length) (h : Fp (σ.set i (some v)) (ρ.set i s) a) : Fp σ ρ a ∨ (v = .ref a ∧ ∃ l ds, s = .own l ds) := by
  obtain ⟨j, l, ds, h1, h2⟩ := h
  by_cases e : j = i
  · subst e
    have hi : j < ρ.length := by
      have := (List.getElem?_eq_some_iff.mp h1).1
      rw [List.length_set] at this
      exact this
    rw [List.getElem?_set_self hi] at h1
    rw [List.getElem?_set_self (by rw [hl]; exact hi)] at h2
    cases h1
    cases h2
    exact .inr ⟨rfl, l, ds, rfl⟩
  · rw [List.getElem?_set_ne (Ne.symm e)] at h1 h2
    exact .inl ⟨j, l, ds, h1, h2⟩
theorem par2_of {i j : Nat} {l : List Ag} (D : Ends) (σ : L2.St) (H : Hp) (h : RS (mPar2 i j l) D σ H) : tPar i j (tPars l) D σ H := by
  obtain ⟨G, ρ, o, r, e, f⟩ := h
  obtain ⟨p, e1, e⟩ := bnd e
  obtain ⟨ss, ρ'⟩ := p
  split at e
  · rename_i s u hss
    have hss : ss = [s, u] := hss
    subst hss
    obtain ⟨⟨hi, hj, li, lj⟩, rfl⟩ := some_if e
    refine pars_of l r e1 fun G1 H1 vs t b => ?_
    have un := mPar_un l e1
    obtain ⟨v, w, rfl⟩ : ∃ v w, vs = [v, w] := by
      match vs, b.len with
      | [v, w], _ => exact ⟨v, w, rfl⟩
    refine ⟨v, w, rfl, f G1 H1 _ ?_⟩
    have t1 := TrS.put1 t.s b (n := 0) rfl rfl (un s (by simp)) hi li fun a ha ⟨l, ds, hs⟩ => by subst hs; exact b.nofp r t (n := 0) rfl ha
    refine TrS.put1 t1 b (n := 1) rfl rfl (un u (by simp)) (by rw [List.length_set]; exact hj) (isLent_set lj (b.lent (n := 0) rfl)) fun a ha ⟨l, ds, hs⟩ z => ?_
    subst hs
    rcases fp_set t.rep.len z with z | ⟨qe, l', ds', z'⟩
    · exact b.nofp r t (n := 1) rfl ha z
    · subst z'
      have := b.inj (i := 0) (j := 1) rfl rfl (by rw [← qe]; rfl) ha
      cases this
  · cases e
theorem par3_of {i j n : Nat} {l : List Ag} (D : Ends) (σ : L2.St) (H : Hp) (h : RS (mPar3 i j n l) D σ H) : tPar3 i j n (tPars l) D σ H := by
  obtain ⟨G, ρ, o, r, e, f⟩ := h
  obtain ⟨p, e1, e⟩ := bnd e
  obtain ⟨ss, ρ'⟩ := p
  split at e
  · rename_i s u y hss
    have hss : ss = [s, u, y] := hss
    subst hss
    obtain ⟨⟨⟨hi, hj, hn⟩, li, lj, ln⟩, rfl⟩ := some_if e
    refine pars_of l r e1 fun G1 H1 vs t b => ?_
    have un := mPar_un l e1
    obtain ⟨v, w, x, rfl⟩ : ∃ v w x, vs = [v, w, x] := by
      match vs, b.len with
      | [v, w, x], _ => exact ⟨v, w, x, rfl⟩
    refine ⟨v, w, x, rfl, f G1 H1 _ ?_⟩
    have t1 := TrS.put1 t.s b (n := 0) rfl rfl (un s (by simp)) hi li fun a ha ⟨l, ds, hs⟩ => by subst hs; exact b.nofp r t (n := 0) rfl ha
    have t2 := TrS.put1 t1 b (n := 1) rfl rfl (un u (by simp)) (by rw [List.length_set]; exact hj) (isLent_set lj (b.lent (n := 0) rfl)) fun a ha ⟨l, ds, hs⟩ z => by
      subst hs
      rcases fp_set t.rep.len z with z | ⟨qe, l', ds', z'⟩
      · exact b.nofp r t (n := 1) rfl ha z
      · subst z'
        have := b.inj (i := 0) (j := 1) rfl rfl (by rw [← qe]; rfl) ha
        cases this
    refine TrS.put1 t2 b (n := 2) rfl rfl (un y (by simp)) (by rw [List.length_set, List.length_set]; exact hn) (isLent_set (isLent_set ln (b.lent (n := 0) rfl)) (b.lent (n := 1) rfl)) fun a ha ⟨l, ds, hs⟩ z => ?_
    subst hs
    rcases fp_set t1.rep.len z with z | ⟨qe, l', ds', z'⟩
    · rcases fp_set t.rep.len z with z | ⟨qe, l', ds', z'⟩
      · exact b.nofp r t (n := 2) rfl ha z
      · subst z'
        have := b.inj (i := 0) (j := 2) rfl rfl (by rw [← qe]; rfl) ha
        cases this
    · subst z'
      have := b.inj (i := 1) (j := 2) rfl rfl (by rw [← qe]; rfl) ha
      cases this
  · cases e
section
variable {i j n : Nat} {x y z : Str} {a b c : Expr} {l : List Ag} {px py pz pt pos : Pos} {kt k2 pt2}
theorem qs_par2 (hc : X.calm = true) (hN : X.N.Nodup) (hi : X.N[i]? = some x) (hj : X.N[j]? = some y) (hij : i ≠ j)
    (hx : X.env.scope.names.lookup x = some .local) (hy : X.env.scope.names.lookup y = some .local) (ha : PA X [a, b] (tPars l))
    (hw : swappedStores [.Tuple [.Name x px, .Name y py] kt pt] (.Tuple [a, b] k2 pt2) X.env = pure (some [x, y]))
    (hs : swapsWithSole [.Tuple [.Name x px, .Name y py] kt pt] (.Tuple [a, b] k2 pt2) pos.line X.env = pure false := by rfl) :
    PS X (.Assign [.Tuple [.Name x px, .Name y py] kt pt] (.Tuple [a, b] k2 pt2) pos) (RS (mPar2 i j l)) := impS (ps_par hc hN hi hj hij hx hy ha hw hs) par2_of
theorem qs_par3 (hc : X.calm = true) (hN : X.N.Nodup) (hi : X.N[i]? = some x) (hj : X.N[j]? = some y) (hl : X.N[n]? = some z) (hij : i ≠ j) (hil : i ≠ n) (hjl : j ≠ n)
    (hx : X.env.scope.names.lookup x = some .local) (hy : X.env.scope.names.lookup y = some .local) (hz : X.env.scope.names.lookup z = some .local) (ha : PA X [a, b, c] (tPars l))
    (hw : swappedStores [.Tuple [.Name x px, .Name y py, .Name z pz] kt pt] (.Tuple [a, b, c] k2 pt2) X.env = pure (some [x, y, z]))
    (hs : swapsWithSole [.Tuple [.Name x px, .Name y py, .Name z pz] kt pt] (.Tuple [a, b, c] k2 pt2) pos.line X.env = pure false := by rfl) :
    PS X (.Assign [.Tuple [.Name x px, .Name y py, .Name z pz] kt pt] (.Tuple [a, b, c] k2 pt2) pos) (RS (mPar3 i j n l)) := impS (ps_par3 hc hN hi hj hl hij hil hjl hx hy hz ha hw hs) par3_of
end
theorem qp_nil : PA X [] (tPars []) := pa_nil
theorem qp_v {e : Expr} {es : List Expr} {m : Me} {l : List Ag} (ha : PE X e (R m)) (hr : PA X es (tPars l)) (hs : starEach (e :: es) X.env = (false, eval e X.env) :: starEach es X.env := by rfl) : PA X (e :: es) (tPars (.v m :: l)) := pa_cons ha hr hs
theorem qp_f {e : Expr} {es : List Expr} {m : Ma} {l : List Ag} (ha : PE X e (RF m)) (hr : PA X es (tPars l)) (hs : starEach (e :: es) X.env = (false, eval e X.env) :: starEach es X.env := by rfl) : PA X (e :: es) (tPars (.f m :: l)) := pa_cons ha hr hs
end
end Pl
namespace Pl
open PySem PySem.Spec PyProof.Rows L2 Kn
variable [Tbs]
section
variable {X : Cx}
/-! a, b = e: what comes is taken apart -/
def mAsg (m : Me) (g : Mg) : Ms := fun ρ => (m ρ).bind fun p => (g p.1 p.2).map .nx
theorem asg_of {m : Me} {ts : List Nat} {g : Mg} (D : Ends) (σ : L2.St) (H : Hp) (h : RS (mAsg m g) D σ H) : tAsg (R m) (RG ts g) D σ H := by
  obtain ⟨G, ρ, o, r, e, f⟩ := h
  obtain ⟨p, e1, e⟩ := bnd e
  obtain ⟨ρ', e2, rfl⟩ := mpd e
  exact ⟨G, ρ, p.1, p.2, r, e1, fun G1 H1 v t hv => ⟨G1, p.2, p.1, ρ', t.rep, hv, e2, fun σ' r' sl hσ hno hl => f G1 H1 σ' (t.s.trans (TrS.tgt t.rep r' hσ hno hl))⟩⟩
theorem qs_asg {tg e : Expr} {m : Me} {ts : List Nat} {g : Mg} {pos : Pos} (he : PE X e (R m)) (hg : PG X tg (RG ts g)) (hs : swapsWithSole [tg] e pos.line X.env = pure false := by rfl) (hw : swappedStores [tg] e X.env = pure none := by rfl)
    (h1 : (assignEach [tg] X.env).map (·.2) = [assign tg X.env] := by rfl) : PS X (.Assign [tg] e pos) (RS (mAsg m g)) := impS (ps_asg he hg hs hw h1) asg_of
/-- a, (b, c) -/
def tgN (i j k : Nat) : Mg := fun d ρ => match d with
  | .tup _ [a, b] => (setV i a ρ).bind fun ρ' => tg2 j k b ρ'
  | _ => none
theorem setAll_two {j k : Nat} {l : List D} {ρ ρ' : Rh} (h : setAll [j, k] l ρ = some ρ') : ∃ a b, l = [a, b] := by
  match l, h with
  | [a, b], _ => exact ⟨a, b, rfl⟩
  | [], h => cases h
  | [a], h =>
    obtain ⟨x, e1, e⟩ := bnd h
    cases e
  | a :: b :: c :: l, h =>
    obtain ⟨x, e1, e⟩ := bnd h
    obtain ⟨y, e2, e⟩ := bnd e
    cases e
theorem qg_nest {i j k : Nat} {es : List Expr} {kk : Nat} {pos : Pos} (h : PG X (.Tuple es kk pos) (gTup X.K 2 (gCons (gName i) (gCons (RG [j, k] (tg2 j k)) gNil)))) : PG X (.Tuple es kk pos) (RG [i, j, k] (tgN i j k)) := by
  refine impG h fun v σ H Q ⟨G, ρ, d, ρ', r, hv, e, q⟩ => ?_
  unfold tgN at e
  split at e
  · rename_i w a b
    obtain ⟨ρ1, e1, e2⟩ := bnd e
    obtain ⟨c, xs, rfl, h2, z⟩ := tup_cases X.K hv
    obtain ⟨x, y, rfl, h3, h4⟩ := two_inv h2
    obtain ⟨rfl, hi, hn⟩ := setV_inv e1
    refine ⟨c, _, rfl, z H r.le, rfl, _, _, rfl, _, _, rfl, G, _, b, ρ', r.set h3 hi, h4, e2, fun σ' r' sl hσ hno hl => ⟨rfl, q σ' r' (by rw [sl]; simp) (fun a ha => ?_) (fun a ha => ?_) (by rw [hl]; simp)⟩⟩
    · have a1 : i ≠ a := fun z => ha (by simp [z])
      have a2 : a ∉ [j, k] := fun z => ha (by simp at z ⊢; exact .inr z)
      obtain ⟨z1, z2⟩ := hσ a a2
      rw [z1, z2, List.getElem?_set_ne a1, List.getElem?_set_ne a1]
      exact ⟨rfl, rfl⟩
    · by_cases hj : a ∈ [j, k]
      · obtain ⟨z1, z2⟩ := hno a hj
        refine ⟨fun l ds z => ?_, z2⟩
        by_cases hia : i = a
        · subst hia; exact hn l ds z
        · exact z1 l ds (by rw [List.getElem?_set_ne hia]; exact z)
      · have e : a = i := by simp at ha hj; exact ha.elim id fun h => (h.elim hj.1 hj.2).elim
        subst e
        refine ⟨hn, fun l ds z => ?_⟩
        rw [(hσ a hj).2, List.getElem?_set_self hi] at z
        cases z
  · cases e
/-! a def that calls itself -/
theorem fn0 {P : Program} {w : World} {K : PySem.W.Frag} {mg : Str → Option Value} {base : Heap} {f : Addr} {fd : FuncData} {ps : List Str} : FnOk P w K mg base CX0 0 f fd ps (SpP fun _ => none) :=
  ⟨fun vs H Q E ⟨_, _, _, _, _, e, _⟩ => (nomatch e), fun A outer s H args us vs Q E _ _ _ _ ⟨_, _, _, _, _, e, _⟩ => (nomatch e)⟩
end
/-- the names of Python's own that the module leaves as they are -/
structure Bi (mg : Str → Option Value) : Prop where
  abs : mg "abs" = none
  int : mg "int" = none
  len : mg "len" = none
  range : mg "range" = none
  max : mg "max" = none
  min : mg "min" = none
  all : mg "all" = none
  isi : mg "isinstance" = none
  list : mg "list" = none
  tuple : mg "tuple" = none
  str : mg "str" = none
  bool : mg "bool" = none
  zip : mg "zip" = none
  sorted : mg "sorted" = none
  enum : mg "enumerate" = none
  dict : mg "dict" = none
  repr : mg "repr" = none
  set : mg "set" = none
  rev : mg "reversed" = none
  sum : mg "sum" = none
  any : mg "any" = none
end Pl
namespace Pl
open PySem PySem.Spec PyProof.Rows L2 Kn
variable [Tbs]
/-! told lists that are changed behind a look -/
section
variable {X : Cx}
def mTold2 (i : Nat) (ma mb : Ma) (F : List D → Option D) (m3 : Me) : Ms := fun ρ => (ma ρ).bind fun p => (mb p.2).bind fun q => if i < q.2.length ∧ isLent q.2[i]? = false ∧ p.1.length < 100000 then (m3 (q.2.set i .un)).bind fun r => match F [.lst [.lst p.1, .lst q.1], r.1] with
  | some (.bl true) => some (.nx r.2)
  | some (.bl false) => some (.rt (.bl false) r.2)
  | _ => none else none
/-- a slot is forgotten -/
theorem Rep.un {G H : Hp} {σ : L2.St} {ρ : Rh} {i : Nat} {v : V} (r : Rep G H σ ρ) (hi : i < ρ.length) : Rep G H (σ.set i (some v)) (ρ.set i .un) := by
  have ne : ∀ {j : Nat} {s : Sl}, (ρ.set i .un)[j]? = some s → s ≠ .un → j ≠ i ∧ ρ[j]? = some s := fun {j s} h hs => by
    by_cases hj : j = i
    · subst hj
      rw [List.getElem?_set_self hi] at h
      cases h
      exact (hs rfl).elim
    · rw [List.getElem?_set_ne (Ne.symm hj)] at h
      exact ⟨hj, h⟩
  refine ⟨r.le, by simp [r.len], fun {j e} h => ?_, fun {j l ds} h => ?_, fun {j k l l' ds ds' a} h1 h2 h3 h4 => ?_⟩
  · obtain ⟨hj, h⟩ := ne h (fun z => nomatch z)
    rw [List.getElem?_set_ne (Ne.symm hj)]
    exact r.val h
  · obtain ⟨hj, h⟩ := ne h (fun z => nomatch z)
    rw [List.getElem?_set_ne (Ne.symm hj)]
    exact r.own h
  · obtain ⟨hj, h1⟩ := ne h1 (fun z => nomatch z)
    obtain ⟨hk, h2⟩ := ne h2 (fun z => nomatch z)
    rw [List.getElem?_set_ne (Ne.symm hj)] at h3
    rw [List.getElem?_set_ne (Ne.symm hk)] at h4
    exact r.inj h1 h2 h3 h4
theorem TrS.un {G H : Hp} {σ : L2.St} {ρ : Rh} {i : Nat} {v : V} (r : Rep G H σ ρ) (hi : i < ρ.length) (hl : isLent ρ[i]? = false) : TrS G H σ ρ G H (σ.set i (some v)) (ρ.set i .un) := by
  refine ⟨Go.refl r.le, r.un hi, fun a ⟨j, l, ds, h1, h2⟩ => ?_, by simp, fun {j ds} h => ?_⟩
  · by_cases hj : j = i
    · subst hj
      rw [List.getElem?_set_self hi] at h1
      cases h1
    · rw [List.getElem?_set_ne (Ne.symm hj)] at h1 h2
      exact .inl ⟨j, l, ds, h1, h2⟩
  · have hj : j ≠ i := fun e => by
      subst e
      rw [h] at hl
      cases hl
    rw [List.getElem?_set_ne (Ne.symm hj), List.getElem?_set_ne (Ne.symm hj)]
    exact ⟨rfl, ds, h⟩
/-- what no slot has, and is not for good, may change -/
theorem TrS.pokeS {G0 H0 G H : Hp} {σ0 σ : L2.St} {ρ0 ρ : Rh} {p : Addr} {o : HO} (r0 : Rep G0 H0 σ0 ρ0) (t : TrS G0 H0 σ0 ρ0 G H σ ρ) (hn : H0 p = none) (hg : G p = none) (hf : ¬ Fp σ ρ p) (hp : ∀ u, H p = some u → Chg u) : TrS G0 H0 σ0 ρ0 G (upd H p o) σ ρ :=
  ⟨⟨t.go.gg, (t.rep.poke (o := o) hg hf hp).le, fun a u e n w => by rw [upd_ne (ne_of_none e hn)]; exact t.go.off a u e n w, fun a o h g n w => t.go.new a o h g n w, fun a h => t.go.dom a (by
    by_cases ha : a = p
    · subst ha; rw [upd_same] at h; cases h
    · rw [upd_ne ha] at h; exact h)⟩, t.rep.poke hg hf hp, t.fp, t.len, t.lent⟩
/-- the heap is greater -/
theorem TrS.more {G0 H0 G H H' : Hp} {σ0 σ : L2.St} {ρ0 ρ : Rh} (t : TrS G0 H0 σ0 ρ0 G H σ ρ) (s : LamX.ExtN H H') (l : Le G H') (d : ∀ a, H' a = none → H a = none) : TrS G0 H0 σ0 ρ0 G H' σ ρ :=
  ⟨⟨t.go.gg, l, fun a u e n w => s _ _ (t.go.off a u e n w) w, fun a o h g n w => t.go.new a o h g n w, fun a h => t.go.dom a (d a h)⟩, ⟨l, t.rep.len, t.rep.val, fun {i l ds} h => by
    obtain ⟨a, xs, h1, h2, h3, h4⟩ := t.rep.own h
    exact ⟨a, xs, h1, s _ _ h2 nt_lst, h3, h4⟩, t.rep.inj⟩, t.fp, t.len, t.lent⟩
theorem told2 {i : Nat} {ma mb : Ma} {m3 : Me} {F : List D → Option D} {c : Str} {K : PySem.W.Frag} (D : Ends) (σ : L2.St) (H : Hp) (h : RS (mTold2 i ma mb F m3) D σ H) :
    tSeq (tAsg (tLst (tCons (RF ma) (tCons (RF mb) tNil))) (gName i)) (tSeq (tIfS (tNot (tB (tCall (SpP F) [] E0 (tCons (tVar i) (tCons (R m3) tNil))))) (tRet (tC (.bl false))) tNext)
      (tSeq (tDrop (tBM K "list" rAppend (tOp (rIxL K) (tVar i) (tC (.int 0))) (tCons (tC (.str c)) tNil))) (tDrop (tBM0 K "list" rClear (tOp (rIxL K) (tVar i) (tC (.int 1))))))) D σ H := by
  obtain ⟨G, ρ, o, r, e, f⟩ := h
  obtain ⟨p, e1, e⟩ := bnd e
  obtain ⟨q, e2, e⟩ := bnd e
  split at e
  case isFalse => cases e
  rename_i hc
  obtain ⟨hi, hl, hlen⟩ := hc
  obtain ⟨u, e3, e⟩ := bnd e
  refine ⟨G, ρ, p.1, p.2, r, e1, fun G1 H1 a1 xs1 t1 n1 h1 g1 x1 => ⟨G1, p.2, q.1, q.2, t1.rep, e2, fun G2 H2 a2 xs2 t2 n2 h2 g2 x2 => ⟨by show 2 ≤ sizeLine; decide, fun p0 hp0 => ?_⟩⟩⟩
  have nf1 : ¬ Fp σ p.2 a1 := fun z => by
    obtain ⟨zs, z⟩ := fp_some r (t1.kp.fp z)
    rw [n1] at z; cases z
  have h1' := t2.go.off _ _ h1 nf1
  have g1' := t2.go.new _ _ h1 g1 nf1
  have t12 := t1.trans t2
  have n2' : H a2 = none := t1.go.dom _ n2
  have n0 : H p0 = none := t12.go.dom _ hp0
  have ne12 : a1 ≠ a2 := fun e => by rw [e, n2] at h1; cases h1
  have ne10 : a1 ≠ p0 := ne_of_none h1' hp0
  have ne20 : a2 ≠ p0 := ne_of_none h2 hp0
  have T3 : TrS G H σ ρ G2 (upd H2 p0 (.lst [.ref a1, .ref a2])) (σ.set i (some (.ref p0))) (q.2.set i .un) := (t12.s.trans (TrS.un t12.rep hi hl)).more (.of (same_new hp0)) (t12.rep.le.to (same_new hp0)) fun a => (same_new hp0).free
  have nofp : ∀ {G' H' σ' ρ'} {a : Addr}, TrS G H σ ρ G' H' σ' ρ' → H a = none → (∀ b, Fp σ' ρ' b → Fp σ ρ b) → ¬ Fp σ' ρ' a := fun {G' H' σ' ρ' a} t ha hb z => by
    obtain ⟨zs, z⟩ := fp_some r (hb a z)
    rw [ha] at z; cases z
  have fp3 : ∀ b, Fp (σ.set i (some (.ref p0))) (q.2.set i .un) b → Fp σ ρ b := fun b z => by
    rcases fp_set t12.rep.len z with z | ⟨_, l, ds, z⟩
    · exact t12.kp.fp z
    · cases z
  have hσi : (σ.set i (some (.ref p0)))[i]? = some (some (.ref p0)) := List.getElem?_set_self (by rw [t12.rep.len]; exact hi)
  refine ⟨.ref p0, hσi, G2, q.2.set i .un, u.1, u.2, T3.rep, e3, fun G4 H4 v3 t4 hv3 => ?_⟩
  have T4 := T3.trans t4.s
  have fp4 : ∀ b, Fp (σ.set i (some (.ref p0))) u.2 b → Fp σ ρ b := fun b z => fp3 b (t4.kp.fp z)
  have k1 : H4 a1 = some (.lst xs1) := t4.go.off _ _ (by rw [upd_ne ne10]; exact h1') (nofp T3 n1 fp3)
  have k2 : H4 a2 = some (.lst xs2) := t4.go.off _ _ (by rw [upd_ne ne20]; exact h2) (nofp T3 n2' fp3)
  have k0 : H4 p0 = some (.lst [.ref a1, .ref a2]) := t4.go.off _ _ upd_same (nofp T3 n0 fp3)
  have l1 : G4 a1 = none := t4.go.new _ _ (show upd H2 p0 _ a1 = _ by rw [upd_ne ne10]; exact h1') g1' (nofp T3 n1 fp3)
  have l2 : G4 a2 = none := t4.go.new _ _ (show upd H2 p0 _ a2 = _ by rw [upd_ne ne20]; exact h2) g2 (nofp T3 n2' fp3)
  have l0 : G4 p0 = none := t4.go.new _ _ (show upd H2 p0 _ p0 = _ from upd_same) (t12.rep.le.free hp0) (nofp T3 n0 fp3)
  have gg : Same G2 G4 := t4.go.gg
  -- what is for good while one looks
  have s1 : Same G4 (upd G4 a1 (.lst xs1)) := same_new l1
  have l2' : (upd G4 a1 (.lst xs1)) a2 = none := by rw [upd_ne (Ne.symm ne12)]; exact l2
  have s2 : Same (upd G4 a1 (.lst xs1)) (upd (upd G4 a1 (.lst xs1)) a2 (.lst xs2)) := same_new l2'
  have l0' : (upd (upd G4 a1 (.lst xs1)) a2 (.lst xs2)) p0 = none := by rw [upd_ne (Ne.symm ne20), upd_ne (Ne.symm ne10)]; exact l0
  have s3 := same_new (o := .lst [.ref a1, .ref a2]) l0'
  have le4 : Le (upd (upd (upd G4 a1 (.lst xs1)) a2 (.lst xs2)) p0 (.lst [.ref a1, .ref a2])) H4 := ((t4.rep.le.good k1 nt_lst).good k2 nt_lst).good k0 nt_lst
  have sa := (s1.trans s2).trans s3
  have d1 : Dd (upd (upd (upd G4 a1 (.lst xs1)) a2 (.lst xs2)) p0 (.lst [.ref a1, .ref a2])) (.ref a1) (.lst p.1) := .lst (s3 _ _ (s2 _ _ upd_same)) (dda_same sa (dda_same (t2.go.gg.trans gg) x1))
  have d2 : Dd (upd (upd (upd G4 a1 (.lst xs1)) a2 (.lst xs2)) p0 (.lst [.ref a1, .ref a2])) (.ref a2) (.lst q.1) := .lst (s3 _ _ upd_same) (dda_same sa (dda_same gg x2))
  have da : DdA (upd (upd (upd G4 a1 (.lst xs1)) a2 (.lst xs2)) p0 (.lst [.ref a1, .ref a2])) [.ref p0, v3] [.lst [.lst p.1, .lst q.1], u.1] := .cons (.lst upd_same (.cons d1 (.cons d2 .nil))) (.cons (dd_same sa hv3) .nil)
  split at e
  · rename_i hF
    cases e
    refine ⟨_, _, _, le4, da, hF, fun G5 H5 v ex hv => ?_⟩
    cases hv
    have s5 : ∀ a o, H4 a = some o → (w : NT o := by first | exact nt_lst | assumption) → H5 a = some o := fun a o h w => ex.off a o h id w
    have T5 := T4.more ex.same (ex.le.sub (sa.trans ex.gg)) ex.dom
    refine ⟨true, rfl, iteF ?_⟩
    have ix0 : atI [V.ref a1, V.ref a2] 0 = some (.ref a1) := rfl
    have ix1 : atI [V.ref a1, V.ref a2] 1 = some (.ref a2) := rfl
    refine ⟨.ref p0, hσi, p0, _, 0, .ref a1, rfl, rfl, sq_l (s5 _ _ k0), ix0, .inl ⟨rfl, xs1, sq_l (s5 _ _ k1)⟩, a1, xs1, _, rfl, rfl, s5 _ _ k1, by rw [dda_len x1]; exact sz6 hlen, ?_⟩
    have T6 := TrS.pokeS (o := .lst (xs1 ++ [.str c])) r T5 n1 l1 (nofp T5 n1 fp4) (fun u z => by rw [s5 _ _ k1] at z; cases z; exact .inl ⟨_, rfl⟩)
    refine ⟨.ref p0, hσi, p0, _, 1, .ref a2, rfl, rfl, sq_l (by rw [upd_ne (Ne.symm ne10)]; exact s5 _ _ k0), ix1, .inl ⟨rfl, xs2, sq_l (by rw [upd_ne (Ne.symm ne12)]; exact s5 _ _ k2)⟩, a2, xs2, rfl, rfl, by rw [upd_ne (Ne.symm ne12)]; exact s5 _ _ k2, ?_⟩
    exact f G4 _ _ (TrS.pokeS (o := .lst []) r T6 n2' l2 (nofp T6 n2' fp4) (fun u z => by rw [upd_ne (Ne.symm ne12), s5 _ _ k2] at z; cases z; exact .inl ⟨_, rfl⟩))
  · rename_i hF
    cases e
    refine ⟨_, _, _, le4, da, hF, fun G5 H5 v ex hv => ?_⟩
    cases hv
    exact ⟨false, rfl, iteT (f G4 H5 _ (.bl false) (T4.more ex.same (ex.le.sub (sa.trans ex.gg)) ex.dom) (.bl false))⟩
  · cases e
end
/-! the box of drawn numbers -/
def Box (n : Nat) (bs : List D) : Prop := ∃ x y z : Int, bs = [.int x, .int y, .int z] ∧ 0 ≤ x ∧ 0 ≤ y ∧ y < 8589934592 ∧ 0 ≤ z ∧ z ≤ n
theorem Box.mono {n m : Nat} {bs : List D} (h : Box n bs) (l : n ≤ m) : Box m bs := by
  obtain ⟨x, y, z, e, a1, a2, a3, a4, a5⟩ := h
  exact ⟨x, y, z, e, a1, a2, a3, a4, by omega⟩
end Pl
namespace Pl
open PySem PySem.Spec PyProof.Rows L2 Kn
variable [Tbs]
/-! mirrors, worked out step by step -/
section
variable {ρ ρ1 ρ2 ρ3 : Rh}
theorem v_op {α : Type} {f : D → D → Option α} {a b : Me} {x y : D} {z : α} (ha : a ρ = some (x, ρ1)) (hb : b ρ1 = some (y, ρ2)) (hf : f x y = some z) : mOp f a b ρ = some (z, ρ2) := by
  unfold mOp
  rw [ha, Option.bind_some, hb, Option.bind_some, hf]
  rfl
theorem v_cons {a : Me} {b : Ma} {x : D} {xs : List D} (ha : a ρ = some (x, ρ1)) (hb : b ρ1 = some (xs, ρ2)) : mCons a b ρ = some (x :: xs, ρ2) := by
  unfold mCons
  rw [ha, Option.bind_some, hb]
  rfl
theorem v_nil : mNil ρ = some ([], ρ) := rfl
theorem v_call {α : Type} {F : List D → Option α} {m : Ma} {ds : List D} {d : α} (h : m ρ = some (ds, ρ1)) (hf : F ds = some d) : mCall F m ρ = some (d, ρ1) := by
  unfold mCall
  rw [h, Option.bind_some, hf]
  rfl
theorem v_L {m : Ma} {ds : List D} (h : m ρ = some (ds, ρ1)) : mL m ρ = some (.lst ds, ρ1) := by
  unfold mL
  rw [h]
  rfl
theorem v_meth {i : Nat} {f : List D → List D → Option (D × List D)} {m : Ma} {as ds ds' : List D} {l : Bool} {d : D} (h0 : isOwn ρ[i]? = true) (h : m ρ = some (as, ρ1)) (h1 : ρ1[i]? = some (.own l ds)) (hf : f ds as = some (d, ds')) : mMeth i f m ρ = some (d, ρ1.set i (.own l ds')) := by
  unfold mMeth
  rw [if_pos h0, h, Option.bind_some]
  show (match (ρ1[i]? : Option Sl) with | some (.own l ds) => (f ds as).map fun (q : D × List D) => (q.1, ρ1.set i (.own l q.2)) | _ => none) = _
  rw [h1]
  show (f ds as).map _ = _
  rw [hf]
  rfl
theorem v_callB {i : Nat} {f : List D → List D → Option (D × List D)} {m : Ma} {as ds ds' : List D} {l : Bool} {d : D} (h0 : isOwn ρ[i]? = true) (h : m ρ = some (as, ρ1)) (h1 : ρ1[i]? = some (.own l ds)) (hf : f ds as = some (d, ds')) : mCallB i f m ρ = some (d, ρ1.set i (.own l ds')) := v_meth h0 h h1 hf
theorem v_tup {k : Bool} {m : Ma} {ds : List D} (h : m ρ = some (ds, ρ1)) (hl : ds.length ≤ 100000) : mTup k m ρ = some (.tup k ds, ρ1) := by
  unfold mTup
  rw [h, Option.bind_some, if_pos hl]
theorem v_disp {m : Ma} {ds : List D} (h : m ρ = some (ds, ρ1)) (hl : ds.length ≤ 100000) : mDisp m ρ = some (ds, ρ1) := by
  unfold mDisp
  rw [h, Option.bind_some, if_pos hl]
theorem v_B {m : Me} {b : Bool} (h : m ρ = some (.bl b, ρ1)) : mB m ρ = some (b, ρ1) := by
  unfold mB
  rw [h]
theorem v_not {m : Mt} {b : Bool} (h : m ρ = some (b, ρ1)) : mNot m ρ = some (!b, ρ1) := by
  unfold mNot
  rw [h]
  rfl
theorem v_orF {a b : Mt} {c : Bool} (h : a ρ = some (false, ρ1)) (h2 : b ρ1 = some (c, ρ2)) : mOr a b ρ = some (c, ρ2) := by
  unfold mOr
  rw [h]
  exact h2
theorem v_orT {a b : Mt} (h : a ρ = some (true, ρ1)) : mOr a b ρ = some (true, ρ1) := by
  unfold mOr
  rw [h]
  rfl
theorem v_andT {a b : Mt} {c : Bool} (h : a ρ = some (true, ρ1)) (h2 : b ρ1 = some (c, ρ2)) : mAnd a b ρ = some (c, ρ2) := by
  unfold mAnd
  rw [h]
  exact h2
theorem v_andF {a b : Mt} (h : a ρ = some (false, ρ1)) : mAnd a b ρ = some (false, ρ1) := by
  unfold mAnd
  rw [h]
  rfl
theorem v_andV {a b : Me} {d : D} (h : a ρ = some (.bl true, ρ1)) (h2 : b ρ1 = some (d, ρ2)) : mAndV a b ρ = some (d, ρ2) := by
  unfold mAndV
  rw [v_B h]
  exact h2
theorem v_ifT {c : Mt} {a b : Me} {d : D} (h : c ρ = some (true, ρ1)) (h2 : a ρ1 = some (d, ρ2)) : mIf c a b ρ = some (d, ρ2) := by
  unfold mIf
  rw [h]
  exact h2
theorem v_ifF {c : Mt} {a b : Me} {d : D} (h : c ρ = some (false, ρ1)) (h2 : b ρ1 = some (d, ρ2)) : mIf c a b ρ = some (d, ρ2) := by
  unfold mIf
  rw [h]
  exact h2
theorem v_sl {m : Me} {lo hi : Mo} {l : List D} {x y : Option Int} (h : m ρ = some (.lst l, ρ1)) (h1 : lo ρ1 = some (x, ρ2)) (h2 : hi ρ2 = some (y, ρ3)) : mSl m lo hi ρ = some (cutL l x y, ρ3) := by
  unfold mSl
  rw [h, Option.bind_some, h1, Option.bind_some, h2]
  rfl
theorem v_moS {m : Me} {i : Int} (h : m ρ = some (.int i, ρ1)) : moS m ρ = some (some i, ρ1) := by
  unfold moS
  rw [h]
  rfl
theorem v_it {m : Me} {d : D} {l : List D} (h : m ρ = some (d, ρ1)) (hd : itD d = some l) : mIt m ρ = some (l, ρ1) := by
  unfold mIt
  rw [h, Option.bind_some, hd]
  rfl
theorem v_revL {m : Me} {l : List D} (h : m ρ = some (.lst l, ρ1)) : mRevL m ρ = some (l.reverse, ρ1) := by
  unfold mRevL
  rw [h]
  rfl
/-- statements -/
theorem v_set {i : Nat} {m : Me} {d : D} (h : m ρ = some (d, ρ1)) (hi : i < ρ1.length) (hl : isLent ρ1[i]? = false) : mSet i m ρ = some (.nx (ρ1.set i (.val d))) := by
  unfold mSet
  rw [h, Option.bind_some, if_pos ⟨hi, hl⟩]
theorem v_setO {i : Nat} {m : Ma} {d : List D} (h : m ρ = some (d, ρ1)) (hi : i < ρ1.length) (hl : isLent ρ1[i]? = false) : mSetO i m ρ = some (.nx (ρ1.set i (.own false d))) := by
  unfold mSetO
  rw [h, Option.bind_some, if_pos ⟨hi, hl⟩]
theorem v_ex {α : Type} {m : Rh → Option (α × Rh)} {d : α} (h : m ρ = some (d, ρ1)) : mEx m ρ = some (.nx ρ1) := by
  unfold mEx
  rw [h]
  rfl
theorem v_ret {m : Me} {d : D} (h : m ρ = some (d, ρ1)) : mRet m ρ = some (.rt d ρ1) := by
  unfold mRet
  rw [h]
  rfl
theorem v_seq {a b : Ms} {o : Out} (h : a ρ = some (.nx ρ1)) (h2 : b ρ1 = some o) : mSeq a b ρ = some o := by
  unfold mSeq
  rw [h]
  exact h2
theorem v_ifsT {c : Mt} {a b : Ms} {o : Out} (h : c ρ = some (true, ρ1)) (h2 : a ρ1 = some o) : mIfS c a b ρ = some o := by
  unfold mIfS
  rw [h]
  exact h2
theorem v_ifsF {c : Mt} {a b : Ms} {o : Out} (h : c ρ = some (false, ρ1)) (h2 : b ρ1 = some o) : mIfS c a b ρ = some o := by
  unfold mIfS
  rw [h]
  exact h2
theorem v_for {src : Ma} {tg : Mg} {body : Ms} {ds : List D} {o : Out} (h : src ρ = some (ds, ρ1)) (h2 : forL tg body ds ρ1 = some o) : mFor src tg body ρ = some o := by
  unfold mFor
  rw [h]
  exact h2
theorem v_forC {tg : Mg} {body : Ms} {d : D} {ds : List D} {o : Out} (h : tg d ρ = some ρ1) (h2 : body ρ1 = some (.nx ρ2)) (h3 : forL tg body ds ρ2 = some o) : forL tg body (d :: ds) ρ = some o := by
  rw [forL, h, Option.bind_some, h2]
  exact h3
theorem v_frz {i : Nat} {m : Ms} {ds : List D} {o : Out} (h : ρ[i]? = some (.own false ds)) (h2 : m (ρ.set i (.val (.lst ds))) = some o) : mFz i m ρ = some o := by
  unfold mFz
  rw [h]
  exact h2
theorem v_asg {m : Me} {g : Mg} {d : D} (h : m ρ = some (d, ρ1)) (h2 : g d ρ1 = some ρ2) : mAsg m g ρ = some (.nx ρ2) := by
  unfold mAsg
  rw [h, Option.bind_some]
  show (g d ρ1).map _ = _
  rw [h2]
  rfl
theorem v_parN : mPar [] ρ = some ([], ρ) := rfl
theorem v_parV {m : Me} {r : List Ag} {d : D} {ss : List Sl} (h : m ρ = some (d, ρ1)) (h2 : mPar r ρ1 = some (ss, ρ2)) : mPar (.v m :: r) ρ = some (.val d :: ss, ρ2) := by
  rw [mPar, h, Option.bind_some, h2]
  rfl
theorem v_parF {m : Ma} {r : List Ag} {d : List D} {ss : List Sl} (h : m ρ = some (d, ρ1)) (h2 : mPar r ρ1 = some (ss, ρ2)) : mPar (.f m :: r) ρ = some (.own false d :: ss, ρ2) := by
  rw [mPar, h, Option.bind_some, h2]
  rfl
theorem v_par2 {i j : Nat} {l : List Ag} {s t : Sl} (h : mPar l ρ = some ([s, t], ρ1)) (hi : i < ρ1.length) (hj : j < ρ1.length) (li : isLent ρ1[i]? = false) (lj : isLent ρ1[j]? = false) : mPar2 i j l ρ = some (.nx ((ρ1.set i s).set j t)) := by
  unfold mPar2
  rw [h, Option.bind_some]
  exact if_pos ⟨hi, hj, li, lj⟩
theorem v_par3 {i j n : Nat} {l : List Ag} {s t u : Sl} (h : mPar l ρ = some ([s, t, u], ρ1)) (hi : i < ρ1.length) (hj : j < ρ1.length) (hn : n < ρ1.length) (li : isLent ρ1[i]? = false) (lj : isLent ρ1[j]? = false) (ln : isLent ρ1[n]? = false) : mPar3 i j n l ρ = some (.nx (((ρ1.set i s).set j t).set n u)) := by
  unfold mPar3
  rw [h, Option.bind_some]
  exact if_pos ⟨⟨hi, hj, hn⟩, li, lj, ln⟩
theorem v_lc {src : Ma} {tg : Mg} {tt : Mt} {te : Me} {vs : List Nat} {ds es : List D} (h : src ρ = some (ds, ρ1)) (hv : (vs.all fun i => !isOwn ρ1[i]?) = true) (hl : ds.length ≤ 100000) (h2 : lcL tg tt te vs ds (wipeR ρ1 vs) = some (es, ρ2)) : mLc src tg tt te vs ρ = some (es, unwipe ρ1 ρ2 vs) := by
  unfold mLc
  rw [h, Option.bind_some, if_pos ⟨hv, hl⟩, h2]
  rfl
theorem v_lcC {tg : Mg} {tt : Mt} {te : Me} {vs : List Nat} {d e : D} {ds es : List D} {ρ4 ρ5 : Rh} (h : tg d ρ = some ρ1) (h2 : tt ρ1 = some (true, ρ2)) (h3 : te ρ2 = some (e, ρ3)) (h4 : lcL tg tt te vs ds (wipeR ρ3 vs) = some (es, ρ4)) : lcL tg tt te vs (d :: ds) ρ = some (e :: es, ρ4) := by
  rw [lcL, h, Option.bind_some, h2, Option.bind_some, if_pos rfl, h3, Option.bind_some, h4]
  rfl
/-- defs -/
theorem v_runB {n k : Nat} {m : Ms} {bs ds bs' : List D} {d : D} {l : Bool} {ρ : Rh} (hn : ds.length = n) (h : m (beginB k bs ds) = some (.rt d ρ)) (h0 : ρ[0]? = some (.own l bs')) : runB n k m bs ds = some (d, bs') := by
  unfold runB
  rw [if_pos hn, h]
  show (match (ρ[0]? : Option Sl) with | some (.own _ bs') => some (d, bs') | _ => none) = _
  rw [h0]
theorem v_runP {n k : Nat} {m : Ms} {ds : List D} {d : D} {ρ : Rh} (hn : ds.length = n) (h : m (begin0 k ds) = some (.rt d ρ)) : runP n k m ds = some d := by
  unfold runP
  rw [if_pos hn, h]
theorem v_neg {m : Me} {i : Int} (h : m ρ = some (.int i, ρ1)) : mNeg m ρ = some (.int (-i), ρ1) := by
  unfold mNeg
  rw [h]
  rfl
theorem v_ixO {i : Nat} {m : Me} {l : Bool} {ds : List D} {j : Int} {d : D} (h0 : isOwn ρ[i]? = true) (h : m ρ = some (.int j, ρ1)) (h1 : ρ1[i]? = some (.own l ds)) (h2 : atI ds j = some d) : mIxO i m ρ = some (d, ρ1) := by
  unfold mIxO
  rw [if_pos h0, h, Option.bind_some]
  show (match (ρ1[i]? : Option Sl), (D.int j) with | some (.own _ ds), .int j => (atI ds j).map fun d => (d, ρ1) | _, _ => none) = _
  rw [h1]
  show (atI ds j).map _ = _
  rw [h2]
  rfl
theorem v_told2 {i : Nat} {ma mb : Ma} {F : List D → Option D} {m3 : Me} {d1 d2 : List D} {d3 : D} (h1 : ma ρ = some (d1, ρ1)) (h2 : mb ρ1 = some (d2, ρ2)) (hi : i < ρ2.length) (hl : isLent ρ2[i]? = false) (hn : d1.length < 100000) (h3 : m3 (ρ2.set i .un) = some (d3, ρ3)) (hF : F [.lst [.lst d1, .lst d2], d3] = some (.bl true)) : mTold2 i ma mb F m3 ρ = some (.nx ρ3) := by
  unfold mTold2
  rw [h1, Option.bind_some, h2, Option.bind_some, if_pos ⟨hi, hl, hn⟩, h3, Option.bind_some]
  show (match F [.lst [.lst d1, .lst d2], d3] with | some (.bl true) => some (Out.nx ρ3) | some (.bl false) => some (Out.rt (.bl false) ρ3) | _ => none) = _
  rw [hF]
end
end Pl
namespace Pl
open PySem PySem.Spec PyProof.Rows L2 Kn
variable [Tbs]
/-! the heap without one object -/
def wo (D : Addr) (H : Hp) : Hp := fun a => if a = D then none else H a
theorem wo_at {D : Addr} {H : Hp} : wo D H D = none := if_pos rfl
theorem wo_ne {D a : Addr} {H : Hp} (h : a ≠ D) : wo D H a = H a := if_neg h
theorem wo_some {D a : Addr} {H : Hp} {o : HO} (h : wo D H a = some o) : a ≠ D ∧ H a = some o := by
  unfold wo at h
  split at h
  · cases h
  · rename_i n
    exact ⟨n, h⟩
theorem wo_upd {D : Addr} {H : Hp} {o : HO} : wo D (upd H D o) = wo D H := by
  funext a
  by_cases h : a = D
  · rw [h, wo_at, wo_at]
  · rw [wo_ne h, wo_ne h, upd_ne h]
theorem wo_in {D : Addr} {H : Hp} : Same (wo D H) H := fun a o e => (wo_some e).2
theorem same_wo {D : Addr} {G H : Hp} (h : Le G H) (hD : G D = none) (hl : ∀ u, H D = some u → Chg u) : Le G (wo D H) := by
  refine ⟨fun a o e => by rw [wo_ne (ne_of_none e hD)]; exact h _ _ e, fun p hp => ?_, h.nt⟩
  obtain ⟨ps, h1, h2, h3⟩ := h.tb p hp
  have ne : ∀ b u, H b = some u → ¬ Chg u → b ≠ D := fun b u e n z => by
    subst z
    exact n (hl u e)
  refine ⟨ps, by rw [wo_ne (ne _ _ h1 chg_tbl)]; exact h1, h2, fun pos cv hc => ?_⟩
  obtain ⟨c, e1, e2⟩ := h3 pos cv hc
  exact ⟨c, e1, by rw [wo_ne (ne _ _ e2 chg_code)]; exact e2⟩
theorem lst_at {H : Hp} {D : Addr} {xs : List V} (h : H D = some (.lst xs)) : ∀ u, H D = some u → Chg u := fun u z => by
  rw [h] at z
  cases z
  exact .inl ⟨_, rfl⟩
theorem Go.wo {D : Addr} {G H G' H' : Hp} {F : Addr → Prop} {xs : List V} (g : Go G H G' H' F) (hD : H D = some (.lst xs)) (hG : G D = none) (hF : ¬ F D) : Go G (wo D H) G' (wo D H') F := by
  have n' : G' D = none := g.new D _ hD hG hF
  refine ⟨g.gg, same_wo g.le n' (lst_at (g.off D _ hD hF)), fun a u e n w => ?_, fun a u e h n w => g.new a u (wo_some e).2 h n w, fun a e => ?_⟩
  · obtain ⟨h1, h2⟩ := wo_some e
    rw [wo_ne h1]
    exact g.off a u h2 n w
  · by_cases h : a = D
    · rw [h, wo_at]
    · rw [wo_ne h] at e ⊢
      exact g.dom a e
section
variable {D : Addr} {G H G1 H1 : Hp} {σ : L2.St} {ρ ρ1 : Rh}
theorem Rep.wo (r : Rep G H σ ρ) (hG : G D = none) (hF : ¬ Fp σ ρ D) (hl : ∀ u, H D = some u → Chg u) : Rep G (wo D H) σ ρ := by
  refine ⟨same_wo r.le hG hl, r.len, r.val, fun {i l ds} h => ?_, r.inj⟩
  obtain ⟨a, xs, h1, h2, h3, h4⟩ := r.own h
  exact ⟨a, xs, h1, by rw [wo_ne (fun e => hF ⟨i, l, ds, h, by rw [← e]; exact h1⟩)]; exact h2, h3, h4⟩
theorem Rep.wo' (r : Rep G H σ ρ) (hG : G D = none) (hl : ∀ u, H D = some u → Chg u) (hF : ¬ Fp σ ρ D) : Rep G (Pl.wo D H) σ ρ := r.wo hG hF hl
theorem Rep.unwo (r : Rep G (Pl.wo D H) σ ρ) : Rep G H σ ρ := by
  refine ⟨r.le.trans wo_in, r.len, r.val, fun {i l ds} h => ?_, r.inj⟩
  obtain ⟨a, xs, h1, h2, h3, h4⟩ := r.own h
  exact ⟨a, xs, h1, wo_in _ _ h2, h3, h4⟩
theorem wo_free (r : Rep G (Pl.wo D H) σ ρ) : G D = none := r.le.free wo_at
theorem wo_nofp (r : Rep G (Pl.wo D H) σ ρ) : ¬ Fp σ ρ D := fun z => by
  obtain ⟨xs, e⟩ := fp_some r z
  rw [wo_at] at e
  cases e
theorem Tr.wo {xs : List V} (t : Tr G H σ ρ G1 H1 ρ1) (r : Rep G (Pl.wo D H) σ ρ) (hD : H D = some (.lst xs)) : Tr G (Pl.wo D H) σ ρ G1 (Pl.wo D H1) ρ1 ∧ H1 D = some (.lst xs) := by
  have g := t.go.wo hD (wo_free r) (wo_nofp r)
  exact ⟨⟨g, t.rep.wo (g.le.free wo_at) (fun z => wo_nofp r (t.kp.fp z)) (lst_at (t.go.off _ _ hD (wo_nofp r))), t.kp⟩, t.go.off _ _ hD (wo_nofp r)⟩
end
/-! comprehensions with two fors -/
def lc2L (tg : Mg) (tt : Mt) (src1 : Ma) (tg1 : Mg) (tt1 : Mt) (te : Me) (vs vs1 : List Nat) : List D → Rh → Option (List D × Rh)
  | [], ρ => some ([], ρ)
  | d :: ds, ρ => (tg d ρ).bind fun ρ1 => (tt ρ1).bind fun p => if p.1 = true then (src1 p.2).bind fun q => if (vs1.all fun i => !isOwn q.2[i]?) = true then (lcL tg1 tt1 te vs1 q.1 (wipeR q.2 vs1)).bind fun r => (lc2L tg tt src1 tg1 tt1 te vs vs1 ds (wipeR (unwipe q.2 r.2 vs1) vs)).map fun z => (r.1 ++ z.1, z.2) else none
    else lc2L tg tt src1 tg1 tt1 te vs vs1 ds (wipeR p.2 vs)
def mLc2 (src : Ma) (tg : Mg) (tt : Mt) (src1 : Ma) (tg1 : Mg) (tt1 : Mt) (te : Me) (vs vs1 : List Nat) : Ma := fun ρ => (src ρ).bind fun p => if (vs.all fun i => !isOwn p.2[i]?) = true then (lc2L tg tt src1 tg1 tt1 te vs vs1 p.1 (wipeR p.2 vs)).bind fun r => if r.1.length ≤ 100000 then some (r.1, unwipe p.2 r.2 vs) else none else none
section
variable {X : Cx}
theorem wiped {ρ : Rh} {vs : List Nat} {i : Nat} (hi : i ∈ vs) {s : Sl} (h : (wipeR ρ vs)[i]? = some s) : s = .un := by
  by_cases hlt : i < ρ.length
  · rw [wipeR_in hi hlt] at h
    exact (Option.some.inj h).symm
  · rw [List.getElem?_eq_none (by rw [wipeR_len]; omega)] at h
    cases h
theorem lc2_of {src src1 : Ma} {ts ts1 : List Nat} {tg tg1 : Mg} {tt tt1 : Mt} {te : Me} {vs vs1 : List Nat} (hts : ∀ i ∈ ts, i ∈ vs) (hts1 : ∀ i ∈ ts1, i ∈ vs1) (σ : L2.St) (H : Hp) (Q : VK) (h : RF (mLc2 src tg tt src1 tg1 tt1 te vs vs1) σ H Q) :
    tLc2 (RI src) (RG ts tg) (RT tt) (RI src1) (RG ts1 tg1) (RT tt1) (R te) vs vs1 σ H Q := by
  obtain ⟨G, ρ, ds, ρ', rp, e, k⟩ := h
  obtain ⟨p, e1, e⟩ := bnd e
  split at e
  case isFalse => cases e
  rename_i hv
  obtain ⟨w, e2, e⟩ := bnd e
  obtain ⟨hlen, e⟩ := some_if e
  cases e
  refine ⟨G, ρ, p.1, p.2, rp, e1, fun G1 H1 J t1 wk => ?_⟩
  intro Dl hD
  have no : ∀ i ∈ vs, noOwn p.2 i := fun i hi l es z => by
    have := List.all_eq_true.mp hv i hi
    rw [z] at this
    cases this
  have r1w := t1.rep.wipe vs
  have eD : wo Dl (upd H1 Dl (.lst [])) = H1 := by
    rw [wo_upd]
    funext a
    by_cases ha : a = Dl
    · rw [ha, wo_at, hD]
    · rw [wo_ne ha]
  let Pv : Nat → Hp → Prop := fun i H2 => ∃ Gi ρi xs acc rest, Tr G1 H1 (wipe σ vs) (wipeR p.2 vs) Gi (wo Dl H2) ρi ∧ (∀ j ∈ vs, ∀ s, ρi[j]? = some s → s = .un) ∧ H2 Dl = some (.lst xs) ∧ DdA Gi xs acc ∧ lc2L tg tt src1 tg1 tt1 te vs vs1 (p.1.drop i) ρi = some (rest, w.2) ∧ acc ++ rest = w.1
  have h0 : Pv 0 (upd H1 Dl (.lst [])) := ⟨G1, _, [], [], w.1, by rw [eD]; exact Tr.refl r1w, fun j hj s hs => wiped hj hs, upd_same, .nil, by rw [List.drop_zero]; exact e2, rfl⟩
  refine ⟨fun i m H2 => m = p.1.length - i ∧ i ≤ p.1.length ∧ Pv i H2, ⟨p.1.length, by simp, Nat.zero_le _, h0⟩, ?_⟩
  rintro i m H2 ⟨rfl, hi, hP⟩
  obtain ⟨Gi, ρi, xs, acc, rest, t, hun, hd, hx, el, ea⟩ := hP
  have sG : Same G1 H2 := t.go.gg.trans (t.go.le.same.trans wo_in)
  by_cases hlt : i < p.1.length
  case neg =>
    obtain rfl : i = p.1.length := by omega
    refine .inl ⟨wk.stops H2 sG, ?_⟩
    rw [List.drop_length] at el
    cases el
    rw [List.append_nil] at ea
    subst ea
    have T := t1.trans (Tr.unwipe t1.rep no t)
    have gD : Gi Dl = none := t.go.le.free wo_at
    have nf : ¬ Fp σ (Pl.unwipe p.2 w.2 vs) Dl := fun z => by
      obtain ⟨zs, z⟩ := fp_some T.rep z
      rw [wo_at] at z
      cases z
    have T2 : Tr G H σ ρ Gi H2 (Pl.unwipe p.2 w.2 vs) := by
      refine ⟨⟨T.go.gg, T.go.le.trans wo_in, fun a o h n w => wo_in _ _ (T.go.off a o h n w), fun a o h g n w => T.go.new a o h g n w, fun a h => T.go.dom a ?_⟩, T.rep.unwo, T.kp⟩
      by_cases ha : a = Dl
      · rw [ha, wo_at]
      · rw [wo_ne ha]; exact h
    exact k Gi H2 Dl xs T2 (t1.back rp hD) hd gD hx
  refine .inr ⟨wk.goes i H2 hlt sG, Pv (i + 1), fun H' p' => ⟨p.1.length - (i + 1), by omega, rfl, hlt, p'⟩, fun x H' y => ?_⟩
  obtain ⟨d, hd1, hy⟩ := wk.yields i H2 x H' hlt sG y
  obtain ⟨G2, ex, hxd⟩ := hy Gi t.go.gg (t.go.le.trans wo_in)
  have exw := ex.wo hd (wo_free t.rep) id
  have hdH : H' Dl = some (.lst xs) := ex.off _ _ hd id
  rw [drop_get hd1] at el
  obtain ⟨ρt, eg, el⟩ := bnd el
  obtain ⟨q, et, el⟩ := bnd el
  have rr : Rep G2 H' (wipe σ vs) ρi := (t.rep.ext exw).unwo
  refine ⟨G2, ρi, d, ρt, rr, hxd, eg, fun σ2 r2 sl hσ hno hlr => ⟨wipe_eq (by rw [sl, wipe_length]) fun i hi => by rw [(hσ i fun z => hi (hts i z)).1, wipe_out hi], ?_⟩⟩
  have slen : σ2.length = σ.length := by rw [sl, wipe_length]
  have r2w : Rep G2 (wo Dl H') σ2 ρt := Rep.wo' r2 (exw.le.free wo_at) (lst_at hdH) fun z => by
    obtain ⟨j, l, es, z1, z2⟩ := z
    have hj : j ∉ ts := fun z => (hno j z).2 l es z1
    rw [(hσ j hj).2] at z1
    rw [(hσ j hj).1] at z2
    exact wo_nofp t.rep ⟨j, l, es, z1, z2⟩
  refine ⟨G2, ρt, q.1, q.2, r2, et, fun G3 H4 t3 => ?_⟩
  obtain ⟨t3w, hd4⟩ := t3.wo r2w hdH
  cases hq : q.1 with
  | false =>
    rw [hq, if_neg Bool.false_ne_true] at el
    have tA := Tr.turn hts t.rep hun exw slen hlr hσ hno t3w
    exact iteF ⟨G3, wipeR q.2 vs, xs, acc, rest, t.trans tA.1, tA.2, hd4, dda_same tA.1.go.gg hx, el, ea⟩
  | true =>
  rw [hq, if_pos rfl] at el
  obtain ⟨u, eu, el⟩ := bnd el
  split at el
  case isFalse => cases el
  rename_i hv1
  obtain ⟨r, er, el⟩ := bnd el
  obtain ⟨z, ez, el⟩ := mpd el
  obtain ⟨el1, el2⟩ := Prod.mk.inj el
  subst el1
  have no1 : ∀ i ∈ vs1, noOwn u.2 i := fun i hi l es z => by
    have := List.all_eq_true.mp hv1 i hi
    rw [z] at this
    cases this
  refine iteT ⟨G3, q.2, u.1, u.2, t3.rep, eu, fun G4 H5 J1 t4 wk1 => ?_⟩
  obtain ⟨t4w, hd5⟩ := t4.wo t3w.rep hd4
  have r4 := t4w.rep.wipe vs1
  let Pw : Nat → Hp → Prop := fun j H6 => ∃ Gj ρj xs2 acc2 rest2, Tr G4 (wo Dl H5) (wipe σ2 vs1) (wipeR u.2 vs1) Gj (wo Dl H6) ρj ∧ (∀ a ∈ vs1, ∀ s, ρj[a]? = some s → s = .un) ∧ H6 Dl = some (.lst xs2) ∧ DdA Gj xs2 acc2 ∧ lcL tg1 tt1 te vs1 (u.1.drop j) ρj = some (rest2, r.2) ∧ acc2 ++ rest2 = acc ++ r.1
  have hw0 : Pw 0 H5 := ⟨G4, _, xs, acc, r.1, Tr.refl r4, fun j hj s hs => wiped hj hs, hd5, dda_same (ex.gg.trans (t3.go.gg.trans t4.go.gg)) hx, by rw [List.drop_zero]; exact er, rfl⟩
  refine ⟨fun j m H6 => m = u.1.length - j ∧ j ≤ u.1.length ∧ Pw j H6, ⟨u.1.length, by simp, Nat.zero_le _, hw0⟩, ?_⟩
  rintro j m H6 ⟨rfl, hj, hPj⟩
  obtain ⟨Gj, ρj, xs2, acc2, rest2, tj, hun2, hd6, hx2, ej, ea2⟩ := hPj
  have sG2 : Same G4 H6 := tj.go.gg.trans (tj.go.le.trans wo_in)
  by_cases hlt2 : j < u.1.length
  case neg =>
    obtain rfl : j = u.1.length := by omega
    refine .inl ⟨wk1.stops H6 sG2, ?_⟩
    rw [List.drop_length] at ej
    cases ej
    rw [List.append_nil] at ea2
    have tU := (t3w.trans t4w).trans (Tr.unwipe t4w.rep no1 tj)
    have tA := Tr.turn hts t.rep hun exw slen hlr hσ hno tU
    refine ⟨Gj, _, xs2, acc2, z.1, t.trans tA.1, tA.2, hd6, hx2, by rw [← el2]; exact ez, ?_⟩
    rw [ea2, List.append_assoc]
    exact ea
  refine .inr ⟨wk1.goes j H6 hlt2 sG2, Pw (j + 1), fun H' p' => ⟨u.1.length - (j + 1), by omega, rfl, hlt2, p'⟩, fun x1 H7 y1 => ?_⟩
  obtain ⟨d1, hd1', hy1⟩ := wk1.yields j H6 x1 H7 hlt2 sG2 y1
  obtain ⟨G6, ex1, hxd1⟩ := hy1 Gj tj.go.gg (tj.go.le.trans wo_in)
  have exw1 := ex1.wo hd6 (wo_free tj.rep) id
  have hd7 : H7 Dl = some (.lst xs2) := ex1.off _ _ hd6 id
  rw [drop_get hd1'] at ej
  obtain ⟨ρs, eg1, ej⟩ := bnd ej
  obtain ⟨q1, et1, ej⟩ := bnd ej
  have rr1 : Rep G6 H7 (wipe σ2 vs1) ρj := (tj.rep.ext exw1).unwo
  refine ⟨G6, ρj, d1, ρs, rr1, hxd1, eg1, fun σ3 r3 sl3 hσ3 hno3 hlr3 => ⟨wipe_eq (by rw [sl3, wipe_length]) fun i hi => by rw [(hσ3 i fun z => hi (hts1 i z)).1, wipe_out hi], ?_⟩⟩
  have slen3 : σ3.length = σ2.length := by rw [sl3, wipe_length]
  have r3w : Rep G6 (wo Dl H7) σ3 ρs := Rep.wo' r3 (exw1.le.free wo_at) (lst_at hd7) fun z => by
    obtain ⟨a, l, es, z1, z2⟩ := z
    have ha : a ∉ ts1 := fun z => (hno3 a z).2 l es z1
    rw [(hσ3 a ha).2] at z1
    rw [(hσ3 a ha).1] at z2
    exact wo_nofp tj.rep ⟨a, l, es, z1, z2⟩
  refine ⟨G6, ρs, q1.1, q1.2, r3, et1, fun G7 H8 t7 => ?_⟩
  obtain ⟨t7w, hd8⟩ := t7.wo r3w hd7
  cases hq1 : q1.1 with
  | false =>
    rw [hq1, if_neg Bool.false_ne_true] at ej
    have tB := Tr.turn hts1 tj.rep hun2 exw1 slen3 hlr3 hσ3 hno3 t7w
    exact iteF ⟨G7, wipeR q1.2 vs1, xs2, acc2, rest2, tj.trans tB.1, tB.2, hd8, dda_same tB.1.go.gg hx2, ej, ea2⟩
  | true =>
    rw [hq1, if_pos rfl] at ej
    obtain ⟨v, ev, ej⟩ := bnd ej
    obtain ⟨z1, ez1, ej⟩ := mpd ej
    obtain ⟨ej1, ej2⟩ := Prod.mk.inj ej
    subst ej1
    refine iteT ⟨G7, q1.2, v.1, v.2, t7.rep, ev, fun G8 H9 yv t8 hyv => ?_⟩
    obtain ⟨t8w, hd9⟩ := t8.wo t7w.rep hd8
    have tB := Tr.turn hts1 tj.rep hun2 exw1 slen3 hlr3 hσ3 hno3 (t7w.trans t8w)
    refine ⟨xs2, hd9, ?_, G8, wipeR v.2 vs1, xs2 ++ [yv], acc2 ++ [v.1], z1.1, by rw [wo_upd]; exact tj.trans tB.1, tB.2, upd_same, dda_app (dda_same tB.1.go.gg hx2) (.cons hyv .nil), by rw [← ej2]; exact ez1, by rw [List.append_assoc]; exact ea2⟩
    have hl : acc2.length + 1 ≤ w.1.length := by
      rw [← ea, ← List.append_assoc, ← ea2]
      simp
    rw [dda_len hx2]
    exact Nat.lt_of_lt_of_le (by omega : acc2.length < 100000) (by decide)
theorem qf_lc2 {elt tg iter tg1 iter1 : Expr} {ifs ifs1 : List Expr} {scope : Scope} {own : List (Str × Nat)} {vs1 : List Nat} {pos : Pos} {src src1 : Ma} {ts ts1 : List Nat} {g g1 : Mg} {tt tt1 : Mt} {te : Me} (hc : X.calm = true) (hN : X.N.Nodup) (hi : PI X tg iter (RI src)) (ok : BlkOk X.N X.env.scope scope own)
    (hg : ∀ (s : Shared) (H : Hp) (C : Addr) (cl : List (Str × Addr)) (fp : List Addr), PG (X.blk s H scope (compEnvC scope cl C X.env) fp) tg (RG ts g)) (ht : ∀ (s : Shared) (H : Hp) (C : Addr) (cl : List (Str × Addr)) (fp : List Addr), PTs (X.blk s H scope (compEnvC scope cl C X.env) fp) ifs (RT tt))
    (hi1 : ∀ (s : Shared) (H : Hp) (C : Addr) (cl : List (Str × Addr)) (fp : List Addr), PI (X.blk s H scope (compEnvC scope cl C X.env) fp) tg1 iter1 (RI src1))
    (hg1 : ∀ (s : Shared) (H : Hp) (C : Addr) (cl : List (Str × Addr)) (fp : List Addr), PG (X.blk s H scope (compEnvC scope cl C X.env) fp) tg1 (RG ts1 g1)) (ht1 : ∀ (s : Shared) (H : Hp) (C : Addr) (cl : List (Str × Addr)) (fp : List Addr), PTs (X.blk s H scope (compEnvC scope cl C X.env) fp) ifs1 (RT tt1))
    (he : ∀ (s : Shared) (H : Hp) (C : Addr) (cl : List (Str × Addr)) (fp : List Addr), PE (X.blk s H scope (compEnvC scope cl C X.env) fp) elt (R te)) (hts : ∀ i ∈ ts, i ∈ own.map (·.2) := by decide) (hts1 : ∀ i ∈ ts1, i ∈ vs1 := by decide) (hv : ∀ i ∈ vs1, i ∈ own.map (·.2) := by decide) (hs : ∀ x, foldedSetIterable iter X.env x = pure x := by intro _; rfl) (hs1 : ∀ env x, foldedSetIterable iter1 env x = pure x := by intro _ _; rfl) :
    PE X (.ListComp elt [⟨tg, iter, ifs, 0⟩, ⟨tg1, iter1, ifs1, 0⟩] scope pos) (RF (mLc2 src g tt src1 g1 tt1 te (own.map (·.2)) vs1)) := imp (pe_lc2 hc hN hi ok hv hg ht hi1 hg1 ht1 he hs hs1) (lc2_of hts hts1)
end
end Pl
namespace Pl
open PySem PySem.Spec PyProof.Rows L2 Kn
variable [Tbs]
section
variable {X : Cx}
/-! own.m() -/
def revF : List D → List D → Option (D × List D)
  | ds, [] => some (.non, ds.reverse)
  | _, _ => none
theorem o_revO : MtO rReverse revF := by
  intro G H a xs vs ds as ds' d Q ha hx hv e k
  unfold revF at e
  split at e
  · cases e
    cases hv
    exact ⟨a, xs, rfl, rfl, ha, k _ _ (dda_rev hx) .non⟩
  · cases e
def clrF : List D → List D → Option (D × List D)
  | _, [] => some (.non, [])
  | _, _ => none
theorem qe_mo0 {i : Nat} {x name : Str} {p apos cpos : Pos} {id : String} {r : V → List V → Hp → VK → Prop} {f : List D → List D → Option (D × List D)} (slot : Slot "list" name id) (hty : typeOf (.builtin id) = pure (.type "method_descriptor")) (hm : MtR X id r) (hf : MtO r f) (ho : PE X (.Name x p) (tVar i))
    (hbase : attributeBase (.Name x p) name X.env (eval (.Name x p) X.env) = eval (.Name x p) X.env := by rfl) (hline : (apos.endLine == cpos.line) = true := by rfl) : PE X (.Call (.Attribute (.Name x p) name apos) [] [] cpos) (R (mMeth i f mNil)) := by
  refine imp (pe_bm0 PySem.F.plainAttrs_list slot hty hm ho hbase hline) fun σ H Q ⟨G, ρ, d, ρ', rp, e, k⟩ => ?_
  obtain ⟨as, ρ1, l, ds, ds', e1, hd, e2, rfl, l0, ds0, h0⟩ := mMeth_inv e
  cases e1
  obtain ⟨a, xs, h1, h2, h3, h4⟩ := rp.own hd
  exact ⟨_, h1, .inl ⟨rfl, xs, sq_l h2⟩, hf G H a xs [] ds [] ds' d Q h2 h4 .nil e2 fun xs' v hx hv2 => k G _ v (Tr.mut rp hd h1 hx) hv2⟩
/-! texts: z[lo:hi], z.upper(), z[::-1], str(i) -/
def mSlS (m : Me) (lo hi : Mo) : Me := fun ρ => (m ρ).bind fun p => (lo p.2).bind fun q => (hi q.2).bind fun r => match p.1 with | .str z => if z.length ≤ 100000 then some (.str (cutS z q.1 r.1), r.2) else none | _ => none
theorem qe_sliceS {e : Expr} {lo hi : Option Expr} {m : Me} {ml mh : Mo} {p2 pos : Pos} (he : PE X e (R m)) (hl : PO X lo (RO ml)) (hh : PO X hi (RO mh)) : PE X (.Subscript e (.Slice lo hi none p2) pos) (R (mSlS m ml mh)) := by
  refine imp (pe_slice sl_str he hl hh) fun σ H Q ⟨G, ρ, d, ρ', rp, e, k⟩ => ?_
  obtain ⟨p, e1, e⟩ := bnd e
  obtain ⟨q, e2, e⟩ := bnd e
  obtain ⟨r, e3, e⟩ := bnd e
  split at e
  · rename_i z hz
    obtain ⟨hzl, e⟩ := some_if e
    cases e
    refine ⟨G, ρ, p.1, p.2, rp, e1, fun G1 H1 v t1 hv => ⟨G1, p.2, q.1, q.2, t1.rep, e2, fun G2 H2 t2 => ⟨G2, q.2, r.1, r.2, t2.rep, e3, fun G3 H3 t3 => ?_⟩⟩⟩
    rw [hz] at hv
    cases hv
    exact ⟨z, rfl, sz5 hzl, k G3 H3 _ ((t1.trans t2).trans t3) (.str _)⟩
  · cases e
def upD : D → Option D
  | .str z => if z.length ≤ 100000 then some (.str (Txt.upper z)) else none
  | _ => none
def m1 (f : D → Option D) (m : Me) : Me := fun ρ => (m ρ).bind fun p => (f p.1).map fun d => (d, p.2)
theorem m1_inv {f : D → Option D} {m : Me} {ρ ρ' : Rh} {d : D} (h : m1 f m ρ = some (d, ρ')) : ∃ x, m ρ = some (x, ρ') ∧ f x = some d := by
  obtain ⟨p, e1, h⟩ := bnd h
  obtain ⟨z, e2, h⟩ := mpd h
  cases h
  exact ⟨p.1, e1, e2⟩
theorem qe_upper {e : Expr} {m : Me} {apos pos : Pos} (he : PE X e (R m)) (hbase : attributeBase e "upper" X.env (eval e X.env) = eval e X.env := by rfl) (hline : (apos.endLine == pos.line) = true := by rfl) : PE X (.Call (.Attribute e "upper" apos) [] [] pos) (R (m1 upD m)) := by
  refine imp (pe_upper he hbase hline) fun σ H Q ⟨G, ρ, d, ρ', rp, e, k⟩ => ?_
  obtain ⟨x, e1, e2⟩ := m1_inv e
  refine ⟨G, ρ, x, ρ', rp, e1, fun G1 H1 v t hv => ?_⟩
  unfold upD at e2
  split at e2
  · obtain ⟨hl, rfl⟩ := some_if e2
    cases hv
    exact ⟨⟨_, rfl⟩, _, rfl, rfl, Nat.le_trans hl (by decide), k G1 H1 _ t (.str _)⟩
  · cases e2
def revS (z : Str) : Str := ⟨((List.range z.length).map fun i => z.cps.getD (z.length - 1 - i) 0).toArray⟩
theorem rev_strE : RevR X (fun x H Q => ∃ z : Str, x = .str z ∧ z.length ≤ sizeLine ∧ Q (.str (revS z)) H) := by
  intro pins s σ H x v sl lo up st Q J rx hs h1 h2 h3 want
  obtain ⟨z, rfl, zl, q⟩ := want
  obtain ⟨tz, rfl⟩ := rx
  cases h1; cases h2
  match h3 with
  | .int _ ti =>
    refine ⟨"str", _, F.slot_str_getitem.lookup, typeIs_str _ _ _, wpAny_getItem_str_slice (l := none) (u := none) (st := some (-1, ti)) hs rfl ?_⟩
    have len := step_rev_len z ti
    have all := step_rev_list z ti
    unfold Txt.sliceBy at len all
    unfold sliceMade
    have no : ¬ (((some ((-1 : Int), ti)).map (·.1)).getD 1 == 1 && (slicePicked z none none (some (-1, ti))).length == z.length) = true := fun y => by
      rw [show (((some ((-1 : Int), ti)).map (·.1)).getD 1 == 1) = false from rfl] at y
      cases y
    rw [if_neg no] at len all ⊢
    refine ⟨by rw [len]; exact zl, .str (revS z), H, J.tok _, ⟨_, congrArg (fun y => Value.str y _) ?_⟩, q⟩
    refine str_ext ?_
    rw [all]
    simp [revS]
def revSD : D → Option D
  | .str z => if z.length ≤ 100000 then some (.str (revS z)) else none
  | _ => none
theorem qe_revS {e : Expr} {m : Me} {k : Nat} {p1 p2 p3 pos : Pos} (he : PE X e (R m)) : PE X (.Subscript e (.Slice none none (some (.UnaryOp .USub (.Constant (.int 1) k p1) p2)) p3) pos) (R (m1 revSD m)) := by
  refine imp (pe_rev rev_strE he) fun σ H Q ⟨G, ρ, d, ρ', rp, e, k⟩ => ?_
  obtain ⟨x, e1, e2⟩ := m1_inv e
  refine ⟨G, ρ, x, ρ', rp, e1, fun G1 H1 v t hv => ?_⟩
  unfold revSD at e2
  split at e2
  · obtain ⟨hl, rfl⟩ := some_if e2
    cases hv
    exact ⟨_, rfl, sz5 hl, k G1 H1 _ t (.str _)⟩
  · cases e2
def strD : List D → Option D
  | [.int i] => if i.natAbs.log2 < 1920 then some (.str (toString i)) else none
  | _ => none
theorem c_str : CallR X (.type "str") (fun xs H Q => ∃ i, xs = [.int i] ∧ i.natAbs.log2 < 1920 ∧ Q (.str (toString i)) H) ∧ CallD (fun xs H Q => ∃ i, xs = [.int i] ∧ i.natAbs.log2 < 1920 ∧ Q (.str (toString i)) H) strD := by
  refine ⟨call_str_int, fun G H vs ds d Q le hv e k => ?_⟩
  unfold strD at e
  split at e
  · obtain ⟨hl, rfl⟩ := some_if e
    obtain ⟨v, rfl, h⟩ := one_inv hv
    cases h
    exact ⟨_, rfl, hl, k.sc le (.str _)⟩
  · cases e
/-! in, of things of any depth -/
def inDeep : D → D → Option Bool
  | a, .lst l => if SeqAt.shaped a.py = true ∧ SeqAt.shaped (D.lst l).py = true then some ((pyA l).any fun z => PyData.eqv z a.py) else none
  | _, _ => none
theorem o_inDeep (hu : X.A.units + 65 < cLine) : OpR X (compareOp .In) (L2.rInD X.K) ∧ OpD (L2.rInD X.K) (fun a b => (inDeep a b).map D.bl) := by
  refine ⟨op_inD hu, fun G H x y a b d Q le ha hb e k => ?_⟩
  obtain ⟨r, e1, rfl⟩ := mpd e
  unfold inDeep at e1
  split at e1
  · obtain ⟨hc, rfl⟩ := some_if e1
    exact ⟨a.py, _, dp_same le (dd_dp ha (shaped_lay hc.1)), dp_same le (dd_dp hb (shaped_lay hc.2)), hc.1, hc.2, k.sc le (.bl _)⟩
  · cases e1
/-! t.index(z) of a tuple of texts -/
def mIxT (mo ma : Me) : Me := fun ρ => (mo ρ).bind fun p => (ma p.2).bind fun q => match p.1, q.1 with
  | .tup false l, .str z => (strsOf l).bind fun xs => if z ∈ xs then some (.int (xs.idxOf z : Nat), q.2) else none
  | _, _ => none
theorem qe_indexT {o e : Expr} {mo ma : Me} {apos cpos : Pos} (ho : PE X o (R mo)) (ha : PE X e (R ma)) (hbase : attributeBase o "index" X.env (eval o X.env) = eval o X.env := by rfl)
    (hfew : ((backTo cpos (starEach [e] X.env)).all (fun x => !x.1) && (backToKw cpos (keywordEach [] X.env)).all (fun x => x.1.isSome) && decide ([e].length + ([] : List Keyword).length + (if ([] : List Keyword).isEmpty then 0 else 1) < 30)) = true := by rfl)
    (hline : (apos.endLine == cpos.line) = true := by rfl) (hs : starEach [e] X.env = (false, eval e X.env) :: starEach [] X.env := by rfl) (hplain : (backTo cpos (starEach [] X.env)).any (·.1) = false := by rfl) :
    PE X (.Call (.Attribute o "index" apos) [e] [] cpos) (R (mIxT mo ma)) := by
  refine imp (pe_bmT PySem.F.slot_tuple_index PySem.F.type_tuple_index mt_tup_index ho (pa_cons ha pa_nil hs) hbase hfew hline hs hplain) fun σ H Q ⟨G, ρ, d, ρ', rp, e, k⟩ => ?_
  obtain ⟨p, e1, e⟩ := bnd e
  obtain ⟨q, e2, e⟩ := bnd e
  split at e
  · rename_i l z h1 h2
    obtain ⟨xs, e3, e⟩ := bnd e
    obtain ⟨hz, e⟩ := some_if e
    cases e
    refine ⟨G, ρ, p.1, p.2, rp, e1, fun G1 H1 v t hv => ?_⟩
    rw [h1, strsOf_inv e3] at hv
    cases hv with
    | tupM hT hd =>
      refine ⟨⟨_, _, rfl, hT.same t.rep.le⟩, G1, p.2, q.1, q.2, t.rep, e2, fun G2 H2 u t2 hu => ?_⟩
      rw [h2] at hu
      cases hu
      have hT2 := hT.same (t2.go.gg.trans t2.rep.le.same)
      rw [dda_strs hd] at hT2
      have hlt : xs.idxOf z < xs.length := List.idxOf_lt_length_of_mem hz
      refine ⟨_, xs, z, xs.idxOf z, rfl, rfl, hT2.sq, by rw [List.getElem?_eq_getElem hlt, List.getElem_idxOf], fun m hm e => ?_, k G2 H2 _ (t.trans t2) (.int _)⟩
      obtain ⟨hm', em⟩ := List.getElem?_eq_some_iff.mp e
      have h3 : (xs[m] == z) = false := List.not_of_lt_findIdx (p := (· == z)) hm
      rw [em] at h3
      simp at h3
  · cases e
/-! slices of tuples, of lists and tuples -/
def mSlT (m : Me) (lo hi : Mo) : Me := fun ρ => (m ρ).bind fun p => (lo p.2).bind fun q => (hi q.2).bind fun r => match p.1 with
  | .lst l => some (.lst (cutL l q.1 r.1), r.2)
  | .tup w l => if HT.sIx l.length 0 q.1 = 0 ∧ HT.sIx l.length l.length r.1 = l.length then some (.tup w l, r.2) else some (.tup true (cutL l q.1 r.1), r.2)
  | _ => none
theorem qe_sliceT {e : Expr} {lo hi : Option Expr} {m : Me} {ml mh : Mo} {p2 pos : Pos} (he : PE X e (R m)) (hl : PO X lo (RO ml)) (hh : PO X hi (RO mh)) : PE X (.Subscript e (.Slice lo hi none p2) pos) (R (mSlT m ml mh)) := by
  refine imp (pe_slice (sl_tupA.or sl_list) he hl hh) fun σ H Q ⟨G, ρ, d, ρ', rp, e, k⟩ => ?_
  obtain ⟨p, e1, e⟩ := bnd e
  obtain ⟨q, e2, e⟩ := bnd e
  obtain ⟨r, e3, e⟩ := bnd e
  refine ⟨G, ρ, p.1, p.2, rp, e1, fun G1 H1 v t1 hv => ⟨G1, p.2, q.1, q.2, t1.rep, e2, fun G2 H2 t2 => ⟨G2, q.2, r.1, r.2, t2.rep, e3, fun G3 H3 t3 => ?_⟩⟩⟩
  have t := (t1.trans t2).trans t3
  have hv := dd_same (t2.go.gg.trans t3.go.gg) hv
  split at e
  · rename_i l hl
    cases e
    rw [hl] at hv
    cases hv with
    | lst h1 h2 => exact .inr ⟨_, _, rfl, sq_l (t3.rep.le _ _ h1), fun z hz => Ans.lst (fun G4 H4 v ex hv => k G4 H4 v (t.trans (Tr.ext t.rep ex)) hv) t3.rep.le hz (cut_ok h2 _ _)⟩
  · rename_i w l hl
    rw [hl] at hv
    have hv' := hv
    obtain ⟨a, xs, rfl, h2, z⟩ := tup_cases X.K hv
    rw [← dda_len h2] at e
    refine .inl ⟨a, xs, rfl, z _ t3.rep.le, fun hw => ?_, fun hw p np => ?_⟩
    · rw [if_pos hw] at e
      cases e
      exact k G3 H3 _ t hv'
    · rw [if_neg hw] at e
      cases e
      exact Ans.tupW (fun G4 H4 v ex hv => k G4 H4 v (t.trans (Tr.ext t.rep ex)) hv) t3.rep.le np (cut_ok h2 _ _)
  · cases e
end
end Pl
namespace Pl
open PySem PySem.Spec PyProof.Rows L2 Kn
theorem hu65 {k : Nat} {A : Around} (hr : Room k A) : A.units + 65 < cLine := by
  have := hr.un
  omega
end Pl
namespace Pl
open PySem PySem.Spec PyProof.Rows L2 Kn
variable [Tbs]
theorem fn0P {j : Nat} {P : Program} {w : World} {K : PySem.W.Frag} {mg : Str → Option Value} {base : Heap} {f : Addr} {fd : FuncData} {ps : List Str} : FnOk P w K mg base CX0 j f fd ps (SpP fun _ => none) :=
  ⟨fun vs H Q E ⟨_, _, _, _, _, e, _⟩ => (nomatch e), fun A outer s H args us vs Q E _ _ _ _ ⟨_, _, _, _, _, e, _⟩ => (nomatch e)⟩
theorem fn0O {j : Nat} {P : Program} {w : World} {K : PySem.W.Frag} {mg : Str → Option Value} {base : Heap} {f : Addr} {fd : FuncData} {ps : List Str} : FnOk P w K mg base CX0 j f fd ps (SpO fun _ => none) :=
  ⟨fun vs H Q E ⟨_, _, _, _, _, e, _⟩ => (nomatch e), fun A outer s H args us vs Q E _ _ _ _ ⟨_, _, _, _, _, e, _⟩ => (nomatch e)⟩
theorem fn0B {j : Nat} {P : Program} {w : World} {K : PySem.W.Frag} {mg : Str → Option Value} {base : Heap} {f : Addr} {fd : FuncData} {ps : List Str} : FnOk P w K mg base CX0 j f fd ps (SpB fun _ _ => none) :=
  ⟨fun vs H Q E ⟨_, _, _, _, _, _, _, _, _, _, _, _, _, _, e, _⟩ => (nomatch e), fun A outer s H args us vs Q E _ _ _ _ ⟨_, _, _, _, _, _, _, _, _, _, _, _, _, _, e, _⟩ => (nomatch e)⟩
end Pl
namespace Pl
open PySem PySem.Spec PyProof.Rows L2 Kn
variable [Tbs]
section
variable {X : Cx}
/-! {} : a dict with nothing in it, that nobody changes -/
def mD0 : Me := fun ρ => some (.dct [] [], ρ)
theorem qe_d0 {pos : Pos} : PE X (.Dict [] [] pos) (R mD0) := by
  refine imp (pe_lock pe_dnewK) fun σ H Q ⟨G, ρ, d, ρ', rp, e, k⟩ => ?_
  cases e
  exact fun p hp => Ans.dct (kd := []) (fun G2 H2 v ex hv => k G2 H2 v (Tr.ext rp ex) hv) rp.le hp .nil
/-! list(d): its keys -/
def keyW : Key → D
  | .inl i => .int i
  | .inr x => .str x
theorem dd_key {G : Hp} : ∀ k : Key, Dd G (kV k) (keyW k)
  | .inl i => .int i
  | .inr x => .str x
theorem dda_keys {G : Hp} : ∀ ks : List Key, DdA G (ks.map kV) (ks.map keyW)
  | [] => .nil
  | k :: ks => .cons (dd_key k) (dda_keys ks)
def listKF : List D → Option (List D)
  | [.dct ks _] => some (ks.map keyW)
  | _ => none
def rListK : List V → Hp → VK → Prop := fun xs H Q => ∃ (a : Addr) (kvs : List (Key × V)), xs = [.ref a] ∧ Rd H a (.dK kvs) ∧ ∀ p, H p = none → Q (.ref p) (upd H p (.lst (kvs.map fun kv => kV kv.1)))
theorem c_listK (hc : X.calm = true) : CallR X (.type "list") rListK ∧ CallF rListK listKF := by
  refine ⟨call_listD hc, fun G H vs ds d Q le hv e k => ?_⟩
  unfold listKF at e
  split at e
  · cases e
    obtain ⟨v, rfl, h⟩ := one_inv hv
    cases h with
    | dct h1 h2 =>
      rename_i a o kvs
      refine ⟨a, kvs, rfl, .inr ⟨o, le _ _ h1⟩, fun l hl => k.nw le hl ?_⟩
      have := dda_keys (G := G) (kvs.map (·.1))
      rw [List.map_map] at this
      exact this
  · cases e
/-! d.get(e, f) -/
def mGet (mo ma mb : Me) : Me := fun ρ => (mo ρ).bind fun p => (ma p.2).bind fun q => (mb q.2).bind fun r => match p.1 with
  | .dct ks ds => (keyD q.1).map fun k => ((look ks ds k).getD r.1, r.2)
  | _ => none
theorem qe_get {o e f : Expr} {mo ma mb : Me} {apos cpos : Pos} (hu : X.A.units + 1 < cLine) (ho : PE X o (R mo)) (ha : PE X e (R ma)) (hb : PE X f (R mb)) (m : M2 X o "get" apos e f cpos) :
    PE X (.Call (.Attribute o "get" apos) [e, f] [] cpos) (R (mGet mo ma mb)) := by
  refine imp (pe_dget2 hu ho ha hb m) fun σ H Q ⟨G, ρ, d, ρ', rp, e, k⟩ => ?_
  obtain ⟨p, e1, e⟩ := bnd e
  obtain ⟨q, e2, e⟩ := bnd e
  obtain ⟨r, e3, e⟩ := bnd e
  split at e
  · rename_i ks ds hp
    obtain ⟨key, e4, e5⟩ := mpd e
    cases e5
    refine ⟨G, ρ, p.1, p.2, rp, e1, fun G1 H1 v1 t1 h1 => ?_⟩
    rw [hp] at h1
    cases h1 with
    | @dct a ob kvs _ g1 g2 =>
      refine ⟨a, rfl, .inl ⟨kvs, .inr ⟨ob, t1.rep.le _ _ g1⟩⟩, G1, p.2, q.1, q.2, t1.rep, e2, fun G2 H2 v2 t2 h2 => ⟨G2, q.2, r.1, r.2, t2.rep, e3, fun G3 H3 v3 t3 h3 => ?_⟩⟩
      have s12 : Same G1 G2 := t2.go.gg
      have s23 : Same G2 G3 := t3.go.gg
      refine ⟨_, dget_k (ds := ds) t3.rep.le (s23 _ _ (s12 _ _ g1)) (dd_same s23 h2) e4, ?_⟩
      refine k G3 H3 _ (t1.trans (t2.trans t3)) ?_
      have hl := look_val key kvs (dda_same s23 (dda_same s12 g2))
      split at hl
      · rename_i w hw
        obtain ⟨v, hv, hd⟩ := hl
        rw [hw, hv]
        exact hd
      · rename_i hw
        rw [hw, hl]
        exact h3
  · cases e
/-! list(d.values()) -/
def tVals (td : TE) : TE := fun σ H Q => td σ H fun x H1 => ∃ (a : Addr) (kvs : List (Key × V)), x = .ref a ∧ Rd H1 a (.dK kvs) ∧ ∀ p, H1 p = none → Q (.ref p) (upd H1 p (.lst (kvs.map (·.2))))
theorem pe_listVals {o : Expr} {td : TE} {p pos apos mpos : Pos} (hc : X.calm = true) (hg : Gl X "list") (hm : X.mg "list" = none) (ho : PE X o td) (hbase : attributeBase o "values" X.env (eval o X.env) = eval o X.env := by rfl)
    (hline : (apos.endLine == mpos.line) = true := by rfl) (hs : starEach [.Call (.Attribute o "values" apos) [] [] mpos] X.env = (false, eval (.Call (.Attribute o "values" apos) [] [] mpos) X.env) :: starEach [] X.env := by rfl) :
    PE X (.Call (.Name "list" p) [.Call (.Attribute o "values" apos) [] [] mpos] [] pos) (tVals td) := by
  refine ⟨fun pins s σ H Q I h => ?_⟩
  refine wpAny_Call_Name_kw (ld_blt I hg hm (u := .type "list") (by decide +kernel) (PyProof.Rows.callWith_type1 ?_ hs rfl))
  rw [hs]
  refine Calls.spliced_cons (wpAny_Call_method0_late hbase hline (thn (ho.run pins s σ H _ I h) fun u s1 ⟨x, H1, I1, rx, a, kvs, ex, hd, q⟩ => ?_))
  subst ex
  cases rx
  obtain ⟨z, lo, vs, rel, dd⟩ := dk_rd I1.hok hd
  obtain ⟨ep, da⟩ := dd.dictAt
  have J : Inv X pins σ H1 { s1 with heap := s1.heap.push { cls := .type "dict_values", data := .fields #[.ref a] } } := I1.kept (t' := s1.toks) fun b ob e => Heap.get?_push_of_some _ e
  have n1 : kvs.length = vs.length := rel.length
  refine ⟨"dict", "dict.values", F.plainAttrs_dict, F.slot_dict_values, F.type_dict_values, dd.typeIs, dd.mapOf.noDict, Calls.callWith_builtin rfl (PySem.evalArgs_none (call_meetsIn F.slot_dict_values dd.typeIs F.entry_dict_values (F.args_dict_values_1 _) (meets_dict_values (mixKind X.prog X.w) a lo) ⟨⟨vs, dd⟩, Calls.spliced_nil ?_⟩))⟩
  refine PySem.W.kdl_call (PySem.W.kdl_values (knd := mixKind X.prog X.w) (d := a) (r := s1.heap.objs.size) (kvs := vs) (ep := ep)) (J.ok.hd hc) ⟨⟨_, Heap.get?_push_size _ rfl, rfl, rfl⟩, da.push _⟩ (n1 ▸ z) fun h' tk acc c hk hL it => ?_
  have rv : Vals (kvs.map (·.2)) acc.toList := by
    refine vals_of_idx _ _ (by rw [List.length_map, Array.length_toList, n1]; exact it.1) fun j u hj => ?_
    obtain ⟨k, hk'⟩ := it.2 j u (by rw [← Array.getElem?_toList]; exact hj)
    obtain ⟨x, e1, e2⟩ := KV.at' rel hk'
    exact ⟨x, by rw [List.getElem?_map, e1]; rfl, e2⟩
  exact ⟨.ref _, _, J.laid (t' := tk) (o := .lst (kvs.map (·.2))) hk (Nat.le_refl _) ⟨by rw [List.length_map]; exact z, acc.toList, c, rv, by rw [Array.toArray_toList]; exact hL⟩, rfl, q _ (J.hok.fresh (Nat.le_refl _))⟩
def mVals (m : Me) : Ma := fun ρ => (m ρ).bind fun p => match p.1 with | .dct _ ds => some (ds, p.2) | _ => none
theorem qf_listVals {o : Expr} {m : Me} {p pos apos mpos : Pos} (hc : X.calm = true) (hg : Gl X "list") (hm : X.mg "list" = none) (ho : PE X o (R m)) (hbase : attributeBase o "values" X.env (eval o X.env) = eval o X.env := by rfl)
    (hline : (apos.endLine == mpos.line) = true := by rfl) (hs : starEach [.Call (.Attribute o "values" apos) [] [] mpos] X.env = (false, eval (.Call (.Attribute o "values" apos) [] [] mpos) X.env) :: starEach [] X.env := by rfl) :
    PE X (.Call (.Name "list" p) [.Call (.Attribute o "values" apos) [] [] mpos] [] pos) (RF (mVals m)) := by
  refine imp (pe_listVals hc hg hm ho hbase hline hs) fun σ H Q ⟨G, ρ, d, ρ', rp, e, k⟩ => ?_
  obtain ⟨q, e1, e⟩ := bnd e
  split at e
  · rename_i ks ds hq
    cases e
    refine ⟨G, ρ, q.1, q.2, rp, e1, fun G1 H1 v t hv => ?_⟩
    rw [hq] at hv
    cases hv with
    | @dct a ob kvs _ g1 g2 => exact ⟨a, kvs, rfl, .inr ⟨ob, t.rep.le _ _ g1⟩, fun l hl => AnsF.nw (AnsF.tr t (fun a n => t.back rp n) k) t.rep.le hl g2⟩
  · cases e
end
end Pl
namespace Pl
open PySem PySem.Spec PyProof.Rows L2 Kn
variable [Tbs]
section
variable {X : Cx}
/-! dict(zip(a, b)) of two lists of one length -/
theorem kv_zip : ∀ {ks : List Key} {ys : List V} {us : List Value}, Vals ys us → KV (ks.zip ys) (ks.zip us)
  | [], _, _, _ => .nil
  | _ :: _, _, _, .nil => .nil
  | _ :: ks, _, _, .cons r t => .cons ⟨rfl, r⟩ (kv_zip t)
theorem zip_at {α β : Type} : ∀ {ks : List α} {us : List β} {i : Nat} {k : α} {u : β}, ks[i]? = some k → us[i]? = some u → (ks.zip us)[i]? = some (k, u)
  | [], _, _, _, _, h, _ => by simp at h
  | _ :: _, [], _, _, _, _, h => by simp at h
  | a :: ks, b :: us, 0, k, u, h1, h2 => by
    cases h1
    cases h2
    rfl
  | a :: ks, b :: us, i + 1, k, u, h1, h2 => zip_at (ks := ks) (us := us) (by simpa using h1) (by simpa using h2)
theorem vals_back : ∀ {xs : List V} {us : List Value}, Vals xs us → ∀ {i : Nat} {u : Value}, us[i]? = some u → ∃ x, xs[i]? = some x ∧ RelV x u
  | _, _, .nil, i, u, h => by simp at h
  | _, _, .cons r t, 0, u, h => by
    cases h
    exact ⟨_, rfl, r⟩
  | _, _, .cons r t, i + 1, u, h => by
    obtain ⟨x, h1, h2⟩ := vals_back t (i := i) (by simpa using h)
    exact ⟨x, by simpa using h1, h2⟩
def tDZip (K : PySem.W.Frag) (ta : TA) : TE := fun σ H Q => ta σ H fun vs H1 => ∃ (a b : Addr) (ks : List Key) (ys : List V), vs = [.ref a, .ref b] ∧ SqL K H1 a (ks.map kV) ∧ SqL K H1 b ys ∧ ks.length = ys.length ∧ ∀ p, H1 p = none → Q (.ref p) (upd H1 p (.dK (mergeK [] (ks.zip ys))))
theorem pe_dictZip {e e2 : Expr} {ta : TA} {p pos p2 pos2 : Pos} (hc : X.calm = true) (hg : Gl X "dict") (hm : X.mg "dict" = none) (hgz : Gl X "zip") (hmz : X.mg "zip" = none) (ha : PA X [e, e2] ta)
    (hs : starEach [.Call (.Name "zip" p2) [e, e2] [] pos2] X.env = (false, eval (.Call (.Name "zip" p2) [e, e2] [] pos2) X.env) :: starEach [] X.env := by rfl)
    (hs2 : starEach [e, e2] X.env = (false, eval e X.env) :: starEach [e2] X.env := by rfl) (hpl : (backTo pos2 (starEach [e2] X.env)).any (·.1) = false := by rfl) :
    PE X (.Call (.Name "dict" p) [.Call (.Name "zip" p2) [e, e2] [] pos2] [] pos) (tDZip X.K ta) := by
  refine ⟨fun pins s σ H Q I h => ?_⟩
  refine wpAny_Call_Name_kw (ld_blt I hg hm (u := .type "dict") (by decide +kernel) (PyProof.Rows.callWith_type1 ?_ hs rfl))
  rw [hs]
  refine Calls.spliced_cons (Call_ (ld_blt I hgz hmz PyProof.Rows.boot_zip (PyProof.Rows.callWith_type1 (thn (ha.run pos2 pins s σ H _ I h) fun us s1 ⟨vs, H1, I1, r1, q1⟩ => ?_) hs2 hpl)))
  obtain ⟨a, b, ks, ys, rfl, ha1, hb1, hl, q⟩ := q1
  obtain ⟨u, v, rfl, ru, rv⟩ := vals2 r1
  cases ru
  cases rv
  obtain ⟨its, w1, p1, z1⟩ := I1.list ha1
  obtain ⟨its2, w2, p2, z2⟩ := I1.list hb1
  have n1 : ks.length = its.length := by rw [← w1.length, List.length_map]
  have n2 : ys.length = its2.length := w2.length
  refine call_zip_2 p1.isList p2.isList fun h' hz hTI hTO h1 h2 hsz hk => Calls.spliced_nil ?_
  have have1 : PairsHave (mixKind X.prog X.w) (min its.toArray.size its2.toArray.size) (fun i k v => its.toArray[i]? = some k ∧ its2.toArray[i]? = some v) (ks.zip its2) := by
    refine ⟨by simp [n1], fun i k v ⟨e1, e2⟩ => ?_⟩
    have e1' : its[i]? = some k := by simpa using e1
    obtain ⟨x, hx, rx⟩ := vals_back w1 e1'
    rw [List.getElem?_map] at hx
    obtain ⟨key, hkey, rfl⟩ := Option.map_eq_some_iff.mp hx
    exact ⟨key, zip_at hkey (by simpa using e2), kV_is rx⟩
  have zs : (min its.toArray.size its2.toArray.size) ≤ sizeLine := by
    have : its.toArray.size ≤ sizeLine := by simpa [w1.length] using z1
    omega
  refine PySem.call_dict_pairs (knd := mixKind X.prog X.w) (PairArg.zip (s1.heap.objs.size + 4) (s1.heap.objs.size + 2) (s1.heap.objs.size + 3) s1.heap.objs.size (s1.heap.objs.size + 1) a b (PySem.W.ktu_apart s1.heap.objs.size a b p1.lt p2.lt) its.toArray its2.toArray) (I1.ok.hd hc)
    ⟨hz, hTI, ⟨_, _, hTO⟩, h1, h2, p1.isList.at fun o e => hk _ o e, p2.isList.at fun o e => hk _ o e⟩ have1 zs fun h2' tk hd' k2 => ?_
  have up : s1.heap.objs.size ≤ h'.objs.size := by omega
  have hmod : (h'.objs.size == sysModules) = false := beq_eq_false_iff_ne.mpr (Nat.ne_of_gt (Nat.lt_of_lt_of_le I1.big up))
  have hlen : (mergeK [] (ks.zip ys)).length ≤ sizeLine := by
    refine Nat.le_trans (length_mergeK (ks.zip ys) []) ?_
    have : its.toArray.size ≤ sizeLine := by simpa [w1.length] using z1
    simp at this ⊢
    omega
  refine ⟨.ref h'.objs.size, upd H1 h'.objs.size (.dK (mergeK [] (ks.zip ys))), I1.laid (t' := tk) (fun b o e => ?_) up (show ObjOk X.prog X.w _ _ _ (.dK (mergeK [] (ks.zip ys))) from ⟨hlen, hmod, merged [] (ks.zip its2), KV.merge (kv_zip w2) .nil, hd'⟩), rfl, q _ (I1.hok.fresh up)⟩
  refine k2 b o (fun hin => ?_) (hk b o e)
  have lt := Heap.lt_size e
  have off : ∀ j : Nat, b ≠ s1.heap.objs.size + j := fun j e => absurd (show (b : Nat) < s1.heap.objs.size from lt) (by rw [e]; exact Nat.not_lt.mpr (Nat.le_add_right _ _))
  simp only [List.mem_cons, List.not_mem_nil, or_false] at hin
  rcases hin with e | e | e | e
  · exact off 4 e
  · exact off 3 e
  · exact off 0 e
  · exact off 1 e
def dictZD : List D → Option D
  | [.lst l, .lst m] => (keysD l).bind fun ks => if ks.length = m.length then some (.dct ((mergeD (ks.zip m)).map (·.1)) ((mergeD (ks.zip m)).map (·.2))) else none
  | _ => none
theorem kd_zip {G : Hp} : ∀ {ks : List Key} {ys : List V} {ds : List D}, DdA G ys ds → KD G (ks.zip ys) (ks.zip ds)
  | [], _, _, _ => .nil
  | _ :: _, _, _, .nil => .nil
  | _ :: ks, _, _, .cons r t => .cons ⟨rfl, r⟩ (kd_zip t)
theorem qe_dictZip {e e2 : Expr} {m : Ma} {p pos p2 pos2 : Pos} (hc : X.calm = true) (hg : Gl X "dict") (hm : X.mg "dict" = none) (hgz : Gl X "zip") (hmz : X.mg "zip" = none) (ha : PA X [e, e2] (RA m))
    (hs : starEach [.Call (.Name "zip" p2) [e, e2] [] pos2] X.env = (false, eval (.Call (.Name "zip" p2) [e, e2] [] pos2) X.env) :: starEach [] X.env := by rfl)
    (hs2 : starEach [e, e2] X.env = (false, eval e X.env) :: starEach [e2] X.env := by rfl) (hpl : (backTo pos2 (starEach [e2] X.env)).any (·.1) = false := by rfl) :
    PE X (.Call (.Name "dict" p) [.Call (.Name "zip" p2) [e, e2] [] pos2] [] pos) (R (mCall dictZD m)) := by
  refine imp (pe_lock (pe_dictZip hc hg hm hgz hmz ha hs hs2 hpl)) fun σ H Q ⟨G, ρ, d, ρ', rp, e, k⟩ => ?_
  obtain ⟨l, e1, e2⟩ := mCall_inv e
  refine ⟨G, ρ, l, ρ', rp, e1, fun G1 H1 vs t hv => ?_⟩
  unfold dictZD at e2
  split at e2
  · obtain ⟨ks, e3, e2⟩ := bnd e2
    obtain ⟨hl, rfl⟩ := some_if e2
    obtain ⟨v, w, rfl, h1, h2⟩ := two_inv hv
    cases h1 with
    | lst g1 g2 =>
      cases h2 with
      | lst g3 g4 =>
        rw [keysD_v g2 e3] at g1
        exact ⟨_, _, ks, _, rfl, sq_l (t.rep.le _ _ g1), sq_l (t.rep.le _ _ g3), by rw [hl, dda_len g4], fun p hp => Ans.dct (fun G2 H2 v ex hv2 => k G2 H2 v (t.trans (Tr.ext t.rep ex)) hv2) t.rep.le hp (KD.merge (kd_zip g4) .nil)⟩
  · cases e2
end
end Pl
namespace Pl
open PySem PySem.Spec PyProof.Rows L2 Kn
variable [Tbs]
section
variable {X : Cx}
/-! sorted(a list of pairs of texts) -/
def encP (p : Str × Str) : PyData := .tuple [.str p.1, .str p.2]
def leP : Str × Str → Str × Str → Bool := PySem.W.dataLe false encP
abbrev Ap := Addr × Str × Str
def leA : Ap → Ap → Bool := PySem.W.dataLe false fun b => encP b.2
def rSortP (K : PySem.W.Frag) : List V → Hp → VK → Prop := fun vs H Q => ∃ (a : Addr) (bs : List Ap), vs = [V.ref a] ∧ SqL K H a (bs.map fun b => V.ref b.1) ∧ (∀ b ∈ bs, SqT K H b.1 [.str b.2.1, .str b.2.2]) ∧
  ∀ p, H p = none → Q (.ref p) (upd H p (.lst ((bs.mergeSort leA).map fun b => V.ref b.1)))
theorem each_refs : ∀ (bs : List Ap) {its : List Value}, Vals (bs.map fun b => V.ref b.1) its → PySem.W.EachIs (fun (v : Value) (b : Ap) => v = .ref b.1) its bs
  | [], _, .nil => .nil
  | b :: bs, _, .cons r t => .cons r (each_refs bs t)
theorem each_mem {α β : Type} {R R' : α → β → Prop} : ∀ {as : List α} {bs : List β}, PySem.W.EachIs R as bs → (∀ a b, b ∈ bs → R a b → R' a b) → PySem.W.EachIs R' as bs
  | _, _, .nil, _ => .nil
  | _, _, .cons r t, h => .cons (h _ _ (List.mem_cons_self ..) r) (each_mem t fun a b hb => h a b (List.mem_cons_of_mem _ hb))
theorem vals_each : ∀ {bs : List Ap} {its : List Value}, PySem.W.EachIs (fun (v : Value) (b : Ap) => v = .ref b.1) its bs → Vals (bs.map fun b => V.ref b.1) its
  | _, _, .nil => .nil
  | _, _, .cons r t => .cons r (vals_each t)
theorem cr_sortP (hu : X.A.units + 65 < cLine) : CallR X (.builtin "sorted") (rSortP X.K) := by
  intro pins s σ H args us Q J rel want
  obtain ⟨a, bs, rfl, sq, tp, q⟩ := want
  rw [Vals.ref1 rel]
  obtain ⟨its, rv, pl, hz⟩ := J.list sq
  have e1 := each_refs bs rv
  have hz' : bs.length ≤ sizeLine := by rw [List.length_map] at hz; exact hz
  have er : PySem.W.EachIs (fun (v : Value) (b : Ap) => ∃ as, Reads s.heap v (encP b.2) as) its bs := each_mem e1 fun v b hb e => by
    subst e
    obtain ⟨vs, rvs, ⟨ob, h1, h2, n, h3⟩, _⟩ := J.tuple (tp b hb)
    obtain ⟨x, y, rfl, rx, ry⟩ := vals2 rvs
    obtain ⟨t1, rfl⟩ := rx
    obtain ⟨t2, rfl⟩ := ry
    exact ⟨_, .tuple h1 h2 h3 (.cons (.str _ _) (.cons (.str _ _) .nil))⟩
  refine PySem.W.sorted_data (R := fun (v : Value) (b : Ap) => v = .ref b.1) (enc := fun b : Ap => encP b.2) pl.isList e1 er (PySem.W.AllAlike.of fun b b' => rfl) (PySem.W.Sortable.tuples fun b => ⟨_, _, rfl⟩) hz' (fun b hb => ?_) fun out ho eo => ?_
  · show X.A.units + 2 + 1 < cLine
    omega
  · obtain ⟨c, hc⟩ := sortedAll_at s.heap its out.toArray
    refine ⟨.ref (s.heap.objs.size + 1), upd H (s.heap.objs.size + 1) (.lst ((bs.mergeSort leA).map fun b => V.ref b.1)), J.laid (t' := s.toks) (fun b o e => sortedAll_old e) (Nat.le_succ _) ?_, rfl, q _ (J.hok.fresh (Nat.le_succ _))⟩
    exact ⟨by rw [List.length_map, List.length_mergeSort]; exact hz', out, c, vals_each eo, hc⟩
/-- pairs of texts, told apart -/
def prsOf : List D → Option (List (Str × Str))
  | [] => some []
  | .tup false [.str x, .str y] :: ds => (prsOf ds).map fun ps => (x, y) :: ps
  | _ :: _ => none
def sortPF : List D → Option (List D)
  | [.lst l] => (prsOf l).map fun ps => (ps.mergeSort leP).map fun p => .tup false [.str p.1, .str p.2]
  | _ => none
theorem prsOf_dd {K : PySem.W.Frag} {G : Hp} : ∀ {l : List D} {xs : List V} {ps : List (Str × Str)}, DdA G xs l → prsOf l = some ps → ∃ bs : List Ap, xs = bs.map (fun b => V.ref b.1) ∧ bs.map (·.2) = ps ∧ ∀ b ∈ bs, Dd G (.ref b.1) (.tup false [.str b.2.1, .str b.2.2]) ∧ ∀ H, Same G H → SqT K H b.1 [.str b.2.1, .str b.2.2]
  | _, _, _, .nil, e => by
    cases e
    exact ⟨[], rfl, rfl, fun b hb => nomatch hb⟩
  | _, _, _, .cons (d := d) h t, e => by
    unfold prsOf at e
    split at e
    · cases ‹_ = []›
    · rename_i x y ds he
      cases he
      obtain ⟨ps', e1, rfl⟩ := mpd e
      obtain ⟨bs, rfl, rfl, hb⟩ := prsOf_dd (K := K) t e1
      obtain ⟨a, xs, rfl, h4, z⟩ := tup_cases K h
      obtain ⟨v, w, rfl, h5, h6⟩ := two_inv h4
      cases h5
      cases h6
      refine ⟨(a, x, y) :: bs, rfl, rfl, fun b hb' => ?_⟩
      rcases List.mem_cons.mp hb' with rfl | hb'
      · exact ⟨h, z⟩
      · exact hb b hb'
    · cases e
theorem dda_refs {G : Hp} : ∀ {bs : List Ap}, (∀ b ∈ bs, Dd G (.ref b.1) (.tup false [.str b.2.1, .str b.2.2])) → DdA G (bs.map fun b => V.ref b.1) ((bs.map (·.2)).map fun p => .tup false [.str p.1, .str p.2])
  | [], _ => .nil
  | b :: bs, h => .cons (h b (List.mem_cons_self ..)) (dda_refs fun c hc => h c (List.mem_cons_of_mem _ hc))
theorem c_sortP (hu : X.A.units + 65 < cLine) : CallR X (.builtin "sorted") (rSortP X.K) ∧ CallF (rSortP X.K) sortPF := by
  refine ⟨cr_sortP hu, fun G H vs ds d Q le hv e k => ?_⟩
  unfold sortPF at e
  split at e
  · obtain ⟨ps, e1, rfl⟩ := mpd e
    obtain ⟨v, rfl, h⟩ := one_inv hv
    cases h with
    | lst h1 h2 =>
      obtain ⟨bs, rfl, rfl, hb⟩ := prsOf_dd (K := X.K) h2 e1
      refine ⟨_, bs, rfl, sq_l (le _ _ h1), fun b hm => (hb b hm).2 H le, fun p hp => k.nw le hp ?_⟩
      rw [show (bs.map (·.2)).mergeSort leP = (bs.mergeSort leA).map (·.2) from (List.map_mergeSort (r := leA) (s := leP) (f := fun b : Ap => b.2) (l := bs) fun a _ b _ => rfl).symm]
      exact dda_refs fun b hm => (hb b ((List.mergeSort_perm bs leA).mem_iff.mp hm)).1
  · cases e
end
end Pl
namespace Pl
open PySem PySem.Spec PyProof.Rows L2 Kn
variable [Tbs]
/-! zip of three lists -/
def Itz3 (K : PySem.W.Frag) (a b c : Addr) : It :=
  ⟨fun i H => ∃ (xs ys zs : List V), SqL K H a xs ∧ SqL K H b ys ∧ SqL K H c zs ∧ i < min (min xs.length ys.length) zs.length,
    fun i H v H' => ∃ T x y z, v = .ref T ∧ H T = none ∧ H' = upd H T (.tup [x, y, z]) ∧ (∀ xs, SqL K H a xs → xs[i]? = some x) ∧ (∀ ys, SqL K H b ys → ys[i]? = some y) ∧ ∀ zs, SqL K H c zs → zs[i]? = some z,
    fun i H => ∃ (xs ys zs : List V), SqL K H a xs ∧ SqL K H b ys ∧ SqL K H c zs ∧ i = min (min xs.length ys.length) zs.length⟩
abbrev Z3 (z TI TO i1 i2 i3 a b c : Addr) (i : Nat) (h : Heap) : Prop := IsZip h z TI TO .none ∧ IsTupOf3 h TI (.ref i1) (.ref i2) (.ref i3) ∧ (∃ x y z, IsTupOf3 h TO x y z) ∧ h.IsListIter i1 a i ∧ h.IsListIter i2 b i ∧ h.IsListIter i3 c i
theorem Z3.lt {z TI TO i1 i2 i3 a b c : Addr} {i : Nat} {h : Heap} (st : Z3 z TI TO i1 i2 i3 a b c i h) : ∀ d ∈ [z, TI, TO, i1, i2, i3], d < h.objs.size := by
  obtain ⟨hz, hTI, ⟨_, _, _, hTO⟩, ⟨o1, e1, _⟩, ⟨o2, e2, _⟩, ⟨o3, e3, _⟩⟩ := st
  intro d hd
  rcases (show d = z ∨ d = TI ∨ d = TO ∨ d = i1 ∨ d = i2 ∨ d = i3 by simpa using hd) with q | q | q | q | q | q <;> rw [q] <;> first | exact Heap.lt_size hz | exact Heap.lt_size hTI | exact Heap.lt_size hTO | exact Heap.lt_size e1 | exact Heap.lt_size e2 | exact Heap.lt_size e3
theorem in5 {z TI TO i1 i2 i3 b : Addr} (h : b ∈ [z, TO, i1, i2, i3]) : b ∈ [z, TI, TO, i1, i2, i3] := by
  simp only [List.mem_cons, List.not_mem_nil, or_false] at h ⊢
  rcases h with h | h
  · exact .inl h
  · exact .inr (.inr h)
theorem turn_z3 {P : Program} {w : World} {K : PySem.W.Frag} {elts : List Expr} {kk : Nat} {tpos : Pos} {a b c z TI TO i1 i2 i3 : Addr} (D : ZipSep3 z TI TO i1 i2 i3 [i1, a] [i2, b] [i3, c]) (n1 : a ≠ i1) (n2 : b ≠ i2) (n3 : c ≠ i3) :
    Turn P w K (.Tuple elts kk tpos) (Itz3 K a b c) [z, TI, TO, i1, i2, i3] z (Z3 z TI TO i1 i2 i3 a b c) where
  mem := by simp
  obj := fun i h st d hd => by
    obtain ⟨hz, hTI, ⟨_, _, _, hTO⟩, ⟨o1, e1, _, d1⟩, ⟨o2, e2, _, d2⟩, ⟨o3, e3, _, d3⟩⟩ := st
    rcases (show d = z ∨ d = TI ∨ d = TO ∨ d = i1 ∨ d = i2 ∨ d = i3 by simpa using hd) with q | q | q | q | q | q <;> rw [q]
    · exact ⟨_, hz, fun v q => nomatch q⟩
    · exact ⟨_, hTI, fun v q => nomatch q⟩
    · exact ⟨_, hTO, fun v q => nomatch q⟩
    · exact ⟨o1, e1, fun v q => by rw [d1] at q; cases q⟩
    · exact ⟨o2, e2, fun v q => by rw [d2] at q; cases q⟩
    · exact ⟨o3, e3, fun v q => by rw [d3] at q; cases q⟩
  keep := fun i h h' st k => by
    obtain ⟨hz, hTI, ⟨x, y, u, hTO⟩, ⟨o1, e1, r1⟩, ⟨o2, e2, r2⟩, ⟨o3, e3, r3⟩⟩ := st
    exact ⟨k z (by simp) _ hz, k TI (by simp) _ hTI, ⟨x, y, u, k TO (by simp) _ hTO⟩, ⟨o1, k i1 (by simp) _ e1, r1⟩, ⟨o2, k i2 (by simp) _ e2, r2⟩, ⟨o3, k i3 (by simp) _ e3, r3⟩⟩
  item := by
    intro X eP ew eK hc i pins s σ H E I hf st hg
    subst eP ew eK
    have quiet : X.A.handled = none := I.ok.hd hc
    obtain ⟨xs, ys, zs, qa, qb, qc, hi⟩ := hg
    obtain ⟨us1, rv1, l1, _⟩ := I.list qa
    obtain ⟨us2, rv2, l2, _⟩ := I.list qb
    obtain ⟨us3, rv3, l3, _⟩ := I.list qc
    have W := WalksT.zipD3 (prog := X.prog) (w := X.w) (A := X.A) D (Draws.list (A := X.A.in1) quiet i1 a n1 us1.toArray) (Draws.list (A := X.A.in1) quiet i2 b n2 us2.toArray) (Draws.list (A := X.A.in1) quiet i3 c n3 us3.toArray)
    have len : min (min us1.toArray.size us2.toArray.size) us3.toArray.size = min (min xs.length ys.length) zs.length := by rw [List.size_toArray, List.size_toArray, List.size_toArray, rv1.length, rv2.length, rv3.length]
    refine W.item i s _ _ (by rw [len]; exact hi) ⟨st.1, st.2.1, st.2.2.1, ⟨st.2.2.2.1, l1.isList⟩, ⟨st.2.2.2.2.1, l2.isList⟩, ⟨st.2.2.2.2.2, l3.isList⟩⟩ fun T vals h' tk hv hT hTv hMid hk => ?_
    obtain ⟨u1, u2, u3, p1, p2, p3, rfl⟩ := hv
    obtain ⟨x, hx, rx⟩ := vals_back rv1 (i := i) (u := u1) (by simpa using p1)
    obtain ⟨y, hy, ry⟩ := vals_back rv2 (i := i) (u := u2) (by simpa using p2)
    obtain ⟨v, hv, rv⟩ := vals_back rv3 (i := i) (u := u3) (by simpa using p3)
    refine ⟨_, rfl, W.go elts kk tpos i T { s with heap := h', toks := tk } _ _ hMid fun h'' st'' hk'' => ?_⟩
    have hTw := W.apart i T h' hMid
    obtain ⟨oT, hoT, hcT, nT, hdT⟩ := id hTv
    have hT2 := hk'' T oT hTw hoT
    have new : ObjOk X.prog X.w (upd H T (.tup [x, y, v])) h'' T (.tup [x, y, v]) :=
      ⟨by show 3 ≤ sizeLine; decide, [u1, u2, u3], .cons rx (.cons ry (.cons rv .nil)), ⟨oT, hT2, hcT, nT, hdT⟩⟩
    have I1 : Inv X pins σ (upd H T (.tup [x, y, v])) { s with heap := h'', toks := tk } :=
      I.turnedNew (ch := [z, TI, TO, i1, i2, i3]) (fun d ob hd q => hk'' d ob (fun hm => hd (in5 hm)) (hk d ob (fun hm => hd (in5 hm)) q)) hf hT new
    refine ⟨.ref T, _, I1, rfl, ⟨T, x, y, v, rfl, I.hok.fresh hT, rfl, fun l hl => by rw [I.list_inj hl qa]; exact hx, fun l hl => by rw [I.list_inj hl qb]; exact hy, fun l hl => by rw [I.list_inj hl qc]; exact hv⟩, ⟨st''.1, st''.2.1, st''.2.2.1, st''.2.2.2.1.1, st''.2.2.2.2.1.1, st''.2.2.2.2.2.1⟩, fun d hd => ?_⟩
    have ne : d ≠ T := fun e => absurd (e ▸ st.lt d hd) (Nat.not_lt.mpr hT)
    rw [upd_ne ne]
    exact (hf d hd).1
  done := by
    intro X eP ew eK hc i pins s σ H E I hf st hg
    subst eP ew eK
    have quiet : X.A.handled = none := I.ok.hd hc
    obtain ⟨xs, ys, zs, qa, qb, qc, hi⟩ := hg
    obtain ⟨us1, rv1, l1, _⟩ := I.list qa
    obtain ⟨us2, rv2, l2, _⟩ := I.list qb
    obtain ⟨us3, rv3, l3, _⟩ := I.list qc
    have W := WalksT.zipD3 (prog := X.prog) (w := X.w) (A := X.A) D (Draws.list (A := X.A.in1) quiet i1 a n1 us1.toArray) (Draws.list (A := X.A.in1) quiet i2 b n2 us2.toArray) (Draws.list (A := X.A.in1) quiet i3 c n3 us3.toArray)
    have len : i = min (min us1.toArray.size us2.toArray.size) us3.toArray.size := by rw [List.size_toArray, List.size_toArray, List.size_toArray, ← rv1.length, ← rv2.length, ← rv3.length]; exact hi
    subst len
    refine W.done s _ _ ⟨st.1, st.2.1, st.2.2.1, ⟨st.2.2.2.1, l1.isList⟩, ⟨st.2.2.2.2.1, l2.isList⟩, ⟨st.2.2.2.2.2, l3.isList⟩⟩ fun h' tk hk => ⟨rfl, ?_⟩
    exact I.turnedL (ch := [z, TI, TO, i1, i2, i3]) (fun d ob hd q => hk d ob (fun hm => hd (in5 hm)) q) hf
  self := fun _ _ _ _ _ at0 want => wpAny_pyIter_zip at0.1 want
def iZip3 (K : PySem.W.Frag) (ta : TA) : TI := fun σ H R => ta σ H fun vs H1 => ∃ a b c xs ys zs, vs = [.ref a, .ref b, .ref c] ∧ SqL K H1 a xs ∧ SqL K H1 b ys ∧ SqL K H1 c zs ∧ R (Itz3 K a b c) H1
theorem pi_zip3 {X : Cx} {e e2 e3 : Expr} {ta : TA} {p pos tpos : Pos} {elts : List Expr} {kk : Nat} (hg : Gl X "zip") (hm : X.mg "zip" = none) (ha : PA X [e, e2, e3] ta)
    (hs : starEach [e, e2, e3] X.env = (false, eval e X.env) :: starEach [e2, e3] X.env := by rfl) (hpl : (backTo pos (starEach [e2, e3] X.env)).any (·.1) = false := by rfl) :
    PI X (.Tuple elts kk tpos) (.Call (.Name "zip" p) [e, e2, e3] [] pos) (iZip3 X.K ta) := by
  refine ⟨fun pins s σ H R I h => ?_⟩
  refine Call_ (ld_blt I hg hm PyProof.Rows.boot_zip (PyProof.Rows.callWith_type1 (thn (ha.run pos pins s σ H _ I h) fun us sA ⟨vs, HA, IA, rA, qA⟩ => ?_) hs hpl))
  obtain ⟨a, b, c, xs, ys, zs, rfl, qa, qb, qc, q⟩ := qA
  obtain ⟨us1, rv1, l1, _⟩ := IA.list qa
  obtain ⟨us2, rv2, l2, _⟩ := IA.list qb
  obtain ⟨us3, rv3, l3, _⟩ := IA.list qc
  cases rA with
  | cons r rr =>
    cases rr with
    | cons r' rr =>
      cases rr with
      | cons r'' rr =>
        cases rr
        cases r
        cases r'
        cases r''
        have la := l1.lt
        have lb := l2.lt
        have lc := l3.lt
        have fresh6 : ∀ d, d ∈ [sA.heap.objs.size + 5, sA.heap.objs.size + 3, sA.heap.objs.size + 4, sA.heap.objs.size, sA.heap.objs.size + 1, sA.heap.objs.size + 2] → FpOk X pins HA d := fun d hd => by
          have hle : sA.heap.objs.size ≤ d := by
            simp only [List.mem_cons, List.not_mem_nil, or_false] at hd
            rcases hd with q | q | q | q | q | q <;> rw [q] <;> first | exact Nat.le_refl _ | exact Nat.le_add_right _ _
          exact IA.fpOk hle (IA.hok.fresh hle)
        refine zip_begins3 (begins_list a us1.toArray) (begins_list b us2.toArray) (begins_list c us3.toArray) l1.isList l2.isList l3.isList fun h' hz hTI hTO h1 h2 h3 hsz hk => wpAny_pyIter_zip hz ?_
        have IB : Inv X pins σ HA { sA with heap := h' } := IA.kept (t' := sA.toks) hk
        have one : ∀ {l : Addr}, l < sA.heap.objs.size → ∀ d ∈ [l], d < sA.heap.objs.size := fun h d hd => by
          rw [List.mem_singleton.mp hd]
          exact h
        exact ⟨sA.heap.objs.size + 5, [sA.heap.objs.size + 5, sA.heap.objs.size + 3, sA.heap.objs.size + 4, sA.heap.objs.size, sA.heap.objs.size + 1, sA.heap.objs.size + 2], _, _, HA, rfl, IB, turn_z3 (zip_sep3 (fp1 := [a]) (fp2 := [b]) (fp3 := [c]) (one la) (one lb) (one lc)) (Nat.ne_of_lt la) (Nat.ne_of_lt (Nat.lt_succ_of_lt lb)) (Nat.ne_of_lt (Nat.lt_succ_of_lt (Nat.lt_succ_of_lt lc))), ⟨hz, hTI, ⟨_, _, _, hTO⟩, ⟨_, h1, rfl, rfl⟩, ⟨_, h2, rfl, rfl⟩, ⟨_, h3, rfl, rfl⟩⟩, fresh6, q⟩
end Pl
namespace Pl
open PySem PySem.Spec PyProof.Rows L2 Kn
variable [Tbs]
/-! for a, b, c in zip(.., .., ..) of lists -/
def trs : List D → List D → List D → List D
  | a :: as, b :: bs, c :: cs => .tup true [a, b, c] :: trs as bs cs
  | _, _, _ => []
theorem trs_len : ∀ as bs cs : List D, (trs as bs cs).length = min (min as.length bs.length) cs.length
  | [], _, _ => by simp [trs]
  | _ :: _, [], _ => by simp [trs]
  | _ :: _, _ :: _, [] => by simp [trs]
  | a :: as, b :: bs, c :: cs => by
    rw [trs, List.length_cons, trs_len as bs cs, List.length_cons, List.length_cons, List.length_cons]
    omega
theorem trs_get : ∀ {as bs cs : List D} {i : Nat} {a b c : D}, as[i]? = some a → bs[i]? = some b → cs[i]? = some c → (trs as bs cs)[i]? = some (.tup true [a, b, c])
  | a :: as, b :: bs, c :: cs, 0, _, _, _, h1, h2, h3 => by
    cases h1
    cases h2
    cases h3
    rfl
  | a :: as, b :: bs, c :: cs, i + 1, _, _, _, h1, h2, h3 => trs_get (as := as) (bs := bs) (cs := cs) (i := i) h1 h2 h3
  | [], _, _, i, _, _, _, h1, _, _ => by cases i <;> cases h1
  | _ :: _, [], _, i, _, _, _, _, h2, _ => by cases i <;> cases h2
  | _ :: _, _ :: _, [], i, _, _, _, _, _, h3 => by cases i <;> cases h3
theorem walk_z3 {K : PySem.W.Frag} {G : Hp} {a b c : Addr} {xs ys zs : List V} {as bs cs : List D} (h1 : G a = some (.lst xs)) (h2 : G b = some (.lst ys)) (h3 : G c = some (.lst zs)) (k1 : DdA G xs as) (k2 : DdA G ys bs) (k3 : DdA G zs cs) : WalkD (Itz3 K a b c) G (trs as bs cs) := by
  have len : (trs as bs cs).length = min (min xs.length ys.length) zs.length := by rw [trs_len, dda_len k1, dda_len k2, dda_len k3]
  refine ⟨fun i H hi s => ⟨xs, ys, zs, sq_l (s _ _ h1), sq_l (s _ _ h2), sq_l (s _ _ h3), by rw [← len]; exact hi⟩, fun H s => ⟨xs, ys, zs, sq_l (s _ _ h1), sq_l (s _ _ h2), sq_l (s _ _ h3), len⟩, fun i H v H' hi s hy => ?_⟩
  obtain ⟨T, x, y, z, rfl, hT, rfl, e1, e2, e3⟩ := hy
  obtain ⟨d1, g1, f1⟩ := dda_get k1 (e1 _ (sq_l (s _ _ h1)))
  obtain ⟨d2, g2, f2⟩ := dda_get k2 (e2 _ (sq_l (s _ _ h2)))
  obtain ⟨d3, g3, f3⟩ := dda_get k3 (e3 _ (sq_l (s _ _ h3)))
  refine ⟨_, trs_get g1 g2 g3, fun G1 s1 s2 => ⟨_, ex_new s2 hT, .tupW upd_same ?_⟩⟩
  have up : Same G (upd G1 T (.tup [x, y, z])) := s1.trans (same_new (s2.free hT))
  exact .cons (dd_same up f1) (.cons (dd_same up f2) (.cons (dd_same up f3) .nil))
def zip3D : List D → Option (List D)
  | [.lst a, .lst b, .lst c] => some (trs a b c)
  | _ => none
section
variable {X : Cx}
theorem qi_zip3 {e e2 e3 : Expr} {m : Ma} {p pos tpos : Pos} {elts : List Expr} {kk : Nat} (hg : Gl X "zip") (hm : X.mg "zip" = none) (ha : PA X [e, e2, e3] (RA m))
    (hs : starEach [e, e2, e3] X.env = (false, eval e X.env) :: starEach [e2, e3] X.env := by rfl) (hpl : (backTo pos (starEach [e2, e3] X.env)).any (·.1) = false := by rfl) : PI X (.Tuple elts kk tpos) (.Call (.Name "zip" p) [e, e2, e3] [] pos) (RI (mCall zip3D m)) := by
  refine impI (pi_zip3 hg hm ha hs hpl) fun σ H Q ⟨G, ρ, ds, ρ', rp, e, k⟩ => ?_
  obtain ⟨l, e1, e2⟩ := mCall_inv e
  refine ⟨G, ρ, l, ρ', rp, e1, fun G1 H1 vs t hv => ?_⟩
  unfold zip3D at e2
  split at e2
  · cases e2
    cases hv with
    | cons h1 hv =>
      obtain ⟨v, w, rfl, h2, h3⟩ := two_inv hv
      cases h1 with
      | lst g1 k1 =>
        cases h2 with
        | lst g2 k2 =>
          cases h3 with
          | lst g3 k3 => exact ⟨_, _, _, _, _, _, rfl, sq_l (t.rep.le _ _ g1), sq_l (t.rep.le _ _ g2), sq_l (t.rep.le _ _ g3), k G1 H1 _ t (walk_z3 g1 g2 g3 k1 k2 k3)⟩
  · cases e2
/-- three names -/
def tg3 (i j k : Nat) : Mg := fun d ρ => match d with
  | .tup _ [a, b, c] => (setV i a ρ).bind fun ρ1 => (setV j b ρ1).bind fun ρ2 => setV k c ρ2
  | _ => none
theorem noOwn_set {ρ : Rh} {a b : Nat} {d : D} (h : noOwn ρ a) : noOwn (ρ.set b (.val d)) a := fun l ds z => by
  by_cases hb : b = a
  · subst hb
    by_cases hl : b < ρ.length
    · rw [List.getElem?_set_self hl] at z; cases z
    · rw [List.getElem?_set, if_pos rfl, if_neg hl] at z; cases z
  · rw [List.getElem?_set_ne hb] at z; exact h l ds z
theorem noOwn_unset {ρ : Rh} {a b : Nat} {d : D} (hb : noOwn ρ b) (h : noOwn (ρ.set b (.val d)) a) : noOwn ρ a := by
  by_cases e : b = a
  · subst e; exact hb
  · intro l ds z
    exact h l ds (by rw [List.getElem?_set_ne e]; exact z)
theorem three_inv {G : Hp} {xs : List V} {a b c : D} (h : DdA G xs [a, b, c]) : ∃ x y z, xs = [x, y, z] ∧ Dd G x a ∧ Dd G y b ∧ Dd G z c := by
  cases h with
  | cons h1 h =>
    obtain ⟨y, z, rfl, h2, h3⟩ := two_inv h
    exact ⟨_, y, z, rfl, h1, h2, h3⟩
theorem qg_three {i j k : Nat} {es : List Expr} {kk : Nat} {pos : Pos} (h : PG X (.Tuple es kk pos) (gTup X.K 3 (gCons (gName i) (gCons (gName j) (gCons (gName k) gNil))))) : PG X (.Tuple es kk pos) (RG [i, j, k] (tg3 i j k)) := by
  refine impG h fun v σ H Q ⟨G, ρ, d, ρ', r, hv, e, q⟩ => ?_
  unfold tg3 at e
  split at e
  · rename_i w a b c
    obtain ⟨ρ1, e1, e⟩ := bnd e
    obtain ⟨ρ2, e2, e3⟩ := bnd e
    obtain ⟨t, xs, rfl, h2, z⟩ := tup_cases X.K hv
    obtain ⟨x, y, u, rfl, f1, f2, f3⟩ := three_inv h2
    obtain ⟨rfl, hi, ni⟩ := setV_inv e1
    obtain ⟨rfl, hj, nj⟩ := setV_inv e2
    obtain ⟨rfl, hk, nk⟩ := setV_inv e3
    refine ⟨t, _, rfl, z H r.le, rfl, _, _, rfl, _, _, rfl, _, _, rfl, rfl, q _ (((r.set f1 hi).set f2 hj).set f3 hk) (by simp) (fun a ha => ?_) (fun a ha => ?_) (by simp)⟩
    · have a1 : i ≠ a := fun z => ha (by simp [z])
      have a2 : j ≠ a := fun z => ha (by simp [z])
      have a3 : k ≠ a := fun z => ha (by simp [z])
      rw [List.getElem?_set_ne a3, List.getElem?_set_ne a2, List.getElem?_set_ne a1, List.getElem?_set_ne a3, List.getElem?_set_ne a2, List.getElem?_set_ne a1]
      exact ⟨rfl, rfl⟩
    · have na : noOwn ρ a := by
        rcases (show a = i ∨ a = j ∨ a = k by simpa using ha) with rfl | rfl | rfl
        · exact ni
        · exact noOwn_unset ni nj
        · exact noOwn_unset ni (noOwn_unset nj nk)
      exact ⟨na, noOwn_set (noOwn_set (noOwn_set na))⟩
  · cases e
end
end Pl
namespace Pl
open PySem PySem.Spec PyProof.Rows L2 Kn
variable [Tbs]
/-! sorted(.., key=lambda x: d[..e[x]..]): the key by a chain of dicts -/
/-- the worth at the chain's end: the slots' dicts, the last one first -/
def chain (ρ : Rh) : List Nat → D → Option D
  | [], d => some d
  | j :: js, d => (chain ρ js d).bind fun e => match ρ[j]? with
    | some (.val (.dct ks ds)) => (keyD e).bind fun k => look ks ds k
    | _ => none
/-- a body so written; sc: the lambda's own names -/
inductive KB (N : List Str) (sc : Scope) (x : Str) : List Nat → Expr → Prop
  | var {pos : Pos} : KB N sc x [] (.Name x pos)
  | sub {j : Nat} {js : List Nat} {y : Str} {e : Expr} {p pos : Pos} : N[j]? = some y → sc.names.lookup y = some .free → (y == ("__debug__" : Str)) = false → (y == ("__classdict__" : Str)) = false → PlainIx e → KB N sc x js e → KB N sc x (j :: js) (.Subscript (.Name y p) e pos)
section
variable {P : Program} {w : World} {A : Around} {env : Env} {G H : Hp} {σ : L2.St} {ρ : Rh} {N : List Str} {x : Str} {h : Heap}
theorem kb_ev {js : List Nat} {body : Expr} (kb : KB N env.scope x js body) (r : Rep G H σ ρ) (ok : HOk P w H h) (hk : env.scope.kind = .function)
    (hc : ∀ (j : Nat) (y : Str) (a : Addr), N[j]? = some y → env.scope.names.lookup y = some .free → σ[j]? = some (some (.ref a)) → ∃ c, env.cells.lookup y = some c ∧ h.IsCell c (some (.ref a)))
    {m : Str → Option Value} {y : V} {u : Value} {d : D} (hx : env.scope.names.lookup x = some .local) (hdx : (x == ("__debug__" : Str)) = false) (hn : h.Ns env.locals m) (hm : m x = some u) (ry : RelV y u) (hd : Dd G y d) :
    ∀ {d' : D}, chain ρ js d = some d' → ∀ (s : Shared) (Q : Value → Shared → Prop) (E : Value → Shared → Prop), s.heap = h → (∀ v tk z, RelV z v → Dd G z d' → Q v { s with toks := tk }) → wpAny (model P w) A (eval body env) Q E s := by
  induction kb with
  | var =>
    intro d' e s Q E hs q
    cases e
    subst hs
    exact wpAny_Name (wpAny_loadName_local hk hx hn hm (q u s.toks y ry hd)) hdx
  | @sub j js yn e p pos hj hf h1 h2 hp kb ih =>
    intro d' e s Q E hs q
    obtain ⟨e0, c1, e⟩ := bnd e
    split at e
    case h_2 => cases e
    rename_i ks ds hρ
    obtain ⟨k, c2, c3⟩ := bnd e
    obtain ⟨v, g1, g2⟩ := r.val hρ
    cases g2 with
    | @dct a o kvs ds g3 g4 =>
    obtain ⟨w', g5, g6⟩ := look_some g4 c3
    obtain ⟨_, _, vs, rel, dd⟩ := dk_rd ok (.inr ⟨o, r.le _ _ g3⟩)
    obtain ⟨u', hw, rw'⟩ := RelO.some_of (v := w') (o := valueAt vs k) (by rw [← g5]; exact rel.val k)
    obtain ⟨c, k1, k2⟩ := hc j yn a hj hf g1
    subst hs
    refine Subscript_ (wpAny_Name (wpAny_loadName_free hk hf k1 k2 ?_ h2) h1)
    refine ih c1 s _ E rfl fun ve tk z rz hz => ?_
    rw [keyD_v hz c2] at rz
    refine tail_any (T := "dict") (ops := [.ref a, ve]) dd.typeIs PySem.F.slot_dict_getitem.lookup ?_ (hp _ _)
    exact wpAny_getItem_of (s := { s with toks := tk }) (kV_is rz) dd.mapOf hw (q u' _ w' rw' g6)
end
/-- a lambda of one parameter, the other names captured -/
structure Lam1 (sc scope : Scope) (x : Str) : Prop where
  kind : scope.kind = .function
  co : scope.isCoroutine = false
  gen : scope.isGenerator = false
  par : scope.names.lookup x = some .local
  cell : ∀ y ∈ scope.names, y.2 ≠ .cell
  free : ∀ y ∈ scope.names, y.2 = .free → sc.names.lookup y.1 = some .cell ∨ sc.names.lookup y.1 = some .free
def lam1B (sc scope : Scope) (x : Str) : Bool :=
  decide (scope.kind = .function) && !scope.isCoroutine && !scope.isGenerator && decide (scope.names.lookup x = some .local) && scope.names.all fun y => !decide (y.2 = .cell) && (!decide (y.2 = .free) || decide (sc.names.lookup y.1 = some .cell) || decide (sc.names.lookup y.1 = some .free))
theorem lam1_by {sc scope : Scope} {x : Str} (h : lam1B sc scope x = true) : Lam1 sc scope x := by
  simp only [lam1B, Bool.and_eq_true, Bool.or_eq_true, Bool.not_eq_true', decide_eq_true_eq, decide_eq_false_iff_not, List.all_eq_true] at h
  obtain ⟨⟨⟨⟨a, b⟩, c⟩, d⟩, e⟩ := h
  refine ⟨a, b, c, d, fun y m => (e y m).1, fun y m f => ?_⟩
  rcases (e y m).2 with (z | z) | z
  · exact (z f).elim
  · exact .inl z
  · exact .inr z
section
variable {X : Cx} {pins : List (Addr × Obj)} {σ : L2.St} {H G : Hp} {s : Shared} {ρ : Rh}
theorem Lam1.has {scope : Scope} {x : Str} (L : Lam1 X.env.scope scope x) (ok : X.Ok) : ∀ y ∈ scope.names, y.2 = .free → ∃ c, X.env.cells.lookup y.1 = some c := fun y m e =>
  (L.free y m e).elim (fun k => ok.has _ (.inl k)) fun k => ok.has _ (.inr k)
/-- a captured name's cell is the maker's -/
theorem clo_at {scope : Scope} {x y : Str} (L : Lam1 X.env.scope scope x) (ok : X.Ok) (h : scope.names.lookup y = some .free) : (cloFrom X.env.cells scope.names []).lookup y = X.env.cells.lookup y ∧ (X.env.scope.names.lookup y = some .cell ∨ X.env.scope.names.lookup y = some .free) := by
  have m : (y, NameKind.free) ∈ scope.names := PySem.mem_of_lookup h
  obtain ⟨c, hc⟩ := L.has ok _ m rfl
  obtain ⟨c2, h2⟩ := mem_lookup (cloFrom_has (cells := X.env.cells) (acc := []) m)
  rcases cloFrom_mem (PySem.mem_of_lookup h2) with z | ⟨_, z⟩
  · cases z
  · refine ⟨?_, L.free _ m rfl⟩
    rw [h2, z]
    show some ((X.env.cells.lookup y).getD 0) = X.env.cells.lookup y
    rw [show X.env.cells.lookup y = some c from hc]
    rfl
abbrev lamQ (X : Cx) : Str := X.env.qual ++ "<lambda>"
/-- the lambda called with one thing: its key, and nothing else is changed -/
theorem lam_turn {f c' : Addr} {pm ctv : Value} {params : Arguments} {body : Expr} {scope : Scope} {x : Str} {js : List Nat} {A : Around} (I : Inv X pins σ H s) (L : Lam1 X.env.scope scope x) (kb : KB X.N scope x js body) (hdx : (x == ("__debug__" : Str)) = false)
    (hf : s.heap.get? f = some (PySem.W.kla_obj "<lambda>" (lamQ X) params body scope (cloFrom X.env.cells scope.names []) pm c' ctv)) (hco : H c' = some (LamX.CodeO c' (lamQ X)))
    (hbind : ∀ (cl : List (Str × Addr)) (pm cv ctv v : Value), bindArgs (PySem.W.kla_fn "<lambda>" (lamQ X) params body scope cl pm cv ctv) ⟨[v], []⟩ = pure [(x, v)])
    (hr : A.depth < recursionLimit) (r : Rep G H σ ρ) {v : Value} {y : V} {d : D} {i : Int} (ry : RelV y v) (hd : Dd G y d) (hch : chain ρ js d = some (.int i)) (h : Heap) (tk : Nat) (kp : ∀ b o, s.heap.get? b = some o → h.get? b = some o) :
    wpAny (model X.prog X.w) A (call (.ref f) [v]) (PySem.W.KeyPure (.int i) { s with heap := h, toks := tk }) (fun _ _ => False) { s with heap := h, toks := tk } := by
  have hok := I.hok.kept kp
  obtain ⟨⟨oc, vs, t, hoc, hdc, hvc⟩, _, _⟩ := hok c' _ hco
  refine wpAny_call ?_
  refine PySem.W.kla_callFunE hr (kp _ _ hf) rfl L.co L.gen rfl ⟨c', oc, vs, t, rfl, hoc, hdc, hvc⟩ ?_
  rw [hbind]
  refine wpAny_pure (wpAny_newFunctionEnv L.cell (fun y hy => ?_) (fun h₁ hns hsb => ⟨(I.nolimit.keeps kp).fresh _ hsb, ?_⟩) L.kind)
  · cases hy with
    | head => exact L.par
    | tail _ z => cases z
  show codeAny _ _ (.expr body (LamX.lamEnv X scope h.objs.size f c')) _ _
  have kp1 : ∀ b o, h.get? b = some o → h₁.get? b = some o := fun b o e => hsb.extBut b o (Nat.ne_of_lt (Heap.lt_size e)) (Heap.get?_push_of_some _ e)
  refine PySem.W.kla_codeExpr ?_
  refine kb_ev (env := LamX.lamEnv X scope h.objs.size f c') (h := h₁) (m := fun y => [(x, v)].reverse.lookup y) kb r (hok.kept kp1) L.kind (fun j yn a hj hfr hσ => ?_) L.par hdx hns (by simp [List.lookup]) ry hd hch _ _ _ rfl fun u tk' z rz hz => ?_
  · obtain ⟨e1, e2⟩ := clo_at L I.ok hfr
    obtain ⟨mm, hn, hl⟩ := I.loc
    obtain ⟨u, ru, q⟩ := hl j yn (.ref a) hj hσ (e2.elim (fun k => .inr (.inl k)) fun k => .inr (.inr k))
    obtain rfl : u = Value.ref a := ru
    rcases q with ⟨k, _⟩ | ⟨_, c, k1, k2⟩
    · have k : X.env.scope.names.lookup yn = some .local := k
      rcases e2 with z | z <;> rw [z] at k <;> cases k
    · obtain ⟨o, ho, hdd⟩ := k2
      exact ⟨c, e1.trans k1, o, kp1 _ _ (kp _ _ ho), hdd⟩
  · cases hz
    obtain ⟨t', rfl⟩ := rz
    exact ⟨h₁, tk', rfl, kp1, .int _ _⟩
end
end Pl
namespace Pl
open PySem PySem.Spec PyProof.Rows L2 Kn
variable [Tbs]
section
variable {X : Cx} {pins : List (Addr × Obj)} {σ : L2.St} {H : Hp} {s : Shared}
/-- tables where one grew by a code object of its name -/
theorem tabs_grow {T : List (Addr × Str)} {Pt c' : Addr} {q : Str} {tab : Array Value} {pos : Pos} (hT : LamX.Tabs T H) (at0 : H Pt = some (.tbl tab)) (ok : TriplesOk tab.toList) (all : ∀ (p : Pos) (cv : Value), codeAmong p tab.toList = some cv → ∃ c, cv = .ref c ∧ H c = some (LamX.CodeO c q))
    (hu : ∀ p ∈ T, p.1 = Pt → p.2 = q) (nc : H c' = none) : LamX.Tabs T (upd (upd H Pt (.tbl (tab ++ #[rawInt pos.line, rawInt pos.col, .ref c']))) c' (LamX.CodeO c' q)) := by
  have up : LamX.ExtN H (upd (upd H Pt (.tbl (tab ++ #[rawInt pos.line, rawInt pos.col, .ref c']))) c' (LamX.CodeO c' q)) := fun b o e n => by
    have n1 : b ≠ c' := ne_of_none e nc
    have n2 : b ≠ Pt := fun z => n tab (by rw [z, at0] at e; exact (Option.some.inj e).symm)
    rw [upd_ne n1, upd_ne n2, e]
  have le : (tab ++ #[rawInt pos.line, rawInt pos.col, .ref c']).toList = tab.toList ++ [rawInt pos.line, rawInt pos.col, .ref c'] := by simp
  intro p hp
  by_cases hb : p.1 = Pt
  · have e2 := hu p hp hb
    refine ⟨tab ++ #[rawInt pos.line, rawInt pos.col, .ref c'], ?_, ?_, fun p' cv h => ?_⟩
    · rw [hb, upd_ne (ne_of_none at0 nc), upd_same]
    · rw [le]
      exact PySem.TriplesOk_snoc _ _ _ _ ok
    · rw [e2]
      rw [le] at h
      rcases LamX.among_app _ ok h with z | z
      · obtain ⟨c, z1, z2⟩ := all p' cv z
        exact ⟨c, z1, up _ _ z2 nt_code⟩
      · exact ⟨c', z, upd_same⟩
  · obtain ⟨ps, b1, b2, b3⟩ := hT p hp
    refine ⟨ps, ?_, b2, fun p' cv h => ?_⟩
    · rw [upd_ne (ne_of_none b1 nc), upd_ne hb]
      exact b1
    · obtain ⟨c, z1, z2⟩ := b3 p' cv h
      exact ⟨c, z1, up _ _ z2 nt_code⟩
/-- a lambda is made: what was tracked is tracked, the tables stay good -/
theorem lam_mk {T : List (Addr × Str)} {c Pt : Addr} {params : Arguments} {body : Expr} {scope : Scope} {pos : Pos} {E Q : Value → Shared → Prop} (I : Inv X pins σ H s) (TB : LamX.TabB X.base X.mg c Pt) (hcode : X.env.code = .ref c) (hm : (Pt, lamQ X) ∈ T) (hu : ∀ p ∈ T, p.1 = Pt → p.2 = lamQ X)
    (hT : LamX.Tabs T H) (hdef : defaultsOf params X.env = ([], [])) (hfree : ∀ y ∈ scope.names, y.2 = .free → ∃ c, X.env.cells.lookup y.1 = some c)
    (h : ∀ (f c' : Addr) (pm ctv : Value) (H1 : Hp) (s1 : Shared), Inv X pins σ H1 s1 → LamX.ExtN H H1 → (∀ b, H1 b = none → H b = none) → LamX.Tabs T H1 → s1.heap.get? f = some (PySem.W.kla_obj "<lambda>" (lamQ X) params body scope (cloFrom X.env.cells scope.names []) pm c' ctv) →
      H1 c' = some (LamX.CodeO c' (lamQ X)) → Q (.ref f) s1) : wpAny (model X.prog X.w) X.A (eval (.Lambda params body scope pos) X.env) Q E s := by
  obtain ⟨tab, at0, ok, all⟩ := hT _ hm
  have there : s.heap.get? Pt = some { cls := .none, data := .fields tab } := I.hok Pt _ at0
  have blt : s.heap.BuiltinsAt X.mg Pt := TB.bm.keeps I.bk
  apply PySem.W.kla_eval hdef
  cases hit : codeAmong pos tab.toList with
  | some cv =>
    obtain ⟨c', rfl, hc'⟩ := all pos cv hit
    apply PySem.W.kla_makeFunctionHit (mg := X.mg) (c := c) (P := Pt) (ps := tab) (closure_ok hfree) I.ok.glob (I.mod.glob.keeps I.bk) hcode (TB.code.keeps I.bk) there ok hit blt
    intro ctv h' tk up _
    exact h _ c' _ ctv H _ (I.kept fun b o e => Heap.get?_push_of_some _ (up b o e)) (LamX.ExtN.refl H) (fun _ e => e) hT (Heap.get?_push_size _ rfl) hc'
  | none =>
    apply PySem.W.kla_makeFunction (mg := X.mg) (c := c) (P := Pt) (ps := tab) (closure_ok hfree) I.ok.glob (I.mod.glob.keeps I.bk) hcode (TB.code.keeps I.bk) there ok hit TB.gP blt
    rintro c' ctv h' tk up ge lt ⟨c2, oc, vs, t, e2, hoc, hd, hv⟩ new
    cases e2
    have nc : H c' = none := I.hok.fresh ge
    have J := LamX.inv_table (t' := tk) (q := lamQ X) (more := #[rawInt pos.line, rawInt pos.col, .ref c']) (h' := h'.push (PySem.W.kla_obj "<lambda>" (lamQ X) params body scope (cloFrom X.env.cells scope.names []) ((X.mg "__name__").getD .none) c' ctv)) I at0
      (fun b o n e => Heap.get?_push_of_some _ (up b o n e)) (Heap.get?_push_of_some _ new) ge ⟨oc, vs, t, Heap.get?_push_of_some _ hoc, hd, hv⟩
    refine h _ c' _ ctv _ _ J (fun b o e n => ?_) (fun b e => ?_) (tabs_grow hT at0 ok all hu nc) (Heap.get?_push_size _ rfl) upd_same
    · have n2 : b ≠ Pt := fun z => n tab (by rw [z, at0] at e; exact (Option.some.inj e).symm)
      rw [upd_ne (ne_of_none e nc), upd_ne n2, e]
    · unfold upd at e
      split at e
      · cases e
      · split at e
        · cases e
        · exact e
end
/-! the sort -/
def keysI (ρ : Rh) (js : List Nat) : List D → Option (List (D × Int))
  | [] => some []
  | d :: ds => match chain ρ js d with
    | some (.int i) => (keysI ρ js ds).map fun r => (d, i) :: r
    | _ => none
def sqD : D → Option (List D)
  | .lst l => some l
  | .tup _ l => some l
  | _ => none
def byKey (l : List (D × Int)) : List D := (l.mergeSort fun a b => decide (a.2 ≤ b.2)).map (·.1)
def mSortK (m : Me) (js : List Nat) : Ma := fun ρ => (m ρ).bind fun p => (sqD p.1).bind fun l => (keysI p.2 js l).bind fun r => if l.length ≤ 100000 then some (byKey r, p.2) else none
theorem keysI_fst {ρ : Rh} {js : List Nat} : ∀ {l : List D} {r : List (D × Int)}, keysI ρ js l = some r → r.map (·.1) = l ∧ ∀ b ∈ r, chain ρ js b.1 = some (.int b.2)
  | [], r, h => by
    cases h
    exact ⟨rfl, fun b hb => by cases hb⟩
  | d :: ds, r, h => by
    unfold keysI at h
    split at h
    · rename_i i hi
      obtain ⟨q, h1, rfl⟩ := mpd h
      obtain ⟨e1, e2⟩ := keysI_fst h1
      refine ⟨by rw [List.map_cons, e1], fun b hb => ?_⟩
      rcases List.mem_cons.mp hb with rfl | hb
      · exact hi
      · exact e2 b hb
    · cases h
section
variable {X : Cx} {pins : List (Addr × Obj)} {σ : L2.St} {G H : Hp} {s : Shared} {ρ : Rh}
theorem each_dd : ∀ {xs : List V} {its : List Value} {bs : List (D × Int)}, Vals xs its → DdA G xs (bs.map (·.1)) → PySem.W.EachIs (fun v b => ∃ y, RelV y v ∧ Dd G y b.1) its bs
  | [], _, [], .nil, .nil => .nil
  | x :: xs, _, b :: bs, .cons r t, .cons h k => .cons ⟨x, r, h⟩ (each_dd t k)
theorem dd_each : ∀ {its : List Value} {bs : List (D × Int)}, PySem.W.EachIs (fun v b => ∃ y, RelV y v ∧ Dd G y b.1) its bs → ∃ xs, Vals xs its ∧ DdA G xs (bs.map (·.1))
  | _, _, .nil => ⟨[], .nil, .nil⟩
  | _, _, .cons ⟨y, r, h⟩ t => by
    obtain ⟨xs, a, b⟩ := dd_each t
    exact ⟨y :: xs, .cons r a, .cons h b⟩
end
end Pl
namespace Pl
open PySem PySem.Spec PyProof.Rows L2 Kn
variable [Tbs]
section
variable {X : Cx} {pins : List (Addr × Obj)} {σ : L2.St} {G H : Hp} {s : Shared} {ρ : Rh}
/-- sorted(a, key=f): a new list by the keys -/
theorem sortK_run {a f : Addr} {xs : List V} {r : List (D × Int)} {Q : VK} (I : Inv X pins σ H s) (sq : SqL X.K H a xs ∨ SqT X.K H a xs) (hx : DdA G xs (r.map (·.1))) (few : r.length ≤ 100000) (hu : X.A.units + 4 < cLine)
    (turn : ∀ (v : Value) (y : V) (b : D × Int), RelV y v → Dd G y b.1 → b ∈ r → ∀ (h : Heap) (tk : Nat), (∀ b o, s.heap.get? b = some o → h.get? b = some o) →
      wpAny (model X.prog X.w) X.A.in1.in1 (call (.ref f) [v]) (PySem.W.KeyPure (.int b.2) { s with heap := h, toks := tk }) (fun _ _ => False) { s with heap := h, toks := tk })
    (q : ∀ (zs : List V) (p : Addr), DdA G zs (byKey r) → H p = none → Q (.ref p) (upd H p (.lst zs))) :
    wpAny (model X.prog X.w) X.A (call (.builtin "sorted") [.ref a] [(Str.ofString "key", .ref f)]) (EP X pins σ Q) X.xe s := by
  have seq : ∃ (T : String) (ob : Obj) (m : Nat) (its : List Value), (T = "list" ∨ T = "tuple") ∧ s.heap.get? a = some ob ∧ ob.cls = .type T ∧ ob.data = .seq its.toArray m ∧ Vals xs its := by
    rcases sq with z | z
    · obtain ⟨its, rv, ⟨ob, m, h1, h2, _, h4⟩, _⟩ := I.list z
      exact ⟨_, ob, m, its, .inl rfl, h1, h2, h4, rv⟩
    · obtain ⟨its, rv, ⟨ob, h1, h2, m, h4⟩, _⟩ := I.tuple z
      exact ⟨_, ob, m, its, .inr rfl, h1, h2, h4, rv⟩
  obtain ⟨T, ob, m, its, hT, ho, hc, hd, rv⟩ := seq
  have il : its.length = r.length := by
    rw [← rv.length, dda_len hx, List.length_map]
  have small : its.length ≤ sizeLine := by rw [il, sizeLine_eq]; omega
  have each := each_dd rv hx
  refine call_function_entry_kw kind_sorted plain_sorted entry_sorted (PyProof.Rows.ksk_s1 _ _) (show wpAny _ _ (Builtin.«sorted» _) _ _ _ from ?_)
  unfold Builtin.«sorted»
  refine wpAny_bind (m := checkCount "sorted" 1 1 _) (wpAny_pure (wpAny_bind (wpAny_collect_seq a hT ho hc hd (fun g up => ?_) (by rw [List.size_toArray]; exact small))))
  have J : Inv X pins σ H { s with heap := g } := I.kept (t' := s.toks) up
  refine wpAny_bind (wpAny_newList ?_ (by rw [List.toList_toArray]; exact small))
  rw [List.toList_toArray]
  have at0 : (g.push (seqObj "list" its.toArray 0)).get? g.objs.size = some (seqObj "list" its.toArray 0) := Heap.get?_push_size _ rfl
  have old : ∀ {h : Heap}, PySem.W.KeepsBut g.objs.size (g.push (seqObj "list" its.toArray 0)) h → ∀ b o, g.get? b = some o → h.get? b = some o := fun kb b o e => kb b o (Nat.ne_of_lt (Heap.lt_size e)) (Heap.get?_push_of_some _ e)
  refine wpAny_bind (wpAny_holding (wpAny_call_entry_kw slot_list_sort ⟨_, at0, rfl⟩ entry_list_sort ?_ (PyProof.Rows.ksk_l1 _ _)))
  refine PySem.W.keyH_tree (s := { s with heap := g.push (seqObj "list" its.toArray 0) }) (f := .ref f) (b := false) (kz := r.map fun b => .int b.2) at0 (by rw [List.length_map, il]) small (PySem.W.AllAlike.of fun _ _ => rfl) (PySem.W.Sortable.others fun _ => ⟨by simp, by simp⟩) (fun d hd => ?_)
    (PySem.W.keyH_turns (s := { s with heap := g.push (seqObj "list" its.toArray 0) }) each fun v b ⟨y, ry, hy⟩ hb h tk kb => turn v y b ry hy hb h tk fun c o e => old kb c o (up c o e)) fun h' tk out c kb hD ko => ⟨_, rfl, ?_⟩
  · obtain ⟨b, _, rfl⟩ := List.mem_map.mp hd
    show X.A.units + 1 + 1 + 0 < cLine
    omega
  have eo := PySem.W.keyedOut_each _ ko each
  rw [PySem.W.dataLe_int (β := D × Int) (fun b => b.2)] at eo
  obtain ⟨zs, z1, z2⟩ := dd_each eo
  have fit : zs.length ≤ sizeLine := by
    rw [dda_len z2, List.length_map, (List.mergeSort_perm _ _).length_eq, ← il]
    exact small
  exact wpAny_pure ⟨_, rfl, .ref g.objs.size, upd H g.objs.size (.lst zs), J.laid (t' := tk) (old kb) (Nat.le_refl _) ⟨fit, out, c, z1, hD⟩, rfl, q zs _ z2 (J.hok.fresh (Nat.le_refl _))⟩
end
section
variable {X : Cx}
theorem qf_sortK {c Pt : Addr} {params : Arguments} {body : Expr} {scope : Scope} {x : Str} {js : List Nat} {e : Expr} {m : Me} {k : Nat} {p pos lpos kpos : Pos} (hr : Room (k + 1) X.A) (TB : LamX.TabB X.base X.mg c Pt) (hcode : X.env.code = .ref c) (hm : (Pt, lamQ X) ∈ Tbs.T) (hu : ∀ p ∈ Tbs.T, p.1 = Pt → p.2 = lamQ X)
    (L : Lam1 X.env.scope scope x) (kb : KB X.N scope x js body) (hg : Gl X "sorted") (hs : X.mg "sorted" = none) (he : PE X e (R m)) (hdx : (x == ("__debug__" : Str)) = false) (hdef : defaultsOf params X.env = ([], []))
    (hbind : ∀ (cl : List (Str × Addr)) (pm cv ctv v : Value), bindArgs (PySem.W.kla_fn "<lambda>" (lamQ X) params body scope cl pm cv ctv) ⟨[v], []⟩ = pure [(x, v)])
    (na : starEach [e] X.env = (false, eval e X.env) :: starEach [] X.env := by rfl) :
    PE X (.Call (.Name "sorted" p) [e] [⟨some "key", .Lambda params body scope lpos, kpos⟩] pos) (RF (mSortK m js)) := by
  refine ⟨fun pins s σ H Q I want => ?_⟩
  obtain ⟨G, ρ, out, ρ', rp, em, fin⟩ := want
  obtain ⟨w1, e1, em⟩ := bnd em
  obtain ⟨l, e2, em⟩ := bnd em
  obtain ⟨r, e3, em⟩ := bnd em
  obtain ⟨few, em⟩ := some_if em
  cases em
  obtain ⟨f1, f2⟩ := keysI_fst e3
  have rl : r.length ≤ 100000 := by
    rw [← f1, List.length_map] at few
    exact few
  have ha : PA X [e] (RA (mCons m mNil)) := qa_cons he qa_nil na
  refine wpAny_Call_Name_kw (ld_blt I hg hs (show bootBuiltins "sorted" = some (.builtin "sorted") by decide +kernel) ?_ (by decide) (by decide))
  refine PyProof.Rows.callWith_kw ?_ (by show backTo pos (starEach [e] X.env) = _; rw [na]; rfl) (by rw [na]; rfl) rfl rfl
  refine thn (ha.run pos pins s σ H (fun vs H1 => ∃ G1 y, vs = [y] ∧ Tr G H σ ρ G1 H1 w1.2 ∧ Dd G1 y w1.1) I ⟨G, ρ, [w1.1], w1.2, rp, by unfold mCons; rw [e1]; rfl, fun G1 H1 vs t hv => ?_⟩) fun us s1 ⟨vs, H1, I1, r1, G1, y, ev, t1, hy⟩ => ?_
  · cases hv with
    | cons h1 h2 =>
      cases h2
      exact ⟨G1, _, rfl, t, h1⟩
  subst ev
  show wpAny _ _ (evalAll [do let v ← eval (.Lambda params body scope lpos) X.env; standAt pos; pure v]) _ _ s1
  refine wpAny_evalAll_cons (wpAny_bind (lam_mk I1 TB hcode hm hu t1.rep.le.tb hdef (L.has I1.ok) fun f c' pm ctv H2 s2 I2 eN dm T2 hf hco => wpAny_bind (wpAny_standAt (wpAny_pure (wpAny_evalAll_nil ?_)))))
  have le2 : Le G1 H2 := ⟨fun b o z => eN b o (t1.rep.le _ _ z) (t1.rep.le.nt _ _ z), T2, t1.rep.le.nt⟩
  have r2 : Rep G1 H2 σ w1.2 := ⟨le2, t1.rep.len, t1.rep.val, fun z => by
    obtain ⟨b, ys, z1, z2, z3, z4⟩ := t1.rep.own z
    exact ⟨b, ys, z1, eN _ _ z2 nt_lst, z3, z4⟩, t1.rep.inj⟩
  have t2 : Tr G1 H1 σ w1.2 G1 H2 w1.2 := ⟨⟨Same.refl _, le2, fun b o z _ n => eN b o z n, fun _ _ _ g _ _ => g, dm⟩, r2, Kp.refl _⟩
  have T := t1.trans t2
  have lim : X.A.in1.in1.depth < recursionLimit := by
    have := hr.dp
    show X.A.depth < recursionLimit
    omega
  have main : ∀ (a : Addr) (xs : List V), y = .ref a → (SqL X.K H2 a xs ∨ SqT X.K H2 a xs) → DdA G1 xs l → wpAny (model X.prog X.w) X.A (call (.builtin "sorted") us [(Str.ofString "key", .ref f)]) (EP X pins σ Q) X.xe s2 := fun a xs ea sq hx => by
    subst ea
    rw [Vals.ref1 r1]
    refine sortK_run I2 sq (by rw [f1]; exact hx) rl (by have := hr.un; omega) (fun v z b rz hz hb h tk kp => lam_turn I2 L kb hdx hf hco hbind lim r2 rz hz (f2 b hb) h tk kp) fun zs p hz np => ?_
    have ex := ex_own (o := .lst zs) le2 np
    exact fin G1 _ p zs (T.trans (Tr.ext r2 ex)) (T.go.dom _ np) upd_same (le2.free np) hz
  show wpAny (model X.prog X.w) X.A (call (.builtin "sorted") us [(Str.ofString "key", .ref f)]) (EP X pins σ Q) X.xe s2
  unfold sqD at e2
  split at e2
  · rename_i z hw
    cases e2
    rw [hw] at hy
    cases hy with
    | lst h1 h2 => exact main _ _ rfl (.inl (sq_l (le2 _ _ h1))) h2
  · rename_i k0 z hw
    cases e2
    rw [hw] at hy
    cases hy with
    | tupM h1 h2 => exact main _ _ rfl (.inr ((h1.same le2).sq)) h2
    | tupW h1 h2 => exact main _ _ rfl (.inr (sq_t (le2 _ _ h1))) h2
  · cases e2
end
end Pl
namespace Pl
open PySem PySem.Spec PyProof.Rows L2 Kn
variable [Tbs]
/-! dict comprehensions -/
def dcL (tg : Mg) (tt : Mt) (tk tv : Me) (vs : List Nat) : List D → Rh → List (Key × D) → Option (List (Key × D) × Rh)
  | [], ρ, acc => some (acc, ρ)
  | d :: ds, ρ, acc => (tg d ρ).bind fun ρ1 => (tt ρ1).bind fun p => if p.1 = true then (tk p.2).bind fun q => (keyD q.1).bind fun k => (tv q.2).bind fun r => dcL tg tt tk tv vs ds (wipeR r.2 vs) (putD acc k r.1) else dcL tg tt tk tv vs ds (wipeR p.2 vs) acc
def mDc (src : Ma) (tg : Mg) (tt : Mt) (tk tv : Me) (vs : List Nat) : Me := fun ρ => (src ρ).bind fun p => if (vs.all fun i => !isOwn p.2[i]?) = true ∧ p.1.length ≤ 100000 then (dcL tg tt tk tv vs p.1 (wipeR p.2 vs) []).map fun r => (.dct (r.1.map (·.1)) (r.1.map (·.2)), unwipe p.2 r.2 vs) else none
theorem putK_len {κ : Type} [DecidableEq κ] {l : List (κ × V)} {k : κ} {v : V} : (putK l k v).length ≤ l.length + 1 := by
  unfold putK
  split
  · rw [List.length_map]
    omega
  · simp
section
variable {X : Cx}
theorem dc_of {src : Ma} {ts : List Nat} {tg : Mg} {tt : Mt} {tk tv : Me} {vs : List Nat} (hts : ∀ i ∈ ts, i ∈ vs) (σ : L2.St) (H : Hp) (Q : VK) (h : R (mDc src tg tt tk tv vs) σ H Q) : tDc (RI src) (RG ts tg) (RT tt) (R tk) (R tv) vs σ H (lockQ Q) := by
  obtain ⟨G, ρ, d0, ρ', rp, e, k⟩ := h
  obtain ⟨p, e1, e⟩ := bnd e
  split at e
  case isFalse => cases e
  rename_i hc
  obtain ⟨hv, hlen⟩ := hc
  obtain ⟨w, e2, e⟩ := mpd e
  cases e
  refine ⟨G, ρ, p.1, p.2, rp, e1, fun G1 H1 J t1 wk => ?_⟩
  intro Dl hD
  have no : ∀ i ∈ vs, noOwn p.2 i := fun i hi l es z => by
    have := List.all_eq_true.mp hv i hi
    rw [z] at this
    cases this
  have r1w := t1.rep.wipe vs
  refine dc_it wk (fun i H2 => ∃ Gi ρi kvs acc, Tr G1 H1 (wipe σ vs) (wipeR p.2 vs) Gi H2 ρi ∧ (∀ j ∈ vs, ∀ s, ρi[j]? = some s → s = .un) ∧ H2 Dl = some (.dK kvs) ∧ Gi Dl = none ∧ KD Gi kvs acc ∧ kvs.length ≤ i ∧ dcL tg tt tk tv vs (p.1.drop i) ρi acc = some w)
    ?_ (fun i H2 _ ⟨Gi, ρi, _, _, t, _⟩ => t.go.gg.trans t.go.le) (fun i x H2 H3 hi ⟨Gi, ρi, kvs, acc, t, hun, hd, hg, hx, hxl, el⟩ y => ?_) (fun H2 ⟨Gi, ρi, kvs, acc, t, hun, hd, hg, hx, hxl, el⟩ => ?_)
  · exact ⟨G1, _, [], [], Tr.poke r1w (Tr.refl r1w) hD (t1.rep.le.free hD) (fun u z => by rw [hD] at z; cases z), fun j hj s hs => wiped hj hs, upd_same, t1.rep.le.free hD, .nil, Nat.zero_le _, by rw [List.drop_zero]; exact e2⟩
  · obtain ⟨d, hd1, hy⟩ := y
    obtain ⟨G2, ex, hxd⟩ := hy Gi t.go.gg t.go.le
    rw [drop_get hd1] at el
    obtain ⟨ρt, eg, el⟩ := bnd el
    obtain ⟨q, et, el⟩ := bnd el
    refine ⟨G2, ρi, d, ρt, t.rep.ext ex, hxd, eg, fun σ2 r2 sl hσ hno hlr => ⟨wipe_eq (by rw [sl, wipe_length]) fun i hi => by rw [(hσ i fun z => hi (hts i z)).1, wipe_out hi], ?_⟩⟩
    have slen : σ2.length = σ.length := by rw [sl, wipe_length]
    have hDf : ∀ {G' H' : Hp} {ρ'' : Rh}, Tr G1 H1 (wipe σ vs) (wipeR p.2 vs) G' H' ρ'' → ¬ Fp (wipe σ vs) ρ'' Dl := fun t' z => by
      obtain ⟨zs, z⟩ := fp_some r1w (t'.kp.fp z)
      rw [hD] at z
      cases z
    refine ⟨G2, ρt, q.1, q.2, r2, et, fun G3 H4 t3 => ?_⟩
    have tA := Tr.turn hts t.rep hun ex slen hlr hσ hno t3
    cases hq : q.1 with
    | false =>
      rw [hq, if_neg Bool.false_ne_true] at el
      exact iteF ⟨G3, wipeR q.2 vs, kvs, acc, t.trans tA.1, tA.2, tA.1.go.off _ _ hd (hDf t) nt_dK, tA.1.go.new _ _ hd hg (hDf t), hx.same tA.1.go.gg, by omega, el⟩
    | true =>
      rw [hq, if_pos rfl] at el
      obtain ⟨u, eu, el⟩ := bnd el
      obtain ⟨ky, ek, el⟩ := bnd el
      obtain ⟨r, er, el⟩ := bnd el
      refine iteT ⟨G3, q.2, u.1, u.2, t3.rep, eu, fun G4 H5 y t4 hy => ⟨G4, u.2, r.1, r.2, t4.rep, er, fun G5 H6 z t5 hz => ?_⟩⟩
      have tB := Tr.turn hts t.rep hun ex slen hlr hσ hno ((t3.trans t4).trans t5)
      have hd5 := tB.1.go.off _ _ hd (hDf t) nt_dK
      have hg5 := tB.1.go.new _ _ hd hg (hDf t)
      refine ⟨kvs, ky, keyD_v hy ek, hd5, ?_, G5, wipeR r.2 vs, putK kvs ky z, putD acc ky r.1, Tr.poke r1w (t.trans tB.1) hD hg5 (fun u z => by rw [hd5] at z; cases z; exact .inr (.inl ⟨_, rfl⟩)), tB.2, upd_same, hg5, (hx.same tB.1.go.gg).put ky hz, ?_, el⟩
      · exact Nat.lt_of_le_of_lt hxl (Nat.lt_of_lt_of_le (Nat.lt_of_lt_of_le hi hlen) (by decide))
      · exact Nat.le_trans putK_len (by omega)
  · rw [List.drop_length] at el
    cases el
    refine ⟨Dl, _, rfl, hd, trivial, fun o => ?_⟩
    obtain ⟨h1, h2⟩ := hx.keys
    have T := t1.trans (Tr.unwipe t1.rep no t)
    have le3 : Le (upd Gi Dl (.frz o (.dK kvs))) (upd H2 Dl (.frz o (.dK kvs))) := (T.rep.le.put hg (fun u z => by rw [hd] at z; cases z; exact .inr (.inl ⟨_, rfl⟩))).good upd_same nt_frz
    have nf : ¬ Fp σ (Pl.unwipe p.2 ρi vs) Dl := fun z => by
      obtain ⟨zs, z⟩ := fp_some rp (T.kp.fp z)
      rw [t1.back rp hD] at z
      cases z
    have nH : H Dl = none := t1.back rp hD
    refine k (upd Gi Dl (.frz o (.dK kvs))) _ _ ⟨⟨T.go.gg.trans (same_new hg), le3, fun b u hb n w => ?_, fun b u hb g n w => ?_, fun b hb => ?_⟩, ⟨le3, T.rep.len, fun hv => ?_, fun ho => ?_, T.rep.inj⟩, T.kp⟩ ?_
    · rw [upd_ne (ne_of_none hb nH)]
      exact T.go.off b u hb n w
    · rw [upd_ne (ne_of_none hb nH)]
      exact T.go.new b u hb g n w
    · by_cases hc : b = Dl
      · rw [hc, upd_same] at hb
        cases hb
      · rw [upd_ne hc] at hb
        exact T.go.dom b hb
    · obtain ⟨v, z1, z2⟩ := T.rep.val hv
      exact ⟨v, z1, dd_same (same_new hg) z2⟩
    · obtain ⟨a, xs, z1, z2, z3, z4⟩ := T.rep.own ho
      have ne : a ≠ Dl := fun z => nf (by rw [← z]; exact ⟨_, _, _, ho, z1⟩)
      exact ⟨a, xs, z1, by rw [upd_ne ne]; exact z2, by rw [upd_ne ne]; exact z3, dda_same (same_new hg) z4⟩
    · rw [← h1]
      exact .dct upd_same (dda_same (same_new hg) h2)
theorem qe_dc {kx vx tg iter : Expr} {ifs : List Expr} {scope : Scope} {own : List (Str × Nat)} {pos : Pos} {src : Ma} {ts : List Nat} {g : Mg} {tt : Mt} {tk tv : Me} (hc : X.calm = true) (hN : X.N.Nodup) (hi : PI X tg iter (RI src)) (ok : BlkOk X.N X.env.scope scope own)
    (hg : ∀ (s : Shared) (H : Hp) (C : Addr) (cl : List (Str × Addr)) (fp : List Addr), PG (X.blk s H scope (compEnvC scope cl C X.env) fp) tg (RG ts g)) (ht : ∀ (s : Shared) (H : Hp) (C : Addr) (cl : List (Str × Addr)) (fp : List Addr), PTs (X.blk s H scope (compEnvC scope cl C X.env) fp) ifs (RT tt))
    (hk : ∀ (s : Shared) (H : Hp) (C : Addr) (cl : List (Str × Addr)) (fp : List Addr), PE (X.blk s H scope (compEnvC scope cl C X.env) fp) kx (R tk)) (he : ∀ (s : Shared) (H : Hp) (C : Addr) (cl : List (Str × Addr)) (fp : List Addr), PE (X.blk s H scope (compEnvC scope cl C X.env) fp) vx (R tv))
    (hts : ∀ i ∈ ts, i ∈ own.map (·.2) := by decide) (hs : ∀ x, foldedSetIterable iter X.env x = pure x := by intro _; rfl) : PE X (.DictComp kx vx [⟨tg, iter, ifs, 0⟩] scope pos) (R (mDc src g tt tk tv (own.map (·.2)))) :=
  imp (pe_lock (pe_dc hc hN hi ok hg ht hk he hs)) (dc_of hts)
end
/-! a def whose code object is known -/
section
variable {P : Program} {w : World} {K : PySem.W.Frag} {mg : Str → Option Value} {base : Heap} {x qual : Str} {st : Stmt} {f c : Addr} {fd : FuncData} {N ps : List Str} {k : Nat} {m : Ms}
theorem fnPc (F : Fun K x qual st f fd) (hc : fd.code = .ref c) (S : FnScope N ps (defScope st)) {n u : Nat} (hn : ps.length = n) (hN : N.length = n + u)
    (hb : ∀ (A : Around) (outer : List Env) (s : Shared) (H : Hp) (E : XK), Room k (A.deeper (envOfC qual (defScope st) s.heap.objs.size f (.ref c))) → PSs (cxOf CX0 P w K mg base N qual (defScope st) f (.ref c) A outer s H E).nox (defBody st) (RS m)) :
    FnOk P w K mg base CX0 (k + 1) f fd ps (SpP (runP n u m)) := by
  obtain ⟨oc, od, kV, doc, pm, an, cdv, ct, osl, rfl, lk, hcd⟩ := F.ex
  obtain rfl : cdv = .ref c := hc
  refine fn_of lk hcd S (fun vs H Q E ⟨G, ds, d, _, hv, e, _⟩ => by rw [dda_len hv, runP_len e, hn]) fun A outer s H vs Q E hr ⟨G, ds, d, le, hv, e, q⟩ => ?_
  exact ⟨_, (hb A outer s H E hr).nox, fin_P (rep_begin le hv (by rw [runP_len e]; exact hN)) e q⟩
end
end Pl
namespace Pl
open PySem PySem.Spec PyProof.Rows L2 Kn
/-! the end of a law with tables of code objects -/
/-- what the law's def promises at the head's heap h: cs, the code objects with their tables -/
def LawAtT (l : PySem.W.OpenLaw) (w : World) (K : PySem.W.Frag) (k n : Nat) (x : Str) (mg : Str → Option Value) (fa : Addr) (h : Heap) : Prop :=
  ∃ (fd : FuncData) (cs : List (Addr × Addr)) (sp : Sp), (∀ p ∈ cs, h.get? p.2 = some { cls := .none, data := .fields #[] } ∧ K.lookup p.2 = none ∧ PySem.W.CodeHd h p.1 p.2) ∧ (∀ (s : Shared) (u : Value), BindsTo s fd ⟨[u], []⟩ [(x, u)]) ∧
    (∀ (H : Hp) (a : Addr) (ns : List Int), ns.length ≤ n → (∀ p ∈ cs, H p.2 = some (.tbl #[])) → (∀ b o, H b = some o → ∃ u, (o = .tbl u) ∨ ∃ z, o = .frz z (.lst (ns.map V.int))) → SqL K H a (ns.map V.int) → sp [.ref a] H (fun v _ => v = .bl true) fun _ _ _ => False) ∧
    ∀ base : Heap, K.In base → base.Ns mainGlobals mg → (∀ p ∈ cs, LamX.TabB base mg p.1 p.2) → FnG l.prog w K mg base CX0 k fa fd [x] sp
theorem lawT {l : PySem.W.OpenLaw} {n k : Nat} {q : Program} {loose : List Str} {XP : (Str → Option Value) → Heap → Prop} {YP : World → Heap → Prop} {d : DefRec} {KK : Params → PySem.W.Frag} {x : Str}
    (hn : l.most = some n) (hn2 : n ≤ sizeLine) (hdf : d.params.defaults = []) (hr : Room k callerA) (hY : ∀ (w : World) (h : Heap), YP w h → (KK w.params).In h)
    (F : ∀ (w : World) (mg : Str → Option Value) (fa : Addr) (h : Heap), YP w h → (KK w.params).In h → h.Ns mainGlobals mg → mg d.name = some (.ref fa) → LawAtT l w (KK w.params) k n x mg fa h) :
    PySem.W.WalkO q loose XP YP l.row.toRowW d [] (fun f vs => PySem.call f vs) := by
  refine Att.attach_callB hn hdf fun w s₀ s₁ mg mb fa o pm cd doc a vs ns G Y ho hd hcd hmg ha hi hlen hbits hgn => ?_
  have hK := hY w _ Y
  obtain ⟨fd, cs, sp, tabs, hbind, hsp, hF⟩ := F w mg fa _ Y hK G.T.g hmg
  have hl := Nat.le_trans hlen hn2
  have rv := vals_ints hi
  have tab : ∀ b ∈ cs.map (·.2), s₁.heap.get? b = some { cls := .none, data := .fields #[] } ∧ (KK w.params).lookup b = none := fun b hb => by
    obtain ⟨p, hp, rfl⟩ := List.mem_map.mp hb
    exact ⟨(tabs p hp).1, (tabs p hp).2.1⟩
  have main : ∀ S : Hp, (∀ b u, S b = some u → b = a ∧ ∃ z, u = .frz z (.lst (ns.map V.int))) → (S a ≠ none → (KK w.params).lookup a = none) → HOk l.prog w S s₁.heap → SqL (KK w.params) S a (ns.map V.int) →
      codeAny (model l.prog w) callerA (.call (.ref fa) ⟨[.ref a], []⟩) (fun r s' => r = .ok (.ret (.bool true)) ∧ OldK s₁.heap s'.heap ∧ s'.os = s₁.os ∧ AllBare s'.gens) s₁ := by
    intro S hS hSK okS sqS
    have aT : a ∉ cs.map (·.2) := fun z => by
      have e := (tab a z).1
      rw [ha] at e
      exact nomatch (congrArg Obj.cls (Option.some.inj e) : Value.type "list" = Value.none)
    obtain ⟨H, hH⟩ : ∃ H : Hp, H = fun b => if b ∈ cs.map (·.2) then some (.tbl #[]) else S b := ⟨_, rfl⟩
    have inT : ∀ b ∈ cs.map (·.2), H b = some (.tbl #[]) := fun b hb => by rw [hH]; exact if_pos hb
    have notT : ∀ b, b ∉ cs.map (·.2) → H b = S b := fun b hb => by rw [hH]; exact if_neg hb
    have what : ∀ b u, H b = some u → (b ∈ cs.map (·.2) ∧ u = .tbl #[]) ∨ (b = a ∧ S a = some u ∧ ∃ z, u = .frz z (.lst (ns.map V.int))) := fun b u e => by
      by_cases hb : b ∈ cs.map (·.2)
      · rw [inT b hb] at e
        cases e
        exact .inl ⟨hb, rfl⟩
      · rw [notT b hb] at e
        obtain ⟨rfl, z⟩ := hS b u e
        exact .inr ⟨rfl, e, z⟩
    have hok : HOk l.prog w H s₁.heap := fun b u e => by
      rcases what b u e with ⟨hb, rfl⟩ | ⟨rfl, e2, z, rfl⟩
      · exact (tab b hb).1
      · exact okS b _ e2
    have hid : ∀ {b : Addr} {o : Obj}, s₁.heap.get? b = some o → o.data ≠ .seq vs.toArray 0 → o.data ≠ .fields #[] → (hidT s₁.heap H).get? b = some o := fun {b o} e n1 n2 => hidT_get e (by
      cases z : H b with
      | none => rfl
      | some u =>
        rcases what b u z with ⟨hb, _⟩ | ⟨rfl, _⟩
        · rw [(tab b hb).1] at e
          cases e
          exact (n2 rfl).elim
        · rw [ha] at e
          cases e
          exact (n1 rfl).elim)
    have names : ∀ {b : Addr} {m : Str → Option Value}, s₁.heap.Ns b m → (hidT s₁.heap H).Ns b m := fun {b m} ⟨o, es, ep, e, dd, r⟩ => ⟨o, es, ep, hid e (by rw [dd]; exact fun z => nomatch z) (by rw [dd]; exact fun z => nomatch z), dd, r⟩
    have kb : (KK w.params).In (hidT s₁.heap H) := fun b o e => hidT_get (hK b o e) (by
      cases z : H b with
      | none => rfl
      | some u =>
        rcases what b u z with ⟨hb, _⟩ | ⟨rfl, e2, _⟩
        · rw [(tab b hb).2] at e
          cases e
        · rw [hSK (by rw [e2]; exact fun h => nomatch h)] at e
          cases e)
    have hM : Mod (KK w.params) mg (hidT s₁.heap H) := ⟨kb, names G.T.g, ⟨mb, names G.T.b, G.T.builtins⟩, let ⟨mc, h1, h2⟩ := G.T.nolimit; ⟨mc, names h1, h2⟩⟩
    have tb : ∀ p ∈ cs, LamX.TabB (hidT s₁.heap H) mg p.1 p.2 := fun p hp => by
      obtain ⟨t1, _, o, us, file, tf, fl, tg, inF, text, tt, c1, c2, c3, c4, c5⟩ := tabs p hp
      obtain ⟨bm, ob, d1, d2, d3, d4, d5, d6⟩ := G.T.bmain
      have far : ∀ {m : Str → Option Value} {b : Addr}, s₁.heap.Ns b m → b ≠ p.2 := fun {m b} ⟨o, es, ep, e, dd, _⟩ z => by
        rw [z, t1] at e
        cases e
        cases dd
      refine ⟨⟨o, us, file, tf, fl, tg, inF, text, tt, hid c1 (by rw [c3]; exact fun z => nomatch z) (fun z => ?_), c2, c3, c4, c5⟩, ⟨bm, ob, d1, d2, fun z => ?_, fun z => ?_, hid d3 (by rw [d6]; exact fun z => nomatch z) (by rw [d6]; exact fun z => nomatch z), d4, d5, d6⟩, far G.T.g⟩
      · rw [c3] at z
        cases z
        simp at c4
      · obtain ⟨o', es, ep, e, dd, _⟩ := G.T.g
        rw [z, e] at d3
        cases d3
        rw [dd] at d6
        cases d6
      · rw [z, t1] at d3
        cases d3
        cases d6
    have e0 : Env0 l.prog w (KK w.params) mg (hidT s₁.heap H) callerA [] s₁ H := ⟨rfl, hM, fun b o e => of_hidT e, Nat.le_of_eq (hidT_size _ _), trivial, (fun b hb => absurd (show b ∈ ([] : List Addr) from hb) List.not_mem_nil), hok, .of_eq hgn⟩
    have up : Same S H := fun b u e => by
      have hb : b ∉ cs.map (·.2) := by rw [(hS b u e).1]; exact aT
      rw [notT b hb, e]
    refine codeAny_mono ((hF _ kb (names G.T.g) tb).run callerA [] s₁ H ⟨[.ref a], []⟩ [.ref a] [.ref a] _ _ rfl hr e0 (hbind s₁ (.ref a)) (.cons rfl .nil) (hsp H a ns hlen (fun p hp => inT _ (List.mem_map.mpr ⟨p, hp, rfl⟩)) (fun b u e => ?_) (up.seq sqS))) fun r s' h => ?_
    · rcases what b u e with ⟨_, rfl⟩ | ⟨_, _, z, rfl⟩
      · exact ⟨_, .inl rfl⟩
      · exact ⟨#[], .inr ⟨z, rfl⟩⟩
    cases r with
    | error e => exact (show False from h).elim
    | ok fl =>
      cases fl with
      | next => exact (show False from h).elim
      | brk => exact (show False from h).elim
      | cont => exact (show False from h).elim
      | ret u =>
        obtain ⟨v, H', os, bare, un, hok', r', z⟩ := h
        obtain rfl : v = .bl true := z
        obtain rfl : u = Value.bool true := r'
        have stays : ∀ b o, b ∉ cs.map (·.2) → s₁.heap.get? b = some o → s'.heap.get? b = some o := fun b o nb e => by
          cases z : H b with
          | none => exact un.keep b o e z (fun y => nomatch (show b ∈ ([] : List Addr) from y)) (fun y => nomatch y)
          | some u =>
            rcases what b u z with ⟨hb, _⟩ | ⟨_, _, ob, rfl⟩
            · exact (nb hb).elim
            · have e1 := (hok b _ z).1
              have e2 := (hok' b _ (un.frzs b ob _ z)).1
              rw [e] at e1
              cases e1
              exact e2
        have grows : ∀ p ∈ cs, ∃ more : Array Value, s'.heap.get? p.2 = some { cls := .none, data := .fields (#[] ++ more) } := fun p hp => by
          obtain ⟨more, z⟩ := un.tbls p.2 #[] (inT _ (List.mem_map.mpr ⟨p, hp, rfl⟩))
          exact ⟨more, hok' p.2 _ z⟩
        refine ⟨rfl, ⟨fun b o e => ?_, fun b o e => ?_⟩, os, bare⟩
        · by_cases hb : b ∈ cs.map (·.2)
          · obtain ⟨p, hp, rfl⟩ := List.mem_map.mp hb
            obtain ⟨more, hm⟩ := grows p hp
            obtain ⟨t1, _, C⟩ := tabs p hp
            rw [t1] at e
            cases e
            exact .inr (.inl ⟨(C.tab t1).isCodeTable, rfl, #[], more, rfl, hm⟩)
          · exact .inl (stays b o hb e)
        · by_cases hb : b ∈ cs.map (·.2)
          · obtain ⟨p, hp, rfl⟩ := List.mem_map.mp hb
            obtain ⟨more, hm⟩ := grows p hp
            exact ⟨_, hm⟩
          · exact ⟨o, stays b o hb e⟩
  cases hk : (KK w.params).lookup a with
  | some o =>
    have e := hK a o hk
    rw [ha] at e
    cases e
    exact main (fun _ => none) (fun b u z => nomatch (show (none : Option HO) = some u from z)) (fun z => absurd rfl z) (fun b u z => nomatch (show (none : Option HO) = some u from z)) (.inr ⟨_, vs.toArray, _, hk, rfl, rfl, rfl, by rw [List.size_toArray, hi.length]; exact hl, by simpa using rv⟩)
  | none =>
    have at1 : ∀ b u, (if b = a then some (HO.frz { cls := .type "list", data := .seq vs.toArray } (.lst (ns.map V.int))) else none) = some u → b = a ∧ u = HO.frz { cls := .type "list", data := .seq vs.toArray } (.lst (ns.map V.int)) := fun b u z => by
      by_cases hb : b = a
      · rw [if_pos hb] at z
        cases z
        exact ⟨hb, rfl⟩
      · rw [if_neg hb] at z
        cases z
    refine main (fun b => if b = a then some (.frz { cls := .type "list", data := .seq vs.toArray } (.lst (ns.map V.int))) else none) (fun b u z => ⟨(at1 b u z).1, _, (at1 b u z).2⟩) (fun _ => hk) (fun b u z => ?_) (.inl (.inr ⟨{ cls := .type "list", data := .seq vs.toArray }, if_pos rfl⟩))
    obtain ⟨rfl, rfl⟩ := at1 b u z
    exact ⟨ha, by rw [List.length_map]; exact hl, vs, _, rv, ha⟩
end Pl
namespace Pl
open PySem PySem.Spec PyProof.Rows L2 Kn
variable [Tbs]
section
variable {X : Cx}
/-! sorted(a list of pairs of whole numbers) -/
def encI (p : Int × Int) : PyData := .tuple [.int p.1, .int p.2]
def leI : Int × Int → Int × Int → Bool := PySem.W.dataLe false encI
abbrev Bp := Addr × Int × Int
def leB : Bp → Bp → Bool := PySem.W.dataLe false fun b => encI b.2
def rSortI (K : PySem.W.Frag) : List V → Hp → VK → Prop := fun vs H Q => ∃ (a : Addr) (bs : List Bp), vs = [V.ref a] ∧ SqL K H a (bs.map fun b => V.ref b.1) ∧ (∀ b ∈ bs, SqT K H b.1 [.int b.2.1, .int b.2.2]) ∧
  ∀ p, H p = none → Q (.ref p) (upd H p (.lst ((bs.mergeSort leB).map fun b => V.ref b.1)))
theorem each_refsI : ∀ (bs : List Bp) {its : List Value}, Vals (bs.map fun b => V.ref b.1) its → PySem.W.EachIs (fun (v : Value) (b : Bp) => v = .ref b.1) its bs
  | [], _, .nil => .nil
  | b :: bs, _, .cons r t => .cons r (each_refsI bs t)
theorem vals_eachI : ∀ {bs : List Bp} {its : List Value}, PySem.W.EachIs (fun (v : Value) (b : Bp) => v = .ref b.1) its bs → Vals (bs.map fun b => V.ref b.1) its
  | _, _, .nil => .nil
  | _, _, .cons r t => .cons r (vals_eachI t)
theorem cr_sortI (hu : X.A.units + 65 < cLine) : CallR X (.builtin "sorted") (rSortI X.K) := by
  intro pins s σ H args us Q J rel want
  obtain ⟨a, bs, rfl, sq, tp, q⟩ := want
  rw [Vals.ref1 rel]
  obtain ⟨its, rv, pl, hz⟩ := J.list sq
  have e1 := each_refsI bs rv
  have hz' : bs.length ≤ sizeLine := by rw [List.length_map] at hz; exact hz
  have er : PySem.W.EachIs (fun (v : Value) (b : Bp) => ∃ as, Reads s.heap v (encI b.2) as) its bs := each_mem e1 fun v b hb e => by
    subst e
    obtain ⟨vs, rvs, ⟨ob, h1, h2, n, h3⟩, _⟩ := J.tuple (tp b hb)
    obtain ⟨x, y, rfl, rx, ry⟩ := vals2 rvs
    obtain ⟨t1, rfl⟩ := rx
    obtain ⟨t2, rfl⟩ := ry
    exact ⟨_, .tuple h1 h2 h3 (.cons (.int _ _) (.cons (.int _ _) .nil))⟩
  refine PySem.W.sorted_data (R := fun (v : Value) (b : Bp) => v = .ref b.1) (enc := fun b : Bp => encI b.2) pl.isList e1 er (PySem.W.AllAlike.of fun b b' => rfl) (PySem.W.Sortable.tuples fun b => ⟨_, _, rfl⟩) hz' (fun b hb => ?_) fun out ho eo => ?_
  · show X.A.units + 2 + 1 < cLine
    omega
  · obtain ⟨c, hc⟩ := sortedAll_at s.heap its out.toArray
    refine ⟨.ref (s.heap.objs.size + 1), upd H (s.heap.objs.size + 1) (.lst ((bs.mergeSort leB).map fun b => V.ref b.1)), J.laid (t' := s.toks) (fun b o e => sortedAll_old e) (Nat.le_succ _) ?_, rfl, q _ (J.hok.fresh (Nat.le_succ _))⟩
    exact ⟨by rw [List.length_map, List.length_mergeSort]; exact hz', out, c, vals_eachI eo, hc⟩
/-- pairs of whole numbers, told apart -/
def prsOfI : List D → Option (List (Int × Int))
  | [] => some []
  | .tup false [.int x, .int y] :: ds => (prsOfI ds).map fun ps => (x, y) :: ps
  | _ :: _ => none
def sortIF : List D → Option (List D)
  | [.lst l] => (prsOfI l).map fun ps => (ps.mergeSort leI).map fun p => .tup false [.int p.1, .int p.2]
  | _ => none
theorem prsOfI_dd {K : PySem.W.Frag} {G : Hp} : ∀ {l : List D} {xs : List V} {ps : List (Int × Int)}, DdA G xs l → prsOfI l = some ps → ∃ bs : List Bp, xs = bs.map (fun b => V.ref b.1) ∧ bs.map (·.2) = ps ∧ ∀ b ∈ bs, Dd G (.ref b.1) (.tup false [.int b.2.1, .int b.2.2]) ∧ ∀ H, Same G H → SqT K H b.1 [.int b.2.1, .int b.2.2]
  | _, _, _, .nil, e => by
    cases e
    exact ⟨[], rfl, rfl, fun b hb => nomatch hb⟩
  | _, _, _, .cons (d := d) h t, e => by
    unfold prsOfI at e
    split at e
    · cases ‹_ = []›
    · rename_i x y ds he
      cases he
      obtain ⟨ps', e1, rfl⟩ := mpd e
      obtain ⟨bs, rfl, rfl, hb⟩ := prsOfI_dd (K := K) t e1
      obtain ⟨a, xs, rfl, h4, z⟩ := tup_cases K h
      obtain ⟨v, w, rfl, h5, h6⟩ := two_inv h4
      cases h5
      cases h6
      refine ⟨(a, x, y) :: bs, rfl, rfl, fun b hb' => ?_⟩
      rcases List.mem_cons.mp hb' with rfl | hb'
      · exact ⟨h, z⟩
      · exact hb b hb'
    · cases e
theorem dda_refsI {G : Hp} : ∀ {bs : List Bp}, (∀ b ∈ bs, Dd G (.ref b.1) (.tup false [.int b.2.1, .int b.2.2])) → DdA G (bs.map fun b => V.ref b.1) ((bs.map (·.2)).map fun p => .tup false [.int p.1, .int p.2])
  | [], _ => .nil
  | b :: bs, h => .cons (h b (List.mem_cons_self ..)) (dda_refsI fun c hc => h c (List.mem_cons_of_mem _ hc))
theorem c_sortI (hu : X.A.units + 65 < cLine) : CallR X (.builtin "sorted") (rSortI X.K) ∧ CallF (rSortI X.K) sortIF := by
  refine ⟨cr_sortI hu, fun G H vs ds d Q le hv e k => ?_⟩
  unfold sortIF at e
  split at e
  · obtain ⟨ps, e1, rfl⟩ := mpd e
    obtain ⟨v, rfl, h⟩ := one_inv hv
    cases h with
    | lst h1 h2 =>
      obtain ⟨bs, rfl, rfl, hb⟩ := prsOfI_dd (K := X.K) h2 e1
      refine ⟨_, bs, rfl, sq_l (le _ _ h1), fun b hm => (hb b hm).2 H le, fun p hp => k.nw le hp ?_⟩
      rw [show (bs.map (·.2)).mergeSort leI = (bs.mergeSort leB).map (·.2) from (List.map_mergeSort (r := leB) (s := leI) (f := fun b : Bp => b.2) (l := bs) fun a _ b _ => rfl).symm]
      exact dda_refsI fun b hm => (hb b ((List.mergeSort_perm bs leB).mem_iff.mp hm)).1
  · cases e
end
/-! a < b < c as a test -/
def mChain (f g : D → D → Option D) (a b c : Me) : Mt := fun ρ => (a ρ).bind fun p => (b p.2).bind fun q => match f p.1 q.1 with
  | some (.bl true) => (c q.2).bind fun r => match g q.1 r.1 with | some (.bl k) => some (k, r.2) | _ => none
  | some (.bl false) => some (false, q.2)
  | _ => none
section
variable {X : Cx}
theorem qt_chain {op op' : CmpOp} {r r' : R2} {f g : D → D → Option D} {a b c : Expr} {ma mb mc : Me} {pos : Pos} (ho : OpR X (compareOp op) r ∧ OpD r f) (ho' : OpR X (compareOp op') r' ∧ OpD r' g) (ha : PE X a (R ma)) (hb : PE X b (R mb)) (hc : PE X c (R mc))
    (hm : lastMarks [op, op'] [b, c] = false := by with_unfolding_all rfl) : PT X (.Compare a [op, op'] [b, c] pos) (RT (mChain f g ma mb mc)) := by
  refine impT (pt_chain ho.1 ho'.1 ha hb hc hm) fun σ H Q ⟨G, ρ, d, ρ', rp, e, k⟩ => ?_
  obtain ⟨p, e1, e⟩ := bnd e
  obtain ⟨q, e2, e⟩ := bnd e
  refine ⟨G, ρ, p.1, p.2, rp, e1, fun G1 H1 x t1 hx => ⟨G1, p.2, q.1, q.2, t1.rep, e2, fun G2 H2 y t2 hy => ?_⟩⟩
  split at e
  · rename_i hf
    obtain ⟨w, e3, e⟩ := bnd e
    refine ho.2 G2 H2 x y p.1 q.1 _ _ t2.rep.le (dd_same t2.go.gg hx) hy hf fun G3 H3 z ex hz => ?_
    cases hz
    have t3 := (t1.trans t2).trans (Tr.ext t2.rep ex)
    refine ⟨true, rfl, iteT ⟨G3, q.2, w.1, w.2, t3.rep, e3, fun G4 H4 v t4 hv => ?_⟩⟩
    split at e
    · rename_i kk hg
      cases e
      refine ho'.2 G4 H4 y v q.1 w.1 _ _ t4.rep.le (dd_same (ex.gg.trans t4.go.gg) hy) hv hg fun G5 H5 z ex2 hz => ?_
      cases hz
      exact ⟨d, rfl, k G5 H5 ((t3.trans t4).trans (Tr.ext t4.rep ex2))⟩
    · cases e
  · rename_i hf
    cases e
    refine ho.2 G2 H2 x y p.1 q.1 _ _ t2.rep.le (dd_same t2.go.gg hx) hy hf fun G3 H3 z ex hz => ?_
    cases hz
    exact ⟨false, rfl, iteF ⟨false, rfl, k G3 H3 ((t1.trans t2).trans (Tr.ext t2.rep ex))⟩⟩
  · cases e
/-! len(set(t)), t a tuple of texts -/
def lenSD : D → Option D
  | .tup _ l => (strsOf l).bind fun xs => if xs.length ≤ 4000 then some (.int ((dcs [] xs 0 : Nat) : Int)) else none
  | _ => none
theorem qe_lenS {a : Expr} {m : Me} {p p2 q pos : Pos} (hc : X.calm = true) (hg : Gl X "len") (hm : X.mg "len" = none) (hg2 : Gl X "set") (hm2 : X.mg "set" = none) (ha : PE X a (R m))
    (na : starEach [a] X.env = (false, eval a X.env) :: starEach [] X.env := by rfl) : PE X (.Call (.Name "len" p) [.Call (.Name "set" p2) [a] [] q] [] pos) (R (m1 lenSD m)) := by
  refine imp (pe_lenS hc hg hm hg2 hm2 ha na) fun σ H Q ⟨G, ρ, d, ρ', rp, e, k⟩ => ?_
  obtain ⟨x, e1, e2⟩ := m1_inv e
  refine ⟨G, ρ, x, ρ', rp, e1, fun G1 H1 v t hv => ?_⟩
  unfold lenSD at e2
  split at e2
  · obtain ⟨xs, e3, e2⟩ := bnd e2
    obtain ⟨few, rfl⟩ := some_if e2
    obtain ⟨a, ys, rfl, h4, z⟩ := tup_cases X.K hv
    rw [strsOf_inv e3] at h4
    obtain rfl := dda_strs h4
    exact ⟨a, xs, rfl, z H1 t.rep.le, few, k G1 H1 _ t (.int _)⟩
  · cases e2
end
end Pl
namespace Pl
open PySem PySem.Spec PyProof.Rows L2 Kn
variable [Tbs]
section
variable {X : Cx}
/-! tuples put together, the first one may be empty -/
def addTD : D → D → Option D
  | .tup _ [], .tup w b => if b.length ≤ 100000 then some (.tup w b) else none
  | .tup _ (x :: a), .tup _ (y :: b) => if (x :: a).length + (y :: b).length ≤ 100000 then some (.tup false ((x :: a) ++ (y :: b))) else none
  | _, _ => none
theorem o_addT : OpR X (binaryOp .Add) (fun x y H Q => rCatA X.K x y H Q ∨ rCatD X.K x y H Q) ∧ OpD (fun x y H Q => rCatA X.K x y H Q ∨ rCatD X.K x y H Q) addTD := by
  refine ⟨op_catA.or op_catD, fun G H x y a b d Q le ha hb e k => ?_⟩
  unfold addTD at e
  split at e
  · obtain ⟨hl, rfl⟩ := some_if e
    obtain ⟨p, xs, rfl, hx, hp⟩ := tup_cases X.K ha
    obtain ⟨q, ys, rfl, hy, hq⟩ := tup_cases X.K hb
    cases hx
    exact .inl ⟨p, q, [], ys, rfl, rfl, hp H le, hq H le, by rw [List.length_nil, Nat.zero_add, dda_len hy]; exact sz5 hl, fun _ => k.sc le hb, fun z => (z rfl).elim, fun z => (z rfl).elim⟩
  · obtain ⟨hl, rfl⟩ := some_if e
    obtain ⟨p, xs, rfl, hx, hp⟩ := tup_cases X.K ha
    obtain ⟨q, ys, rfl, hy, hq⟩ := tup_cases X.K hb
    exact .inr ⟨p, q, xs, ys, rfl, rfl, hp H le, hq H le, ne_nil (by rw [dda_len hx]; simp), ne_nil (by rw [dda_len hy]; simp), by rw [dda_len hx, dda_len hy]; exact sz5 hl, fun z o hz hc hd => k.tupM le hz hc hd (dda_app hx hy)⟩
  · cases e
/-! for a, b, (c, d) in -/
def tg3N (i j k l : Nat) : Mg := fun d ρ => match d with
  | .tup _ [a, b, c] => (setV i a ρ).bind fun ρ1 => (setV j b ρ1).bind fun ρ2 => tg2 k l c ρ2
  | _ => none
theorem qg_threeN {i j k l : Nat} {es : List Expr} {kk : Nat} {pos : Pos} (h : PG X (.Tuple es kk pos) (gTup X.K 3 (gCons (gName i) (gCons (gName j) (gCons (RG [k, l] (tg2 k l)) gNil))))) : PG X (.Tuple es kk pos) (RG [i, j, k, l] (tg3N i j k l)) := by
  refine impG h fun v σ H Q ⟨G, ρ, d, ρ', r, hv, e, q⟩ => ?_
  unfold tg3N at e
  split at e
  · rename_i w a b c
    obtain ⟨ρ1, e1, e⟩ := bnd e
    obtain ⟨ρ2, e2, e3⟩ := bnd e
    obtain ⟨t, xs, rfl, h2, z⟩ := tup_cases X.K hv
    obtain ⟨x, y, u, rfl, f1, f2, f3⟩ := three_inv h2
    obtain ⟨rfl, hi, ni⟩ := setV_inv e1
    obtain ⟨rfl, hj, nj⟩ := setV_inv e2
    refine ⟨t, _, rfl, z H r.le, rfl, _, _, rfl, _, _, rfl, _, _, rfl, G, _, c, ρ', (r.set f1 hi).set f2 hj, f3, e3, fun σ' r' sl hσ hno hl => ⟨rfl, q σ' r' (by rw [sl]; simp) (fun a ha => ?_) (fun a ha => ?_) (by rw [hl]; simp)⟩⟩
    · have a1 : i ≠ a := fun z => ha (by simp [z])
      have a2 : j ≠ a := fun z => ha (by simp [z])
      have a3 : a ∉ [k, l] := fun z => ha (by simp at z ⊢; exact .inr (.inr z))
      obtain ⟨z1, z2⟩ := hσ a a3
      rw [z1, z2, List.getElem?_set_ne a2, List.getElem?_set_ne a1, List.getElem?_set_ne a2, List.getElem?_set_ne a1]
      exact ⟨rfl, rfl⟩
    · by_cases hk : a ∈ [k, l]
      · obtain ⟨z1, z2⟩ := hno a hk
        exact ⟨noOwn_unset ni (noOwn_unset nj z1), z2⟩
      · have na : noOwn ρ a := by
          simp at ha hk
          rcases ha with rfl | rfl | h | h
          · exact ni
          · exact noOwn_unset ni nj
          · exact (hk.1 h).elim
          · exact (hk.2 h).elim
        refine ⟨na, fun l ds z => ?_⟩
        rw [(hσ a hk).2] at z
        exact noOwn_set (noOwn_set na) l ds z
  · cases e
end
end Pl
namespace Pl
open PySem PySem.Spec PyProof.Rows L2 Kn
variable [Tbs]
/-- a thing of one's own is laid for good -/
theorem Tr.lay {G H G1 H1 : Hp} {σ : L2.St} {ρ ρ1 : Rh} {p : Addr} {o : HO} (r : Rep G H σ ρ) (T : Tr G H σ ρ G1 H1 ρ1) (n : H p = none) (hg : G1 p = none) (hc : ∀ u, H1 p = some u → Chg u) (w : NT o) : Tr G H σ ρ (upd G1 p o) (upd H1 p o) ρ1 := by
  have le : Le (upd G1 p o) (upd H1 p o) := (T.rep.le.put hg hc).good upd_same w
  have nf : ¬ Fp σ ρ1 p := fun z => by
    obtain ⟨zs, z⟩ := fp_some r (T.kp.fp z)
    rw [n] at z
    cases z
  refine ⟨⟨T.go.gg.trans (same_new hg), le, fun b u hb nb wu => ?_, fun b u hb g nb wb => ?_, fun b hb => ?_⟩, ⟨le, T.rep.len, fun hv => ?_, fun ho => ?_, T.rep.inj⟩, T.kp⟩
  · rw [upd_ne (ne_of_none hb n)]
    exact T.go.off b u hb nb wu
  · rw [upd_ne (ne_of_none hb n)]
    exact T.go.new b u hb g nb wb
  · by_cases hc : b = p
    · rw [hc, upd_same] at hb
      cases hb
    · rw [upd_ne hc] at hb
      exact T.go.dom b hb
  · obtain ⟨v, z1, z2⟩ := T.rep.val hv
    exact ⟨v, z1, dd_same (same_new hg) z2⟩
  · obtain ⟨a, xs, z1, z2, z3, z4⟩ := T.rep.own ho
    have ne : a ≠ p := fun z => nf (by rw [← z]; exact ⟨_, _, _, ho, z1⟩)
    exact ⟨a, xs, z1, by rw [upd_ne ne]; exact z2, by rw [upd_ne ne]; exact z3, dda_same (same_new hg) z4⟩
/-! {k: v, ..} -/
def mPs : List (Me × Me) → Rh → Option (List (Key × D) × Rh)
  | [], ρ => some ([], ρ)
  | (a, b) :: r, ρ => (a ρ).bind fun p => (keyD p.1).bind fun k => (b p.2).bind fun q => (mPs r q.2).map fun z => ((k, q.1) :: z.1, z.2)
def mDd (ms : List (Me × Me)) : Me := fun ρ => (mPs ms ρ).bind fun r => if r.1.length ≤ 15 then some (.dct ((mergeD r.1).map (·.1)) ((mergeD r.1).map (·.2)), r.2) else none
theorem ps_of : ∀ (ms : List (Me × Me)) {σ : L2.St} {G H : Hp} {ρ ρ' : Rh} {kd : List (Key × D)} {Q : List (V × V) → Hp → Prop}, Rep G H σ ρ → mPs ms ρ = some (kd, ρ') →
    (∀ G' H' (kvs : List (Key × V)), Tr G H σ ρ G' H' ρ' → KD G' kvs kd → Q (kvs.map fun kv => (kV kv.1, kv.2)) H') → tPairs (ms.map fun m => (R m.1, R m.2)) σ H Q
  | [], σ, G, H, ρ, ρ', kd, Q, r, e, k => by
    cases e
    exact k G H [] (Tr.refl r) .nil
  | (a, b) :: ms, σ, G, H, ρ, ρ', kd, Q, r, e, k => by
    obtain ⟨p, e1, e⟩ := bnd e
    obtain ⟨ky, e2, e⟩ := bnd e
    obtain ⟨q, e3, e⟩ := bnd e
    obtain ⟨z, e4, e⟩ := mpd e
    cases e
    refine ⟨G, ρ, p.1, p.2, r, e1, fun G1 H1 x t1 hx => ⟨G1, p.2, q.1, q.2, t1.rep, e3, fun G2 H2 y t2 hy => ?_⟩⟩
    refine ps_of ms t2.rep e4 fun G3 H3 kvs t3 hk => ?_
    rw [keyD_v hx e2]
    exact k G3 H3 ((ky, y) :: kvs) ((t1.trans t2).trans t3) (.cons ⟨rfl, dd_same t3.go.gg hy⟩ hk)
section
variable {X : Cx}
theorem qe_dd {keys : List (Option Expr)} {values : List Expr} {ms : List (Me × Me)} {pos : Pos} (h : PPs X pos keys values (ms.map fun m => (R m.1, R m.2))) (hall : keys.all (·.isSome) = true) (hl : keys.length = values.length) (h0 : keys ≠ []) (h15 : keys.length ≤ 15) : PE X (.Dict keys values pos) (R (mDd ms)) := by
  refine imp (pe_lock (pe_disp h hall hl h0 h15)) fun σ H Q ⟨G, ρ, d, ρ', rp, e, k⟩ => ?_
  obtain ⟨r, e1, e⟩ := bnd e
  obtain ⟨few, e⟩ := some_if e
  cases e
  intro p hp
  have ex := ex_own (o := .dK []) rp.le hp
  refine ps_of ms (rp.ext ex) e1 fun G1 H1 kvs t hk => ?_
  have T := (Tr.ext rp ex).trans t
  have nf : ¬ Fp σ ρ p := fun z => by
    obtain ⟨zs, z⟩ := fp_some rp z
    rw [hp] at z
    cases z
  have at1 : H1 p = some (.dK []) := t.go.off _ _ upd_same nf nt_dK
  have g1 : G1 p = none := t.go.new _ _ (upd_same (H := H)) (rp.le.free hp) nf
  obtain ⟨k1, k2⟩ := hk.keys
  have kl : kvs.length = r.1.length := by
    have := congrArg List.length k1
    rw [List.length_map, List.length_map] at this
    exact this
  refine ⟨at1, kvs, rfl, by rw [kl]; exact few, p, _, rfl, upd_same, trivial, fun o => ?_⟩
  rw [upd_upd]
  have km : KD G1 (mergeK [] kvs) (mergeD r.1) := KD.merge hk .nil
  obtain ⟨m1, m2⟩ := km.keys
  refine k _ _ _ (Tr.lay (o := .frz o (.dK (mergeK [] kvs))) rp T hp g1 (fun u z => by rw [at1] at z; cases z; exact .inr (.inl ⟨_, rfl⟩)) nt_frz) ?_
  rw [← m1]
  exact .dct upd_same (dda_same (same_new g1) m2)
/-! s.join(l) -/
def mJoin (mo ma : Me) : Me := fun ρ => (mo ρ).bind fun p => (ma p.2).bind fun q => match p.1, q.1 with
  | .str a, .lst l => (strsOf l).bind fun xs => if (xs.map (·.length)).sum + xs.length * a.length ≤ 100000 then some (.str (Txt.join a xs), q.2) else none
  | _, _ => none
theorem qe_join {o e : Expr} {mo ma : Me} {apos pos : Pos} (ho : PE X o (R mo)) (he : PE X e (R ma)) (hs : starEach [e] X.env = [(false, eval e X.env)] := by rfl) (hbase : attributeBase o "join" X.env (eval o X.env) = eval o X.env := by rfl) (hline : (apos.endLine == pos.line) = true := by rfl) :
    PE X (.Call (.Attribute o "join" apos) [e] [] pos) (R (mJoin mo ma)) := by
  refine imp (pe_join ho he hs hbase hline) fun σ H Q ⟨G, ρ, d, ρ', rp, e, k⟩ => ?_
  obtain ⟨p, e1, e⟩ := bnd e
  obtain ⟨q, e2, e⟩ := bnd e
  split at e
  · rename_i a l h1 h2
    obtain ⟨xs, e3, e⟩ := bnd e
    obtain ⟨few, e⟩ := some_if e
    cases e
    refine ⟨G, ρ, p.1, p.2, rp, e1, fun G1 H1 v t hv => ?_⟩
    rw [h1] at hv
    cases hv
    refine ⟨⟨a, rfl⟩, G1, p.2, q.1, q.2, t.rep, e2, fun G2 H2 u t2 hu => ?_⟩
    rw [h2, strsOf_inv e3] at hu
    cases hu with
    | lst h3 h4 =>
      rw [dda_strs h4] at h3
      exact ⟨a, _, xs, rfl, rfl, .inl (sq_l (t2.rep.le _ _ h3)), Nat.le_trans few (by decide), k G2 H2 _ (t.trans t2) (.str _)⟩
  · cases e
/-! sorted(set(l)) -/
def ddS : List Str → List Str
  | [] => []
  | x :: xs => if x ∈ xs then ddS xs else x :: ddS xs
theorem ddS_mem : ∀ {xs : List Str} {x : Str}, x ∈ ddS xs ↔ x ∈ xs
  | [], _ => Iff.rfl
  | y :: xs, x => by
    unfold ddS
    split
    · rename_i h
      rw [ddS_mem, List.mem_cons]
      exact ⟨.inr, fun z => z.elim (fun e => by rw [e]; exact h) id⟩
    · rw [List.mem_cons, List.mem_cons, ddS_mem]
theorem ddS_nd : ∀ xs : List Str, (ddS xs).Nodup
  | [] => List.nodup_nil
  | x :: xs => by
    unfold ddS
    split
    · exact ddS_nd xs
    · rename_i h
      exact List.nodup_cons.mpr ⟨fun z => h (ddS_mem.mp z), ddS_nd xs⟩
def mSortS (m : Me) : Ma := fun ρ => (m ρ).bind fun p => match p.1 with
  | .lst l => (strsOf l).bind fun xs => if xs.length < 64 then some ((sortS (ddS xs)).map D.str, p.2) else none
  | _ => none
theorem qf_sortS {a : Expr} {m : Me} {p p2 q pos : Pos} (hc : X.calm = true) (hg : Gl X "sorted") (hm : X.mg "sorted" = none) (hg2 : Gl X "set") (hm2 : X.mg "set" = none) (ha : PE X a (R m))
    (na : starEach [a] X.env = (false, eval a X.env) :: starEach [] X.env := by rfl) : PE X (.Call (.Name "sorted" p) [.Call (.Name "set" p2) [a] [] q] [] pos) (RF (mSortS m)) := by
  refine imp (pe_sortS hc hg hm hg2 hm2 ha na) fun σ H Q ⟨G, ρ, d, ρ', rp, e, k⟩ => ?_
  obtain ⟨w, e1, e⟩ := bnd e
  split at e
  · rename_i l h1
    obtain ⟨xs, e3, e⟩ := bnd e
    obtain ⟨few, e⟩ := some_if e
    cases e
    refine ⟨G, ρ, w.1, w.2, rp, e1, fun G1 H1 v t hv => ?_⟩
    rw [h1, strsOf_inv e3] at hv
    cases hv with
    | lst h3 h4 =>
      rw [dda_strs h4] at h3
      refine ⟨_, xs, rfl, sq_l (t.rep.le _ _ h3), few, fun zs z hs nd hmem hz => ?_⟩
      have pm : zs.Perm (ddS xs) := (List.perm_ext_iff_of_nodup nd (ddS_nd xs)).mpr fun y => by rw [hmem, ddS_mem]
      have ez : zs = sortS (ddS xs) := sortS_one pm (sorted_pw hs)
      rw [ez]
      have ex := ex_own (o := .lst ((sortS (ddS xs)).map V.str)) t.rep.le hz
      exact k G1 _ z _ (t.trans (Tr.ext t.rep ex)) (t.go.dom _ hz) upd_same (t.rep.le.free hz) (dda_of_strs _)
  · cases e
/-! a list of one's own != [] -/
def mNeE (i : Nat) : Me := fun ρ => match ρ[i]? with
  | some (.own _ ds) => if SeqAt.shaped (D.lst ds).py = true then some (.bl (!PyData.eqv (D.lst ds).py (D.lst []).py), ρ) else none
  | _ => none
theorem neE_of {i : Nat} (σ : L2.St) (H : Hp) (Q : VK) (h : R (mNeE i) σ H Q) : tOp (rNeD X.K) (tVar i) (RF (mDisp mNil)) σ H Q := by
  obtain ⟨G, ρ, d, ρ', rp, e, k⟩ := h
  unfold mNeE at e
  split at e
  · rename_i l ds h
    obtain ⟨hs, e⟩ := some_if e
    cases e
    obtain ⟨a, xs, h1, h2, h3, h4⟩ := rp.own h
    refine ⟨_, h1, G, ρ, [], ρ, rp, rfl, fun G1 H1 b ys t hn hb hg hy => ?_⟩
    obtain ⟨a', xs', g1, g2, g3, g4⟩ := t.rep.own h
    rw [h1] at g1
    cases g1
    have ne : a ≠ b := fun z => by rw [z, hn] at h2; cases h2
    have s1 := same_new (o := .lst xs') g3
    have g3' : (upd G1 a (.lst xs')) b = none := by rw [upd_ne (Ne.symm ne)]; exact hg
    have le2 : Le (upd (upd G1 a (.lst xs')) b (.lst ys)) H1 := (t.rep.le.good g2 nt_lst).good hb nt_lst
    have d1 : Dd (upd (upd G1 a (.lst xs')) b (.lst ys)) (.ref a) (.lst ds) := .lst ((same_new g3') _ _ upd_same) (dda_same (s1.trans (same_new g3')) g4)
    have d2 : Dd (upd (upd G1 a (.lst xs')) b (.lst ys)) (.ref b) (.lst []) := .lst upd_same (dda_same (s1.trans (same_new g3')) hy)
    exact ⟨_, _, dp_same le2 (dd_dp d1 (shaped_lay hs)), dp_same le2 (dd_dp d2 rfl), hs, rfl, k G1 H1 _ t (.bl _)⟩
  · cases e
theorem qe_neE {i : Nat} {x : Str} {p q pos : Pos} (hu : X.A.units + 64 < cLine) (ho : PE X (.Name x p) (tVar i)) (hm : behindInMarks .NotEq (.List [] q) = false) : PE X (.Compare (.Name x p) [.NotEq] [.List [] q] pos) (R (mNeE i)) := imp (pe_cmpR (op_neD hu) ho (qf_lst qa_nil) hm) neE_of
theorem qt_neE {i : Nat} {x : Str} {p q pos : Pos} (hu : X.A.units + 64 < cLine) (ho : PE X (.Name x p) (tVar i)) (hm : behindInMarks .NotEq (.List [] q) = false) : PT X (.Compare (.Name x p) [.NotEq] [.List [] q] pos) (RT (mB (mNeE i))) := impT (pt_cmpR (op_neD hu) ho (qf_lst qa_nil) hm) fun σ H Q h => neE_of σ H _ (b_of σ H Q h)
/-! l.index(z) of a list of texts -/
def mIxL (mo ma : Me) : Me := fun ρ => (mo ρ).bind fun p => (ma p.2).bind fun q => match p.1, q.1 with
  | .lst l, .str z => (strsOf l).bind fun xs => if z ∈ xs then some (.int (xs.idxOf z : Nat), q.2) else none
  | _, _ => none
theorem qe_indexL {o e : Expr} {mo ma : Me} {apos cpos : Pos} (ho : PE X o (R mo)) (ha : PE X e (R ma)) (hbase : attributeBase o "index" X.env (eval o X.env) = eval o X.env := by rfl)
    (hfew : ((backTo cpos (starEach [e] X.env)).all (fun x => !x.1) && (backToKw cpos (keywordEach [] X.env)).all (fun x => x.1.isSome) && decide ([e].length + ([] : List Keyword).length + (if ([] : List Keyword).isEmpty then 0 else 1) < 30)) = true := by rfl)
    (hline : (apos.endLine == cpos.line) = true := by rfl) (hs : starEach [e] X.env = (false, eval e X.env) :: starEach [] X.env := by rfl) (hplain : (backTo cpos (starEach [] X.env)).any (·.1) = false := by rfl) :
    PE X (.Call (.Attribute o "index" apos) [e] [] cpos) (R (mIxL mo ma)) := by
  refine imp (pe_bm PySem.F.plainAttrs_list PySem.F.slot_list_index PySem.F.type_list_index mt_index ho (pa_cons ha pa_nil hs) hbase hfew hline hs hplain) fun σ H Q ⟨G, ρ, d, ρ', rp, e, k⟩ => ?_
  obtain ⟨p, e1, e⟩ := bnd e
  obtain ⟨q, e2, e⟩ := bnd e
  split at e
  · rename_i l z h1 h2
    obtain ⟨xs, e3, e⟩ := bnd e
    obtain ⟨hz, e⟩ := some_if e
    cases e
    refine ⟨G, ρ, p.1, p.2, rp, e1, fun G1 H1 v t hv => ?_⟩
    rw [h1, strsOf_inv e3] at hv
    cases hv with
    | lst hl hd =>
      have hd' := dda_strs hd
      refine ⟨.inl ⟨rfl, _, sq_l (t.rep.le _ _ hl)⟩, G1, p.2, q.1, q.2, t.rep, e2, fun G2 H2 u t2 hu => ?_⟩
      rw [h2] at hu
      cases hu
      have hl2 := t2.rep.le _ _ (t2.go.gg _ _ hl)
      rw [hd'] at hl2
      have hlt : xs.idxOf z < xs.length := List.idxOf_lt_length_of_mem hz
      refine ⟨_, xs.map V.str, .str z, xs.idxOf z, .str z, rfl, rfl, sq_l hl2, rfl, ?_, ?_, ?_, fun m z' hm em => ?_, k G2 H2 _ (t.trans t2) (.int _)⟩
      · rw [List.all_eq_true]
        intro y hy
        obtain ⟨x, _, rfl⟩ := List.mem_map.mp hy
        rfl
      · rw [List.getElem?_map, List.getElem?_eq_getElem hlt, List.getElem_idxOf]
        rfl
      · show (z == z) = true
        exact beq_self_eq_true z
      · rw [List.getElem?_map] at em
        obtain ⟨y, ey, rfl⟩ := Option.map_eq_some_iff.mp em
        obtain ⟨hm', em⟩ := List.getElem?_eq_some_iff.mp ey
        have h3 : (xs[m] == z) = false := List.not_of_lt_findIdx (p := (· == z)) hm
        rw [em] at h3
        exact h3
  · cases e
end
end Pl
namespace Pl
open PySem PySem.Spec PyProof.Rows L2 Kn
variable [Tbs]
section
variable {X : Cx}
/-- e[::-1] of a tuple -/
def mRevT (m : Me) : Me := fun ρ => (m ρ).bind fun p => match p.1 with | .tup _ l => some (.tup false l.reverse, p.2) | _ => none
theorem qe_revT {e : Expr} {m : Me} {k : Nat} {p1 p2 p3 pos : Pos} (he : PE X e (R m)) : PE X (.Subscript e (.Slice none none (some (.UnaryOp .USub (.Constant (.int 1) k p1) p2)) p3) pos) (R (mRevT m)) := by
  refine imp (pe_rev rev_tupD he) fun σ H Q ⟨G, ρ, d, ρ', rp, e, k⟩ => ?_
  obtain ⟨p, e1, e⟩ := bnd e
  split at e
  · rename_i w l hl
    cases e
    refine ⟨G, ρ, p.1, p.2, rp, e1, fun G1 H1 v t hv => ?_⟩
    rw [hl] at hv
    obtain ⟨a, xs, rfl, h2, z⟩ := tup_cases X.K hv
    exact ⟨a, xs, rfl, z _ t.rep.le, fun p o hp hc hx => Ans.tupM (fun G2 H2 v ex hv2 => k G2 H2 v (t.trans (Tr.ext t.rep ex)) hv2) t.rep.le hp hc hx (dda_rev h2)⟩
  · cases e
theorem v_revT {m : Me} {ρ ρ1 : Rh} {w : Bool} {l : List D} (h : m ρ = some (.tup w l, ρ1)) : mRevT m ρ = some (.tup false l.reverse, ρ1) := by
  unfold mRevT
  rw [h]
  rfl
end
end Pl
namespace Pl
open PySem PySem.Spec PyProof.Rows L2 Kn
/-! falls of a list by a key: where the next one stands lower; stretches of rows that were called -/
def fallsK {α : Type} (f : α → Nat) : List α → Nat
  | [] => 0
  | [_] => 0
  | x :: y :: l => (if f y < f x then 1 else 0) + fallsK f (y :: l)
theorem falls_tail {α : Type} (f : α → Nat) (x : α) : ∀ l : List α, fallsK f l ≤ fallsK f (x :: l)
  | [] => Nat.le_refl _
  | y :: l => Nat.le_add_left _ _
theorem falls_skip {α : Type} (f : α → Nat) (a b : α) : ∀ l : List α, fallsK f (a :: l) ≤ fallsK f (a :: b :: l)
  | [] => Nat.zero_le _
  | y :: l => by
    show (if f y < f a then 1 else 0) + fallsK f (y :: l) ≤ (if f b < f a then 1 else 0) + ((if f y < f b then 1 else 0) + fallsK f (y :: l))
    by_cases h1 : f y < f a
    · by_cases h2 : f b < f a
      · rw [if_pos h1, if_pos h2]; omega
      · rw [if_pos h1, if_neg h2, if_pos (show f y < f b by omega)]; omega
    · rw [if_neg h1]; omega
theorem falls_head {α : Type} (f : α → Nat) {l' l : List α} (h : l'.Sublist l) : ∀ a : α, fallsK f (a :: l') ≤ fallsK f (a :: l) := by
  induction h with
  | slnil => exact fun _ => Nat.le_refl _
  | cons b _ ih => exact fun a => Nat.le_trans (ih a) (falls_skip f a b _)
  | cons_cons b _ ih =>
    intro a
    show (if f b < f a then 1 else 0) + fallsK f (b :: _) ≤ (if f b < f a then 1 else 0) + fallsK f (b :: _)
    have := ih b
    omega
theorem falls_sub {α : Type} (f : α → Nat) {l' l : List α} (h : l'.Sublist l) : fallsK f l' ≤ fallsK f l := by
  induction h with
  | slnil => exact Nat.le_refl _
  | cons b _ ih => exact Nat.le_trans ih (falls_tail f b _)
  | cons_cons b h _ => exact falls_head f h b
theorem falls_app {α : Type} (f : α → Nat) (b : List α) : ∀ a : List α, fallsK f (a ++ b) ≤ fallsK f a + fallsK f b + 1
  | [] => by rw [List.nil_append]; omega
  | [x] => by
    cases b with
    | nil => exact Nat.zero_le _
    | cons y b =>
      show (if f y < f x then 1 else 0) + fallsK f (y :: b) ≤ 0 + fallsK f (y :: b) + 1
      split <;> omega
  | x :: y :: a => by
    have ih := falls_app f b (y :: a)
    show (if f y < f x then 1 else 0) + fallsK f (y :: a ++ b) ≤ ((if f y < f x then 1 else 0) + fallsK f (y :: a)) + fallsK f b + 1
    omega
/-- the names to whom somebody goes -/
def heads {α : Type} [DecidableEq α] (t : α → α) (L xs : List α) : List α := L.filter fun nm => xs.any fun x => decide (t x = nm)
theorem falls_flat {α : Type} [DecidableEq α] (f : α → Nat) (t : α → α) (xs : List α) : ∀ L : List α,
    (L.flatMap fun nm => xs.filter fun x => decide (t x = nm)) = [] ∨ fallsK f (L.flatMap fun nm => xs.filter fun x => decide (t x = nm)) + 1 ≤ (fallsK f xs + 1) * (heads t L xs).length
  | [] => .inl rfl
  | a :: L => by
    have ih := falls_flat f t xs L
    rw [List.flatMap_cons]
    have hs : fallsK f (xs.filter fun x => decide (t x = a)) ≤ fallsK f xs := falls_sub f List.filter_sublist
    unfold heads at ih ⊢
    rw [List.filter_cons]
    by_cases e : (xs.any fun x => decide (t x = a)) = true
    · rw [if_pos e, List.length_cons, Nat.mul_add, Nat.mul_one]
      refine .inr ?_
      rcases ih with ih | ih
      · rw [ih, List.append_nil]
        omega
      · have := falls_app f (L.flatMap fun nm => xs.filter fun x => decide (t x = nm)) (xs.filter fun x => decide (t x = a))
        omega
    · have z : (xs.filter fun x => decide (t x = a)) = [] := by
        rw [List.filter_eq_nil_iff]
        intro x hx c
        exact e (List.any_eq_true.mpr ⟨x, hx, c⟩)
      rw [if_neg e, z, List.nil_append]
      exact ih
/-- the fewest times that a number is to be taken by itself -/
theorem falls_self {α : Type} (f : α → Nat) : ∀ l : List α, l.Pairwise (fun a b => f a < f b) → fallsK f l = 0
  | [], _ => rfl
  | [_], _ => rfl
  | x :: y :: l, h => by
    obtain ⟨h1, h2⟩ := List.pairwise_cons.mp h
    show (if f y < f x then 1 else 0) + fallsK f (y :: l) = 0
    have := h1 y (List.mem_cons_self ..)
    rw [if_neg (by omega), falls_self f (y :: l) h2]
/-- how many a list tells that are not yet told -/
theorem dcs_count : ∀ (xs seen : List Str) (c : Nat) (l : List Str), l.Nodup → (∀ x ∈ l, x ∈ xs ∧ x ∉ seen) → c + l.length ≤ dcs seen xs c
  | [], seen, c, l, _, h => by
    cases l with
    | nil => exact Nat.le_refl _
    | cons x l => exact nomatch (h x (List.mem_cons_self ..)).1
  | y :: xs, seen, c, l, nd, h => by
    show _ ≤ dcs (seen ++ [y]) xs (if y ∈ seen then c else c + 1)
    by_cases hy : y ∈ l
    · have e : l.length = (l.filter fun x => !decide (x = y)).length + 1 := by
        have := (List.perm_cons_erase hy).length_eq
        rw [List.length_cons] at this
        rw [this, nd.erase_eq_filter]
        exact congrArg (fun l : List Str => l.length + 1) (List.filter_congr fun x _ => by
          by_cases c : x = y
          · rw [decide_eq_true c, c]; simp
          · rw [decide_eq_false c]; simp [c])
      have ih := dcs_count xs (seen ++ [y]) (c + 1) (l.filter fun x => !decide (x = y)) (nd.sublist List.filter_sublist) fun x hx => by
        obtain ⟨h1, h2⟩ := List.mem_filter.mp hx
        have ne : x ≠ y := fun z => by rw [decide_eq_true z] at h2; cases h2
        obtain ⟨h3, h4⟩ := h x h1
        exact ⟨(List.mem_cons.mp h3).resolve_left ne, fun z => (List.mem_append.mp z).elim h4 fun z => ne (List.mem_singleton.mp z)⟩
      rw [if_neg (h y hy).2]
      omega
    · have ih := fun c => dcs_count xs (seen ++ [y]) c l nd fun x hx => by
        obtain ⟨h3, h4⟩ := h x hx
        have ne : x ≠ y := fun z => hy (z ▸ hx)
        exact ⟨(List.mem_cons.mp h3).resolve_left ne, fun z => (List.mem_append.mp z).elim h4 fun z => ne (List.mem_singleton.mp z)⟩
      split
      · exact ih c
      · have := ih (c + 1)
        omega
end Pl
namespace Pl
open PySem PySem.Spec PyProof.Rows L2 Kn
theorem dcs_snoc : ∀ (r seen : List Str) (c : Nat) (x : Str), dcs seen (r ++ [x]) c = if x ∈ seen ++ r then dcs seen r c else dcs seen r c + 1
  | [], seen, c, x => by rw [List.append_nil]; rfl
  | y :: r, seen, c, x => by
    show dcs (seen ++ [y]) (r ++ [x]) (if y ∈ seen then c else c + 1) = if x ∈ seen ++ y :: r then dcs (seen ++ [y]) r (if y ∈ seen then c else c + 1) else dcs (seen ++ [y]) r (if y ∈ seen then c else c + 1) + 1
    rw [dcs_snoc r (seen ++ [y]), List.append_assoc]
    rfl
section
variable {P : Program} {w : World} {A : Around} {E : Value → Shared → Prop} {s : Shared}
theorem fill_new : Fill P w (setNew w s.heap) s.heap.objs.size [] [] :=
  ⟨⟨_, #[], 0, _, Heap.get?_push_size _ rfl, ⟨rfl, rfl, rfl⟩, rfl, List.Perm.refl _, by decide, rfl, by first | exact List.Pairwise.nil | decide | trivial | exact ⟨⟩, by cases w.params.followText "set-order" <;> simp [SetTable.fresh, SetTable.led]⟩, fun e h => (nomatch h), List.nodup_nil, fun k => Iff.rfl⟩
/-- one more text into a set that is being filled -/
theorem fill_add {a : Addr} {k : Str} {tk : Tok} {es : List (Int × Value)} {ks : List Str} {Q : Value → Shared → Prop} (F : Fill P w s.heap a es ks) (room : es.length + 1 < scanBound)
    (hQ : ∀ h' es', Heap.SameBut a s.heap h' → Fill P w h' a es' (ks ++ [k]) → es'.length = (if k ∈ ks then es.length else es.length + 1) → Q .none { s with heap := h', toks := s.toks + 1 }) :
    wpAny (model P w) A (call (.builtin "set.add") [.ref a, .str k tk]) Q E s := by
  have ty : s.TypeIs (.ref a) "set" := by
    obtain ⟨o, _, _, _, ho, hx, _⟩ := F.tab
    exact ⟨o, ho, hx.1⟩
  refine wpAny_call_entry PySem.F.slot_set_add ty PySem.F.entry_set_add ?_ (PySem.F.args_set_add_2 _ _)
  unfold Builtin.«set.add» Builtin.Frozenset.oneOther Builtin.Frozenset.addrOf
  simp only [List.isEmpty_nil, bind_assoc]
  refine wpAny_bind (wpAny_pure (wpAny_bind (wpAny_pure (wpAny_bind ?_))))
  unfold setAdd
  refine wpAny_holding (wpAny_bind ((PySem.strKind P w).pyHash (k := k) (strKind_is _ _ _ _) ?_))
  refine tab_add (s := { s with toks := s.toks + 1 }) F.tab F.txt room fun h' sb T => ?_
  obtain ⟨es', F', l'⟩ := F.more T
  exact wpAny_pure ⟨_, rfl, hQ h' es' sb F' l'⟩
end
end Pl
set_option maxHeartbeats 2000000
namespace Pl
open PySem PySem.Spec PyProof.Rows L2 Kn
/-- len({e for t in i if c}), e a text: ks tells what was put in so far -/
def tLenC (wi : TI) (g : TG) (tt : TT) (te : TE) (vs : List Nat) : TE := fun σ H Q => wi σ H fun J H1 => ∃ W : Nat → Nat → List Str → Hp → Prop, (∃ m, W 0 m [] H1) ∧ ∀ i m ks H, W i m ks H →
  (J.stop i H ∧ Q (.int ((dcs [] ks 0 : Nat) : Int)) H) ∨ (J.go i H ∧ ∃ Nx : List Str → Hp → Prop, (∀ ks' H', Nx ks' H' → ∃ m', m' < m ∧ W (i + 1) m' ks' H') ∧ ∀ x H', J.yld i H x H' → g x (wipe σ vs) H' fun σ2 H2 => wipe σ2 vs = wipe σ vs ∧ tt σ2 H2 fun b H3 =>
    if b = true then te σ2 H3 fun y H4 => ∃ k, y = .str k ∧ ks.length < 4000 ∧ Nx (ks ++ [k]) H4 else Nx ks H3)
section
variable {X : Cx}
theorem pe_lenC {elt tg iter : Expr} {ifs : List Expr} {scope : Scope} {own : List (Str × Nat)} {p pos q : Pos} {wi : TI} {g : TG} {tt : TT} {te : TE} (hc : X.calm = true) (hN : X.N.Nodup) (hgl : Gl X "len") (hm : X.mg "len" = none) (hi : PI X tg iter wi) (ok : BlkOk X.N X.env.scope scope own)
    (hg : ∀ (s : Shared) (H : Hp) (C : Addr) (cl : List (Str × Addr)) (fp : List Addr), PG (X.blk s H scope (compEnvC scope cl C X.env) fp) tg g) (ht : ∀ (s : Shared) (H : Hp) (C : Addr) (cl : List (Str × Addr)) (fp : List Addr), PTs (X.blk s H scope (compEnvC scope cl C X.env) fp) ifs tt)
    (he : ∀ (s : Shared) (H : Hp) (C : Addr) (cl : List (Str × Addr)) (fp : List Addr), PE (X.blk s H scope (compEnvC scope cl C X.env) fp) elt te) (hs : ∀ x, foldedSetIterable iter X.env x = pure x := by intro _; rfl) :
    PE X (.Call (.Name "len" p) [.SetComp elt [⟨tg, iter, ifs, 0⟩] scope pos] [] q) (tLenC wi g tt te (own.map (·.2))) := by
  refine ⟨fun pins s σ H Q I h => Call_ (ld_blt I hgl hm boot_len (PyProof.Rows.callWith_builtin1 (PyProof.Rows.args_cons ?_ rfl) rfl rfl))⟩
  rw [PpSet.eval_SetComp]
  have cells : ∀ y ∈ scope.names, y.2 = .free → ∃ c, X.env.cells.lookup y.1 = some c := fun y hy e => (ok.free y hy e).elim (fun k => I.ok.has _ (.inl k)) fun k => I.ok.has _ (.inr k)
  refine wpAny_comprehension_free (use := none) rfl hs (closure_ok cells) ok.kind (fun y hy e => by rw [ok.uniq y hy, e]) (thn (hi.run pins s σ H _ I h) fun xv s1 hx => thn hx fun itv s2 h2 => ?_)
  obtain ⟨it, fp, tn, J, H2, e, I2, T, st2, f2, W, ⟨m0, w0⟩, turn⟩ := h2
  subst e
  refine PpSet.newSet_ok (newEnv_comp ?_)
  obtain ⟨D, hD⟩ : ∃ D, D = s2.heap.objs.size := ⟨_, rfl⟩
  obtain ⟨s3, hs3⟩ : ∃ s3 : Shared, s3 = { s2 with heap := setNew X.w s2.heap } := ⟨_, rfl⟩
  have F3 : Fill X.prog X.w s3.heap D [] [] := by
    rw [hs3, hD]
    exact fill_new
  have old : ∀ b o, s2.heap.get? b = some o → s3.heap.get? b = some o := fun b o z => by
    rw [hs3]
    exact Heap.get?_push_of_some _ z
  have I3 : Inv X pins σ H2 s3 := by
    rw [hs3]
    exact I2.kept (t' := s2.toks) fun b o z => Heap.get?_push_of_some _ z
  have lt2 : ∀ b ∈ fp, b < s2.heap.objs.size := fun b hb => by
    obtain ⟨o, z, _⟩ := T.obj _ _ st2 b hb
    exact Heap.lt_size z
  have nD : D ∉ fp := fun z => Nat.lt_irrefl _ (hD ▸ lt2 D z)
  have sz3 : s3.heap.objs.size = s2.heap.objs.size + 1 := by rw [hs3]; exact Heap.size_push _ _
  have f3 : ∀ b ∈ D :: fp, FpOk X pins H2 b ∧ b < s3.heap.objs.size := fun b hb => by
    rcases List.mem_cons.mp hb with z | z
    · rw [z]
      exact ⟨I2.fpOk (Nat.le_of_eq hD.symm) (I2.hok.fresh (Nat.le_of_eq hD.symm)), by rw [sz3, hD]; exact Nat.lt_succ_self _⟩
    · exact ⟨f2 b z, by rw [sz3]; exact Nat.lt_succ_of_lt (lt2 b z)⟩
  have st3 : tn 0 s3.heap := T.keep _ _ _ st2 fun b _ o z => old b o z
  have I4 := block_start I3 ok hN f3
  have ng : ∀ b ∈ D :: fp, H2 b = none := fun b hb => (f3 b hb).1.1
  rw [← hs3]
  have pg := hg s3 H2 s3.heap.objs.size (cellsFrom (s3.heap.objs.size + 1) scope.names (cloFrom X.env.cells scope.names [])) (D :: fp)
  have pt := ht s3 H2 s3.heap.objs.size (cellsFrom (s3.heap.objs.size + 1) scope.names (cloFrom X.env.cells scope.names [])) (D :: fp)
  have pe := he s3 H2 s3.heap.objs.size (cellsFrom (s3.heap.objs.size + 1) scope.names (cloFrom X.env.cells scope.names [])) (D :: fp)
  rw [← hD]
  obtain ⟨C, hC⟩ : ∃ C, C = s3.heap.objs.size := ⟨_, rfl⟩
  have DC : D ≠ C := by
    rw [hC, sz3, hD]
    exact Nat.ne_of_lt (Nat.lt_succ_self _)
  refine (show codeAny _ _ (.compStart (.SetComp elt [⟨tg, iter, ifs, 0⟩] scope pos) 0 (.ref it) (.ref D) (compEnvC scope (cellsFrom (s3.heap.objs.size + 1) scope.names (cloFrom X.env.cells scope.names [])) s3.heap.objs.size X.env)) _ { s3 with heap := pushCells (s3.heap.push { cls := .type "dict", data := .dict #[] }) scope.names } from ?_)
  obtain ⟨ce, hce⟩ : ∃ ce, ce = compEnvC scope (cellsFrom (s3.heap.objs.size + 1) scope.names (cloFrom X.env.cells scope.names [])) s3.heap.objs.size X.env := ⟨_, rfl⟩
  obtain ⟨s4, hs4⟩ : ∃ s4 : Shared, s4 = { s3 with heap := pushCells (s3.heap.push { cls := .type "dict", data := .dict #[] }) scope.names } := ⟨_, rfl⟩
  have cL : ce.locals = C := by rw [hce, hC]; rfl
  have up4 : ∀ b o, s3.heap.get? b = some o → s4.heap.get? b = some o := fun b o z => by
    rw [hs4]
    exact pushCells_keeps _ _ _ _ (Heap.get?_push_of_some _ z)
  rw [← hce, ← hs4]
  rw [← hce, ← hs4] at I4
  rw [← hce] at pg pt pe
  have st4 : tn 0 s4.heap := T.keep _ _ _ st3 fun b _ o z => up4 b o z
  -- what the block leaves alone
  have alone : ∀ {σ' : L2.St} {H' : Hp} {s' : Shared} {ps : List (Addr × Obj)}, Inv (X.blk s3 H2 scope ce (D :: fp)) ps σ' H' s' → ∀ b ∈ D :: fp, H' b = none → (∀ z ∈ ps, z.1 ≠ b) → FpOk (X.blk s3 H2 scope ce (D :: fp)) ps H' b := fun I' b hb hn np =>
    ⟨hn, (I'.ok.exf b hb).1, I'.ok.exfs b hb, .inl hb, fun x c z => (I'.ok.exf b hb).2 x c z, fun z hz => np z (by simpa using hz)⟩
  have key : ∀ R, codeAny (model X.prog X.w) X.A (.compLoop (.SetComp elt [⟨tg, iter, ifs, 0⟩] scope pos) 0 (.ref it) (.ref D) ce) R s4 → codeAny (model X.prog X.w) X.A (.compStart (.SetComp elt [⟨tg, iter, ifs, 0⟩] scope pos) 0 (.ref it) (.ref D) ce) R s4 := fun R loop => PpSet.codeAny_compStart_set loop (T.self X.A 0 _ _ _ st4 loop)
  refine key _ ?_
  rw [← hC]
  refine PpSet.compLoopS_any (fun n s' => ∃ i H' ks es, Inv (X.blk s3 H2 scope ce (D :: fp)) [] (wipe σ (own.map (·.2))) H' s' ∧ tn i s'.heap ∧ (∀ b ∈ D :: fp, H' b = none) ∧ Fill X.prog X.w s'.heap D es ks ∧ es.length = dcs [] ks 0 ∧ W i n ks H') ?_ m0 ⟨0, H2, [], [], I4, st4, ng, F3.moved (up4 D), rfl, w0⟩
  rintro n s5 ⟨i, H5, ks, es, I5, st5, n5, F5, l5, w5⟩
  have F5' := F5.tab
  obtain ⟨o5, _, _, _, ho5, _, hd5, _⟩ := F5'
  have I5p := I5.pinned (fp := [D]) (fun b hb => by
    obtain rfl := List.mem_singleton.mp hb
    exact alone I5 b (List.mem_cons_self ..) (n5 b (List.mem_cons_self ..)) (fun z hz => (nomatch hz))) (fun b hb => by
    obtain rfl := List.mem_singleton.mp hb
    exact ⟨o5, ho5, fun v z => by rw [hd5] at z; cases z⟩)
  have pinD : (D, o5) ∈ ([] : List (Addr × Obj)) ++ pinsAt [D] s5.heap := List.mem_append_right _ (mem_pinsAt (List.mem_singleton.mpr rfl) ho5)
  have others : ∀ z ∈ ([] : List (Addr × Obj)) ++ pinsAt [D] s5.heap, ∀ b ∈ fp, z.1 ≠ b := fun z hz b hb e => by
    rcases List.mem_append.mp hz with y | y
    · cases y
    · have := List.mem_singleton.mp (of_pinsAt y).1
      exact nD (by rw [← this, e]; exact hb)
  rcases turn i n ks H5 w5 with ⟨stop, qq⟩ | ⟨go, Nx, hNx, step⟩
  · refine thnF (T.done (X.blk s3 H2 scope ce (D :: fp)) rfl rfl rfl hc i _ s5 _ H5 (fun _ _ => False) I5p (fun b hb => alone I5p b (List.mem_cons_of_mem _ hb) (n5 b (List.mem_cons_of_mem _ hb)) fun z hz => others z hz b hb) st5 stop) fun r s6 ⟨hr, I6⟩ => ?_
    subst hr
    have I7 : Inv X pins σ H5 s6 := I3.call' (ch := D :: fp) I6.os I6.base I6.hok I6.bare fun b hb => ⟨(f3 b hb).1.2.2.2.1, (f3 b hb).1.2.1, (f3 b hb).1.2.2.2.2.1, (f3 b hb).1.2.2.2.2.2⟩
    have nC : H5 C = none := by
      have z : H5 ce.locals = none := I6.free
      rw [cL] at z
      exact z
    obtain ⟨m, hn, _⟩ := I6.loc
    have hn : s6.heap.Ns ce.locals m := hn
    rw [cL] at hn
    have F6 : Fill X.prog X.w s6.heap D es ks := F5.moved fun o z => by
      rw [ho5] at z
      cases z
      exact (I6.pin (D, o5) (List.mem_append_right _ pinD)).1
    have fC : FpOk X pins H5 C := I3.fpOk (Nat.le_of_eq hC.symm) nC
    obtain ⟨c0, c1, c2, c3, c4, c5⟩ := fC
    refine ⟨m, hn, fun h8 sb => PyProof.Rows.args_nil ?_⟩
    have I8 : Inv X pins σ H5 { s6 with heap := h8 } := I7.turned (t' := s6.toks) (fun b o hb z => (sb.2 b hb).trans z) c0 c1 c3 c4 c5
    have F8 : Fill X.prog X.w h8 D es ks := F6.moved fun o z => (sb.2 D DC).trans z
    obtain ⟨o, arr, ep, t, ho, hx, hd, hp, hb, hf, _, _⟩ := F8.tab
    have ea : arr.size = dcs [] ks 0 := by rw [← l5, ← hp.length_eq, Array.length_toList]
    have big : (arr.size : Int) < 2 ^ 63 := by
      have : arr.size < scanBound := hb
      unfold scanBound at this
      omega
    exact call_len_set ho hx hd hf big ⟨.int ((dcs [] ks 0 : Nat) : Int), H5, I8.tok _, ⟨_, by rw [ea]⟩, qq⟩
  · refine thnF (T.item (X.blk s3 H2 scope ce (D :: fp)) rfl rfl rfl hc i _ s5 _ H5 (fun _ _ => False) I5p (fun b hb => alone I5p b (List.mem_cons_of_mem _ hb) (n5 b (List.mem_cons_of_mem _ hb)) fun z hz => others z hz b hb) st5 go) fun r s6 ⟨u, hr, h6⟩ => ?_
    subst hr
    refine thnF h6 fun _ s7 ⟨x, H7, I7, r7, y7, st7, n7⟩ => ?_
    have I7p := I7.pinned (fp := fp) (fun b hb => alone I7 b (List.mem_cons_of_mem _ hb) (n7 b hb) fun z hz => others z hz b hb) (T.obj _ _ st7)
    refine thnF (pg.run _ s7 _ H7 x u _ I7p r7 (step x H7 y7)) fun _ s8 ⟨σ8, H8, I8, hw8, q8⟩ => ?_
    refine thnF (pt.run _ s8 σ8 H8 _ I8 q8) fun b s9 ⟨H9, I9, q9⟩ => ?_
    have hl : (wipe σ (own.map (·.2))).length = σ8.length := by rw [← hw8, wipe_length]
    have wk : ∀ (j : Nat) v, (wipe σ (own.map (·.2)))[j]? = some (some v) → σ8[j]? = some (some v) := fun j v z => by
      rw [← hw8] at z
      exact (wipe_some z).1
    -- what was pinned still stands
    have kept : ∀ {H' : Hp} {s' : Shared}, Inv (X.blk s3 H2 scope ce (D :: fp)) (([] ++ pinsAt [D] s5.heap) ++ pinsAt fp s7.heap) σ8 H' s' → (∀ b ∈ D :: fp, H' b = none) ∧ (∀ b ∈ fp, ∀ o, s7.heap.get? b = some o → s'.heap.get? b = some o) ∧ Fill X.prog X.w s'.heap D es ks := fun {H' s'} I' => by
      have pd := I'.pin (D, o5) (List.mem_append_right _ (List.mem_append_left _ pinD))
      have pf : ∀ b ∈ fp, ∀ o, s7.heap.get? b = some o → s'.heap.get? b = some o ∧ H' b = none := fun b hb o z =>
        have y := I'.pin (b, o) (List.mem_append_right _ (List.mem_append_right _ (mem_pinsAt hb z)))
        ⟨y.1, y.2.1⟩
      refine ⟨fun b hb => ?_, fun b hb o z => (pf b hb o z).1, F5.moved fun o z => ?_⟩
      · rcases List.mem_cons.mp hb with y | y
        · rw [y]
          exact pd.2.1
        · obtain ⟨o, z, _⟩ := T.obj _ _ st7 b y
          exact (pf b y o z).2
      · rw [ho5] at z
        cases z
        exact pd.1
    cases b with
    | false =>
      simp only [Bool.false_eq_true, if_false] at q9 ⊢
      obtain ⟨k1, k2, k3⟩ := kept I9
      obtain ⟨m', hm', w'⟩ := hNx ks H9 q9
      exact ⟨m', hm', i + 1, H9, ks, es, (I9.pins_of (pins' := []) fun z hz => (nomatch hz)).weak hl wk, T.keep _ _ _ st7 k2, k1, k3, l5, w'⟩
    | true =>
      simp only [if_true] at q9 ⊢
      refine thnF (pe.run _ s9 σ8 H9 _ I9 q9) fun z s10 ⟨yv, H10, I10, r10, k, ey, few, nx⟩ => ?_
      subst ey
      obtain ⟨tk, rfl⟩ : ∃ tk, z = Value.str k tk := r10
      obtain ⟨k1, k2, k3⟩ := kept I10
      have le := dcs_le ks [] 0
      refine fill_add k3 (by unfold scanBound; omega) fun h' es' sb F' l' => ?_
      obtain ⟨m', hm', w'⟩ := hNx _ H10 nx
      have I10u := I10.pins_of (pins' := []) fun z hz => (nomatch hz)
      obtain ⟨c0, c1, c2, c3, c4, c5⟩ := alone I10u D (List.mem_cons_self ..) (k1 D (List.mem_cons_self ..)) fun z hz => (nomatch hz)
      refine ⟨m', hm', i + 1, H10, ks ++ [k], es', (I10u.turned (it := D) (t' := s10.toks + 1) (fun b o hb z => (sb.2 b hb).trans z) c0 c1 c3 c4 c5).weak hl wk, T.keep _ _ _ st7 fun b hb o z => (sb.2 b fun y => nD (y ▸ hb)).trans (k2 b hb o z), k1, F', ?_, w'⟩
      rw [l', dcs_snoc, List.nil_append, l5]
end
end Pl
namespace Pl
open PySem PySem.Spec PyProof.Rows L2 Kn
variable [Tbs]
/-- len({e for t in i if c}) of texts -/
def mLenC (src : Ma) (tg : Mg) (tt : Mt) (te : Me) (vs : List Nat) : Me := fun ρ => (mLc src tg tt te vs ρ).bind fun p => (strsOf p.1).bind fun xs => if xs.length ≤ 4000 then some (.int ((dcs [] xs 0 : Nat) : Int), p.2) else none
theorem v_lenC {src : Ma} {tg : Mg} {tt : Mt} {te : Me} {vs : List Nat} {ρ ρ1 : Rh} {xs : List Str} (h : mLc src tg tt te vs ρ = some (xs.map D.str, ρ1)) (hl : xs.length ≤ 4000) : mLenC src tg tt te vs ρ = some (.int ((dcs [] xs 0 : Nat) : Int), ρ1) := by
  unfold mLenC
  rw [h, Option.bind_some, strsOf_map, Option.bind_some, if_pos hl]
section
variable {X : Cx}
theorem lenC_of {src : Ma} {ts : List Nat} {tg : Mg} {tt : Mt} {te : Me} {vs : List Nat} (hts : ∀ i ∈ ts, i ∈ vs) (σ : L2.St) (H : Hp) (Q : VK) (h : R (mLenC src tg tt te vs) σ H Q) : tLenC (RI src) (RG ts tg) (RT tt) (R te) vs σ H Q := by
  obtain ⟨G, ρ, d0, ρ', rp, e, k⟩ := h
  obtain ⟨a, e0, e⟩ := bnd e
  obtain ⟨xs, ex0, e⟩ := bnd e
  obtain ⟨few, e⟩ := some_if e
  cases e
  obtain ⟨p, e1, e0⟩ := bnd e0
  split at e0
  case isFalse => cases e0
  rename_i hc
  obtain ⟨hv, hlen⟩ := hc
  obtain ⟨w, e2, e0⟩ := mpd e0
  cases e0
  have wx : w.1 = xs.map D.str := strsOf_inv ex0
  refine ⟨G, ρ, p.1, p.2, rp, e1, fun G1 H1 J t1 wk => ?_⟩
  have no : ∀ i ∈ vs, noOwn p.2 i := fun i hi l es z => by
    have := List.all_eq_true.mp hv i hi
    rw [z] at this
    cases this
  have r1w := t1.rep.wipe vs
  refine ⟨fun i m ks H2 => m = p.1.length - i ∧ i ≤ p.1.length ∧ ∃ Gi ρi rest, Tr G1 H1 (wipe σ vs) (wipeR p.2 vs) Gi H2 ρi ∧ (∀ j ∈ vs, ∀ s, ρi[j]? = some s → s = .un) ∧ lcL tg tt te vs (p.1.drop i) ρi = some (rest, w.2) ∧ ks.map D.str ++ rest = w.1,
    ⟨p.1.length, rfl, Nat.zero_le _, G1, _, w.1, Tr.refl r1w, fun j hj s hs => wiped hj hs, by rw [List.drop_zero]; exact e2, rfl⟩, ?_⟩
  rintro i m ks H2 ⟨rfl, hi, Gi, ρi, rest, t, hun, el, ea⟩
  have gd := t.go.gg.trans t.go.le.same
  by_cases hlt : i < p.1.length
  · refine .inr ⟨wk.goes i H2 hlt gd, fun ks' H' => i + 1 ≤ p.1.length ∧ ∃ Gi ρi rest, Tr G1 H1 (wipe σ vs) (wipeR p.2 vs) Gi H' ρi ∧ (∀ j ∈ vs, ∀ s, ρi[j]? = some s → s = .un) ∧ lcL tg tt te vs (p.1.drop (i + 1)) ρi = some (rest, w.2) ∧ ks'.map D.str ++ rest = w.1,
      fun ks' H' pp => ⟨p.1.length - (i + 1), by omega, rfl, pp.1, pp.2⟩, fun x H3 y => ?_⟩
    obtain ⟨d, hd1, hy⟩ := wk.yields i H2 x H3 hlt gd y
    obtain ⟨G2, ex, hxd⟩ := hy Gi t.go.gg t.go.le
    rw [drop_get hd1] at el
    obtain ⟨ρt, eg, el⟩ := bnd el
    obtain ⟨q, et, el⟩ := bnd el
    refine ⟨G2, ρi, d, ρt, t.rep.ext ex, hxd, eg, fun σ2 r2 sl hσ hno hlr => ⟨wipe_eq (by rw [sl, wipe_length]) fun i hi => by rw [(hσ i fun z => hi (hts i z)).1, wipe_out hi], ?_⟩⟩
    have slen : σ2.length = σ.length := by rw [sl, wipe_length]
    refine ⟨G2, ρt, q.1, q.2, r2, et, fun G3 H4 t3 => ?_⟩
    have tA := Tr.turn hts t.rep hun ex slen hlr hσ hno t3
    cases hq : q.1 with
    | false =>
      rw [hq, if_neg Bool.false_ne_true] at el
      exact iteF ⟨hlt, G3, wipeR q.2 vs, rest, t.trans tA.1, tA.2, el, ea⟩
    | true =>
      rw [hq, if_pos rfl] at el
      obtain ⟨u, eu, el⟩ := bnd el
      obtain ⟨z, ez, el⟩ := mpd el
      obtain ⟨el1, el2⟩ := Prod.mk.inj el
      subst el1
      refine iteT ⟨G3, q.2, u.1, u.2, t3.rep, eu, fun G4 H5 y t4 hy => ?_⟩
      have tB := Tr.turn hts t.rep hun ex slen hlr hσ hno (t3.trans t4)
      have um : u.1 ∈ xs.map D.str := by
        rw [← wx, ← ea]
        exact List.mem_append_right _ (List.mem_cons_self ..)
      obtain ⟨kk, _, ek⟩ := List.mem_map.mp um
      have ln := congrArg List.length ea
      rw [wx, List.length_append, List.length_map, List.length_map, List.length_cons] at ln
      rw [← ek] at hy
      cases hy
      refine ⟨kk, rfl, by omega, hlt, G4, wipeR u.2 vs, z.1, t.trans tB.1, tB.2, by rw [← el2]; exact ez, ?_⟩
      rw [List.map_append, List.append_assoc, ← ea, ← ek]
      rfl
  · obtain rfl : i = p.1.length := by omega
    refine .inl ⟨wk.stops H2 gd, ?_⟩
    rw [List.drop_length] at el
    cases el
    rw [List.append_nil, wx] at ea
    have : ks = xs := (List.map_inj_right fun a b z => by cases z; rfl).mp ea
    subst this
    exact k Gi H2 _ (t1.trans (Tr.unwipe t1.rep no t)) (.int _)
theorem qe_lenC {elt tg iter : Expr} {ifs : List Expr} {scope : Scope} {own : List (Str × Nat)} {p pos q : Pos} {src : Ma} {ts : List Nat} {g : Mg} {tt : Mt} {te : Me} (hc : X.calm = true) (hN : X.N.Nodup) (hgl : Gl X "len") (hm : X.mg "len" = none) (hi : PI X tg iter (RI src)) (ok : BlkOk X.N X.env.scope scope own)
    (hg : ∀ (s : Shared) (H : Hp) (C : Addr) (cl : List (Str × Addr)) (fp : List Addr), PG (X.blk s H scope (compEnvC scope cl C X.env) fp) tg (RG ts g)) (ht : ∀ (s : Shared) (H : Hp) (C : Addr) (cl : List (Str × Addr)) (fp : List Addr), PTs (X.blk s H scope (compEnvC scope cl C X.env) fp) ifs (RT tt))
    (he : ∀ (s : Shared) (H : Hp) (C : Addr) (cl : List (Str × Addr)) (fp : List Addr), PE (X.blk s H scope (compEnvC scope cl C X.env) fp) elt (R te)) (hts : ∀ i ∈ ts, i ∈ own.map (·.2) := by decide) (hs : ∀ x, foldedSetIterable iter X.env x = pure x := by intro _; rfl) :
    PE X (.Call (.Name "len" p) [.SetComp elt [⟨tg, iter, ifs, 0⟩] scope pos] [] q) (R (mLenC src g tt te (own.map (·.2)))) := imp (pe_lenC hc hN hgl hm hi ok hg ht he hs) (lenC_of hts)
end
/-! len(set(l)), l a list of texts -/
section
variable {X : Cx}
def lenSL : D → Option D
  | .lst l => (strsOf l).bind fun xs => if xs.length ≤ 4000 then some (.int ((dcs [] xs 0 : Nat) : Int)) else none
  | _ => none
theorem pe_lenSL {a : Expr} {ta : TE} {p p2 q pos : Pos} (hc : X.calm = true) (hg : Gl X "len") (hm : X.mg "len" = none) (hg2 : Gl X "set") (hm2 : X.mg "set" = none) (ha : PE X a ta)
    (na : starEach [a] X.env = (false, eval a X.env) :: starEach [] X.env := by rfl) : PE X (.Call (.Name "len" p) [.Call (.Name "set" p2) [a] [] q] [] pos) (fun σ H Q => ta σ H fun x H1 => ∃ (l : Addr) (xs : List Str), x = .ref l ∧ SqL X.K H1 l (xs.map V.str) ∧ xs.length ≤ 4000 ∧ Q (.int ((dcs [] xs 0 : Nat) : Int)) H1) := by
  refine ⟨fun pins s σ H Q I h => Call_ (ld_blt I hg hm boot_len (PyProof.Rows.callWith_builtin1 (PyProof.Rows.args_cons ?_ rfl) rfl rfl))⟩
  refine Call_ (ld_blt I hg2 hm2 boot_set (PyProof.Rows.callWith_type1 (PyProof.Rows.args_cons (thn (ha.run pins s σ H _ I h) fun v s1 ⟨x, H1, I1, r1, q1⟩ => PyProof.Rows.args_nil ?_) na) na rfl))
  obtain ⟨l, xs, rfl, hq, few, q1⟩ := q1
  cases r1
  obtain ⟨its, r, pl, hz⟩ := I1.list hq
  refine set_texts (I1.ok.hd hc) (.inr pl.isList) (by simpa using strsAre_of r) few fun h' tk es F el up => PyProof.Rows.args_nil ?_
  obtain ⟨o, arr, ep, t, ho, hx, hd, hp, hb, hf, _, _⟩ := F.tab
  have ea : arr.size = dcs [] xs 0 := by rw [← el, ← hp.length_eq, Array.length_toList]
  have I2 : Inv X pins σ H1 { s1 with heap := h', toks := tk } := I1.kept up
  have := dcs_le xs [] 0
  exact call_len_set ho hx hd hf (by rw [ea]; omega) ⟨.int ((dcs [] xs 0 : Nat) : Int), H1, I2.tok _, ⟨_, by rw [ea]⟩, q1⟩
theorem qe_lenSL {a : Expr} {m : Me} {p p2 q pos : Pos} (hc : X.calm = true) (hg : Gl X "len") (hm : X.mg "len" = none) (hg2 : Gl X "set") (hm2 : X.mg "set" = none) (ha : PE X a (R m))
    (na : starEach [a] X.env = (false, eval a X.env) :: starEach [] X.env := by rfl) : PE X (.Call (.Name "len" p) [.Call (.Name "set" p2) [a] [] q] [] pos) (R (m1 lenSL m)) := by
  refine imp (pe_lenSL hc hg hm hg2 hm2 ha na) fun σ H Q ⟨G, ρ, d, ρ', rp, e, k⟩ => ?_
  obtain ⟨x, e1, e2⟩ := m1_inv e
  refine ⟨G, ρ, x, ρ', rp, e1, fun G1 H1 v t hv => ?_⟩
  unfold lenSL at e2
  split at e2
  · obtain ⟨xs, e3, e2⟩ := bnd e2
    obtain ⟨few, rfl⟩ := some_if e2
    rw [strsOf_inv e3] at hv
    cases hv with
    | lst h1 h2 =>
      obtain rfl := dda_strs h2
      exact ⟨_, xs, rfl, sq_l (t.rep.le _ _ h1), few, k G1 H1 _ t (.int _)⟩
  · cases e2
/-! name += e, name *= e, of ints -/
def addF (i j : Int) : Option Int := some (i + j)
theorem i_add : OpR X (inplaceOp .Add) (rI (fun _ _ => True) fun i j => .int (i + j)) := fun pins s σ H x y v u Q I rx ry ⟨i, j, a, b, _, q⟩ => iop_add pins s σ H x y v u Q I rx ry ⟨i, j, a, b, q⟩
theorem addF_ok (a b c : Int) (h : addF a b = some c) : True ∧ c = a + b := ⟨trivial, (Option.some.inj h).symm⟩
theorem mulF_ok (a b c : Int) (h : mulF a b = some c) : CMul a b ∧ c = a * b := by
  unfold mulF at h
  obtain ⟨hc, rfl⟩ := some_if h
  exact ⟨hc, rfl⟩
theorem v_aug {i : Nat} {f : Int → Int → Option Int} {m : Me} {ρ ρ1 : Rh} {a b c : Int} (h : ρ[i]? = some (.val (.int a))) (hm : m ρ = some (.int b, ρ1)) (hf : f a b = some c) (hi : i < ρ1.length) (hl : isLent ρ1[i]? = false) : mAug i f m ρ = some (.nx (ρ1.set i (.val (.int c)))) := by
  unfold mAug
  rw [h]
  show (m ρ).bind _ = _
  rw [hm, Option.bind_some]
  show (f a b).bind _ = _
  rw [hf, Option.bind_some, if_pos ⟨hi, hl⟩]
/-! max of a list of ints -/
def intsO : List D → Option (List Int)
  | [] => some []
  | .int i :: l => (intsO l).map (i :: ·)
  | _ :: _ => none
theorem intsO_inv : ∀ {l : List D} {ns : List Int}, intsO l = some ns → l = ns.map D.int
  | [], ns, h => by cases h; rfl
  | .int i :: l, ns, h => by
    obtain ⟨ms, e, rfl⟩ := mpd h
    rw [intsO_inv e]
    rfl
theorem intsO_map : ∀ ns : List Int, intsO (ns.map D.int) = some ns
  | [] => rfl
  | i :: ns => by
    show (intsO (ns.map D.int)).map (i :: ·) = _
    rw [intsO_map ns]
    rfl
theorem top_of : ∀ (ns : List Int) (n : Int), ns.foldl max n ∈ n :: ns ∧ ∀ y ∈ n :: ns, y ≤ ns.foldl max n
  | [], n => ⟨List.mem_cons_self .., fun y hy => Int.le_of_eq (List.mem_singleton.mp hy)⟩
  | m :: ns, n => by
    obtain ⟨h1, h2⟩ := top_of ns (max n m)
    refine ⟨?_, fun y hy => ?_⟩
    · show ns.foldl max (max n m) ∈ _
      rcases List.mem_cons.mp h1 with e | h1
      · rw [e]
        by_cases c : n ≤ m
        · rw [Int.max_eq_right c]; exact List.mem_cons_of_mem _ (List.mem_cons_self ..)
        · rw [Int.max_eq_left (by omega)]; exact List.mem_cons_self ..
      · exact List.mem_cons_of_mem _ (List.mem_cons_of_mem _ h1)
    · show y ≤ ns.foldl max (max n m)
      have h0 := h2 _ (List.mem_cons_self ..)
      rcases List.mem_cons.mp hy with rfl | hy
      · omega
      · rcases List.mem_cons.mp hy with rfl | hy
        · omega
        · exact h2 y (List.mem_cons_of_mem _ hy)
def maxL : List D → Option D
  | [.lst l] => (intsO l).bind fun ns => match ns with
    | [] => none
    | n :: ns => some (.int (ns.foldl max n))
  | _ => none
theorem c_maxL (hc : X.calm = true) : CallR X (.builtin "max") (rMax X.K) ∧ CallD (rMax X.K) maxL := by
  refine ⟨cr_max hc, fun G H vs ds d Q le hv e k => ?_⟩
  unfold maxL at e
  split at e
  · obtain ⟨ns, e1, e⟩ := bnd e
    obtain ⟨v, rfl, h⟩ := one_inv hv
    rw [intsO_inv e1] at h
    cases h with
    | lst h1 h2 =>
      rw [dda_ints h2] at h1
      cases ns with
      | nil => cases e
      | cons n ns =>
        cases e
        obtain ⟨t1, t2⟩ := top_of ns n
        refine ⟨_, n :: ns, rfl, sq_l (le _ _ h1), Nat.succ_pos _, fun m hm hy => ?_⟩
        have : m = ns.foldl max n := Int.le_antisymm (t2 m hm) (hy _ t1)
        subst this
        exact k.sc le (.int _)
  · cases e
end
end Pl
namespace Pl
open PySem PySem.Spec PyProof.Rows L2 Kn
variable [Tbs]
section
variable {X : Cx}
/-! sorted(d), d a dict with texts as keys -/
def keysS : List Key → Option (List Str)
  | [] => some []
  | .inr x :: ks => (keysS ks).map (x :: ·)
  | .inl _ :: _ => none
theorem keysS_inv : ∀ {ks : List Key} {xs : List Str}, keysS ks = some xs → ks = xs.map Sum.inr
  | [], xs, h => by cases h; rfl
  | .inr x :: ks, xs, h => by
    obtain ⟨ys, e, rfl⟩ := mpd h
    rw [keysS_inv e]
    rfl
  | .inl _ :: _, _, h => nomatch h
theorem keysS_map : ∀ xs : List Str, keysS (xs.map Sum.inr) = some xs
  | [] => rfl
  | x :: xs => by
    show (keysS (xs.map Sum.inr)).map (x :: ·) = _
    rw [keysS_map xs]
    rfl
def sortDF : List D → Option (List D)
  | [.dct ks _] => (keysS ks).bind fun xs => if xs.length < 64 then some ((sortS xs).map D.str) else none
  | _ => none
def rSortDk : List V → Hp → VK → Prop := fun xs H Q => ∃ (a : Addr) (kvs : List (Key × V)) (ks : List Str), xs = [.ref a] ∧ Rd H a (.dK kvs) ∧ kvs.map (·.1) = ks.map Sum.inr ∧ ks.length < 64 ∧ ∀ ys p, ys.Perm ks → sortedS ys = true → H p = none → Q (.ref p) (upd H p (.lst (ys.map V.str)))
theorem c_sortD (hc : X.calm = true) : CallR X (.builtin "sorted") rSortDk ∧ CallF rSortDk sortDF := by
  refine ⟨call_sortedD hc, fun G H vs ds d Q le hv e k => ?_⟩
  unfold sortDF at e
  split at e
  · obtain ⟨xs, e1, e⟩ := bnd e
    obtain ⟨hl, rfl⟩ := some_if e
    obtain ⟨v, rfl, h⟩ := one_inv hv
    cases h with
    | dct h1 h2 => exact ⟨_, _, xs, rfl, .inr ⟨_, le _ _ h1⟩, keysS_inv e1, hl, fun ys p hp hs np => by
        rw [sortS_one hp (sorted_pw hs)]
        exact k.nw le np (dda_of_strs _)⟩
  · cases e
end
end Pl
namespace Pl
open PySem PySem.Spec PyProof.Rows L2 Kn
variable [Tbs]
/-! dict(zip(t, l)), t a tuple, l a list: the pairs, once the first one is held by the dict's filler -/
section
variable {prog : Program} {w : World} {A : Around} {E : Value → Shared → Prop} {s : Shared} {z TI TO i1 i2 T : Addr} {fs gs : List Addr} {n m i : Nat} {P1 P2 : Nat → Value → Prop} {S1 S2 : Nat → Heap → Prop} {b : Bool} {oT : Obj}
theorem held_next {Q : Option Value → Shared → Prop} (S : ZipSep2 z TI TO i1 i2 fs gs) (D1 : Draws prog w A.in1 i1 fs n P1 S1) (D2 : Draws prog w A.in1 i2 gs m P2 S2) (zh : IsZipHeld s.heap z TI TO T b) (th : s.heap.get? T = some oT)
    (tI : IsTupOf2 s.heap TI (.ref i1) (.ref i2)) (p1 : S1 i s.heap) (p2 : S2 i s.heap) (l1 : i < n) (l2 : i < m)
    (q : ∀ x y g tk, P1 i x → P2 i y → IsZipHeld g z TI TO T true → S1 (i + 1) g → S2 (i + 1) g → IsTupOf2 g s.heap.objs.size x y → (∀ c o, c ≠ z → c ≠ i1 → c ≠ i2 → s.heap.get? c = some o → g.get? c = some o) → Q (some (.ref s.heap.objs.size)) { s with heap := g, toks := tk }) :
    wpAny (model prog w) A (pyNext (.ref z)) Q E s := by
  obtain ⟨hp, gl, dd, tk0, os⟩ := s
  have ty : Shared.TypeIs ⟨hp, gl, dd, tk0, os⟩ (.ref z) "zip" := ⟨_, zh, rfl⟩
  unfold pyNext
  refine wpAny_bind (wpAny_attempt (wpAny_callSpecial?_slot (name := Str.ofString "__next__") ty F.slot_zip_next (wpAny_call_entry F.slot_zip_next ty F.entry_zip_next ?_ (F.args_zip_next_1 _))))
  show wpAny _ _ (field (.ref z) 2 >>= _) _ _ _
  refine wpAny_bind (wpAny_field zh rfl (x := .bool false) rfl ?_)
  show wpAny _ _ (field (.ref z) 3 >>= _) _ _ _
  refine wpAny_bind (wpAny_field zh rfl (x := .ref TI) rfl (wpAny_bind (wpAny_seqItems tI rfl ?_)))
  show wpAny _ _ (Builtin.SmallTypes.ownedTupleIsFree (.ref z) >>= _) _ _ _
  refine wpAny_bind (wpAny_tupleHeld_zip zh th fun g0 zg s0 => ?_)
  simp only [Bool.false_eq_true, if_false]
  refine wpAny_bind ?_
  rw [← Array.forIn_toList]
  simp only [List.forIn_cons, List.forIn_nil]
  refine wpAny_bind (wpAny_bind (wpAny_holding ?_))
  show wpAny _ _ (Builtin.SmallTypes.nextOf (.ref i1) >>= _) _ _ _
  refine wpAny_bind (D1.item i ⟨g0, gl, dd, tk0, os⟩ _ _ l1 (D1.over p1 s0 S.zf1) fun x g1 tk1 hx q1 s1 => wpAny_pure ?_)
  refine wpAny_pure ?_
  refine wpAny_bind (wpAny_bind (wpAny_holding ?_))
  show wpAny _ _ (Builtin.SmallTypes.nextOf (.ref i2) >>= _) _ _ _
  refine wpAny_bind (D2.item i ⟨g1, gl, dd, tk1, os⟩ _ _ l2 (D2.over (D2.over p2 s0 S.zf2) s1 S.sep1_2) fun y g2 tk2 hy q2 s2 => wpAny_pure ?_)
  refine wpAny_pure (wpAny_pure ?_)
  show wpAny _ _ (newTuple [x, y] >>= _) _ _ _
  refine wpAny_bind (wpAny_newTuple ?_)
  replace s1 : Heap.SameBut i1 g0 g1 := s1
  replace s2 : Heap.SameBut i2 g1 g2 := s2
  replace s0 : Heap.SameBut z hp g0 := s0
  have sz : g2.objs.size = hp.objs.size := by rw [s2.1, s1.1, s0.1]
  have kp : ∀ c o, c ≠ z → c ≠ i1 → c ≠ i2 → hp.get? c = some o → g2.get? c = some o := fun c o c0 c1 c2 e => s2.extBut _ _ c2 (s1.extBut _ _ c1 (s0.extBut _ _ c0 e))
  have up : ∀ c o, g2.get? c = some o → (g2.push { cls := .type "tuple", data := .seq #[x, y] }).get? c = some o := fun c o e => Heap.get?_push_of_some _ e
  have nw : IsTupOf2 (g2.push { cls := .type "tuple", data := .seq #[x, y] }) g2.objs.size x y := Heap.get?_push_size _ rfl
  rw [sz] at nw
  refine wpAny_pure ⟨_, rfl, wpAny_pure ?_⟩
  show Q (some (.ref g2.objs.size)) _
  rw [sz]
  exact q x y _ _ hx hy (up _ _ (s2.extBut _ _ S.zi2 (s1.extBut _ _ S.zi1 zg))) (D1.frame _ _ _ (D1.over q1 s2 S.sep2_1) fun c _ o e => up c o e) (D2.frame _ _ _ q2 fun c _ o e => up c o e) nw fun c o c0 c1 c2 e => up c o (kp c o c0 c1 c2 e)
theorem held_over {Q : Option Value → Shared → Prop} (S : ZipSep2 z TI TO i1 i2 fs gs) (D1 : Draws prog w A.in1 i1 fs n P1 S1) (zh : IsZipHeld s.heap z TI TO T b) (th : s.heap.get? T = some oT)
    (tI : IsTupOf2 s.heap TI (.ref i1) (.ref i2)) (p1 : S1 n s.heap)
    (q : ∀ g tk, (∀ c o, c ≠ z → c ≠ i1 → c ≠ i2 → s.heap.get? c = some o → g.get? c = some o) → Q none { s with heap := g, toks := tk }) :
    wpAny (model prog w) A (pyNext (.ref z)) Q E s := by
  obtain ⟨hp, gl, dd, tk0, os⟩ := s
  have ty : Shared.TypeIs ⟨hp, gl, dd, tk0, os⟩ (.ref z) "zip" := ⟨_, zh, rfl⟩
  unfold pyNext
  refine wpAny_bind (wpAny_attempt (wpAny_callSpecial?_slot (name := Str.ofString "__next__") ty F.slot_zip_next (wpAny_call_entry F.slot_zip_next ty F.entry_zip_next ?_ (F.args_zip_next_1 _))))
  show wpAny _ _ (field (.ref z) 2 >>= _) _ _ _
  refine wpAny_bind (wpAny_field zh rfl (x := .bool false) rfl ?_)
  show wpAny _ _ (field (.ref z) 3 >>= _) _ _ _
  refine wpAny_bind (wpAny_field zh rfl (x := .ref TI) rfl (wpAny_bind (wpAny_seqItems tI rfl ?_)))
  show wpAny _ _ (Builtin.SmallTypes.ownedTupleIsFree (.ref z) >>= _) _ _ _
  refine wpAny_bind (wpAny_tupleHeld_zip zh th fun g0 zg s0 => ?_)
  simp only [Bool.false_eq_true, if_false]
  refine wpAny_bind ?_
  rw [← Array.forIn_toList]
  simp only [List.forIn_cons, List.forIn_nil]
  refine wpAny_bind (wpAny_bind (wpAny_holding ?_))
  show wpAny _ _ (Builtin.SmallTypes.nextOf (.ref i1) >>= _) _ _ _
  refine wpAny_bind (D1.done ⟨g0, gl, dd, tk0, os⟩ _ _ (D1.over p1 s0 S.zf1) fun g e x he => ?_)
  obtain ⟨o, ho, hc⟩ := he
  refine wpAny_bind (wpAny_isInstance (T := "StopIteration") (b := true) ⟨o, ho, hc⟩ isSubtype_stop (wpAny_pure (q _ _ fun c o c0 c1 c2 e => ?_)))
  replace x : Heap.ExtBut i1 g0 g := x
  exact x _ _ c1 (s0.extBut _ _ c0 e)
end
/-- what stands for zip as an argument of dict(): the first one has no more than the second one -/
theorem pairs_zip {prog : Program} {w : World} (A0 : Around) (h0 : A0.handled = none) {z TI TO i1 i2 : Addr} {fs gs : List Addr} {n : Nat} {P1 P2 : Nat → Value → Prop} {S1 S2 : Nat → Heap → Prop} (S : ZipSep2 z TI TO i1 i2 fs gs) (D1 : ∀ A : Around, A.handled = none → Draws prog w A i1 fs n P1 S1) (D2 : ∀ A : Around, A.handled = none → Draws prog w A i2 gs n P2 S2)
    (hk1 : ∀ h, S1 0 h → ∀ c ∈ fs, ∃ o, h.get? c = some o) (hk2 : ∀ h, S2 0 h → ∀ c ∈ gs, ∃ o, h.get? c = some o) :
    PairArg prog w "zip" z (z :: TI :: TO :: (fs ++ gs)) [z, TO, i1, i2] n (fun i k v => P1 i k ∧ P2 i v) (fun h => IsZip h z TI TO .none ∧ IsTupOf2 h TI (.ref i1) (.ref i2) ∧ (∃ a b, IsTupOf2 h TO a b) ∧ S1 0 h ∧ S2 0 h) where
  type := fun s ok => ⟨_, ok.1, rfl⟩
  notDict := by decide
  keep := fun h h' ok hk => by
    obtain ⟨o1, o2, ⟨a, b, o3⟩, o4, o5⟩ := ok
    exact ⟨hk _ _ o1, hk _ _ o2, ⟨a, b, hk _ _ o3⟩, (D1 A0 h0).frame _ _ _ o4 fun c _ o e => hk c o e, (D2 A0 h0).frame _ _ _ o5 fun c _ o e => hk c o e⟩
  there := fun h ok c hc => by
    obtain ⟨o1, o2, ⟨a, b, o3⟩, o4, o5⟩ := ok
    rcases List.mem_cons.mp hc with rfl | hc
    · exact ⟨_, o1⟩
    rcases List.mem_cons.mp hc with rfl | hc
    · exact ⟨_, o2⟩
    rcases List.mem_cons.mp hc with rfl | hc
    · exact ⟨_, o3⟩
    rcases List.mem_append.mp hc with hc | hc
    · exact hk1 h o4 c hc
    · exact hk2 h o5 c hc
  sub := fun c hc => by
    simp only [List.mem_cons, List.not_mem_nil, or_false, List.mem_append] at hc ⊢
    rcases hc with e | e | e | e
    · exact .inl e
    · exact .inr (.inr (.inl e))
    · exact .inr (.inr (.inr (.inl (e ▸ S.mem1))))
    · exact .inr (.inr (.inr (.inr (e ▸ S.mem2))))
  noKeys := fun A s Q E hA ok h => getAttrOr_miss_zip ok.1 rfl rfl rfl zip_no_keys (by decide +kernel) hA h
  iter := fun A s d Q E hA ok hd hdf h => by
    obtain ⟨o1, o2, ⟨a, b, o3⟩, o4, o5⟩ := ok
    simp only [List.mem_cons, List.mem_append, not_or] at hdf
    obtain ⟨dz, dI, dO, d1, d2⟩ := hdf
    have d1i : d ≠ i1 := fun e => d1 (e ▸ S.mem1)
    have d2i : d ≠ i2 := fun e => d2 (e ▸ S.mem2)
    have D1 := D1 A.in1 hA
    have D2 := D2 A.in1 hA
    refine wpAny_pyIter_zip o1 (h z [z, TO, i1, i2] (fun i h => IsTupOf2 h TI (.ref i1) (.ref i2) ∧ S1 i h ∧ S2 i h ∧
      ((IsZip h z TI TO .none ∧ ∃ a b, IsTupOf2 h TO a b) ∨ ∃ T f oT, IsZipHeld h z TI TO T f ∧ h.get? T = some oT ∧ T ≠ z ∧ T ≠ i1 ∧ T ≠ i2 ∧ T ≠ d)) s.heap s.toks ?_ ⟨o2, o4, o5, .inl ⟨o1, a, b, o3⟩⟩ (fun _ _ e => e) fun c hc => .inl hc)
    have off : ∀ {c : Addr}, c ∉ [z, TO, i1, i2] → c ≠ z ∧ c ≠ TO ∧ c ≠ i1 ∧ c ≠ i2 := fun hc => by simpa [not_or] using hc
    exact {
      off := by simp [dz, dO, d1i, d2i]
      frame := fun i g g' st hk => by
        obtain ⟨q1, q2, q3, q4⟩ := st
        refine ⟨hk _ _ (Ne.symm dI) q1, D1.frame _ _ _ q2 fun c hc o e => hk c o (fun x => d1 (x ▸ hc)) e, D2.frame _ _ _ q3 fun c hc o e => hk c o (fun x => d2 (x ▸ hc)) e, ?_⟩
        rcases q4 with ⟨u, a, b, v⟩ | ⟨T, f, oT, u, v, r1, r2, r3, r4⟩
        · exact .inl ⟨hk _ _ (Ne.symm dz) u, a, b, hk _ _ (Ne.symm dO) v⟩
        · exact .inr ⟨T, f, oT, hk _ _ (Ne.symm dz) u, hk _ _ r4 v, r1, r2, r3, r4⟩
      item := fun i s1 Q1 E1 hi st hds hQ => by
        obtain ⟨q1, q2, q3, q4⟩ := st
        have nw : ∀ {c : Addr} {o : Obj}, s1.heap.get? c = some o → s1.heap.objs.size ≠ c := fun e => Nat.ne_of_gt (Heap.lt_size e)
        have n1 : s1.heap.objs.size ≠ i1 := let ⟨_, e⟩ := D1.live _ _ q2; nw e
        have n2 : s1.heap.objs.size ≠ i2 := let ⟨_, e⟩ := D2.live _ _ q3; nw e
        rcases q4 with ⟨u, a, b, v⟩ | ⟨T, f, oT, u, v, r1, r2, r3, r4⟩
        · refine wpAny_pyNext_zipD2_item S D1 D2 u q1 v q2 q3 hi hi fun x y g tk hx hy a1 a2 a3 a4 a5 a6 hk => ?_
          exact hQ s1.heap.objs.size x y g tk ⟨hx, hy⟩ (.inl ⟨_, a5, rfl, _, rfl⟩) ⟨hk _ _ S.TIz S.TITO S.TIi1 S.TIi2 q1, a3, a4, .inr ⟨s1.heap.objs.size, false, _, a1, a5, nw u, n1, n2, Nat.ne_of_gt hds⟩⟩
            fun c o hc e => let ⟨c0, c1, c2, c3⟩ := off hc; hk c o c0 c1 c2 c3 e
        · refine held_next S D1 D2 u v q1 q2 q3 hi hi fun x y g tk hx hy a1 a3 a4 a5 hk => ?_
          exact hQ s1.heap.objs.size x y g tk ⟨hx, hy⟩ (.inl ⟨_, a5, rfl, _, rfl⟩) ⟨hk _ _ S.TIz S.TIi1 S.TIi2 q1, a3, a4, .inr ⟨T, true, oT, a1, hk _ _ r1 r2 r3 v, r1, r2, r3, r4⟩⟩
            fun c o hc e => let ⟨c0, c1, c2, c3⟩ := off hc; hk c o c0 c2 c3 e
      done := fun s1 Q1 E1 st hQ => by
        obtain ⟨q1, q2, q3, q4⟩ := st
        rcases q4 with ⟨u, a, b, v⟩ | ⟨T, f, oT, u, v, r1, r2, r3, r4⟩
        · exact wpAny_pyNext_zipD2_end S D1 D2 u q1 v q2 q3 (Nat.le_refl _) (Nat.le_refl _) (.inl rfl) fun g tk hk => hQ g tk fun c o hc e => let ⟨c0, c1, c2, c3⟩ := off hc; hk c o c0 c1 c2 c3 e
        · exact held_over S D1 u v q1 q2 fun g tk hk => hQ g tk fun c o hc e => let ⟨c0, c1, c2, c3⟩ := off hc; hk c o c0 c2 c3 e }
theorem zip_sep {N a b : Nat} (ha : a < N) (hb : b < N) : ZipSep2 (N + 4) (N + 2) (N + 3) N (N + 1) [N, a] [N + 1, b] := by
  have h1 : N + 2 ≠ N + 4 := by omega
  have h2 : N + 3 ≠ N + 4 := by omega
  have h3 : N + 2 ≠ N + 3 := by omega
  have h4 : N + 2 ≠ N := by omega
  have h5 : N + 2 ≠ N + 1 := by omega
  have h6 : ∀ k : Nat, k = 3 ∨ k = 4 → ¬ (N + k = N ∨ N + k = a) ∧ ¬ (N + k = N + 1 ∨ N + k = b) := fun k hk => by omega
  have h7 : ¬ (N = N + 1 ∨ N = b) ∧ ¬ (N + 1 = N ∨ N + 1 = a) := by omega
  refine ⟨h1, h2, h3, h4, by simp, ?_, ?_, h5, by simp, ?_, ?_, ?_, ?_⟩
  · intro z; exact (h6 4 (.inr rfl)).1 (by simpa only [List.mem_cons, List.not_mem_nil, or_false] using z)
  · intro z; exact (h6 3 (.inl rfl)).1 (by simpa only [List.mem_cons, List.not_mem_nil, or_false] using z)
  · intro z; exact (h6 4 (.inr rfl)).2 (by simpa only [List.mem_cons, List.not_mem_nil, or_false] using z)
  · intro z; exact (h6 3 (.inl rfl)).2 (by simpa only [List.mem_cons, List.not_mem_nil, or_false] using z)
  · intro z; exact h7.1 (by simpa only [List.mem_cons, List.not_mem_nil, or_false] using z)
  · intro z; exact h7.2 (by simpa only [List.mem_cons, List.not_mem_nil, or_false] using z)
section
variable {X : Cx}
def tTZip (K : PySem.W.Frag) (ta : TA) : TE := fun σ H Q => ta σ H fun vs H1 => ∃ (a b : Addr) (ks : List Key) (ys : List V), vs = [.ref a, .ref b] ∧ SqT K H1 a (ks.map kV) ∧ SqL K H1 b ys ∧ ks.length = ys.length ∧ ∀ p, H1 p = none → Q (.ref p) (upd H1 p (.dK (mergeK [] (ks.zip ys))))
theorem pe_dictZipT {e e2 : Expr} {ta : TA} {p pos p2 pos2 : Pos} (hc : X.calm = true) (hg : Gl X "dict") (hm : X.mg "dict" = none) (hgz : Gl X "zip") (hmz : X.mg "zip" = none) (ha : PA X [e, e2] ta)
    (hs : starEach [.Call (.Name "zip" p2) [e, e2] [] pos2] X.env = (false, eval (.Call (.Name "zip" p2) [e, e2] [] pos2) X.env) :: starEach [] X.env := by rfl)
    (hs2 : starEach [e, e2] X.env = (false, eval e X.env) :: starEach [e2] X.env := by rfl) (hpl : (backTo pos2 (starEach [e2] X.env)).any (·.1) = false := by rfl) :
    PE X (.Call (.Name "dict" p) [.Call (.Name "zip" p2) [e, e2] [] pos2] [] pos) (tTZip X.K ta) := by
  refine ⟨fun pins s σ H Q I h => ?_⟩
  refine wpAny_Call_Name_kw (ld_blt I hg hm (u := .type "dict") (by decide +kernel) (PyProof.Rows.callWith_type1 ?_ hs rfl))
  rw [hs]
  refine Calls.spliced_cons (Call_ (ld_blt I hgz hmz PyProof.Rows.boot_zip (PyProof.Rows.callWith_type1 (thn (ha.run pos2 pins s σ H _ I h) fun us s1 ⟨vs, H1, I1, r1, q1⟩ => ?_) hs2 hpl)))
  obtain ⟨a, b, ks, ys, rfl, ha1, hb1, hl, q⟩ := q1
  obtain ⟨u, v, rfl, ru, rv⟩ := vals2 r1
  cases ru
  cases rv
  obtain ⟨its, w1, p1, z1⟩ := I1.tuple ha1
  obtain ⟨its2, w2, p2, z2⟩ := I1.list hb1
  have n1 : its.length = ks.length := by rw [← w1.length, List.length_map]
  have n2 : its2.length = ks.length := by rw [← w2.length, hl]
  have t1 : s1.heap.IsTuple a its.toArray := p1
  have t2 : s1.heap.IsList b its2.toArray := p2.isList
  have b1 : a < s1.heap.objs.size := let ⟨_, e, _⟩ := t1; Heap.lt_size e
  have b2 : b < s1.heap.objs.size := let ⟨_, e, _⟩ := t2; Heap.lt_size e
  refine zip_begins2 (begins_tuple a its.toArray) (begins_list b its2.toArray) t1 t2 fun h' hz hTI hTO h1 h2 hsz hk => Calls.spliced_nil ?_
  have S : ZipSep2 (s1.heap.objs.size + 4) (s1.heap.objs.size + 2) (s1.heap.objs.size + 3) s1.heap.objs.size (s1.heap.objs.size + 1) [s1.heap.objs.size, a] [s1.heap.objs.size + 1, b] := by
    exact zip_sep b1 b2
  have D1 : ∀ A : Around, A.handled = none → Draws X.prog X.w A s1.heap.objs.size [s1.heap.objs.size, a] ks.length (fun i v => its.toArray[i]? = some v) (fun i h => h.IsTupleIter s1.heap.objs.size a i ∧ h.IsTuple a its.toArray) := fun A hA => by
    have := Draws.tuple (prog := X.prog) (w := X.w) hA s1.heap.objs.size a (Nat.ne_of_lt b1) its.toArray
    rw [show its.toArray.size = ks.length from by simpa using n1] at this
    exact this
  have D2 : ∀ A : Around, A.handled = none → Draws X.prog X.w A (s1.heap.objs.size + 1) [s1.heap.objs.size + 1, b] ks.length (fun i v => its2.toArray[i]? = some v) (fun i h => h.IsListIter (s1.heap.objs.size + 1) b i ∧ h.IsList b its2.toArray) := fun A hA => by
    have := Draws.list (prog := X.prog) (w := X.w) hA (s1.heap.objs.size + 1) b (Nat.ne_of_lt (Nat.lt_succ_of_lt b2)) its2.toArray
    rw [show its2.toArray.size = ks.length from by simpa using n2] at this
    exact this
  have PAg := pairs_zip _ (I1.ok.hd hc) S D1 D2 (fun h st c hc => by
    obtain ⟨⟨o1, e1, _⟩, ⟨o2, e2, _⟩⟩ := st
    simp only [List.mem_cons, List.not_mem_nil, or_false] at hc
    rcases hc with rfl | rfl
    · exact ⟨_, e1⟩
    · exact ⟨_, e2⟩) (fun h st c hc => by
    obtain ⟨⟨o1, e1, _⟩, ⟨o2, e2, _⟩⟩ := st
    simp only [List.mem_cons, List.not_mem_nil, or_false] at hc
    rcases hc with rfl | rfl
    · exact ⟨_, e1⟩
    · exact ⟨_, e2⟩)
  have have1 : PairsHave (mixKind X.prog X.w) ks.length (fun i k v => its.toArray[i]? = some k ∧ its2.toArray[i]? = some v) (ks.zip its2) := by
    refine ⟨by simp [n2], fun i k v ⟨e1, e2⟩ => ?_⟩
    have e1' : its[i]? = some k := by simpa using e1
    obtain ⟨x, hx, rx⟩ := vals_back w1 e1'
    rw [List.getElem?_map] at hx
    obtain ⟨key, hkey, rfl⟩ := Option.map_eq_some_iff.mp hx
    exact ⟨key, zip_at hkey (by simpa using e2), kV_is rx⟩
  have zs : ks.length ≤ sizeLine := by
    rw [List.length_map] at z1
    exact z1
  refine PySem.call_dict_pairs (knd := mixKind X.prog X.w) PAg (I1.ok.hd hc)
    ⟨hz, hTI, ⟨_, _, hTO⟩, ⟨⟨_, h1, rfl, rfl⟩, t1.at fun o e => hk _ o e⟩, ⟨⟨_, h2, rfl, rfl⟩, t2.at fun o e => hk _ o e⟩⟩ have1 zs fun h2' tk hd' k2 => ?_
  have up : s1.heap.objs.size ≤ h'.objs.size := by omega
  have hmod : (h'.objs.size == sysModules) = false := beq_eq_false_iff_ne.mpr (Nat.ne_of_gt (Nat.lt_of_lt_of_le I1.big up))
  have hlen : (mergeK [] (ks.zip ys)).length ≤ sizeLine := by
    refine Nat.le_trans (length_mergeK (ks.zip ys) []) ?_
    simp at zs ⊢
    omega
  refine ⟨.ref h'.objs.size, upd H1 h'.objs.size (.dK (mergeK [] (ks.zip ys))), I1.laid (t' := tk) (fun c o e => ?_) up (show ObjOk X.prog X.w _ _ _ (.dK (mergeK [] (ks.zip ys))) from ⟨hlen, hmod, merged [] (ks.zip its2), KV.merge (kv_zip w2) .nil, hd'⟩), rfl, q _ (I1.hok.fresh up)⟩
  refine k2 c o (fun hin => ?_) (hk c o e)
  have lt : c < s1.heap.objs.size := Heap.lt_size e
  simp only [List.mem_cons, List.not_mem_nil, or_false] at hin
  have ne : ∀ k : Nat, c ≠ s1.heap.objs.size + k := fun k e => absurd lt (by rw [e]; exact Nat.not_lt.mpr (Nat.le_add_right _ _))
  rcases hin with e | e | e | e
  · exact ne 4 e
  · exact ne 3 e
  · exact ne 0 e
  · exact ne 1 e
def dictZT : List D → Option D
  | [.tup _ l, .lst m] => (keysD l).bind fun ks => if ks.length = m.length then some (.dct ((mergeD (ks.zip m)).map (·.1)) ((mergeD (ks.zip m)).map (·.2))) else none
  | _ => none
theorem qe_dictZipT {e e2 : Expr} {m : Ma} {p pos p2 pos2 : Pos} (hc : X.calm = true) (hg : Gl X "dict") (hm : X.mg "dict" = none) (hgz : Gl X "zip") (hmz : X.mg "zip" = none) (ha : PA X [e, e2] (RA m))
    (hs : starEach [.Call (.Name "zip" p2) [e, e2] [] pos2] X.env = (false, eval (.Call (.Name "zip" p2) [e, e2] [] pos2) X.env) :: starEach [] X.env := by rfl)
    (hs2 : starEach [e, e2] X.env = (false, eval e X.env) :: starEach [e2] X.env := by rfl) (hpl : (backTo pos2 (starEach [e2] X.env)).any (·.1) = false := by rfl) :
    PE X (.Call (.Name "dict" p) [.Call (.Name "zip" p2) [e, e2] [] pos2] [] pos) (R (mCall dictZT m)) := by
  refine imp (pe_lock (pe_dictZipT hc hg hm hgz hmz ha hs hs2 hpl)) fun σ H Q ⟨G, ρ, d, ρ', rp, e, k⟩ => ?_
  obtain ⟨l, e1, e2⟩ := mCall_inv e
  refine ⟨G, ρ, l, ρ', rp, e1, fun G1 H1 vs t hv => ?_⟩
  unfold dictZT at e2
  split at e2
  · obtain ⟨ks, e3, e2⟩ := bnd e2
    obtain ⟨hl, rfl⟩ := some_if e2
    obtain ⟨v, w, rfl, h1, h2⟩ := two_inv hv
    obtain ⟨a, ys, rfl, h4, z⟩ := tup_cases X.K h1
    cases h2 with
    | lst g3 g4 =>
      have sq := z H1 t.rep.le
      rw [keysD_v h4 e3] at sq
      exact ⟨_, _, ks, _, rfl, sq, sq_l (t.rep.le _ _ g3), by rw [hl, dda_len g4], fun p hp => Ans.dct (fun G2 H2 v ex hv2 => k G2 H2 v (t.trans (Tr.ext t.rep ex)) hv2) t.rep.le hp (KD.merge (kd_zip g4) .nil)⟩
  · cases e2
end
end Pl
namespace Pl
open PySem PySem.Spec PyProof.Rows L2 Kn
/-! a dict of lists that is filled pair by pair: who is told whom -/
def pairS : D → Option (Str × Str)
  | .tup _ [.str a, .str b] => some (a, b)
  | .lst [.str a, .str b] => some (a, b)
  | _ => none
def pairsS : List D → Option (List (Str × Str))
  | [] => some []
  | d :: ds => (pairS d).bind fun p => (pairsS ds).map (p :: ·)
def putG : List (Str × List Str) → Str → Str → List (Str × List Str)
  | [], n, w => [(n, [w])]
  | kv :: r, n, w => if kv.1 = n then (kv.1, kv.2 ++ [w]) :: r else kv :: putG r n w
def gathM (ps : List (Str × Str)) : List (Str × List Str) := ps.foldl (fun kvs p => putG kvs p.2 p.1) []
/-- .. with the lists' own addresses -/
abbrev Cs := List (Str × List Str × Addr)
def csD (cs : Cs) : List (Key × V) := cs.map fun e => (Sum.inr e.1, V.ref e.2.2)
def csK (cs : Cs) : List (Str × List Str) := cs.map fun e => (e.1, e.2.1)
def putC : Cs → Str → Str → Addr → Cs
  | [], n, w, z => [(n, [w], z)]
  | e :: r, n, w, z => if e.1 = n then (e.1, e.2.1 ++ [w], e.2.2) :: r else e :: putC r n w z
theorem putC_K : ∀ (cs : Cs) (n w : Str) (z : Addr), csK (putC cs n w z) = putG (csK cs) n w
  | [], _, _, _ => rfl
  | e :: r, n, w, z => by
    show csK (if e.1 = n then _ else _) = if e.1 = n then _ else _
    by_cases h : e.1 = n
    · rw [if_pos h, if_pos h]
      rfl
    · rw [if_neg h, if_neg h]
      show (e.1, e.2.1) :: csK (putC r n w z) = _
      rw [putC_K r]
      rfl
theorem putC_len (cs : Cs) (n w : Str) (z : Addr) : (putC cs n w z).length ≤ cs.length + 1 := by
  induction cs with
  | nil => exact Nat.le_refl _
  | cons e r ih =>
    show (if e.1 = n then (e.1, e.2.1 ++ [w], e.2.2) :: r else e :: putC r n w z).length ≤ r.length + 1 + 1
    split
    · show r.length + 1 ≤ _
      omega
    · show (putC r n w z).length + 1 ≤ _
      omega
theorem putC_old : ∀ (cs : Cs) (n w : Str) (z : Addr) (v : V), (cs.map (·.2.2)).Nodup → valV (csD cs) (Sum.inr n) = some v →
    ∃ (a : Addr) (xs : List Str), v = .ref a ∧ (n, xs, a) ∈ cs ∧ csD (putC cs n w z) = csD cs ∧ (∀ e ∈ putC cs n w z, (e ∈ cs ∧ e.2.2 ≠ a) ∨ e = (n, xs ++ [w], a)) ∧ (putC cs n w z).map (·.2.2) = cs.map (·.2.2)
  | [], n, w, z, v, _, h => nomatch h
  | e :: r, n, w, z, v, nd, h => by
    obtain ⟨nd1, nd2⟩ := List.nodup_cons.mp nd
    by_cases c : e.1 = n
    · have h : valV ((Sum.inr e.1, V.ref e.2.2) :: csD r) (Sum.inr n : Key) = some v := h
      rw [valV_pos (show (Sum.inr e.1 : Key) = Sum.inr n by rw [c])] at h
      cases h
      refine ⟨e.2.2, e.2.1, rfl, by rw [← c]; exact List.mem_cons_self .., ?_⟩
      have ep : putC (e :: r) n w z = (e.1, e.2.1 ++ [w], e.2.2) :: r := if_pos c
      rw [ep]
      refine ⟨rfl, fun x hx => ?_, rfl⟩
      rcases List.mem_cons.mp hx with rfl | hx
      · exact .inr (by rw [c])
      · exact .inl ⟨List.mem_cons_of_mem _ hx, fun y => nd1 (by
        show e.2.2 ∈ _
        rw [← y]
        exact List.mem_map_of_mem (f := fun x : Str × List Str × Addr => x.2.2) hx)⟩
    · have h : valV ((Sum.inr e.1, V.ref e.2.2) :: csD r) (Sum.inr n : Key) = some v := h
      rw [valV_neg fun y => c (Sum.inr.inj y)] at h
      obtain ⟨a, xs, h1, h2, h3, h4, h5⟩ := putC_old r n w z v nd2 h
      have ep : putC (e :: r) n w z = e :: putC r n w z := if_neg c
      rw [ep]
      refine ⟨a, xs, h1, List.mem_cons_of_mem _ h2, ?_, fun x hx => ?_, ?_⟩
      · show _ :: csD (putC r n w z) = _
        rw [h3]
        rfl
      · rcases List.mem_cons.mp hx with rfl | hx
        · exact .inl ⟨List.mem_cons_self .., fun y => nd1 (by
          show x.2.2 ∈ _
          rw [y]
          exact List.mem_map_of_mem (f := fun x : Str × List Str × Addr => x.2.2) h2)⟩
        · exact (h4 x hx).imp_left fun q => ⟨List.mem_cons_of_mem _ q.1, q.2⟩
      · rw [List.map_cons, h5, List.map_cons]
theorem putC_new : ∀ (cs : Cs) (n w : Str) (z : Addr), valV (csD cs) (Sum.inr n) = none → putC cs n w z = cs ++ [(n, [w], z)] ∧ putK (csD cs) (Sum.inr n) (.ref z) = csD cs ++ [(Sum.inr n, .ref z)]
  | cs, n, w, z, h => by
    refine ⟨?_, ?_⟩
    · induction cs with
      | nil => rfl
      | cons e r ih =>
        have h : valV ((Sum.inr e.1, V.ref e.2.2) :: csD r) (Sum.inr n : Key) = none := h
        have c : ¬ e.1 = n := fun c => by
          rw [valV_pos (show (Sum.inr e.1 : Key) = Sum.inr n by rw [c])] at h
          cases h
        rw [valV_neg fun y => c (Sum.inr.inj y)] at h
        show (if e.1 = n then _ else e :: putC r n w z) = _
        rw [if_neg c, ih h]
        rfl
    · unfold putK
      rw [valV_any, h]
      rfl
variable [Tbs]
def mGath (m : Ms) : Ms := fun ρ => match ρ with
  | [.val d, .un, .un, .un] => (seqD d).bind fun l => (pairsS l).bind fun ps => if ps.length ≤ 1000 then m [.val d, .val (.dct ((gathM ps).map fun kv => Sum.inr kv.1) ((gathM ps).map fun kv => .lst (kv.2.map D.str))), .un, .un] else none
  | _ => none
section
variable {X : Cx}
theorem pss_lock {sts : List Stmt} {t : TS} (h : PSs X sts t) : PSs X sts fun D σ H => ∃ a u, H a = some u ∧ Mut (some u) ∧ ∀ o, t D σ (upd H a (.frz o u)) :=
  ⟨fun pins s σ H D I ⟨a, u, h1, mu, q⟩ => by
    obtain ⟨od, I'⟩ := I.lock h1 mu
    exact h.run pins s σ _ D I' (q od)⟩
theorem pairs_at {G : Hp} : ∀ {vs : List V} {ds : List D} {ps : List (Str × Str)}, DdA G vs ds → pairsS ds = some ps → ps.length = vs.length ∧ ∀ (i : Nat) (v : V), vs[i]? = some v → ∃ p a, ps[i]? = some p ∧ v = .ref a ∧ ((∀ (K : PySem.W.Frag) (H : Hp), Same G H → SqT K H a [.str p.1, .str p.2]) ∨ ∀ (K : PySem.W.Frag) (H : Hp), Same G H → SqL K H a [.str p.1, .str p.2])
  | _, _, _, .nil, e => by cases e; exact ⟨rfl, fun i v h => by simp at h⟩
  | _, _, _, .cons (v := v0) (d := d) h t, e => by
    obtain ⟨p, e1, e⟩ := bnd e
    obtain ⟨ps, e2, rfl⟩ := mpd e
    obtain ⟨l1, l2⟩ := pairs_at t e2
    refine ⟨by rw [List.length_cons, List.length_cons, l1], fun i v hv => ?_⟩
    cases i with
    | succ i => exact l2 i v hv
    | zero =>
      cases hv
      refine ⟨p, ?_⟩
      unfold pairS at e1
      split at e1
      · rename_i w a b
        cases e1
        cases h with
        | tupM h1 h2 =>
          obtain ⟨x, y, rfl, f1, f2⟩ := two_inv h2
          cases f1
          cases f2
          exact ⟨_, rfl, rfl, .inl fun K H s => (h1.same s).sq⟩
        | tupW h1 h2 =>
          obtain ⟨x, y, rfl, f1, f2⟩ := two_inv h2
          cases f1
          cases f2
          exact ⟨_, rfl, rfl, .inl fun K H s => sq_t (s _ _ h1)⟩
      · cases e1
        cases h with
        | lst h1 h2 =>
          obtain ⟨x, y, rfl, f1, f2⟩ := two_inv h2
          cases f1
          cases f2
          exact ⟨_, rfl, rfl, .inr fun K H s => sq_l (s _ _ h1)⟩
      · cases e1
theorem seq_at {G : Hp} {v : V} {d : D} {l : List D} (h : Dd G v d) (e : seqD d = some l) : ∃ a vs, v = .ref a ∧ DdA G vs l ∧ ((∀ (K : PySem.W.Frag) (H : Hp), Same G H → SqL K H a vs) ∨ ∀ (K : PySem.W.Frag) (H : Hp), Same G H → SqT K H a vs) := by
  rcases seqD_inv e with rfl | ⟨w, rfl⟩
  · cases h with
    | lst h1 h2 => exact ⟨_, _, rfl, h2, .inl fun K H s => sq_l (s _ _ h1)⟩
  · cases h with
    | tupM h1 h2 => exact ⟨_, _, rfl, h2, .inr fun K H s => (h1.same s).sq⟩
    | tupW h1 h2 => exact ⟨_, _, rfl, h2, .inr fun K H s => sq_t (s _ _ h1)⟩
/-- the filler's heap: from H0, where c is an empty dict -/
structure Fil (H0 : Hp) (c : Addr) (kvs : List (Str × List Str)) (cs : Cs) (H : Hp) : Prop where
  k : csK cs = kvs
  d : H c = some (.dK (csD cs))
  l : ∀ e ∈ cs, H e.2.2 = some (.lst (e.2.1.map V.str)) ∧ H0 e.2.2 = none
  n : (cs.map (·.2.2)).Nodup
  o : ∀ b u, H0 b = some u → b ≠ c → H b = some u
  t : LamX.Tabs Tbs.T H
  m : ∀ b, H b = none → H0 b = none
abbrev tFil (K : PySem.W.Frag) : TS := tDrop (tBM K "list" rAppend (tDSetd (tVar 1) (tVar 3) (tLst tNil)) (tCons (tVar 2) tNil))
theorem fil_step {K : PySem.W.Frag} {H0 H : Hp} {c : Addr} {kvs : List (Str × List Str)} {cs : Cs} {n w : Str} {v0 : Option V} {D : Ends} (F : Fil H0 c kvs cs H) (hc : ∃ u, H0 c = some u) (hl : cs.length ≤ 1000) (hx : ∀ e ∈ cs, e.2.1.length ≤ 1000) (hD : ∀ H' cs', Fil H0 c (putG kvs n w) cs' H' → D.nx [v0, some (.ref c), some (.str w), some (.str n)] H') :
    tFil K D [v0, some (.ref c), some (.str w), some (.str n)] H := by
  refine ⟨.ref c, rfl, c, rfl, .inl ⟨_, .inl F.d⟩, .str n, rfl, (by show 0 ≤ sizeLine; decide), fun z nz => ?_⟩
  have zc : c ≠ z := fun e => by
    have := F.d
    rw [e, nz] at this
    cases this
  have c2 : (upd H z (.lst [])) c = some (.dK (csD cs)) := by rw [upd_ne zc]; exact F.d
  have t2 : LamX.Tabs Tbs.T (upd H z (.lst [])) := tabs_same F.t (same_new nz)
  have nz0 : H0 z = none := F.m z nz
  have ll : (csD cs).length < sizeLine := by
    unfold csD
    rw [List.length_map]
    exact Nat.lt_of_le_of_lt hl (by decide)
  refine ⟨csD cs, Sum.inr n, c2, rfl, ll, fun v hv => ?_, fun hv => ?_⟩
  · obtain ⟨a, xs, rfl, ha, h3, h4, h5⟩ := putC_old cs n w z v F.n hv
    obtain ⟨la, na⟩ := F.l _ ha
    have az : a ≠ z := fun e => by
      rw [e, nz] at la
      cases la
    have ac : a ≠ c := fun e => by
      rw [e, F.d] at la
      cases la
    have la2 : (upd H z (.lst [])) a = some (.lst (xs.map V.str)) := by rw [upd_ne az]; exact la
    refine ⟨.inl ⟨rfl, _, sq_l la2⟩, .str w, rfl, a, _, .str w, rfl, rfl, la2, ?_, hD _ (putC cs n w z) ⟨?_, ?_, fun e he => ?_, ?_, fun b u hb nb => ?_, ?_, fun b hb => ?_⟩⟩
    · rw [List.length_map]
      exact Nat.lt_of_le_of_lt (hx _ ha) (by decide)
    · rw [putC_K, F.k]
    · rw [upd_ne (Ne.symm ac), h3]
      exact c2
    · rcases h4 e he with ⟨h6, h7⟩ | rfl
      · obtain ⟨l1, l2⟩ := F.l e h6
        have ez : e.2.2 ≠ z := fun y => by rw [y, nz] at l1; cases l1
        exact ⟨by rw [upd_ne h7, upd_ne ez]; exact l1, l2⟩
      · refine ⟨?_, na⟩
        show (upd _ a _) a = _
        rw [upd_same, List.map_append]
        rfl
    · rw [h5]
      exact F.n
    · have ba : b ≠ a := fun y => by rw [y, na] at hb; cases hb
      have bz : b ≠ z := fun y => by rw [y, nz0] at hb; cases hb
      rw [upd_ne ba, upd_ne bz]
      exact F.o b u hb nb
    · exact tabs_put t2 fun u hu => by rw [la2] at hu; cases hu; exact .inl ⟨_, rfl⟩
    · by_cases ba : b = a
      · rw [ba]; exact na
      · rw [upd_ne ba] at hb
        by_cases bz : b = z
        · rw [bz]; exact nz0
        · rw [upd_ne bz] at hb
          exact F.m b hb
  · obtain ⟨h3, h4⟩ := putC_new cs n w z hv
    rw [h4]
    have lz : (upd (upd H z (.lst [])) c (.dK (csD cs ++ [(Sum.inr n, .ref z)]))) z = some (.lst []) := by rw [upd_ne (Ne.symm zc), upd_same]
    refine ⟨.inl ⟨rfl, _, sq_l lz⟩, .str w, rfl, z, _, .str w, rfl, rfl, lz, by decide, hD _ (cs ++ [(n, [w], z)]) ⟨?_, ?_, fun e he => ?_, ?_, fun b u hb nb => ?_, ?_, fun b hb => ?_⟩⟩
    · rw [← h3, putC_K, F.k]
    · rw [upd_ne zc, upd_same]
      unfold csD
      rw [List.map_append]
      rfl
    · rcases List.mem_append.mp he with he | he
      · obtain ⟨l1, l2⟩ := F.l e he
        have ez : e.2.2 ≠ z := fun y => by rw [y, nz] at l1; cases l1
        have ec : e.2.2 ≠ c := fun y => by rw [y, F.d] at l1; cases l1
        exact ⟨by rw [upd_ne ez, upd_ne ec, upd_ne ez]; exact l1, l2⟩
      · obtain rfl := List.mem_singleton.mp he
        exact ⟨upd_same, nz0⟩
    · rw [List.map_append, List.nodup_append]
      refine ⟨F.n, by simp, fun a ha b hb e => ?_⟩
      rw [List.mem_singleton.mp hb] at e
      obtain ⟨e', he', rfl⟩ := List.mem_map.mp ha
      have l1 := (F.l e' he').1
      rw [show e'.2.2 = z from e, nz] at l1
      cases l1
    · have bz : b ≠ z := fun y => by rw [y, nz0] at hb; cases hb
      rw [upd_ne bz, upd_ne nb, upd_ne bz]
      exact F.o b u hb nb
    · exact tabs_put (tabs_put t2 fun u hu => by rw [c2] at hu; cases hu; exact .inr (.inl ⟨_, rfl⟩)) fun u hu => by rw [lz] at hu; cases hu; exact .inl ⟨_, rfl⟩
    · by_cases bz : b = z
      · rw [bz]; exact nz0
      · rw [upd_ne bz] at hb
        by_cases bc : b = c
        · rw [bc, upd_same] at hb
          cases hb
        · rw [upd_ne bc, upd_ne bz] at hb
          exact F.m b hb
theorem putG_len {b : Nat} : ∀ (kvs : List (Str × List Str)) (n w : Str), (∀ kv ∈ kvs, kv.2.length ≤ b) → (∀ kv ∈ putG kvs n w, kv.2.length ≤ b + 1) ∧ (putG kvs n w).length ≤ kvs.length + 1
  | [], n, w, h => ⟨fun kv hk => by
      obtain rfl := List.mem_singleton.mp hk
      show 1 ≤ b + 1
      omega, Nat.le_refl _⟩
  | kv :: r, n, w, h => by
    obtain ⟨h1, h2⟩ := putG_len r n w fun x hx => h x (List.mem_cons_of_mem _ hx)
    have h0 := h kv (List.mem_cons_self ..)
    by_cases c : kv.1 = n
    · have e : putG (kv :: r) n w = (kv.1, kv.2 ++ [w]) :: r := if_pos c
      rw [e]
      refine ⟨fun x hx => ?_, by simp⟩
      rcases List.mem_cons.mp hx with rfl | hx
      · show (kv.2 ++ [w]).length ≤ b + 1
        rw [List.length_append, List.length_singleton]
        omega
      · have := h x (List.mem_cons_of_mem _ hx)
        omega
    · have e : putG (kv :: r) n w = kv :: putG r n w := if_neg c
      rw [e]
      refine ⟨fun x hx => ?_, by simp; omega⟩
      rcases List.mem_cons.mp hx with rfl | hx
      · omega
      · exact h1 x hx
theorem gath_snoc (ps : List (Str × Str)) (p : Str × Str) : gathM (ps ++ [p]) = putG (gathM ps) p.2 p.1 := by
  unfold gathM
  rw [List.foldl_append]
  rfl
theorem gath_take {ps : List (Str × Str)} {i : Nat} {p : Str × Str} (h : ps[i]? = some p) : gathM (ps.take (i + 1)) = putG (gathM (ps.take i)) p.2 p.1 := by
  obtain ⟨hi, e⟩ := List.getElem?_eq_some_iff.mp h
  rw [← List.take_append_getElem hi, gath_snoc, e]
theorem gath_len (ps : List (Str × Str)) : ∀ i, (∀ kv ∈ gathM (ps.take i), kv.2.length ≤ i) ∧ (gathM (ps.take i)).length ≤ i
  | 0 => ⟨fun kv hk => (nomatch hk), Nat.le_refl _⟩
  | i + 1 => by
    obtain ⟨h1, h2⟩ := gath_len ps i
    cases e : ps[i]? with
    | none =>
      have : ps.take (i + 1) = ps.take i := by
        have := List.getElem?_eq_none_iff.mp e
        rw [List.take_of_length_le (by omega), List.take_of_length_le this]
      rw [this]
      exact ⟨fun kv hk => Nat.le_succ_of_le (h1 kv hk), Nat.le_succ_of_le h2⟩
    | some p =>
      rw [gath_take e]
      obtain ⟨h3, h4⟩ := putG_len (b := i) (gathM (ps.take i)) p.2 p.1 h1
      exact ⟨h3, by omega⟩
/-- the lists, for good -/
theorem for_good {H : Hp} : ∀ (cs : Cs) {G : Hp}, Le G H → (∀ e ∈ cs, H e.2.2 = some (.lst (e.2.1.map V.str)) ∧ G e.2.2 = none) → (cs.map (·.2.2)).Nodup →
    ∃ G', Same G G' ∧ Le G' H ∧ (∀ e ∈ cs, G' e.2.2 = some (.lst (e.2.1.map V.str))) ∧ ∀ b, G b = none → (∀ e ∈ cs, b ≠ e.2.2) → G' b = none
  | [], G, le, _, _ => ⟨G, Same.refl G, le, fun e he => (nomatch he), fun _ h _ => h⟩
  | e :: cs, G, le, h, nd => by
    obtain ⟨nd1, nd2⟩ := List.nodup_cons.mp nd
    obtain ⟨h1, h2⟩ := h e (List.mem_cons_self ..)
    have ne : ∀ x ∈ cs, x.2.2 ≠ e.2.2 := fun x hx y => nd1 (by
      show e.2.2 ∈ _
      rw [← y]
      exact List.mem_map_of_mem (f := fun x : Str × List Str × Addr => x.2.2) hx)
    obtain ⟨G', s1, l1, a1, n1⟩ := for_good cs (G := upd G e.2.2 (.lst (e.2.1.map V.str))) (le.good h1 nt_lst) (fun x hx => ⟨(h x (List.mem_cons_of_mem _ hx)).1, by rw [upd_ne (ne x hx)]; exact (h x (List.mem_cons_of_mem _ hx)).2⟩) nd2
    refine ⟨G', (same_new h2).trans s1, l1, fun x hx => ?_, fun b hb hn => n1 b (by rw [upd_ne (hn e (List.mem_cons_self ..))]; exact hb) fun x hx => hn x (List.mem_cons_of_mem _ hx)⟩
    rcases List.mem_cons.mp hx with rfl | hx
    · exact s1 _ _ upd_same
    · exact a1 x hx
theorem dda_cs {G : Hp} : ∀ cs : Cs, (∀ e ∈ cs, G e.2.2 = some (.lst (e.2.1.map V.str))) → DdA G ((csD cs).map (·.2)) ((csK cs).map fun kv => .lst (kv.2.map D.str))
  | [], _ => .nil
  | e :: cs, h => .cons (.lst (h e (List.mem_cons_self ..)) (dda_of_strs _)) (dda_cs cs fun x hx => h x (List.mem_cons_of_mem _ hx))
abbrev gTwo : TGs := gCons (gName 2) (gCons (gName 3) gNil)
theorem qss_gath {st1 st2 : Stmt} {rest : List Stmt} {m : Ms} (h1 : PS X st1 (tAsg tDNewK (gName 1)))
    (h2 : PS X st2 (tFor (fun σ H R => iList X.K (tVar 0) σ H R ∨ iTup X.K (tVar 0) σ H R) (fun v σ H Q => gTup X.K 2 gTwo v σ H Q ∨ gUnl X.K 2 gTwo v σ H Q) (tFil X.K))) (h3 : PSs X rest (RS m)) : PSs X (st1 :: st2 :: rest) (RS (mGath m)) := by
  refine impSs (pss_cons h1 (pss_cons h2 (pss_lock h3))) fun D σ H ⟨G, ρ, o, r, e, f⟩ => ?_
  unfold mGath at e
  split at e
  · rename_i d
    obtain ⟨l, e1, e⟩ := bnd e
    obtain ⟨ps, e2, e⟩ := bnd e
    split at e
    · rename_i hps
      obtain ⟨v0, hv0, dv⟩ := r.val (i := 0) rfl
      obtain ⟨x1, x2, x3, rfl⟩ : ∃ x1 x2 x3, σ = [some v0, x1, x2, x3] := by
        have hl := r.len
        match σ, hl, hv0 with
        | [a, b, c, d], _, h => exact ⟨b, c, d, by cases h; rfl⟩
      obtain ⟨a, vs, rfl, dvs, sq⟩ := seq_at dv e1
      obtain ⟨pl, pa⟩ := pairs_at dvs e2
      refine fun c nc => ?_
      have gc : G c = none := r.le.free nc
      have sc : Same H (upd H c (.dK [])) := same_new nc
      have c0 : (upd H c (.dK [])) c = some (.dK []) := upd_same
      have t0 : LamX.Tabs Tbs.T (upd H c (.dK [])) := tabs_same r.le.tb sc
      show tSeq _ _ D [some (V.ref a), some (.ref c), x2, x3] (upd H c (.dK []))
      generalize hH0 : upd H c (.dK []) = H0 at sc c0 t0 ⊢
      have dm : ∀ b, H0 b = none → H b = none := fun b hb => by
        cases eb : H b with
        | none => rfl
        | some u => rw [sc b u eb] at hb; cases hb
      have sG : Same G H0 := r.le.same.trans sc
      obtain ⟨PV, hPV⟩ : ∃ PV : Nat → L2.St → Hp → Prop, PV = fun i σ2 H2 => ∃ cs x y, σ2 = [some (.ref a), some (.ref c), x, y] ∧ Fil H0 c (gathM (ps.take i)) cs H2 := ⟨_, rfl⟩
      have same : ∀ {i σ2 H2}, PV i σ2 H2 → Same G H2 := fun {i σ2 H2} h => by
        rw [hPV] at h
        obtain ⟨cs, x, y, _, F⟩ := h
        exact fun b u hb => F.o b u (sG b u hb) (ne_of_none hb gc)
      have b0 : PV 0 [some (.ref a), some (.ref c), x2, x3] H0 := by
        rw [hPV]
        exact ⟨[], x2, x3, rfl, rfl, c0, fun e he => (nomatch he), List.nodup_nil, fun b u hb _ => hb, t0, fun b hb => hb⟩
      have step : ∀ (D2 : Ends) (i : Nat) (x : V) (σ2 : L2.St) (H2 H3 : Hp), i < vs.length → PV i σ2 H2 → YAt vs i H2 x H3 → (∀ σ' H', PV (i + 1) σ' H' → D2.nx σ' H') → gTup X.K 2 gTwo x σ2 H3 (fun σ4 H4 => tFil X.K D2 σ4 H4) ∨ gUnl X.K 2 gTwo x σ2 H3 (fun σ4 H4 => tFil X.K D2 σ4 H4) := fun D2 i x σ2 H2 H3 hi hp hy hn => by
        have s2 := same hp
        obtain ⟨rfl, hx⟩ := hy
        obtain ⟨p, t, hpi, rfl, hq⟩ := pa i x hx
        rw [hPV] at hp
        obtain ⟨cs, y2, y3, rfl, F⟩ := hp
        obtain ⟨g1, g2⟩ := gath_len ps i
        have le1 : i ≤ 1000 := by omega
        have body := fil_step (K := X.K) (v0 := some (.ref a)) (n := p.2) (w := p.1) (D := D2) F ⟨_, c0⟩ (by
          have : cs.length = (gathM (ps.take i)).length := by rw [← F.k]; exact (List.length_map _).symm
          omega) (fun e he => by
          have : (e.1, e.2.1) ∈ gathM (ps.take i) := by rw [← F.k]; exact List.mem_map_of_mem (f := fun e : Str × List Str × Addr => (e.1, e.2.1)) he
          exact Nat.le_trans (g1 _ this) le1) fun H' cs' F' => hn _ _ (by
            rw [hPV]
            exact ⟨cs', _, _, rfl, by rw [gath_take hpi]; exact F'⟩)
        rcases hq with hq | hq
        · exact .inl ⟨t, _, rfl, hq _ _ s2, rfl, _, _, rfl, _, _, rfl, rfl, body⟩
        · exact .inr ⟨t, _, rfl, hq _ _ s2, rfl, _, _, rfl, _, _, rfl, rfl, body⟩
      have done : ∀ (σ2 : L2.St) (H2 : Hp), PV vs.length σ2 H2 → ∃ a u, H2 a = some u ∧ Mut (some u) ∧ ∀ o, RS m D σ2 (upd H2 a (.frz o u)) := fun σ2 H2 hp => by
        have s2 := same hp
        rw [hPV] at hp
        obtain ⟨cs, y2, y3, rfl, F⟩ := hp
        rw [List.take_of_length_le (by omega)] at F
        refine ⟨c, _, F.d, trivial, fun ob => ?_⟩
        have nl : ∀ e ∈ cs, H e.2.2 = none := fun e he => dm _ (F.l e he).2
        have nec : ∀ e ∈ cs, e.2.2 ≠ c := fun e he y => by
          have := (F.l e he).2
          rw [y, c0] at this
          cases this
        have cF : (upd H2 c (.frz ob (.dK (csD cs)))) c = some (.frz ob (.dK (csD cs))) := upd_same
        have off : ∀ b u, H b = some u → (upd H2 c (.frz ob (.dK (csD cs)))) b = some u := fun b u hb => by
          have nb : b ≠ c := fun y => by rw [y, nc] at hb; cases hb
          rw [upd_ne nb]
          exact F.o b u (sc b u hb) nb
        have tF : LamX.Tabs Tbs.T (upd H2 c (.frz ob (.dK (csD cs)))) := tabs_put F.t fun u hu => by rw [F.d] at hu; cases hu; exact .inr (.inl ⟨_, rfl⟩)
        have lF : ∀ e ∈ cs, (upd H2 c (.frz ob (.dK (csD cs)))) e.2.2 = some (.lst (e.2.1.map V.str)) := fun e he => by rw [upd_ne (nec e he)]; exact (F.l e he).1
        have dF : ∀ b, (upd H2 c (.frz ob (.dK (csD cs)))) b = none → H b = none := fun b hb => by
          by_cases bc : b = c
          · rw [bc]; exact nc
          · rw [upd_ne bc] at hb
            exact dm b (F.m b hb)
        generalize upd H2 c (.frz ob (.dK (csD cs))) = HF at cF off tF lF dF ⊢
        have le0 : Le G HF := ⟨fun b u hb => off b u (r.le.same b u hb), tF, r.le.nt⟩
        obtain ⟨G1, sg1, le1, a1, n1⟩ := for_good cs le0 (fun e he => ⟨lF e he, r.le.free (nl e he)⟩) F.n
        have g1c : G1 c = none := n1 c gc fun e he y => nec e he y.symm
        have le2 : Le (upd G1 c (.frz ob (.dK (csD cs)))) HF := le1.good cF nt_frz
        have sg2 : Same G1 (upd G1 c (.frz ob (.dK (csD cs)))) := same_new g1c
        have dct : Dd (upd G1 c (.frz ob (.dK (csD cs)))) (.ref c) (.dct ((gathM ps).map fun kv => Sum.inr kv.1) ((gathM ps).map fun kv => .lst (kv.2.map Pl.D.str))) := by
          have := Dd.dct (G := upd G1 c (.frz ob (.dK (csD cs)))) (a := c) upd_same (dda_cs cs fun e he => sg2 _ _ (a1 e he))
          have ek : (csD cs).map (·.1) = (csK cs).map fun kv => (Sum.inr kv.1 : Key) := by
            unfold csD csK
            rw [List.map_map, List.map_map]
            rfl
          rw [ek, F.k] at this
          exact this
        have gF : Same G (upd G1 c (.frz ob (.dK (csD cs)))) := sg1.trans sg2
        have rep : Rep (upd G1 c (.frz ob (.dK (csD cs)))) HF [some (.ref a), some (.ref c), y2, y3] [.val d, .val (.dct ((gathM ps).map fun kv => Sum.inr kv.1) ((gathM ps).map fun kv => .lst (kv.2.map Pl.D.str))), .un, .un] := by
          refine ⟨le2, rfl, fun {i e} h => ?_, fun {i l e} h => ?_, fun {i j l l' e e' b} h => ?_⟩
          · match i, h with
            | 0, h => cases h; exact ⟨_, rfl, dd_same gF dv⟩
            | 1, h => cases h; exact ⟨_, rfl, dct⟩
            | 2, h => cases h
            | 3, h => cases h
            | i + 4, h => simp at h
          · match i, h with
            | 0, h => cases h
            | 1, h => cases h
            | 2, h => cases h
            | 3, h => cases h
            | i + 4, h => simp at h
          · match i, h with
            | 0, h => cases h
            | 1, h => cases h
            | 2, h => cases h
            | 3, h => cases h
            | i + 4, h => simp at h
        suffices tr : TrS G H [some (V.ref a), x1, x2, x3] [.val d, .un, .un, .un] (upd G1 c (.frz ob (.dK (csD cs)))) HF [some (.ref a), some (.ref c), y2, y3] [.val d, .val (.dct ((gathM ps).map fun kv => Sum.inr kv.1) ((gathM ps).map fun kv => .lst (kv.2.map Pl.D.str))), .un, .un] from ⟨_, _, o, rep, e, f.trans tr⟩
        refine ⟨⟨gF, le2, fun b u hb _ _ => off b u hb, fun b u hb gb _ _ => ?_, dF⟩, rep, fun b ⟨i, l, ds, h, _⟩ => ?_, rfl, fun {i ds} h => ?_⟩
        · have bc : b ≠ c := fun y => by rw [y, nc] at hb; cases hb
          rw [upd_ne bc]
          exact n1 b gb fun e he y => by rw [y, nl e he] at hb; cases hb
        · match i, h with
          | 0, h => cases h
          | 1, h => cases h
          | 2, h => cases h
          | 3, h => cases h
          | i + 4, h => simp at h
        · match i, h with
          | 0, h => cases h
          | 1, h => cases h
          | 2, h => cases h
          | 3, h => cases h
          | i + 4, h => simp at h
      rcases sq with sq | sq
      · refine .inl ⟨_, rfl, a, rfl, ⟨vs, sq _ _ sG⟩, ?_⟩
        exact for_it (g := fun v σ H Q => gTup X.K 2 gTwo v σ H Q ∨ gUnl X.K 2 gTwo v σ H Q) (tb := tFil X.K) walk_list PV b0 (fun i σ2 H2 _ hp => sq _ _ (same hp)) (fun i x σ2 H2 H3 hi hp hy => step _ i x σ2 H2 H3 hi hp hy fun _ _ z => z) done
      · refine .inr ⟨_, rfl, a, rfl, ⟨vs, sq _ _ sG⟩, ?_⟩
        exact for_it (g := fun v σ H Q => gTup X.K 2 gTwo v σ H Q ∨ gUnl X.K 2 gTwo v σ H Q) (tb := tFil X.K) walk_tup PV b0 (fun i σ2 H2 _ hp => sq _ _ (same hp)) (fun i x σ2 H2 H3 hi hp hy => step _ i x σ2 H2 H3 hi hp hy fun _ _ z => z) done
    · cases e
  · cases e
end
end Pl
namespace Pl
open PySem PySem.Spec PyProof.Rows L2 Kn
variable [Tbs]
section
variable {X : Cx}
/-! a, b, c, d = a list of four -/
def tg4 (i j k l : Nat) : Mg := fun d ρ => match d with
  | .lst [a, b, c, e] => (setV i a ρ).bind fun ρ1 => (setV j b ρ1).bind fun ρ2 => (setV k c ρ2).bind fun ρ3 => setV l e ρ3
  | _ => none
theorem four_inv {G : Hp} {xs : List V} {a b c d : D} (h : DdA G xs [a, b, c, d]) : ∃ x y z u, xs = [x, y, z, u] ∧ Dd G x a ∧ Dd G y b ∧ Dd G z c ∧ Dd G u d := by
  cases h with
  | cons h1 h => cases h with
    | cons h2 h => cases h with
      | cons h3 h => cases h with
        | cons h4 h => cases h; exact ⟨_, _, _, _, rfl, h1, h2, h3, h4⟩
theorem qg_four {i j k l : Nat} {es : List Expr} {kk : Nat} {pos : Pos} (h : PG X (.Tuple es kk pos) (gUnl X.K 4 (gCons (gName i) (gCons (gName j) (gCons (gName k) (gCons (gName l) gNil)))))) : PG X (.Tuple es kk pos) (RG [i, j, k, l] (tg4 i j k l)) := by
  refine impG h fun v σ H Q ⟨G, ρ, d, ρ', r, hv, e, q⟩ => ?_
  unfold tg4 at e
  split at e
  · rename_i a b c d'
    obtain ⟨ρ1, e1, e⟩ := bnd e
    obtain ⟨ρ2, e2, e⟩ := bnd e
    obtain ⟨ρ3, e3, e4⟩ := bnd e
    cases hv with
    | lst h1 h2 =>
      obtain ⟨x, y, u, w, rfl, f1, f2, f3, f4⟩ := four_inv h2
      obtain ⟨rfl, hi, ni⟩ := setV_inv e1
      obtain ⟨rfl, hj, nj⟩ := setV_inv e2
      obtain ⟨rfl, hk, nk⟩ := setV_inv e3
      obtain ⟨rfl, hl, nl⟩ := setV_inv e4
      refine ⟨_, _, rfl, sq_l (r.le _ _ h1), rfl, _, _, rfl, _, _, rfl, _, _, rfl, _, _, rfl, rfl, q _ ((((r.set f1 hi).set f2 hj).set f3 hk).set f4 hl) (by simp) (fun a ha => ?_) (fun a ha => ?_) (by simp)⟩
      · have a1 : i ≠ a := fun z => ha (by simp [z])
        have a2 : j ≠ a := fun z => ha (by simp [z])
        have a3 : k ≠ a := fun z => ha (by simp [z])
        have a4 : l ≠ a := fun z => ha (by simp [z])
        rw [List.getElem?_set_ne a4, List.getElem?_set_ne a3, List.getElem?_set_ne a2, List.getElem?_set_ne a1, List.getElem?_set_ne a4, List.getElem?_set_ne a3, List.getElem?_set_ne a2, List.getElem?_set_ne a1]
        exact ⟨rfl, rfl⟩
      · have na : noOwn ρ a := by
          rcases (show a = i ∨ a = j ∨ a = k ∨ a = l by simpa using ha) with rfl | rfl | rfl | rfl
          · exact ni
          · exact noOwn_unset ni nj
          · exact noOwn_unset ni (noOwn_unset nj nk)
          · exact noOwn_unset ni (noOwn_unset nj (noOwn_unset nk nl))
        exact ⟨na, noOwn_set (noOwn_set (noOwn_set (noOwn_set na)))⟩
  · cases e
end
end Pl
namespace Pl
open PySem PySem.Spec PyProof.Rows L2 Kn
variable [Tbs]
theorem vals3q {a b c : V} {us : List Value} (h : Vals [a, b, c] us) : ∃ x y z, us = [x, y, z] ∧ RelV a x ∧ RelV b y ∧ RelV c z := by
  cases h with
  | cons h1 h => cases h with
    | cons h2 h => cases h with
      | cons h3 h => cases h; exact ⟨_, _, _, rfl, h1, h2, h3⟩
section
variable {X : Cx}
/-! sorted(a list of triples: two whole numbers, a text) -/
abbrev Tq := Int × Int × Str
def encQ (p : Tq) : PyData := .tuple [.int p.1, .int p.2.1, .str p.2.2]
def leQ : Tq → Tq → Bool := PySem.W.dataLe false encQ
abbrev Bq := Addr × Tq
def leBq : Bq → Bq → Bool := PySem.W.dataLe false fun b => encQ b.2
def rSortQ (K : PySem.W.Frag) : List V → Hp → VK → Prop := fun vs H Q => ∃ (a : Addr) (bs : List Bq), vs = [V.ref a] ∧ SqL K H a (bs.map fun b => V.ref b.1) ∧ (∀ b ∈ bs, SqT K H b.1 [.int b.2.1, .int b.2.2.1, .str b.2.2.2]) ∧
  ∀ p, H p = none → Q (.ref p) (upd H p (.lst ((bs.mergeSort leBq).map fun b => V.ref b.1)))
theorem each_refsQ : ∀ (bs : List Bq) {its : List Value}, Vals (bs.map fun b => V.ref b.1) its → PySem.W.EachIs (fun (v : Value) (b : Bq) => v = .ref b.1) its bs
  | [], _, .nil => .nil
  | b :: bs, _, .cons r t => .cons r (each_refsQ bs t)
theorem vals_eachQ : ∀ {bs : List Bq} {its : List Value}, PySem.W.EachIs (fun (v : Value) (b : Bq) => v = .ref b.1) its bs → Vals (bs.map fun b => V.ref b.1) its
  | _, _, .nil => .nil
  | _, _, .cons r t => .cons r (vals_eachQ t)
theorem cr_sortQ (hu : X.A.units + 65 < cLine) : CallR X (.builtin "sorted") (rSortQ X.K) := by
  intro pins s σ H args us Q J rel want
  obtain ⟨a, bs, rfl, sq, tp, q⟩ := want
  rw [Vals.ref1 rel]
  obtain ⟨its, rv, pl, hz⟩ := J.list sq
  have e1 := each_refsQ bs rv
  have hz' : bs.length ≤ sizeLine := by rw [List.length_map] at hz; exact hz
  have er : PySem.W.EachIs (fun (v : Value) (b : Bq) => ∃ as, Reads s.heap v (encQ b.2) as) its bs := each_mem e1 fun v b hb e => by
    subst e
    obtain ⟨vs, rvs, ⟨ob, h1, h2, n, h3⟩, _⟩ := J.tuple (tp b hb)
    obtain ⟨x, y, z, rfl, rx, ry, rz⟩ := vals3q rvs
    obtain ⟨t1, rfl⟩ := rx
    obtain ⟨t2, rfl⟩ := ry
    obtain ⟨t3, rfl⟩ := rz
    exact ⟨_, .tuple h1 h2 h3 (.cons (.int _ _) (.cons (.int _ _) (.cons (.str _ _) .nil)))⟩
  refine PySem.W.sorted_data (R := fun (v : Value) (b : Bq) => v = .ref b.1) (enc := fun b : Bq => encQ b.2) pl.isList e1 er (PySem.W.AllAlike.of fun b b' => rfl) (PySem.W.Sortable.tuples fun b => ⟨_, _, rfl⟩) hz' (fun b hb => ?_) fun out ho eo => ?_
  · show X.A.units + 2 + 1 < cLine
    omega
  · obtain ⟨c, hc⟩ := sortedAll_at s.heap its out.toArray
    refine ⟨.ref (s.heap.objs.size + 1), upd H (s.heap.objs.size + 1) (.lst ((bs.mergeSort leBq).map fun b => V.ref b.1)), J.laid (t' := s.toks) (fun b o e => sortedAll_old e) (Nat.le_succ _) ?_, rfl, q _ (J.hok.fresh (Nat.le_succ _))⟩
    exact ⟨by rw [List.length_map, List.length_mergeSort]; exact hz', out, c, vals_eachQ eo, hc⟩
/-- pairs of whole numbers, told apart -/
def prsOfQ : List D → Option (List Tq)
  | [] => some []
  | .tup false [.int x, .int y, .str z] :: ds => (prsOfQ ds).map fun ps => (x, y, z) :: ps
  | _ :: _ => none
def sortQF : List D → Option (List D)
  | [.lst l] => (prsOfQ l).map fun ps => (ps.mergeSort leQ).map fun p => .tup false [.int p.1, .int p.2.1, .str p.2.2]
  | _ => none
theorem prsOfQ_dd {K : PySem.W.Frag} {G : Hp} : ∀ {l : List D} {xs : List V} {ps : List Tq}, DdA G xs l → prsOfQ l = some ps → ∃ bs : List Bq, xs = bs.map (fun b => V.ref b.1) ∧ bs.map (·.2) = ps ∧ ∀ b ∈ bs, Dd G (.ref b.1) (.tup false [.int b.2.1, .int b.2.2.1, .str b.2.2.2]) ∧ ∀ H, Same G H → SqT K H b.1 [.int b.2.1, .int b.2.2.1, .str b.2.2.2]
  | _, _, _, .nil, e => by
    cases e
    exact ⟨[], rfl, rfl, fun b hb => nomatch hb⟩
  | _, _, _, .cons (d := d) h t, e => by
    unfold prsOfQ at e
    split at e
    · cases ‹_ = []›
    · rename_i x y z ds he
      cases he
      obtain ⟨ps', e1, rfl⟩ := mpd e
      obtain ⟨bs, rfl, rfl, hb⟩ := prsOfQ_dd (K := K) t e1
      obtain ⟨a, xs, rfl, h4, zz⟩ := tup_cases K h
      obtain ⟨v, w, u, rfl, h5, h6, h7⟩ := three_inv h4
      cases h5
      cases h6
      cases h7
      refine ⟨(a, x, y, z) :: bs, rfl, rfl, fun b hb' => ?_⟩
      rcases List.mem_cons.mp hb' with rfl | hb'
      · exact ⟨h, zz⟩
      · exact hb b hb'
    · cases e
theorem dda_refsQ {G : Hp} : ∀ {bs : List Bq}, (∀ b ∈ bs, Dd G (.ref b.1) (.tup false [.int b.2.1, .int b.2.2.1, .str b.2.2.2])) → DdA G (bs.map fun b => V.ref b.1) ((bs.map (·.2)).map fun p => .tup false [.int p.1, .int p.2.1, .str p.2.2])
  | [], _ => .nil
  | b :: bs, h => .cons (h b (List.mem_cons_self ..)) (dda_refsQ fun c hc => h c (List.mem_cons_of_mem _ hc))
theorem c_sortQ (hu : X.A.units + 65 < cLine) : CallR X (.builtin "sorted") (rSortQ X.K) ∧ CallF (rSortQ X.K) sortQF := by
  refine ⟨cr_sortQ hu, fun G H vs ds d Q le hv e k => ?_⟩
  unfold sortQF at e
  split at e
  · obtain ⟨ps, e1, rfl⟩ := mpd e
    obtain ⟨v, rfl, h⟩ := one_inv hv
    cases h with
    | lst h1 h2 =>
      obtain ⟨bs, rfl, rfl, hb⟩ := prsOfQ_dd (K := X.K) h2 e1
      refine ⟨_, bs, rfl, sq_l (le _ _ h1), fun b hm => (hb b hm).2 H le, fun p hp => k.nw le hp ?_⟩
      rw [show (bs.map (·.2)).mergeSort leQ = (bs.mergeSort leBq).map (·.2) from (List.map_mergeSort (r := leBq) (s := leQ) (f := fun b : Bq => b.2) (l := bs) fun a _ b _ => rfl).symm]
      exact dda_refsQ fun b hm => (hb b ((List.mergeSort_perm bs leBq).mem_iff.mp hm)).1
  · cases e
end
/-! len(set(l)), l a list of whole numbers -/
section
variable {X : Cx}
def dciM (ns : List Int) : Nat := (PyProof.Rows.firstMet (fun i => ns.getD i 0) ns.length).length
def lenSI : D → Option D
  | .lst l => (intsO l).bind fun ns => if ns.length ≤ 4000 then some (.int ((dciM ns : Nat) : Int)) else none
  | _ => none
theorem pe_lenSI {a : Expr} {ta : TE} {p p2 q pos : Pos} (hc : X.calm = true) (hg : Gl X "len") (hm : X.mg "len" = none) (hg2 : Gl X "set") (hm2 : X.mg "set" = none) (ha : PE X a ta)
    (na : starEach [a] X.env = (false, eval a X.env) :: starEach [] X.env := by rfl) : PE X (.Call (.Name "len" p) [.Call (.Name "set" p2) [a] [] q] [] pos) (fun σ H Q => ta σ H fun x H1 => ∃ (l : Addr) (ns : List Int), x = .ref l ∧ SqL X.K H1 l (ns.map V.int) ∧ ns.length ≤ 4000 ∧ Q (.int ((dciM ns : Nat) : Int)) H1) := by
  refine ⟨fun pins s σ H Q I h => Call_ (ld_blt I hg hm boot_len (PyProof.Rows.callWith_builtin1 (PyProof.Rows.args_cons ?_ rfl) rfl rfl))⟩
  refine Call_ (ld_blt I hg2 hm2 boot_set (PyProof.Rows.callWith_type1 (PyProof.Rows.args_cons (thn (ha.run pins s σ H _ I h) fun v s1 ⟨x, H1, I1, r1, q1⟩ => PyProof.Rows.args_nil ?_) na) na rfl))
  obtain ⟨l, ns, rfl, hq, few, q1⟩ := q1
  cases r1
  obtain ⟨its, r, pl, hz⟩ := I1.list hq
  have il : its.toArray.size = ns.length := by
    have := r.length
    rw [List.length_map] at this
    rw [List.size_toArray, this]
  have fl := PyProof.Rows.firstMet_length_le (fun i => ns.getD i 0) ns.length
  refine PySem.call_set_list (ns := ns) (I1.ok.hd hc) pl.isList (by simpa using intsAre_of r) (by rw [il]; exact Nat.lt_of_le_of_lt (Nat.succ_le_succ few) (by decide)) fun h' tk F up => PyProof.Rows.args_nil ?_
  rw [il] at F
  obtain ⟨o, es, ep, t, ho, hx, hd, _, _, _, hf, en⟩ := F
  have I2 : Inv X pins σ H1 { s1 with heap := h', toks := tk } := I1.kept fun b u e => up b u (Heap.lt_size e) e
  exact call_len_set ho hx hd hf (by rw [en]; omega) ⟨.int ((dciM ns : Nat) : Int), H1, I2.tok _, ⟨_, by rw [en]; rfl⟩, q1⟩
theorem qe_lenSI {a : Expr} {m : Me} {p p2 q pos : Pos} (hc : X.calm = true) (hg : Gl X "len") (hm : X.mg "len" = none) (hg2 : Gl X "set") (hm2 : X.mg "set" = none) (ha : PE X a (R m))
    (na : starEach [a] X.env = (false, eval a X.env) :: starEach [] X.env := by rfl) : PE X (.Call (.Name "len" p) [.Call (.Name "set" p2) [a] [] q] [] pos) (R (m1 lenSI m)) := by
  refine imp (pe_lenSI hc hg hm hg2 hm2 ha na) fun σ H Q ⟨G, ρ, d, ρ', rp, e, k⟩ => ?_
  obtain ⟨x, e1, e2⟩ := m1_inv e
  refine ⟨G, ρ, x, ρ', rp, e1, fun G1 H1 v t hv => ?_⟩
  unfold lenSI at e2
  split at e2
  · obtain ⟨ns, e3, e2⟩ := bnd e2
    obtain ⟨few, rfl⟩ := some_if e2
    rw [intsO_inv e3] at hv
    cases hv with
    | lst h1 h2 =>
      obtain rfl := dda_ints h2
      exact ⟨_, ns, rfl, sq_l (t.rep.le _ _ h1), few, k G1 H1 _ t (.int _)⟩
  · cases e2
end
end Pl
namespace Pl
open PySem PySem.Spec PyProof.Rows L2 Kn
variable [Tbs]
section
variable {X : Cx}
/-! a, b = x, y by a tuple that is made and taken apart: lists of one's own may be in it -/
theorem par2T_of {K : PySem.W.Frag} {i j : Nat} {l : List Ag} (D : Ends) (σ : L2.St) (H : Hp) (h : RS (mPar2 i j l) D σ H) : tAsg (tTup (tPars l)) (gTup K 2 (gCons (gName i) (gCons (gName j) gNil))) D σ H := by
  obtain ⟨G, ρ, o, r, e, f⟩ := h
  obtain ⟨p, e1, e⟩ := bnd e
  obtain ⟨ss, ρ'⟩ := p
  split at e
  · rename_i s u hss
    have hss : ss = [s, u] := hss
    subst hss
    obtain ⟨⟨hi, hj, li, lj⟩, rfl⟩ := some_if e
    refine pars_of l r e1 fun G1 H1 vs t b => ?_
    have un := mPar_un l e1
    obtain ⟨v, w, rfl⟩ : ∃ v w, vs = [v, w] := by
      match vs, b.len with
      | [v, w], _ => exact ⟨v, w, rfl⟩
    have t1 := TrS.put1 t.s b (n := 0) rfl rfl (un s (by simp)) hi li fun a ha ⟨l, ds, hs⟩ => by subst hs; exact b.nofp r t (n := 0) rfl ha
    have t2 := TrS.put1 t1 b (n := 1) rfl rfl (un u (by simp)) (by rw [List.length_set]; exact hj) (isLent_set lj (b.lent (n := 0) rfl)) fun a ha ⟨l, ds, hs⟩ z => by
      subst hs
      rcases fp_set t.rep.len z with z | ⟨qe, l', ds', z'⟩
      · exact b.nofp r t (n := 1) rfl ha z
      · subst z'
        have := b.inj (i := 0) (j := 1) rfl rfl (by rw [← qe]; rfl) ha
        cases this
    refine ⟨show 2 ≤ sizeLine by decide, fun p hp => ⟨p, [v, w], rfl, sq_t upd_same, rfl, v, [w], rfl, w, [], rfl, rfl, f G1 _ _ ?_⟩⟩
    exact t2.more (.of (same_new hp)) (t2.rep.le.to (same_new hp)) fun a => (same_new hp).free
  · cases e
theorem qs_parT {i j : Nat} {l : List Ag} {tg : Expr} {es : List Expr} {pos p2 : Pos} {k2} (ha : PA X es (tPars l)) (hg : PG X tg (gTup X.K 2 (gCons (gName i) (gCons (gName j) gNil))))
    (hs : swapsWithSole [tg] (.Tuple es k2 p2) pos.line X.env = pure false := by rfl) (hw : swappedStores [tg] (.Tuple es k2 p2) X.env = pure none := by rfl) (h1 : (assignEach [tg] X.env).map (·.2) = [assign tg X.env] := by rfl) :
    PS X (.Assign [tg] (.Tuple es k2 p2) pos) (RS (mPar2 i j l)) := impS (ps_asg (pe_tup ha) hg hs hw h1) par2T_of
end
end Pl
namespace Pl
open PySem PySem.Spec PyProof.Rows L2 Kn
variable [Tbs]
/-! told lists that are changed behind a look: the second is turned -/
section
variable {X : Cx}
theorem told2r {i : Nat} {ma mb : Ma} {m3 : Me} {F : List D → Option D} {c : Str} {K : PySem.W.Frag} (D : Ends) (σ : L2.St) (H : Hp) (h : RS (mTold2 i ma mb F m3) D σ H) :
    tSeq (tAsg (tLst (tCons (RF ma) (tCons (RF mb) tNil))) (gName i)) (tSeq (tIfS (tNot (tB (tCall (SpP F) [] E0 (tCons (tVar i) (tCons (R m3) tNil))))) (tRet (tC (.bl false))) tNext)
      (tSeq (tDrop (tBM K "list" rAppend (tOp (rIxL K) (tVar i) (tC (.int 0))) (tCons (tC (.str c)) tNil))) (tDrop (tBM0 K "list" rReverse (tOp (rIxL K) (tVar i) (tC (.int 1))))))) D σ H := by
  obtain ⟨G, ρ, o, r, e, f⟩ := h
  obtain ⟨p, e1, e⟩ := bnd e
  obtain ⟨q, e2, e⟩ := bnd e
  split at e
  case isFalse => cases e
  rename_i hc
  obtain ⟨hi, hl, hlen⟩ := hc
  obtain ⟨u, e3, e⟩ := bnd e
  refine ⟨G, ρ, p.1, p.2, r, e1, fun G1 H1 a1 xs1 t1 n1 h1 g1 x1 => ⟨G1, p.2, q.1, q.2, t1.rep, e2, fun G2 H2 a2 xs2 t2 n2 h2 g2 x2 => ⟨by show 2 ≤ sizeLine; decide, fun p0 hp0 => ?_⟩⟩⟩
  have nf1 : ¬ Fp σ p.2 a1 := fun z => by
    obtain ⟨zs, z⟩ := fp_some r (t1.kp.fp z)
    rw [n1] at z; cases z
  have h1' := t2.go.off _ _ h1 nf1
  have g1' := t2.go.new _ _ h1 g1 nf1
  have t12 := t1.trans t2
  have n2' : H a2 = none := t1.go.dom _ n2
  have n0 : H p0 = none := t12.go.dom _ hp0
  have ne12 : a1 ≠ a2 := fun e => by rw [e, n2] at h1; cases h1
  have ne10 : a1 ≠ p0 := ne_of_none h1' hp0
  have ne20 : a2 ≠ p0 := ne_of_none h2 hp0
  have T3 : TrS G H σ ρ G2 (upd H2 p0 (.lst [.ref a1, .ref a2])) (σ.set i (some (.ref p0))) (q.2.set i .un) := (t12.s.trans (TrS.un t12.rep hi hl)).more (.of (same_new hp0)) (t12.rep.le.to (same_new hp0)) fun a => (same_new hp0).free
  have nofp : ∀ {G' H' σ' ρ'} {a : Addr}, TrS G H σ ρ G' H' σ' ρ' → H a = none → (∀ b, Fp σ' ρ' b → Fp σ ρ b) → ¬ Fp σ' ρ' a := fun {G' H' σ' ρ' a} t ha hb z => by
    obtain ⟨zs, z⟩ := fp_some r (hb a z)
    rw [ha] at z; cases z
  have fp3 : ∀ b, Fp (σ.set i (some (.ref p0))) (q.2.set i .un) b → Fp σ ρ b := fun b z => by
    rcases fp_set t12.rep.len z with z | ⟨_, l, ds, z⟩
    · exact t12.kp.fp z
    · cases z
  have hσi : (σ.set i (some (.ref p0)))[i]? = some (some (.ref p0)) := List.getElem?_set_self (by rw [t12.rep.len]; exact hi)
  refine ⟨.ref p0, hσi, G2, q.2.set i .un, u.1, u.2, T3.rep, e3, fun G4 H4 v3 t4 hv3 => ?_⟩
  have T4 := T3.trans t4.s
  have fp4 : ∀ b, Fp (σ.set i (some (.ref p0))) u.2 b → Fp σ ρ b := fun b z => fp3 b (t4.kp.fp z)
  have k1 : H4 a1 = some (.lst xs1) := t4.go.off _ _ (by rw [upd_ne ne10]; exact h1') (nofp T3 n1 fp3)
  have k2 : H4 a2 = some (.lst xs2) := t4.go.off _ _ (by rw [upd_ne ne20]; exact h2) (nofp T3 n2' fp3)
  have k0 : H4 p0 = some (.lst [.ref a1, .ref a2]) := t4.go.off _ _ upd_same (nofp T3 n0 fp3)
  have l1 : G4 a1 = none := t4.go.new _ _ (show upd H2 p0 _ a1 = _ by rw [upd_ne ne10]; exact h1') g1' (nofp T3 n1 fp3)
  have l2 : G4 a2 = none := t4.go.new _ _ (show upd H2 p0 _ a2 = _ by rw [upd_ne ne20]; exact h2) g2 (nofp T3 n2' fp3)
  have l0 : G4 p0 = none := t4.go.new _ _ (show upd H2 p0 _ p0 = _ from upd_same) (t12.rep.le.free hp0) (nofp T3 n0 fp3)
  have gg : Same G2 G4 := t4.go.gg
  -- what is for good while one looks
  have s1 : Same G4 (upd G4 a1 (.lst xs1)) := same_new l1
  have l2' : (upd G4 a1 (.lst xs1)) a2 = none := by rw [upd_ne (Ne.symm ne12)]; exact l2
  have s2 : Same (upd G4 a1 (.lst xs1)) (upd (upd G4 a1 (.lst xs1)) a2 (.lst xs2)) := same_new l2'
  have l0' : (upd (upd G4 a1 (.lst xs1)) a2 (.lst xs2)) p0 = none := by rw [upd_ne (Ne.symm ne20), upd_ne (Ne.symm ne10)]; exact l0
  have s3 := same_new (o := .lst [.ref a1, .ref a2]) l0'
  have le4 : Le (upd (upd (upd G4 a1 (.lst xs1)) a2 (.lst xs2)) p0 (.lst [.ref a1, .ref a2])) H4 := ((t4.rep.le.good k1 nt_lst).good k2 nt_lst).good k0 nt_lst
  have sa := (s1.trans s2).trans s3
  have d1 : Dd (upd (upd (upd G4 a1 (.lst xs1)) a2 (.lst xs2)) p0 (.lst [.ref a1, .ref a2])) (.ref a1) (.lst p.1) := .lst (s3 _ _ (s2 _ _ upd_same)) (dda_same sa (dda_same (t2.go.gg.trans gg) x1))
  have d2 : Dd (upd (upd (upd G4 a1 (.lst xs1)) a2 (.lst xs2)) p0 (.lst [.ref a1, .ref a2])) (.ref a2) (.lst q.1) := .lst (s3 _ _ upd_same) (dda_same sa (dda_same gg x2))
  have da : DdA (upd (upd (upd G4 a1 (.lst xs1)) a2 (.lst xs2)) p0 (.lst [.ref a1, .ref a2])) [.ref p0, v3] [.lst [.lst p.1, .lst q.1], u.1] := .cons (.lst upd_same (.cons d1 (.cons d2 .nil))) (.cons (dd_same sa hv3) .nil)
  split at e
  · rename_i hF
    cases e
    refine ⟨_, _, _, le4, da, hF, fun G5 H5 v ex hv => ?_⟩
    cases hv
    have s5 : ∀ a o, H4 a = some o → (w : NT o := by first | exact nt_lst | assumption) → H5 a = some o := fun a o h w => ex.off a o h id w
    have T5 := T4.more ex.same (ex.le.sub (sa.trans ex.gg)) ex.dom
    refine ⟨true, rfl, iteF ?_⟩
    have ix0 : atI [V.ref a1, V.ref a2] 0 = some (.ref a1) := rfl
    have ix1 : atI [V.ref a1, V.ref a2] 1 = some (.ref a2) := rfl
    refine ⟨.ref p0, hσi, p0, _, 0, .ref a1, rfl, rfl, sq_l (s5 _ _ k0), ix0, .inl ⟨rfl, xs1, sq_l (s5 _ _ k1)⟩, a1, xs1, _, rfl, rfl, s5 _ _ k1, by rw [dda_len x1]; exact sz6 hlen, ?_⟩
    have T6 := TrS.pokeS (o := .lst (xs1 ++ [.str c])) r T5 n1 l1 (nofp T5 n1 fp4) (fun u z => by rw [s5 _ _ k1] at z; cases z; exact .inl ⟨_, rfl⟩)
    refine ⟨.ref p0, hσi, p0, _, 1, .ref a2, rfl, rfl, sq_l (by rw [upd_ne (Ne.symm ne10)]; exact s5 _ _ k0), ix1, .inl ⟨rfl, xs2, sq_l (by rw [upd_ne (Ne.symm ne12)]; exact s5 _ _ k2)⟩, a2, xs2, rfl, rfl, by rw [upd_ne (Ne.symm ne12)]; exact s5 _ _ k2, ?_⟩
    exact f G4 _ _ (TrS.pokeS (o := .lst xs2.reverse) r T6 n2' l2 (nofp T6 n2' fp4) (fun u z => by rw [upd_ne (Ne.symm ne12), s5 _ _ k2] at z; cases z; exact .inl ⟨_, rfl⟩))
  · rename_i hF
    cases e
    refine ⟨_, _, _, le4, da, hF, fun G5 H5 v ex hv => ?_⟩
    cases hv
    exact ⟨false, rfl, iteT (f G4 H5 _ (.bl false) (T4.more ex.same (ex.le.sub (sa.trans ex.gg)) ex.dom) (.bl false))⟩
  · cases e
end
end Pl
namespace Pl
open PySem PySem.Spec PyProof.Rows L2 Kn
variable [Tbs]
/-! every second item: e[::2] of a list -/
def pickK {α : Type} (ks : List Nat) (xs : List α) : List α := ks.filterMap fun k => xs[k]?
def halfL {α : Type} (xs : List α) : List α := pickK ((List.range ((xs.length + 1) / 2)).map (2 * ·)) xs
theorem vals_at : ∀ {xs : List V} {its : List Value} {k : Nat} {x : V}, Vals xs its → xs[k]? = some x → ∃ v, its[k]? = some v ∧ RelV x v
  | _, _, 0, _, .cons r _, h => by
    cases h
    exact ⟨_, rfl, r⟩
  | _, _, k + 1, _, .cons _ t, h => vals_at (k := k) t h
theorem vals_pick {xs : List V} {its : List Value} (r : Vals xs its) : ∀ ks : List Nat, (∀ k ∈ ks, k < xs.length) → Vals (pickK ks xs) (pickK ks its)
  | [], _ => .nil
  | k :: ks, h => by
    have hk := h k (List.mem_cons_self ..)
    obtain ⟨v, e, rv⟩ := vals_at r (List.getElem?_eq_getElem hk)
    show Vals ((k :: ks).filterMap fun k => xs[k]?) ((k :: ks).filterMap fun k => its[k]?)
    rw [List.filterMap_cons, List.filterMap_cons, List.getElem?_eq_getElem hk, e]
    exact .cons rv (vals_pick r ks fun j hj => h j (List.mem_cons_of_mem _ hj))
theorem dda_pick {G : Hp} {xs : List V} {ds : List D} (r : DdA G xs ds) : ∀ ks : List Nat, (∀ k ∈ ks, k < ds.length) → DdA G (pickK ks xs) (pickK ks ds)
  | [], _ => .nil
  | k :: ks, h => by
    have hk := h k (List.mem_cons_self ..)
    have hx : k < xs.length := by rw [dda_len r]; exact hk
    obtain ⟨d, e, rd⟩ := dda_get r (List.getElem?_eq_getElem hx)
    show DdA G ((k :: ks).filterMap fun k => xs[k]?) ((k :: ks).filterMap fun k => ds[k]?)
    rw [List.filterMap_cons, List.filterMap_cons, List.getElem?_eq_getElem hx, e]
    exact .cons rd (dda_pick r ks fun j hj => h j (List.mem_cons_of_mem _ hj))
theorem half_in {n k : Nat} (h : k ∈ (List.range ((n + 1) / 2)).map (2 * ·)) : k < n := by
  obtain ⟨j, hj, rfl⟩ := List.mem_map.mp h
  have := List.mem_range.mp hj
  omega
theorem vals_half {xs : List V} {its : List Value} (r : Vals xs its) : Vals (halfL xs) (halfL its) := by
  unfold halfL
  rw [r.length]
  exact vals_pick r _ fun k hk => by
    rw [r.length]
    exact half_in hk
theorem dda_half {G : Hp} {xs : List V} {ds : List D} (r : DdA G xs ds) : DdA G (halfL xs) (halfL ds) := by
  unfold halfL
  rw [dda_len r]
  exact dda_pick r _ fun k hk => half_in hk
theorem half_pick (its : List Value) : slicePick its.toArray none none (some 2) = (halfL its).toArray := by
  have eb : sliceBounds none none (some 2) its.toArray.size = (0, (its.length : Int), 2) := rfl
  unfold slicePick
  rw [eb]
  show ((sliceRange 0 (its.length : Int) 2).filterMap (its.toArray[·]?)).toArray = _
  have er : sliceRange 0 (its.length : Int) 2 = (List.range ((its.length + 1) / 2)).map (2 * ·) := by
    unfold sliceRange
    have h2 : ((2 : Int) > 0) := by decide
    by_cases h : (0 : Int) < (its.length : Int)
    · have e : (((its.length : Int) - 0 + 2 - 1) / 2).toNat = (its.length + 1) / 2 := by omega
      simp only [h2, h, if_true, e]
      exact List.map_congr_left fun k _ => by omega
    · have z : its.length = 0 := by omega
      simp [z]
  rw [er]
  unfold halfL pickK
  simp
def rHalf (K : PySem.W.Frag) (te : TE) : TE := fun σ H Q => te σ H fun x H1 => ∃ a xs, x = .ref a ∧ SqL K H1 a xs ∧ ∀ p, H1 p = none → Q (.ref p) (upd H1 p (.lst (halfL xs)))
section
variable {X : Cx}
theorem pe_half {e : Expr} {te : TE} {k : Nat} {p1 p3 pos : Pos} (he : PE X e te) : PE X (.Subscript e (.Slice none none (some (.Constant (.int 2) k p1)) p3) pos) (rHalf X.K te) := by
  refine ⟨fun pins s σ H Q I h => Subscript_ (thn (he.run pins s σ H _ I h) fun v s1 ⟨x, H1, I1, rx, a, xs, ex, sx, q⟩ => ?_)⟩
  cases ex
  cases rx
  have two : PO X (some (.Constant (.int 2) k p1)) (tPart (tC (.int 2))) := po_some pe_int
  refine wpAny_Slice (thn (po_none.run pins s1 σ H1 (fun o G => o = none ∧ G = H1) I1 ⟨rfl, rfl⟩) fun v1 s2 ⟨_, G2, I2, w1, z1, z2⟩ => ?_)
  cases z1
  cases z2
  refine thn (po_none.run pins s2 σ H1 (fun o G => o = none ∧ G = H1) I2 ⟨rfl, rfl⟩) fun v2 s3 ⟨_, G3, I3, w2, z3, z4⟩ => ?_
  cases z3
  cases z4
  refine thn (two.run pins s3 σ H1 (fun o G => o = some 2 ∧ G = H1) I3 ⟨2, rfl, rfl, rfl⟩) fun v3 s4 ⟨_, G4, I4, w3, z5, z6⟩ => ?_
  cases z5
  cases z6
  have J : Inv X pins σ H1 { s4 with heap := s4.heap.push { cls := .type "slice", data := .fields #[v1, v2, v3] } } := I4.kept (t' := s4.toks) fun _ _ f => Heap.get?_push_of_some _ f
  obtain ⟨its, r, hl, few⟩ := J.list sx
  have n1 := r.length
  have n2 := (vals_half r).length
  refine tail_any (ops := [.ref a, .ref s4.heap.objs.size]) hl.isList.typeIs PySem.slot_list_getitem.lookup ?_ (by with_unfolding_all rfl)
  refine wpAny_getItem_list_slice hl.isList (Heap.IsSliceOf.new _ v1 v2 v3) w1 w2 w3 (by decide) ?_ (by rw [List.size_toArray]; omega)
  rw [half_pick]
  have sh : (halfL xs).length ≤ xs.length := by
    unfold halfL pickK
    refine Nat.le_trans (List.length_filterMap_le ..) ?_
    rw [List.length_map, List.length_range]
    omega
  exact ⟨.ref _, _, J.laid (t' := s4.toks) (o := .lst (halfL xs)) (fun _ _ f => Heap.get?_push_of_some _ f) (Nat.le_refl _) ⟨by omega, _, 0, vals_half r, Heap.get?_push_size _ rfl⟩, rfl, q _ (J.hok.fresh (Nat.le_refl _))⟩
def mHalf (m : Me) : Ma := fun ρ => (m ρ).bind fun p => match p.1 with | .lst l => some (halfL l, p.2) | _ => none
theorem qf_half {e : Expr} {m : Me} {k : Nat} {p1 p3 pos : Pos} (he : PE X e (R m)) : PE X (.Subscript e (.Slice none none (some (.Constant (.int 2) k p1)) p3) pos) (RF (mHalf m)) := by
  refine imp (pe_half he) fun σ H Q ⟨G, ρ, d, ρ', rp, e, k⟩ => ?_
  obtain ⟨p, e1, e⟩ := bnd e
  split at e
  · rename_i l hl
    cases e
    refine ⟨G, ρ, p.1, p.2, rp, e1, fun G1 H1 v t hv => ?_⟩
    rw [hl] at hv
    cases hv with
    | lst h1 h2 => exact ⟨_, _, rfl, sq_l (t.rep.le _ _ h1), fun z hz => AnsF.nw (AnsF.tr t (fun a n => t.back rp n) k) t.rep.le hz (dda_half h2)⟩
  · cases e
theorem v_half {m : Me} {ρ ρ1 : Rh} {l : List D} (h : m ρ = some (.lst l, ρ1)) : mHalf m ρ = some (halfL l, ρ1) := by
  unfold mHalf
  rw [h]
  rfl
end
end Pl
set_option maxHeartbeats 2000000
namespace Pl
open PySem PySem.Spec PyProof.Rows L2 Kn
/-- sorted({e for t in i if c}), e a text: ks tells what was put in so far -/
def tSortC (wi : TI) (g : TG) (tt : TT) (te : TE) (vs : List Nat) : TE := fun σ H Q => wi σ H fun J H1 => ∃ W : Nat → Nat → List Str → Hp → Prop, (∃ m, W 0 m [] H1) ∧ ∀ i m ks H, W i m ks H →
  (J.stop i H ∧ ks.length < 64 ∧ ∀ (zs : List Str) (p : Addr), sortedS zs = true → zs.Nodup → (∀ k, k ∈ zs ↔ k ∈ ks) → H p = none → Q (.ref p) (upd H p (.lst (zs.map V.str)))) ∨ (J.go i H ∧ ∃ Nx : List Str → Hp → Prop, (∀ ks' H', Nx ks' H' → ∃ m', m' < m ∧ W (i + 1) m' ks' H') ∧ ∀ x H', J.yld i H x H' → g x (wipe σ vs) H' fun σ2 H2 => wipe σ2 vs = wipe σ vs ∧ tt σ2 H2 fun b H3 =>
    if b = true then te σ2 H3 fun y H4 => ∃ k, y = .str k ∧ ks.length < 4000 ∧ Nx (ks ++ [k]) H4 else Nx ks H3)
section
variable {X : Cx}
theorem pe_sortC {elt tg iter : Expr} {ifs : List Expr} {scope : Scope} {own : List (Str × Nat)} {p pos q : Pos} {wi : TI} {g : TG} {tt : TT} {te : TE} (hc : X.calm = true) (hN : X.N.Nodup) (hgl : Gl X "sorted") (hm : X.mg "sorted" = none) (hi : PI X tg iter wi) (ok : BlkOk X.N X.env.scope scope own)
    (hg : ∀ (s : Shared) (H : Hp) (C : Addr) (cl : List (Str × Addr)) (fp : List Addr), PG (X.blk s H scope (compEnvC scope cl C X.env) fp) tg g) (ht : ∀ (s : Shared) (H : Hp) (C : Addr) (cl : List (Str × Addr)) (fp : List Addr), PTs (X.blk s H scope (compEnvC scope cl C X.env) fp) ifs tt)
    (he : ∀ (s : Shared) (H : Hp) (C : Addr) (cl : List (Str × Addr)) (fp : List Addr), PE (X.blk s H scope (compEnvC scope cl C X.env) fp) elt te) (hs : ∀ x, foldedSetIterable iter X.env x = pure x := by intro _; rfl) :
    PE X (.Call (.Name "sorted" p) [.SetComp elt [⟨tg, iter, ifs, 0⟩] scope pos] [] q) (tSortC wi g tt te (own.map (·.2))) := by
  refine ⟨fun pins s σ H Q I h => Call_ (ld_blt I hgl hm (show bootBuiltins "sorted" = some (.builtin "sorted") by decide +kernel) (PyProof.Rows.callWith_builtin1 (PyProof.Rows.args_cons ?_ rfl) rfl rfl))⟩
  rw [PpSet.eval_SetComp]
  have cells : ∀ y ∈ scope.names, y.2 = .free → ∃ c, X.env.cells.lookup y.1 = some c := fun y hy e => (ok.free y hy e).elim (fun k => I.ok.has _ (.inl k)) fun k => I.ok.has _ (.inr k)
  refine wpAny_comprehension_free (use := none) rfl hs (closure_ok cells) ok.kind (fun y hy e => by rw [ok.uniq y hy, e]) (thn (hi.run pins s σ H _ I h) fun xv s1 hx => thn hx fun itv s2 h2 => ?_)
  obtain ⟨it, fp, tn, J, H2, e, I2, T, st2, f2, W, ⟨m0, w0⟩, turn⟩ := h2
  subst e
  refine PpSet.newSet_ok (newEnv_comp ?_)
  obtain ⟨D, hD⟩ : ∃ D, D = s2.heap.objs.size := ⟨_, rfl⟩
  obtain ⟨s3, hs3⟩ : ∃ s3 : Shared, s3 = { s2 with heap := setNew X.w s2.heap } := ⟨_, rfl⟩
  have F3 : Fill X.prog X.w s3.heap D [] [] := by
    rw [hs3, hD]
    exact fill_new
  have old : ∀ b o, s2.heap.get? b = some o → s3.heap.get? b = some o := fun b o z => by
    rw [hs3]
    exact Heap.get?_push_of_some _ z
  have I3 : Inv X pins σ H2 s3 := by
    rw [hs3]
    exact I2.kept (t' := s2.toks) fun b o z => Heap.get?_push_of_some _ z
  have lt2 : ∀ b ∈ fp, b < s2.heap.objs.size := fun b hb => by
    obtain ⟨o, z, _⟩ := T.obj _ _ st2 b hb
    exact Heap.lt_size z
  have nD : D ∉ fp := fun z => Nat.lt_irrefl _ (hD ▸ lt2 D z)
  have sz3 : s3.heap.objs.size = s2.heap.objs.size + 1 := by rw [hs3]; exact Heap.size_push _ _
  have f3 : ∀ b ∈ D :: fp, FpOk X pins H2 b ∧ b < s3.heap.objs.size := fun b hb => by
    rcases List.mem_cons.mp hb with z | z
    · rw [z]
      exact ⟨I2.fpOk (Nat.le_of_eq hD.symm) (I2.hok.fresh (Nat.le_of_eq hD.symm)), by rw [sz3, hD]; exact Nat.lt_succ_self _⟩
    · exact ⟨f2 b z, by rw [sz3]; exact Nat.lt_succ_of_lt (lt2 b z)⟩
  have st3 : tn 0 s3.heap := T.keep _ _ _ st2 fun b _ o z => old b o z
  have I4 := block_start I3 ok hN f3
  have ng : ∀ b ∈ D :: fp, H2 b = none := fun b hb => (f3 b hb).1.1
  rw [← hs3]
  have pg := hg s3 H2 s3.heap.objs.size (cellsFrom (s3.heap.objs.size + 1) scope.names (cloFrom X.env.cells scope.names [])) (D :: fp)
  have pt := ht s3 H2 s3.heap.objs.size (cellsFrom (s3.heap.objs.size + 1) scope.names (cloFrom X.env.cells scope.names [])) (D :: fp)
  have pe := he s3 H2 s3.heap.objs.size (cellsFrom (s3.heap.objs.size + 1) scope.names (cloFrom X.env.cells scope.names [])) (D :: fp)
  rw [← hD]
  obtain ⟨C, hC⟩ : ∃ C, C = s3.heap.objs.size := ⟨_, rfl⟩
  have DC : D ≠ C := by
    rw [hC, sz3, hD]
    exact Nat.ne_of_lt (Nat.lt_succ_self _)
  refine (show codeAny _ _ (.compStart (.SetComp elt [⟨tg, iter, ifs, 0⟩] scope pos) 0 (.ref it) (.ref D) (compEnvC scope (cellsFrom (s3.heap.objs.size + 1) scope.names (cloFrom X.env.cells scope.names [])) s3.heap.objs.size X.env)) _ { s3 with heap := pushCells (s3.heap.push { cls := .type "dict", data := .dict #[] }) scope.names } from ?_)
  obtain ⟨ce, hce⟩ : ∃ ce, ce = compEnvC scope (cellsFrom (s3.heap.objs.size + 1) scope.names (cloFrom X.env.cells scope.names [])) s3.heap.objs.size X.env := ⟨_, rfl⟩
  obtain ⟨s4, hs4⟩ : ∃ s4 : Shared, s4 = { s3 with heap := pushCells (s3.heap.push { cls := .type "dict", data := .dict #[] }) scope.names } := ⟨_, rfl⟩
  have cL : ce.locals = C := by rw [hce, hC]; rfl
  have up4 : ∀ b o, s3.heap.get? b = some o → s4.heap.get? b = some o := fun b o z => by
    rw [hs4]
    exact pushCells_keeps _ _ _ _ (Heap.get?_push_of_some _ z)
  rw [← hce, ← hs4]
  rw [← hce, ← hs4] at I4
  rw [← hce] at pg pt pe
  have st4 : tn 0 s4.heap := T.keep _ _ _ st3 fun b _ o z => up4 b o z
  -- what the block leaves alone
  have alone : ∀ {σ' : L2.St} {H' : Hp} {s' : Shared} {ps : List (Addr × Obj)}, Inv (X.blk s3 H2 scope ce (D :: fp)) ps σ' H' s' → ∀ b ∈ D :: fp, H' b = none → (∀ z ∈ ps, z.1 ≠ b) → FpOk (X.blk s3 H2 scope ce (D :: fp)) ps H' b := fun I' b hb hn np =>
    ⟨hn, (I'.ok.exf b hb).1, I'.ok.exfs b hb, .inl hb, fun x c z => (I'.ok.exf b hb).2 x c z, fun z hz => np z (by simpa using hz)⟩
  have key : ∀ R, codeAny (model X.prog X.w) X.A (.compLoop (.SetComp elt [⟨tg, iter, ifs, 0⟩] scope pos) 0 (.ref it) (.ref D) ce) R s4 → codeAny (model X.prog X.w) X.A (.compStart (.SetComp elt [⟨tg, iter, ifs, 0⟩] scope pos) 0 (.ref it) (.ref D) ce) R s4 := fun R loop => PpSet.codeAny_compStart_set loop (T.self X.A 0 _ _ _ st4 loop)
  refine key _ ?_
  rw [← hC]
  refine PpSet.compLoopS_any (fun n s' => ∃ i H' ks es, Inv (X.blk s3 H2 scope ce (D :: fp)) [] (wipe σ (own.map (·.2))) H' s' ∧ tn i s'.heap ∧ (∀ b ∈ D :: fp, H' b = none) ∧ Fill X.prog X.w s'.heap D es ks ∧ es.length = dcs [] ks 0 ∧ W i n ks H') ?_ m0 ⟨0, H2, [], [], I4, st4, ng, F3.moved (up4 D), rfl, w0⟩
  rintro n s5 ⟨i, H5, ks, es, I5, st5, n5, F5, l5, w5⟩
  have F5' := F5.tab
  obtain ⟨o5, _, _, _, ho5, _, hd5, _⟩ := F5'
  have I5p := I5.pinned (fp := [D]) (fun b hb => by
    obtain rfl := List.mem_singleton.mp hb
    exact alone I5 b (List.mem_cons_self ..) (n5 b (List.mem_cons_self ..)) (fun z hz => (nomatch hz))) (fun b hb => by
    obtain rfl := List.mem_singleton.mp hb
    exact ⟨o5, ho5, fun v z => by rw [hd5] at z; cases z⟩)
  have pinD : (D, o5) ∈ ([] : List (Addr × Obj)) ++ pinsAt [D] s5.heap := List.mem_append_right _ (mem_pinsAt (List.mem_singleton.mpr rfl) ho5)
  have others : ∀ z ∈ ([] : List (Addr × Obj)) ++ pinsAt [D] s5.heap, ∀ b ∈ fp, z.1 ≠ b := fun z hz b hb e => by
    rcases List.mem_append.mp hz with y | y
    · cases y
    · have := List.mem_singleton.mp (of_pinsAt y).1
      exact nD (by rw [← this, e]; exact hb)
  rcases turn i n ks H5 w5 with ⟨stop, qq⟩ | ⟨go, Nx, hNx, step⟩
  · refine thnF (T.done (X.blk s3 H2 scope ce (D :: fp)) rfl rfl rfl hc i _ s5 _ H5 (fun _ _ => False) I5p (fun b hb => alone I5p b (List.mem_cons_of_mem _ hb) (n5 b (List.mem_cons_of_mem _ hb)) fun z hz => others z hz b hb) st5 stop) fun r s6 ⟨hr, I6⟩ => ?_
    subst hr
    have I7 : Inv X pins σ H5 s6 := I3.call' (ch := D :: fp) I6.os I6.base I6.hok I6.bare fun b hb => ⟨(f3 b hb).1.2.2.2.1, (f3 b hb).1.2.1, (f3 b hb).1.2.2.2.2.1, (f3 b hb).1.2.2.2.2.2⟩
    have nC : H5 C = none := by
      have z : H5 ce.locals = none := I6.free
      rw [cL] at z
      exact z
    obtain ⟨m, hn, _⟩ := I6.loc
    have hn : s6.heap.Ns ce.locals m := hn
    rw [cL] at hn
    have F6 : Fill X.prog X.w s6.heap D es ks := F5.moved fun o z => by
      rw [ho5] at z
      cases z
      exact (I6.pin (D, o5) (List.mem_append_right _ pinD)).1
    have fC : FpOk X pins H5 C := I3.fpOk (Nat.le_of_eq hC.symm) nC
    obtain ⟨c0, c1, c2, c3, c4, c5⟩ := fC
    refine ⟨m, hn, fun h8 sb => PyProof.Rows.args_nil ?_⟩
    have I8 : Inv X pins σ H5 { s6 with heap := h8 } := I7.turned (t' := s6.toks) (fun b o hb z => (sb.2 b hb).trans z) c0 c1 c3 c4 c5
    have F8 : Fill X.prog X.w h8 D es ks := F6.moved fun o z => (sb.2 D DC).trans z
    obtain ⟨few, q1⟩ := qq
    have le := dcs_le ks [] 0
    refine sorted_fill (I8.ok.hd hc) F8 (by omega) fun s' p out c zs k g os hp hg' ht' hs' hu hm' => ?_
    have hn : H5 p = none := I8.hok.fresh hp
    have hlen : (zs.map V.str).length ≤ sizeLine := by
      have l1 : zs.length ≤ es.length := by
        have pz : zs.Perm (es.map txK) := (List.perm_ext_iff_of_nodup hu F8.uni).mpr fun k => by rw [hm' k, F8.mem k]
        rw [pz.length_eq, List.length_map]
        exact Nat.le_refl _
      rw [List.length_map, sizeLine_eq]
      omega
    generalize hS2 : ({ s6 with heap := h8 } : Shared) = s9 at I8 k g os hp
    have J : Inv X pins σ (upd H5 p (.lst (zs.map V.str))) { s9 with heap := s'.heap, gens := s'.gens, drawn := s'.drawn, toks := s'.toks } :=
      I8.call (ch := []) (Un.laid k hp hn) (I8.hok.laid k hp ⟨hlen, out.toList, c, vals_of_strs ht', hg'⟩) (by rw [g]; exact I8.bare) (fun _ z => nomatch z)
    have e : s' = { s9 with heap := s'.heap, gens := s'.gens, drawn := s'.drawn, toks := s'.toks } := by
      show s' = { heap := s'.heap, gens := s'.gens, drawn := s'.drawn, toks := s'.toks, os := s9.os }
      rw [← os]
    rw [e]
    exact ⟨.ref p, _, J, rfl, q1 zs p hs' hu hm' hn⟩
  · refine thnF (T.item (X.blk s3 H2 scope ce (D :: fp)) rfl rfl rfl hc i _ s5 _ H5 (fun _ _ => False) I5p (fun b hb => alone I5p b (List.mem_cons_of_mem _ hb) (n5 b (List.mem_cons_of_mem _ hb)) fun z hz => others z hz b hb) st5 go) fun r s6 ⟨u, hr, h6⟩ => ?_
    subst hr
    refine thnF h6 fun _ s7 ⟨x, H7, I7, r7, y7, st7, n7⟩ => ?_
    have I7p := I7.pinned (fp := fp) (fun b hb => alone I7 b (List.mem_cons_of_mem _ hb) (n7 b hb) fun z hz => others z hz b hb) (T.obj _ _ st7)
    refine thnF (pg.run _ s7 _ H7 x u _ I7p r7 (step x H7 y7)) fun _ s8 ⟨σ8, H8, I8, hw8, q8⟩ => ?_
    refine thnF (pt.run _ s8 σ8 H8 _ I8 q8) fun b s9 ⟨H9, I9, q9⟩ => ?_
    have hl : (wipe σ (own.map (·.2))).length = σ8.length := by rw [← hw8, wipe_length]
    have wk : ∀ (j : Nat) v, (wipe σ (own.map (·.2)))[j]? = some (some v) → σ8[j]? = some (some v) := fun j v z => by
      rw [← hw8] at z
      exact (wipe_some z).1
    -- what was pinned still stands
    have kept : ∀ {H' : Hp} {s' : Shared}, Inv (X.blk s3 H2 scope ce (D :: fp)) (([] ++ pinsAt [D] s5.heap) ++ pinsAt fp s7.heap) σ8 H' s' → (∀ b ∈ D :: fp, H' b = none) ∧ (∀ b ∈ fp, ∀ o, s7.heap.get? b = some o → s'.heap.get? b = some o) ∧ Fill X.prog X.w s'.heap D es ks := fun {H' s'} I' => by
      have pd := I'.pin (D, o5) (List.mem_append_right _ (List.mem_append_left _ pinD))
      have pf : ∀ b ∈ fp, ∀ o, s7.heap.get? b = some o → s'.heap.get? b = some o ∧ H' b = none := fun b hb o z =>
        have y := I'.pin (b, o) (List.mem_append_right _ (List.mem_append_right _ (mem_pinsAt hb z)))
        ⟨y.1, y.2.1⟩
      refine ⟨fun b hb => ?_, fun b hb o z => (pf b hb o z).1, F5.moved fun o z => ?_⟩
      · rcases List.mem_cons.mp hb with y | y
        · rw [y]
          exact pd.2.1
        · obtain ⟨o, z, _⟩ := T.obj _ _ st7 b y
          exact (pf b y o z).2
      · rw [ho5] at z
        cases z
        exact pd.1
    cases b with
    | false =>
      simp only [Bool.false_eq_true, if_false] at q9 ⊢
      obtain ⟨k1, k2, k3⟩ := kept I9
      obtain ⟨m', hm', w'⟩ := hNx ks H9 q9
      exact ⟨m', hm', i + 1, H9, ks, es, (I9.pins_of (pins' := []) fun z hz => (nomatch hz)).weak hl wk, T.keep _ _ _ st7 k2, k1, k3, l5, w'⟩
    | true =>
      simp only [if_true] at q9 ⊢
      refine thnF (pe.run _ s9 σ8 H9 _ I9 q9) fun z s10 ⟨yv, H10, I10, r10, k, ey, few, nx⟩ => ?_
      subst ey
      obtain ⟨tk, rfl⟩ : ∃ tk, z = Value.str k tk := r10
      obtain ⟨k1, k2, k3⟩ := kept I10
      have le := dcs_le ks [] 0
      refine fill_add k3 (by unfold scanBound; omega) fun h' es' sb F' l' => ?_
      obtain ⟨m', hm', w'⟩ := hNx _ H10 nx
      have I10u := I10.pins_of (pins' := []) fun z hz => (nomatch hz)
      obtain ⟨c0, c1, c2, c3, c4, c5⟩ := alone I10u D (List.mem_cons_self ..) (k1 D (List.mem_cons_self ..)) fun z hz => (nomatch hz)
      refine ⟨m', hm', i + 1, H10, ks ++ [k], es', (I10u.turned (it := D) (t' := s10.toks + 1) (fun b o hb z => (sb.2 b hb).trans z) c0 c1 c3 c4 c5).weak hl wk, T.keep _ _ _ st7 fun b hb o z => (sb.2 b fun y => nD (y ▸ hb)).trans (k2 b hb o z), k1, F', ?_, w'⟩
      rw [l', dcs_snoc, List.nil_append, l5]
end
section
variable [Tbs]
def mSortC (src : Ma) (tg : Mg) (tt : Mt) (te : Me) (vs : List Nat) : Ma := fun ρ => (mLc src tg tt te vs ρ).bind fun p => (strsOf p.1).bind fun xs => if xs.length < 64 then some ((sortS (ddS xs)).map D.str, p.2) else none
theorem v_sortC {src : Ma} {tg : Mg} {tt : Mt} {te : Me} {vs : List Nat} {ρ ρ1 : Rh} {xs : List Str} (h : mLc src tg tt te vs ρ = some (xs.map D.str, ρ1)) (hl : xs.length < 64) : mSortC src tg tt te vs ρ = some ((sortS (ddS xs)).map D.str, ρ1) := by
  unfold mSortC
  rw [h, Option.bind_some, strsOf_map, Option.bind_some, if_pos hl]
variable {X : Cx}
theorem sortC_of {src : Ma} {ts : List Nat} {tg : Mg} {tt : Mt} {te : Me} {vs : List Nat} (hts : ∀ i ∈ ts, i ∈ vs) (σ : L2.St) (H : Hp) (Q : VK) (h : RF (mSortC src tg tt te vs) σ H Q) : tSortC (RI src) (RG ts tg) (RT tt) (R te) vs σ H Q := by
  obtain ⟨G, ρ, d0, ρ', rp, e, k⟩ := h
  obtain ⟨a, e0, e⟩ := bnd e
  obtain ⟨xs, ex0, e⟩ := bnd e
  obtain ⟨few, e⟩ := some_if e
  cases e
  obtain ⟨p, e1, e0⟩ := bnd e0
  split at e0
  case isFalse => cases e0
  rename_i hc
  obtain ⟨hv, hlen⟩ := hc
  obtain ⟨w, e2, e0⟩ := mpd e0
  cases e0
  have wx : w.1 = xs.map D.str := strsOf_inv ex0
  refine ⟨G, ρ, p.1, p.2, rp, e1, fun G1 H1 J t1 wk => ?_⟩
  have no : ∀ i ∈ vs, noOwn p.2 i := fun i hi l es z => by
    have := List.all_eq_true.mp hv i hi
    rw [z] at this
    cases this
  have r1w := t1.rep.wipe vs
  refine ⟨fun i m ks H2 => m = p.1.length - i ∧ i ≤ p.1.length ∧ ∃ Gi ρi rest, Tr G1 H1 (wipe σ vs) (wipeR p.2 vs) Gi H2 ρi ∧ (∀ j ∈ vs, ∀ s, ρi[j]? = some s → s = .un) ∧ lcL tg tt te vs (p.1.drop i) ρi = some (rest, w.2) ∧ ks.map D.str ++ rest = w.1,
    ⟨p.1.length, rfl, Nat.zero_le _, G1, _, w.1, Tr.refl r1w, fun j hj s hs => wiped hj hs, by rw [List.drop_zero]; exact e2, rfl⟩, ?_⟩
  rintro i m ks H2 ⟨rfl, hi, Gi, ρi, rest, t, hun, el, ea⟩
  have gd := t.go.gg.trans t.go.le.same
  by_cases hlt : i < p.1.length
  · refine .inr ⟨wk.goes i H2 hlt gd, fun ks' H' => i + 1 ≤ p.1.length ∧ ∃ Gi ρi rest, Tr G1 H1 (wipe σ vs) (wipeR p.2 vs) Gi H' ρi ∧ (∀ j ∈ vs, ∀ s, ρi[j]? = some s → s = .un) ∧ lcL tg tt te vs (p.1.drop (i + 1)) ρi = some (rest, w.2) ∧ ks'.map D.str ++ rest = w.1,
      fun ks' H' pp => ⟨p.1.length - (i + 1), by omega, rfl, pp.1, pp.2⟩, fun x H3 y => ?_⟩
    obtain ⟨d, hd1, hy⟩ := wk.yields i H2 x H3 hlt gd y
    obtain ⟨G2, ex, hxd⟩ := hy Gi t.go.gg t.go.le
    rw [drop_get hd1] at el
    obtain ⟨ρt, eg, el⟩ := bnd el
    obtain ⟨q, et, el⟩ := bnd el
    refine ⟨G2, ρi, d, ρt, t.rep.ext ex, hxd, eg, fun σ2 r2 sl hσ hno hlr => ⟨wipe_eq (by rw [sl, wipe_length]) fun i hi => by rw [(hσ i fun z => hi (hts i z)).1, wipe_out hi], ?_⟩⟩
    have slen : σ2.length = σ.length := by rw [sl, wipe_length]
    refine ⟨G2, ρt, q.1, q.2, r2, et, fun G3 H4 t3 => ?_⟩
    have tA := Tr.turn hts t.rep hun ex slen hlr hσ hno t3
    cases hq : q.1 with
    | false =>
      rw [hq, if_neg Bool.false_ne_true] at el
      exact iteF ⟨hlt, G3, wipeR q.2 vs, rest, t.trans tA.1, tA.2, el, ea⟩
    | true =>
      rw [hq, if_pos rfl] at el
      obtain ⟨u, eu, el⟩ := bnd el
      obtain ⟨z, ez, el⟩ := mpd el
      obtain ⟨el1, el2⟩ := Prod.mk.inj el
      subst el1
      refine iteT ⟨G3, q.2, u.1, u.2, t3.rep, eu, fun G4 H5 y t4 hy => ?_⟩
      have tB := Tr.turn hts t.rep hun ex slen hlr hσ hno (t3.trans t4)
      have um : u.1 ∈ xs.map D.str := by
        rw [← wx, ← ea]
        exact List.mem_append_right _ (List.mem_cons_self ..)
      obtain ⟨kk, _, ek⟩ := List.mem_map.mp um
      have ln := congrArg List.length ea
      rw [wx, List.length_append, List.length_map, List.length_map, List.length_cons] at ln
      rw [← ek] at hy
      cases hy
      refine ⟨kk, rfl, by omega, hlt, G4, wipeR u.2 vs, z.1, t.trans tB.1, tB.2, by rw [← el2]; exact ez, ?_⟩
      rw [List.map_append, List.append_assoc, ← ea, ← ek]
      rfl
  · obtain rfl : i = p.1.length := by omega
    refine .inl ⟨wk.stops H2 gd, ?_⟩
    rw [List.drop_length] at el
    cases el
    rw [List.append_nil, wx] at ea
    have : ks = xs := (List.map_inj_right fun a b z => by cases z; rfl).mp ea
    subst this
    refine ⟨few, fun zs z hs nd hmem hz => ?_⟩
    have pm : zs.Perm (ddS ks) := (List.perm_ext_iff_of_nodup nd (ddS_nd ks)).mpr fun y => by rw [hmem, ddS_mem]
    have ez : zs = sortS (ddS ks) := sortS_one pm (sorted_pw hs)
    rw [ez]
    have T := t1.trans (Tr.unwipe t1.rep no t)
    have ex := ex_own (o := .lst ((sortS (ddS ks)).map V.str)) T.rep.le hz
    exact k Gi _ z _ (T.trans (Tr.ext T.rep ex)) (T.go.dom _ hz) upd_same (T.rep.le.free hz) (dda_of_strs _)
theorem qf_sortC {elt tg iter : Expr} {ifs : List Expr} {scope : Scope} {own : List (Str × Nat)} {p pos q : Pos} {src : Ma} {ts : List Nat} {g : Mg} {tt : Mt} {te : Me} (hc : X.calm = true) (hN : X.N.Nodup) (hgl : Gl X "sorted") (hm : X.mg "sorted" = none) (hi : PI X tg iter (RI src)) (ok : BlkOk X.N X.env.scope scope own)
    (hg : ∀ (s : Shared) (H : Hp) (C : Addr) (cl : List (Str × Addr)) (fp : List Addr), PG (X.blk s H scope (compEnvC scope cl C X.env) fp) tg (RG ts g)) (ht : ∀ (s : Shared) (H : Hp) (C : Addr) (cl : List (Str × Addr)) (fp : List Addr), PTs (X.blk s H scope (compEnvC scope cl C X.env) fp) ifs (RT tt))
    (he : ∀ (s : Shared) (H : Hp) (C : Addr) (cl : List (Str × Addr)) (fp : List Addr), PE (X.blk s H scope (compEnvC scope cl C X.env) fp) elt (R te)) (hts : ∀ i ∈ ts, i ∈ own.map (·.2) := by decide) (hs : ∀ x, foldedSetIterable iter X.env x = pure x := by intro _; rfl) :
    PE X (.Call (.Name "sorted" p) [.SetComp elt [⟨tg, iter, ifs, 0⟩] scope pos] [] q) (RF (mSortC src g tt te (own.map (·.2)))) := imp (pe_sortC hc hN hgl hm hi ok hg ht he hs) (sortC_of hts)
end
end Pl
namespace Pl
open PySem PySem.Spec PyProof.Rows L2 Kn
variable [Tbs]
/-! any(l), sum(l) -/
section
variable {X : Cx}
def anyD : List D → Option D
  | [.lst l] => (blsOf l).map fun bs => .bl (bs.any id)
  | _ => none
theorem c_any (hc : X.calm = true) : CallR X (.builtin "any") (rAny X.K) ∧ CallD (rAny X.K) anyD := by
  refine ⟨cr_any hc, fun G H vs ds d Q le hv e k => ?_⟩
  unfold anyD at e
  split at e
  · rename_i l
    obtain ⟨bs, e1, rfl⟩ := mpd e
    obtain ⟨v, rfl, h⟩ := one_inv hv
    obtain rfl := blsOf_inv e1
    cases h with
    | lst z1 z2 => exact ⟨_, bs, rfl, sq_l (le _ _ (dda_bls z2 ▸ z1)), k.sc le (.bl _)⟩
  · cases e
def sumD : List D → Option D
  | [.lst l] => (intsO l).map fun ns => .int ns.sum
  | _ => none
theorem c_sum (hc : X.calm = true) : CallR X (.builtin "sum") (rSum X.K) ∧ CallD (rSum X.K) sumD := by
  refine ⟨cr_sum hc, fun G H vs ds d Q le hv e k => ?_⟩
  unfold sumD at e
  split at e
  · rename_i l
    obtain ⟨ns, e1, rfl⟩ := mpd e
    obtain ⟨v, rfl, h⟩ := one_inv hv
    obtain rfl := intsO_inv e1
    cases h with
    | lst z1 z2 => exact ⟨_, ns, rfl, sq_l (le _ _ (dda_ints z2 ▸ z1)), k.sc le (.int _)⟩
  · cases e
/-! own.extend(l) -/
def extF : List D → List D → Option (D × List D)
  | ds, [.lst es] => if ds.length + es.length < 100000 then some (.non, ds ++ es) else none
  | _, _ => none
theorem ext_of {K : PySem.W.Frag} {m : Ma} {i : Nat} (σ : L2.St) (H : Hp) (Q : VK) (h : R (mMeth i extF m) σ H Q) : tBM K "list" rExtend (tVar i) (RA m) σ H Q := by
  obtain ⟨G, ρ, d, ρ', rp, e, k⟩ := h
  obtain ⟨as, ρ1, l, ds, ds', e1, hd, e2, rfl, l0, ds0, h0⟩ := mMeth_inv e
  obtain ⟨a, xs, h1, h2, _⟩ := rp.own h0
  refine ⟨_, h1, .inl ⟨rfl, xs, sq_l h2⟩, G, ρ, as, ρ1, rp, e1, fun G1 H1 vs t hv => ?_⟩
  obtain ⟨a', ys, h3, h4, h5, h6⟩ := t.rep.own hd
  rw [h1] at h3
  cases h3
  unfold extF at e2
  split at e2
  · rename_i es
    obtain ⟨few, e2⟩ := some_if e2
    cases e2
    cases hv with
    | cons z1 z2 =>
      cases z2
      cases z1 with
      | lst w1 w2 => exact ⟨a, _, ys, _, rfl, rfl, h4, t.rep.le _ _ w1, Nat.le_of_lt (sz6 (by rw [dda_len h6, dda_len w2]; exact few)), k G1 _ _ (t.trans (Tr.mut t.rep hd h1 (dda_app h6 w2))) .non⟩
  · cases e2
theorem qe_ext {i : Nat} {x : Str} {p apos cpos : Pos} {e : Expr} {es : List Expr} {m : Ma} (ho : PE X (.Name x p) (tVar i)) (ha : PA X (e :: es) (RA m))
    (hbase : attributeBase (.Name x p) "extend" X.env (eval (.Name x p) X.env) = eval (.Name x p) X.env := by rfl)
    (hfew : ((backTo cpos (starEach (e :: es) X.env)).all (fun x => !x.1) && (backToKw cpos (keywordEach [] X.env)).all (fun x => x.1.isSome)
      && decide ((e :: es).length + ([] : List Keyword).length + (if ([] : List Keyword).isEmpty then 0 else 1) < 30)) = true := by rfl)
    (hline : (apos.endLine == cpos.line) = true := by rfl) (hs : starEach (e :: es) X.env = (false, eval e X.env) :: starEach es X.env := by rfl) (hplain : (backTo cpos (starEach es X.env)).any (·.1) = false := by rfl) :
    PE X (.Call (.Attribute (.Name x p) "extend" apos) (e :: es) [] cpos) (R (mMeth i extF m)) := imp (pe_bm PySem.F.plainAttrs_list PySem.F.slot_list_extend PySem.F.type_list_extend mt_extend ho ha hbase hfew hline hs hplain) ext_of
end
end Pl
namespace Pl
open PySem PySem.Spec PyProof.Rows L2 Kn
variable [Tbs]
/-! loops whose body begins with `if c: continue` -/
section
variable {X : Cx}
/-- the same as RS, where to go on is as good as to come to the end -/
def RC (m : Ms) : TS := fun D σ H => ∃ G ρ o, Rep G H σ ρ ∧ m ρ = some o ∧ Fin D G H σ ρ o ∧ Fin { D with nx := D.ct } G H σ ρ o
theorem rc_rs {m : Ms} (D : Ends) (σ : L2.St) (H : Hp) (h : RC m D σ H) : RS m D σ H := by
  obtain ⟨G, ρ, o, r, e, f, _⟩ := h
  exact ⟨G, ρ, o, r, e, f⟩
theorem forC_of {src : Ma} {ts : List Nat} {tg : Mg} {body : Ms} (D : Ends) (σ : L2.St) (H : Hp) (h : RS (mFor src tg body) D σ H) : tFor (RI src) (RG ts tg) (RC body) D σ H := by
  obtain ⟨G, ρ, o, r, e, f⟩ := h
  obtain ⟨p, e1, e⟩ := bnd e
  refine ⟨G, ρ, p.1, p.2, r, e1, fun G1 H1 J t1 wk => ?_⟩
  refine for_it wk (fun i σ2 H2 => ∃ G2 ρ2, TrS G1 H1 σ p.2 G2 H2 σ2 ρ2 ∧ forL tg body (p.1.drop i) ρ2 = some o) ⟨G1, p.2, TrS.refl t1.rep, by rw [List.drop_zero]; exact e⟩ (fun i σ2 H2 _ ⟨G2, ρ2, t, _⟩ => t.go.gg.trans t.go.le) (fun i x σ2 H2 H3 hi ⟨G2, ρ2, t, el⟩ y => ?_) (fun σ2 H2 ⟨G2, ρ2, t, el⟩ => ?_)
  · obtain ⟨d, hd1, hy⟩ := y
    obtain ⟨G3, ex, hx⟩ := hy G2 t.go.gg t.go.le
    rw [drop_get hd1] at el
    obtain ⟨ρt, eg, el⟩ := bnd el
    obtain ⟨q, eb, el⟩ := bnd el
    have t3 := t.trans (Tr.ext t.rep ex).s
    refine ⟨G3, ρ2, d, ρt, t3.rep, hx, eg, fun σ3 r3 sl hσ hno hl => ?_⟩
    have t4 := t3.trans (TrS.tgt t3.rep r3 hσ hno hl)
    cases q with
    | nx ρ5 => exact ⟨G3, ρt, _, r3, eb, fun G5 H5 σ5 t5 => ⟨G5, ρ5, t4.trans t5, el⟩, fun G5 H5 σ5 t5 => ⟨G5, ρ5, t4.trans t5, el⟩⟩
    | rt d ρ5 =>
      cases el
      exact ⟨G3, ρt, _, r3, eb, fun G5 H5 σ5 v t5 hv => f G5 H5 σ5 v (t1.s.trans (t4.trans t5)) hv, fun G5 H5 σ5 v t5 hv => f G5 H5 σ5 v (t1.s.trans (t4.trans t5)) hv⟩
    | rf d ρ5 =>
      cases el
      exact ⟨G3, ρt, _, r3, eb, fun G5 H5 σ5 a xs t5 n => f G5 H5 σ5 a xs (t1.s.trans (t4.trans t5)) (n.trans (t1.s.trans t4)), fun G5 H5 σ5 a xs t5 n => f G5 H5 σ5 a xs (t1.s.trans (t4.trans t5)) (n.trans (t1.s.trans t4))⟩
  · rw [List.drop_length] at el
    cases el
    exact f G2 H2 σ2 (t1.s.trans t)
theorem qs_forC {tg iter : Expr} {body : List Stmt} {src : Ma} {ts : List Nat} {g : Mg} {m : Ms} {pos : Pos} (hp : PassesOwn (model X.prog X.w) X.A X.env X.xe) (hc : X.calm = true) (hi : PI X tg iter (RI src)) (hg : PG X tg (RG ts g)) (hb : PSs X body (RC m))
    (hs : ∀ x, foldedSetIterable iter X.env x = pure x := by intro _; rfl) : PS X (.For tg iter body [] pos) (RS (mFor src g m)) := impS (ps_for hp hc hi hg hb hs) forC_of
theorem contIf_of {c : Mt} {r : Ms} (D : Ends) (σ : L2.St) (H : Hp) (h : RC (mIfS c mNx r) D σ H) : tSeq (tIfS (RT c) (tSeq tCont tNext) tNext) (RC r) D σ H := by
  obtain ⟨G, ρ, o, rp, e, f1, f2⟩ := h
  obtain ⟨p, e1, e⟩ := bnd e
  refine ⟨G, ρ, p.1, p.2, rp, e1, fun G1 H1 t => ?_⟩
  cases hp : p.1 with
  | true =>
    rw [hp, if_pos rfl] at e
    cases e
    exact iteT (f2 G1 H1 σ t.s)
  | false =>
    rw [hp, if_neg Bool.false_ne_true] at e
    exact iteF ⟨G1, p.2, o, t.rep, e, Fin.trans t.s f1, Fin.trans t.s f2⟩
theorem qsc_if {c : Expr} {rest : List Stmt} {m : Mt} {r : Ms} {p1 p2 : Pos} (hc : PT X c (RT m)) (hr : PSs X rest (RC r)) : PSs X (.If c [.Continue p1] [] p2 :: rest) (RC (mIfS m mNx r)) := impSs (pss_cons (ps_if hc (pss_cons ps_continue pss_nil) pss_nil) hr) contIf_of
theorem qsc_of {body : List Stmt} {m : Ms} (h : PSs X body (RS m)) : PSs X body (RC m) := impSs h rc_rs
end
end Pl
namespace Pl
open PySem PySem.Spec PyProof.Rows L2 Kn
variable [Tbs]
/-! a test or a flat thing is worked out while all lists of the frame's own are held still; behind it they are its own again -/
section
variable {X : Cx}
def frzS : Sl → Sl
  | .own _ ds => .val (.lst ds)
  | s => s
theorem frz_all {G H : Hp} {σ : L2.St} {ρ : Rh} (r : Rep G H σ ρ) : ∃ G', Rep G' H σ (ρ.map frzS) := by
  classical
  have fp : ∀ a, Fp σ ρ a → G a = none ∧ ∃ xs, H a = some (.lst xs) := fun a ⟨i, l, ds, h1, h2⟩ => by
    obtain ⟨b, xs, k1, k2, k3, _⟩ := r.own h1
    rw [h2] at k1
    cases k1
    exact ⟨k3, xs, k2⟩
  have hs : Same G (fun a => if Fp σ ρ a then H a else G a) := fun a o e => by
    by_cases f : Fp σ ρ a
    · rw [(fp a f).1] at e
      cases e
    · show (if Fp σ ρ a then H a else G a) = some o
      rw [if_neg f]
      exact e
  have no : ∀ {i : Nat} {l : Bool} {ds : List D}, (ρ.map frzS)[i]? = some (.own l ds) → False := fun {i l ds} h => by
    rw [List.getElem?_map] at h
    obtain ⟨s, _, e⟩ := mpd h
    cases s <;> cases e
  refine ⟨fun a => if Fp σ ρ a then H a else G a, ⟨⟨fun a o e => ?_, r.le.tb, fun a o e => ?_⟩, by rw [List.length_map]; exact r.len, fun {i d} h => ?_, fun h => (no h).elim, fun h => (no h).elim⟩⟩
  · by_cases f : Fp σ ρ a
    · have e : (if Fp σ ρ a then H a else G a) = some o := e
      rw [if_pos f] at e
      exact e
    · have e : (if Fp σ ρ a then H a else G a) = some o := e
      rw [if_neg f] at e
      exact r.le _ _ e
  · have e : (if Fp σ ρ a then H a else G a) = some o := e
    by_cases f : Fp σ ρ a
    · rw [if_pos f] at e
      obtain ⟨_, xs, z⟩ := fp a f
      rw [z] at e
      cases e
      exact nt_lst
    · rw [if_neg f] at e
      exact r.le.nt _ _ e
  · rw [List.getElem?_map] at h
    obtain ⟨s, hs1, e⟩ := mpd h
    cases s with
    | un => cases e
    | val d' =>
      cases e
      obtain ⟨v, h1, h2⟩ := r.val hs1
      exact ⟨v, h1, dd_same hs h2⟩
    | own l ds =>
      cases e
      obtain ⟨a, xs, h1, h2, h3, h4⟩ := r.own hs1
      refine ⟨_, h1, .lst (xs := xs) ?_ (dda_same hs h4)⟩
      show (if Fp σ ρ a then H a else G a) = _
      rw [if_pos ⟨i, l, ds, hs1, h1⟩]
      exact h2
theorem thawed {G H G' G1 H1 : Hp} {σ : L2.St} {ρ ρ1 : Rh} (r : Rep G H σ ρ) (t : Tr G' H σ (ρ.map frzS) G1 H1 ρ1) : Tr G H σ ρ G H1 ρ := by
  have no : ∀ a, ¬ Fp σ (ρ.map frzS) a := fun a ⟨i, l, ds, h, _⟩ => by
    rw [List.getElem?_map] at h
    obtain ⟨s, _, e⟩ := mpd h
    cases s <;> cases e
  have off : ∀ a o, H a = some o → NT o → H1 a = some o := fun a o h w => t.go.off a o h (no a) w
  have le : Le G H1 := ⟨fun a o e => off a o (r.le _ _ e) (r.le.nt _ _ e), t.go.le.tb, r.le.nt⟩
  refine ⟨⟨Same.refl G, le, fun a o h _ w => off a o h w, fun _ _ _ g _ _ => g, t.go.dom⟩, ⟨le, r.len, r.val, fun h => ?_, r.inj⟩, Kp.refl ρ⟩
  obtain ⟨a, xs, h1, h2, h3, h4⟩ := r.own h
  exact ⟨a, xs, h1, off a _ h2 nt_lst, h3, h4⟩
def mThw (m : Mt) : Mt := fun ρ => (m (ρ.map frzS)).map fun p => (p.1, ρ)
theorem qt_thw {e : Expr} {m : Mt} (h : PT X e (RT m)) : PT X e (RT (mThw m)) := by
  refine impT h fun σ H Q ⟨G, ρ, d, ρ', r, e, k⟩ => ?_
  obtain ⟨p, e1, e2⟩ := mpd e
  cases e2
  obtain ⟨G', r'⟩ := frz_all r
  exact ⟨G', _, p.1, p.2, r', e1, fun G1 H1 t => k G H1 (thawed r t)⟩
theorem v_thw {m : Mt} {ρ ρ1 : Rh} {b : Bool} (h : m (ρ.map frzS) = some (b, ρ1)) : mThw m ρ = some (b, ρ) := by
  unfold mThw
  rw [h]
  rfl
theorem flat_dd {G G' : Hp} {v : V} {d : D} (h : Dd G v d) (f : flatD d = true) : Dd G' v d := by
  cases h with
  | non => exact .non
  | bl b => exact .bl b
  | int i => exact .int i
  | str x => exact .str x
  | _ => cases f
def mThwE (m : Me) : Me := fun ρ => (m (ρ.map frzS)).bind fun p => if flatD p.1 = true then some (p.1, ρ) else none
theorem qe_thw {e : Expr} {m : Me} (h : PE X e (R m)) : PE X e (R (mThwE m)) := by
  refine imp h fun σ H Q ⟨G, ρ, d, ρ', r, e, k⟩ => ?_
  obtain ⟨p, e1, e2⟩ := bnd e
  split at e2
  · rename_i f
    cases e2
    obtain ⟨G', r'⟩ := frz_all r
    exact ⟨G', _, p.1, p.2, r', e1, fun G1 H1 v t hv => k G H1 v (thawed r t) (flat_dd hv f)⟩
  · cases e2
theorem v_thwE {m : Me} {ρ ρ1 : Rh} {d : D} (h : m (ρ.map frzS) = some (d, ρ1)) (f : flatD d = true) : mThwE m ρ = some (d, ρ) := by
  unfold mThwE
  rw [h]
  show (if flatD d = true then some (d, ρ) else none) = _
  rw [if_pos f]
end
/-! min of a list of texts -/
section
def ltX (xs : List Str) (i j : Nat) : Bool := decide ((xs.getD i "").cps.toList < (xs.getD j "").cps.toList)
theorem best_le (xs : List Str) : ∀ k, argBest (ltX xs) k ≤ k ∧ ∀ j, j ≤ k → (xs.getD (argBest (ltX xs) k) "").cps.toList ≤ (xs.getD j "").cps.toList
  | 0 => ⟨Nat.le_refl _, fun j hj => by
    obtain rfl : j = 0 := Nat.le_zero.mp hj
    exact List.le_refl _⟩
  | k + 1 => by
    obtain ⟨h1, h2⟩ := best_le xs k
    unfold argBest
    by_cases hc : ltX xs (k + 1) (argBest (ltX xs) k) = true
    · rw [if_pos hc]
      have hc' := of_decide_eq_true hc
      refine ⟨Nat.le_refl _, fun j hj => ?_⟩
      rcases Nat.lt_or_ge j (k + 1) with l | g
      · exact List.le_trans (List.le_of_lt hc') (h2 j (by omega))
      · obtain rfl : j = k + 1 := by omega
        exact List.le_refl _
    · rw [if_neg hc]
      refine ⟨by omega, fun j hj => ?_⟩
      rcases Nat.lt_or_ge j (k + 1) with l | g
      · exact h2 j (by omega)
      · obtain rfl : j = k + 1 := by omega
        refine List.not_lt.mp fun z => hc ?_
        exact decide_eq_true z
section
variable {prog : Program} {w : World} {A : Around} {E : Value → Shared → Prop} {s : Shared} {l : Addr}
theorem min_txts {its : List Value} {xs : List Str} {Q : Value → Shared → Prop} (hh : A.handled = none) (hl : s.heap.IsList l its.toArray) (hi : StrsAre its xs) (hne : 0 < xs.length)
    (h : ∀ h' tk M t', (∀ b o, s.heap.get? b = some o → h'.get? b = some o) → M ∈ xs → (∀ y, y ∈ xs → M.cps.toList ≤ y.cps.toList) → Q (.str M t') { s with heap := h', toks := tk }) : wpAny (model prog w) A (call (.builtin "min") [.ref l]) Q E s := by
  obtain ⟨lo, elo, _⟩ := id hl
  have ll : l < s.heap.objs.size := Heap.lt_size elo
  refine call_min_walk (wpAny_pyIter_list hl ?_)
  refine ⟨_, [s.heap.objs.size, l], _, its.toArray.size, fun i v => its.toArray[i]? = some v, _, ltX xs, rfl, Walks.list (A := A.in1) hh _ l (Nat.ne_of_lt ll) its.toArray, ⟨⟨_, Heap.get?_push_size _ rfl, rfl, rfl⟩, hl.push _⟩, fun b hb => ?_, ?_, ?_, fun v h' tk hP hk => ?_⟩
  · show b < (s.heap.push _).objs.size
    rw [Heap.size_push]
    simp only [List.mem_cons, List.not_mem_nil, or_false] at hb
    rcases hb with rfl | rfl
    · exact Nat.lt_succ_self _
    · exact Nat.lt_succ_of_lt ll
  · rw [List.size_toArray, strs_len_eq hi]
    exact hne
  · intro i j vi vj s' Q' E' e1 e2 q
    rw [List.getElem?_toArray] at e1 e2
    obtain ⟨x, t, rfl, x1⟩ := StrsAre.item hi i vi e1
    obtain ⟨y, u, rfl, y1⟩ := StrsAre.item hi j vj e2
    have q : Q' (.bool (decide (x.cps.toList < y.cps.toList))) s' := by
      have e : ltX xs i j = decide (x.cps.toList < y.cps.toList) := by
        unfold ltX
        rw [List.getD_eq_getElem?_getD, List.getD_eq_getElem?_getD, x1, y1]
        rfl
      rw [← e]
      exact q
    exact (PyProof.Rows.lt_str q : wpAny (model prog w) A.in1 (compareOp .Lt (.str x t) (.str y u)) Q' E' s')
  · have hP : its.toArray[argBest (ltX xs) (its.toArray.size - 1)]? = some v := hP
    rw [List.getElem?_toArray] at hP
    obtain ⟨M, t, rfl, m1⟩ := StrsAre.item hi _ v hP
    obtain ⟨b1, b2⟩ := best_le xs (its.toArray.size - 1)
    have eM : xs.getD (argBest (ltX xs) (its.toArray.size - 1)) "" = M := by
      rw [List.getD_eq_getElem?_getD, m1]
      rfl
    have len : its.toArray.size = xs.length := by rw [List.size_toArray, strs_len_eq hi]
    refine h h' tk M t (fun b o e => hk b o (fun z => ?_) (Heap.get?_push_of_some _ e)) (List.mem_of_getElem? m1) fun y hy => ?_
    · have z2 := Heap.lt_size e
      simp only [List.mem_cons, List.not_mem_nil, or_false] at z
      rw [z] at z2
      exact Nat.lt_irrefl _ z2
    · obtain ⟨j, hj, rfl⟩ := List.getElem_of_mem hy
      have := b2 j (by omega)
      rw [eM, List.getD_eq_getElem?_getD, List.getElem?_eq_getElem hj] at this
      exact this
end
variable {X : Cx}
def rMinX (K : PySem.W.Frag) : List V → Hp → VK → Prop := fun vs H Q => ∃ (a : Addr) (xs : List Str), vs = [V.ref a] ∧ SqL K H a (xs.map V.str) ∧ 0 < xs.length ∧ ∀ m, m ∈ xs → (∀ y, y ∈ xs → m.cps.toList ≤ y.cps.toList) → Q (.str m) H
theorem cr_minX (hc : X.calm = true) : CallR X (.builtin "min") (rMinX X.K) := by
  intro pins s σ H vs us Q I r h
  obtain ⟨a, xs, rfl, hs, hne, q⟩ := h
  obtain ⟨its, rv, hl, _⟩ := I.list hs
  rw [Vals.ref1 r]
  exact min_txts (I.ok.hd hc) hl.isList rv.strs hne fun h' tk m t' hk h1 h2 => ⟨.str _, H, I.kept hk, ⟨_, rfl⟩, q m h1 h2⟩
def minX : List D → Option D
  | [.lst l] => (strsOf l).bind fun xs => (sortS xs).head?.map D.str
  | _ => none
theorem min_head {xs : List Str} {m M : Str} (h : (sortS xs).head? = some M) (hm : m ∈ xs) (hl : ∀ y, y ∈ xs → m.cps.toList ≤ y.cps.toList) : m = M := by
  have hp := sortS_perm xs
  have hs := sortS_pw xs
  cases e : sortS xs with
  | nil => rw [e] at h; cases h
  | cons z zs =>
    rw [e] at h hp hs
    cases h
    have mz : m ∈ M :: zs := hp.mem_iff.mpr hm
    have Mx : M ∈ xs := hp.mem_iff.mp (List.mem_cons_self ..)
    refine str_ext (List.le_antisymm (hl M Mx) ?_)
    rcases List.mem_cons.mp mz with rfl | k
    · exact List.le_refl _
    · exact (List.pairwise_cons.mp hs).1 m k
theorem c_minX (hc : X.calm = true) : CallR X (.builtin "min") (rMinX X.K) ∧ CallD (rMinX X.K) minX := by
  refine ⟨cr_minX hc, fun G H vs ds d Q le hv e k => ?_⟩
  unfold minX at e
  split at e
  · obtain ⟨xs, e1, e⟩ := bnd e
    obtain ⟨M, e2, rfl⟩ := mpd e
    obtain ⟨v, rfl, h⟩ := one_inv hv
    rw [strsOf_inv e1] at h
    cases h with
    | lst h1 h2 =>
      rw [dda_strs h2] at h1
      refine ⟨_, xs, rfl, sq_l (le _ _ h1), ?_, fun m hm hy => ?_⟩
      · cases xs with
        | nil => rw [List.perm_nil.mp (sortS_perm [])] at e2; cases e2
        | cons x xs => exact Nat.succ_pos _
      · rw [min_head e2 hm hy]
        exact k.sc le (.str _)
  · cases e
end
end Pl
namespace Pl
open PySem PySem.Spec PyProof.Rows L2 Kn
variable [Tbs]
/-! range(i, j, c) -/
section
variable {X : Cx} {tg : Expr}
instance (i j c : Int) (n : Nat) : Decidable (RgC i j c n) := by unfold RgC; infer_instance
def rngC (i c : Int) (n : Nat) : List D := (List.range n).map fun (k : Nat) => .int (i + (k : Nat) * c)
def rng3 : List D → Option (List D)
  | [.int i, .int j, .int c] => if RgC i j c (Builtin.Range.rangeSize i j c).toNat then some (rngC i c (Builtin.Range.rangeSize i j c).toNat) else none
  | _ => none
theorem walk_rngC {G : Hp} {i c : Int} {n : Nat} : WalkD (Itc i c n) G (rngC i c n) := by
  unfold WalkD
  rw [show (rngC i c n).length = n by simp [rngC]]
  refine walk_rangeC.mono (fun _ _ => trivial) fun k H x H' hk le y => ?_
  obtain ⟨rfl, rfl⟩ := y
  exact ⟨.int (i + (k : Nat) * c), by simp [rngC, hk], fun G1 s1 s2 => ⟨G1, Ex.refl s2, .int _⟩⟩
theorem qi_range3 {a b c : Expr} {m : Ma} {p pos : Pos} (hg : Gl X "range") (hm : X.mg "range" = none) (ha : PA X [a, b, c] (RA m))
    (hs : starEach [a, b, c] X.env = (false, eval a X.env) :: starEach [b, c] X.env := by rfl) (hpl : (backTo pos (starEach [b, c] X.env)).any (·.1) = false := by rfl) : PI X tg (.Call (.Name "range" p) [a, b, c] [] pos) (RI (mCall rng3 m)) := by
  refine impI (pi_range3 hg hm ha hs hpl) fun σ H Q ⟨G, ρ, ds, ρ', rp, e, k⟩ => ?_
  obtain ⟨l, e1, e2⟩ := mCall_inv e
  refine ⟨G, ρ, l, ρ', rp, e1, fun G1 H1 vs t hv => ?_⟩
  unfold rng3 at e2
  split at e2
  · obtain ⟨hc, rfl⟩ := some_if e2
    cases hv with
    | cons h1 h2 =>
      cases h2 with
      | cons h2 h3 =>
        cases h3 with
        | cons h3 h4 =>
          cases h1; cases h2; cases h3; cases h4
          exact ⟨_, _, _, _, rfl, hc, k G1 H1 _ t walk_rngC⟩
  · cases e2
theorem rng3_two : ∀ m : _root_.Fin 13, rng3 [.int 0, .int ((2 * m.1 : Nat) : Int), .int 2] = some ((List.range m.1).map fun (k : Nat) => .int ((2 * k : Nat) : Int)) := fun m => by
  have h : ∀ m : _root_.Fin 13, RgC 0 ((2 * m.1 : Nat) : Int) 2 (Builtin.Range.rangeSize 0 ((2 * m.1 : Nat) : Int) 2).toNat ∧ (Builtin.Range.rangeSize 0 ((2 * m.1 : Nat) : Int) 2).toNat = m.1 := by decide +kernel
  obtain ⟨h1, h2⟩ := h m
  show (if RgC 0 ((2 * m.1 : Nat) : Int) 2 (Builtin.Range.rangeSize 0 ((2 * m.1 : Nat) : Int) 2).toNat then some (rngC 0 2 (Builtin.Range.rangeSize 0 ((2 * m.1 : Nat) : Int) 2).toNat) else none) = _
  rw [if_pos h1, h2]
  unfold rngC
  congr 1
  refine List.map_congr_left fun k _ => ?_
  congr 1
  omega
end
end Pl
namespace Pl
open PySem PySem.Spec PyProof.Rows L2 Kn
variable [Tbs]
/-! name -= e -/
section
variable {X : Cx}
def subF (i j : Int) : Option Int := some (i - j)
theorem i_sub : OpR X (inplaceOp .Sub) (rI (fun _ _ => True) fun i j => .int (i - j)) := fun pins s σ H x y v u Q I rx ry ⟨i, j, a, b, _, q⟩ => iop_sub pins s σ H x y v u Q I rx ry ⟨i, j, a, b, q⟩
theorem subF_ok (a b c : Int) (h : subF a b = some c) : True ∧ c = a - b := ⟨trivial, (Option.some.inj h).symm⟩
/-! o.index(x) of lists and tuples alike -/
theorem PE.or {e : Expr} {t t' : TE} (h : PE X e t) (h' : PE X e t') : PE X e (fun σ H Q => t σ H Q ∨ t' σ H Q) := by
  refine ⟨fun pins s σ H Q I q => ?_⟩
  rcases q with q | q
  · exact h.run pins s σ H Q I q
  · exact h'.run pins s σ H Q I q
def mIxA (mo ma : Me) : Me := fun ρ => (mo ρ).bind fun p => match p.1 with
  | .lst _ => mIxL mo ma ρ
  | .tup _ _ => mIxT mo ma ρ
  | _ => none
theorem qe_indexA {o e : Expr} {mo ma : Me} {apos cpos : Pos} (ho : PE X o (R mo)) (ha : PE X e (R ma)) (hbase : attributeBase o "index" X.env (eval o X.env) = eval o X.env := by rfl)
    (hfew : ((backTo cpos (starEach [e] X.env)).all (fun x => !x.1) && (backToKw cpos (keywordEach [] X.env)).all (fun x => x.1.isSome) && decide ([e].length + ([] : List Keyword).length + (if ([] : List Keyword).isEmpty then 0 else 1) < 30)) = true := by rfl)
    (hline : (apos.endLine == cpos.line) = true := by rfl) (hs : starEach [e] X.env = (false, eval e X.env) :: starEach [] X.env := by rfl) (hplain : (backTo cpos (starEach [] X.env)).any (·.1) = false := by rfl) :
    PE X (.Call (.Attribute o "index" apos) [e] [] cpos) (R (mIxA mo ma)) := by
  refine imp (PE.or (qe_indexL ho ha hbase hfew hline hs hplain) (qe_indexT ho ha hbase hfew hline hs hplain)) fun σ H Q ⟨G, ρ, d, ρ', rp, e, k⟩ => ?_
  obtain ⟨p, e1, e2⟩ := bnd e
  split at e2
  · exact .inl ⟨G, ρ, d, ρ', rp, e2, k⟩
  · exact .inr ⟨G, ρ, d, ρ', rp, e2, k⟩
  · cases e2
end
end Pl
namespace Pl
open PySem PySem.Spec PyProof.Rows L2 Kn
variable [Tbs]
/-! a dict of a frame's own that is written to turn by turn: d = dict(l); for ..: d[k] = v -/
section
variable {X : Cx}
def dictP : List D → Option (List (Key × D))
  | [.lst l] => (pairsOf l).map mergeD
  | _ => none
def dputL (tg : Mg) (ek ev : Me) : List D → List (Key × D) → Rh → Option (List (Key × D) × Rh)
  | [], kvs, ρ => some (kvs, ρ)
  | d :: ds, kvs, ρ => (tg d ρ).bind fun ρ1 => (ev ρ1).bind fun p => (ek p.2).bind fun q => (keyD q.1).bind fun k => if kvs.length < 100000 then dputL tg ek ev ds (putD kvs k p.1) q.2 else none
def mDput (i : Nat) (m0 : Ma) (src : Ma) (ts : List Nat) (tg : Mg) (ek ev : Me) (rest : Ms) : Ms := fun ρ => (m0 ρ).bind fun p => (dictP p.1).bind fun kvs => if i < p.2.length ∧ isLent p.2[i]? = false ∧ i ∉ ts then
  (src (p.2.set i .un)).bind fun q => (dputL tg ek ev q.1 kvs q.2).bind fun z => if i < z.2.length ∧ isLent z.2[i]? = false then rest (z.2.set i (.val (.dct (z.1.map (·.1)) (z.1.map (·.2))))) else none else none
/-- what nobody has is for good from here on -/
theorem TrS.gx {G0 H0 G H : Hp} {σ0 σ : L2.St} {ρ0 ρ : Rh} {c : Addr} {o : HO} (t : TrS G0 H0 σ0 ρ0 G H σ ρ) (hn : H0 c = none) (hg : G c = none) (hf : ¬ Fp σ ρ c) (hc : H c = some o) (w : NT o) : TrS G0 H0 σ0 ρ0 (upd G c o) H σ ρ := by
  have sn : Same G (upd G c o) := same_new hg
  have le : Le (upd G c o) H := t.rep.le.good hc w
  refine ⟨⟨t.go.gg.trans sn, le, fun a u h n w => t.go.off a u h n w, fun a u h g n w => ?_, t.go.dom⟩, ⟨le, t.rep.len, fun h => ?_, fun {j l es} h => ?_, t.rep.inj⟩, t.fp, t.len, t.lent⟩
  · rw [upd_ne (ne_of_none h hn)]
    exact t.go.new a u h g n w
  · obtain ⟨v, h1, h2⟩ := t.rep.val h
    exact ⟨v, h1, dd_same sn h2⟩
  · obtain ⟨b, ys, h1, h2, h3, h4⟩ := t.rep.own h
    refine ⟨b, ys, h1, h2, ?_, dda_same sn h4⟩
    rw [upd_ne fun e => hf ⟨j, l, es, h, by rw [← e]; exact h1⟩]
    exact h3
theorem set_id {α : Type} : ∀ {l : List α} {i : Nat} {a : α}, l[i]? = some a → l.set i a = l
  | [], i, a, h => by cases i <;> cases h
  | x :: l, 0, a, h => by cases h; rfl
  | x :: l, i + 1, a, h => by
    show x :: l.set i a = x :: l
    rw [set_id (l := l) (i := i) h]
theorem KD.len {κ : Type} {G : Hp} {a : List (κ × V)} {b : List (κ × D)} (h : KD G a b) : a.length = b.length := by
  have := congrArg List.length h.keys.1
  rw [List.length_map, List.length_map] at this
  exact this
theorem dput_of {i : Nat} {m0 src : Ma} {ts : List Nat} {tg : Mg} {ek ev : Me} {rest : Ms} {K : PySem.W.Frag} (D : Ends) (σ : L2.St) (H : Hp) (h : RS (mDput i m0 src ts tg ek ev rest) D σ H) :
    tSeq (tAsg (tCB (rDictA K) (RA m0)) (gName i)) (tSeq (tFor (RI src) (RG ts tg) (tAsg (R ev) (gSub (tVar i) (R ek) rSetD))) (fun D σ H => ∃ a u, H a = some u ∧ Mut (some u) ∧ ∀ o, RS rest D σ (upd H a (.frz o u)))) D σ H := by
  obtain ⟨G, ρ, o, r, e, f⟩ := h
  obtain ⟨p, e1, e⟩ := bnd e
  obtain ⟨kvs, e2, e⟩ := bnd e
  split at e
  case isFalse => cases e
  rename_i hi
  obtain ⟨hi, hl, hts⟩ := hi
  obtain ⟨q, e3, e⟩ := bnd e
  obtain ⟨z, e4, e⟩ := bnd e
  split at e
  case isFalse => cases e
  rename_i hz
  obtain ⟨hz1, hz2⟩ := hz
  refine ⟨G, ρ, p.1, p.2, r, e1, fun G1 H1 vs t1 hv => ?_⟩
  unfold dictP at e2
  split at e2
  case h_2 => cases e2
  rename_i l el
  obtain ⟨ps, e5, rfl⟩ := mpd e2
  rw [el] at hv
  obtain ⟨v0, rfl, hv0⟩ := one_inv hv
  cases hv0 with
  | lst h1 h2 =>
    obtain ⟨as, kvV, rfl, h3, h4⟩ := pairs_ok (K := K) h2 e5
    refine ⟨_, as, kvV, rfl, .inr (sq_l (t1.rep.le _ _ h1)), h4 H1 t1.rep.le, fun c nc => ?_⟩
    have nH : H c = none := t1.go.dom c nc
    have g1c : G1 c = none := t1.rep.le.free nc
    have kd0 : KD G1 (mergeK [] kvV) (mergeD ps) := KD.merge h3 .nil
    have f0 : ¬ Fp σ p.2 c := fun y => by
      obtain ⟨xs, y⟩ := fp_some t1.rep y
      rw [nc] at y
      cases y
    have T0 := (t1.s.trans (TrS.un (v := .ref c) t1.rep hi hl)).pokeS (p := c) (o := .dK (mergeK [] kvV)) r nH g1c (fun y => by
      obtain ⟨j, l', es, y1, y2⟩ := y
      have hj : j ≠ i := fun e => by
        subst e
        rw [List.getElem?_set_self hi] at y1
        cases y1
      rw [List.getElem?_set_ne (Ne.symm hj)] at y1 y2
      exact f0 ⟨j, l', es, y1, y2⟩) (fun u hu => by rw [nc] at hu; cases hu)
    have sl : i < σ.length := by rw [t1.rep.len]; exact hi
    have f1 : ¬ Fp (σ.set i (some (.ref c))) (p.2.set i .un) c := fun y => by
      obtain ⟨j, l', es, y1, y2⟩ := y
      have hj : j ≠ i := fun e => by
        subst e
        rw [List.getElem?_set_self hi] at y1
        cases y1
      rw [List.getElem?_set_ne (Ne.symm hj)] at y1 y2
      exact f0 ⟨j, l', es, y1, y2⟩
    refine ⟨G1, p.2.set i .un, q.1, q.2, T0.rep, e3, fun G2 H3 J t2 wk => ?_⟩
    refine for_it wk (fun k σ2 H4 => ∃ Gk ρk kvk kvVk, TrS G H σ ρ Gk H4 σ2 ρk ∧ H4 c = some (.dK kvVk) ∧ Gk c = none ∧ ¬ Fp σ2 ρk c ∧ σ2[i]? = some (some (.ref c)) ∧ KD Gk kvVk kvk ∧ dputL tg ek ev (q.1.drop k) kvk ρk = some z ∧ Same G2 Gk) ?_ (fun k σ2 H4 _ ⟨Gk, ρk, _, _, t, _, _, _, _, _, _, s⟩ => s.trans t.go.le) (fun k x σ2 H4 H5 hk ⟨Gk, ρk, kvk, kvVk, t, hc, gc, nf, si, kd, el2, s2⟩ y => ?_) (fun σ2 H4 ⟨Gk, ρk, kvk, kvVk, t, hc, gc, nf, si, kd, el2, s2⟩ => ?_)
    · refine ⟨G2, q.2, _, _, T0.trans t2.s, t2.go.off c _ upd_same f1 nt_dK, t2.go.new c _ upd_same g1c f1, fun y => f1 (t2.kp.fp y), List.getElem?_set_self sl, kd0.same t2.go.gg, by rw [List.drop_zero]; exact e4, Same.refl _⟩
    · obtain ⟨d, hd1, hy⟩ := y
      obtain ⟨G3, ex, hx⟩ := hy Gk s2 t.go.le
      rw [drop_get hd1] at el2
      obtain ⟨ρt, eg, el2⟩ := bnd el2
      obtain ⟨pv, ev1, el2⟩ := bnd el2
      obtain ⟨pk, ek1, el2⟩ := bnd el2
      obtain ⟨key, hkey, el2⟩ := bnd el2
      split at el2
      case isFalse => cases el2
      rename_i hlen
      have t3 := t.trans (Tr.ext t.rep ex).s
      have h5 : H5 c = some (.dK kvVk) := ex.off c _ hc id nt_dK
      have g3 : G3 c = none := ex.new c _ hc gc id
      refine ⟨G3, ρk, d, ρt, t3.rep, hx, eg, fun σ3 r3 sl3 hσ hno hlr => ?_⟩
      have tt := TrS.tgt t3.rep r3 hσ hno hlr
      have nf3 : ¬ Fp σ3 ρt c := fun y => by
        rcases tt.fp c y with y | y
        · exact nf y
        · rw [h5] at y
          cases y
      have si3 : σ3[i]? = some (some (.ref c)) := by rw [(hσ i hts).1]; exact si
      refine ⟨G3, ρt, pv.1, pv.2, r3, ev1, fun G4 H6 v t4 hv4 => ⟨_, si3, G4, pv.2, pk.1, pk.2, t4.rep, ek1, fun G5 H7 u t5 hu => ?_⟩⟩
      have h6 : H6 c = some (.dK kvVk) := t4.go.off c _ h5 nf3 nt_dK
      have g4 : G4 c = none := t4.go.new c _ h5 g3 nf3
      have nf4 : ¬ Fp σ3 pv.2 c := fun y => nf3 (t4.kp.fp y)
      have h7 : H7 c = some (.dK kvVk) := t5.go.off c _ h6 nf4 nt_dK
      have g5 : G5 c = none := t5.go.new c _ h6 g4 nf4
      have nf5 : ¬ Fp σ3 pk.2 c := fun y => nf4 (t5.kp.fp y)
      obtain rfl := keyD_v hu hkey
      have kd5 : KD G5 kvVk kvk := kd.same (((Tr.ext t.rep ex).go.gg.trans t4.go.gg).trans t5.go.gg)
      unfold rSetD
      refine ⟨c, _, rfl, DPut.k h7 (by rw [kd.len]; exact sz6 hlen), G5, pk.2, _, _, (((t3.trans tt).trans (t4.trans t5).s).pokeS (o := .dK (putK kvVk key v)) r nH g5 nf5 fun u hu => by rw [h7] at hu; cases hu; exact .inr (.inl ⟨_, rfl⟩)), upd_same, g5, nf5, si3, kd5.put key (dd_same t5.go.gg hv4), el2, ?_⟩
      exact ((s2.trans (Tr.ext t.rep ex).go.gg).trans t4.go.gg).trans t5.go.gg
    · rw [List.drop_length] at el2
      cases el2
      refine ⟨c, _, hc, trivial, fun ob => ?_⟩
      have T1 := t.pokeS (o := .frz ob (.dK kvVk)) r nH gc nf fun u hu => by rw [hc] at hu; cases hu; exact .inr (.inl ⟨_, rfl⟩)
      have T2 := T1.gx nH gc nf upd_same nt_frz
      have dv : Dd (upd Gk c (.frz ob (.dK kvVk))) (.ref c) (.dct (kvk.map (·.1)) (kvk.map (·.2))) := by
        obtain ⟨k1, k2⟩ := kd.keys
        rw [← k1]
        exact .dct upd_same (dda_same (same_new gc) k2)
      have T3 := T2.trans (TrS.set (i := i) (v := .ref c) T2.rep hz1 hz2 dv)
      rw [set_id si] at T3
      exact ⟨_, _, o, T3.rep, e, f.trans T3⟩
theorem qss_dput {st1 st2 : Stmt} {sts : List Stmt} {i : Nat} {m0 src : Ma} {ts : List Nat} {tg : Mg} {ek ev : Me} {rest : Ms} (h1 : PS X st1 (tAsg (tCB (rDictA X.K) (RA m0)) (gName i)))
    (h2 : PS X st2 (tFor (RI src) (RG ts tg) (tAsg (R ev) (gSub (tVar i) (R ek) rSetD)))) (h3 : PSs X sts (RS rest)) : PSs X (st1 :: st2 :: sts) (RS (mDput i m0 src ts tg ek ev rest)) :=
  impSs (pss_cons h1 (pss_cons h2 (pss_lock h3))) dput_of
end
end Pl
namespace Pl
open PySem PySem.Spec PyProof.Rows L2 Kn
variable [Tbs]
/-! * and // of great numbers -/
section
variable {X : Cx}
instance (i j : Int) : Decidable (CDivW i j) := by unfold CDivW; infer_instance
instance (i j : Int) : Decidable (CMulW i j) := by unfold CMulW; infer_instance
def fdivW (i j : Int) : Option Int := if CDivW i j then some (i / j) else none
def mulW (i j : Int) : Option Int := if CMulW i j then some (i * j) else none
theorem o_fdivW : OpR X (binaryOp .FloorDiv) (rI CDivW fun i j => .int (i / j)) ∧ OpD (rI CDivW fun i j => .int (i / j)) (intD fdivW) := by
  refine ⟨op_fdivW, fun G H x y a b d Q le ha hb e k => ?_⟩
  obtain ⟨i, j, r, rfl, rfl, h, rfl⟩ := intD_inv e
  unfold fdivW at h
  obtain ⟨hc, rfl⟩ := some_if h
  cases ha; cases hb
  exact ⟨_, _, rfl, rfl, hc, k.sc le (.int _)⟩
theorem o_mulW : OpR X (binaryOp .Mult) (rI CMulW fun i j => .int (i * j)) ∧ OpD (rI CMulW fun i j => .int (i * j)) (intD mulW) := by
  refine ⟨op_mulW, fun G H x y a b d Q le ha hb e k => ?_⟩
  obtain ⟨i, j, r, rfl, rfl, h, rfl⟩ := intD_inv e
  unfold mulW at h
  obtain ⟨hc, rfl⟩ := some_if h
  cases ha; cases hb
  exact ⟨_, _, rfl, rfl, hc, k.sc le (.int _)⟩
theorem fdivW_ok {i j : Int} (h0 : 0 < j) (h1 : j < 2 ^ 100) : (intD fdivW) (.int i) (.int j) = some (.int (i / j)) := by
  have : CDivW i j := wide_div (b := 100) h0 (by omega) (by decide) (by decide)
  show (fdivW i j).map D.int = _
  unfold fdivW
  rw [if_pos this]
  rfl
end
end Pl
namespace Pl
open PySem PySem.Spec PyProof.Rows L2 Kn
variable [Tbs]
/-! dict(zip(l, t)), l a list, t a tuple -/
section
variable {X : Cx}
def tLZip (K : PySem.W.Frag) (ta : TA) : TE := fun σ H Q => ta σ H fun vs H1 => ∃ (a b : Addr) (ks : List Key) (ys : List V), vs = [.ref a, .ref b] ∧ SqL K H1 a (ks.map kV) ∧ SqT K H1 b ys ∧ ks.length = ys.length ∧ ∀ p, H1 p = none → Q (.ref p) (upd H1 p (.dK (mergeK [] (ks.zip ys))))
theorem pe_dictZipL {e e2 : Expr} {ta : TA} {p pos p2 pos2 : Pos} (hc : X.calm = true) (hg : Gl X "dict") (hm : X.mg "dict" = none) (hgz : Gl X "zip") (hmz : X.mg "zip" = none) (ha : PA X [e, e2] ta)
    (hs : starEach [.Call (.Name "zip" p2) [e, e2] [] pos2] X.env = (false, eval (.Call (.Name "zip" p2) [e, e2] [] pos2) X.env) :: starEach [] X.env := by rfl)
    (hs2 : starEach [e, e2] X.env = (false, eval e X.env) :: starEach [e2] X.env := by rfl) (hpl : (backTo pos2 (starEach [e2] X.env)).any (·.1) = false := by rfl) :
    PE X (.Call (.Name "dict" p) [.Call (.Name "zip" p2) [e, e2] [] pos2] [] pos) (tLZip X.K ta) := by
  refine ⟨fun pins s σ H Q I h => ?_⟩
  refine wpAny_Call_Name_kw (ld_blt I hg hm (u := .type "dict") (by decide +kernel) (PyProof.Rows.callWith_type1 ?_ hs rfl))
  rw [hs]
  refine Calls.spliced_cons (Call_ (ld_blt I hgz hmz PyProof.Rows.boot_zip (PyProof.Rows.callWith_type1 (thn (ha.run pos2 pins s σ H _ I h) fun us s1 ⟨vs, H1, I1, r1, q1⟩ => ?_) hs2 hpl)))
  obtain ⟨a, b, ks, ys, rfl, ha1, hb1, hl, q⟩ := q1
  obtain ⟨u, v, rfl, ru, rv⟩ := vals2 r1
  cases ru
  cases rv
  obtain ⟨its, w1, p1, z1⟩ := I1.list ha1
  obtain ⟨its2, w2, p2, z2⟩ := I1.tuple hb1
  have n1 : its.length = ks.length := by rw [← w1.length, List.length_map]
  have n2 : its2.length = ks.length := by rw [← w2.length, hl]
  have t1 : s1.heap.IsList a its.toArray := p1.isList
  have t2 : s1.heap.IsTuple b its2.toArray := p2
  have b1 : a < s1.heap.objs.size := let ⟨_, e, _⟩ := t1; Heap.lt_size e
  have b2 : b < s1.heap.objs.size := let ⟨_, e, _⟩ := t2; Heap.lt_size e
  refine zip_begins2 (begins_list a its.toArray) (begins_tuple b its2.toArray) t1 t2 fun h' hz hTI hTO h1 h2 hsz hk => Calls.spliced_nil ?_
  have S : ZipSep2 (s1.heap.objs.size + 4) (s1.heap.objs.size + 2) (s1.heap.objs.size + 3) s1.heap.objs.size (s1.heap.objs.size + 1) [s1.heap.objs.size, a] [s1.heap.objs.size + 1, b] := by
    exact zip_sep b1 b2
  have D1 : ∀ A : Around, A.handled = none → Draws X.prog X.w A s1.heap.objs.size [s1.heap.objs.size, a] ks.length (fun i v => its.toArray[i]? = some v) (fun i h => h.IsListIter s1.heap.objs.size a i ∧ h.IsList a its.toArray) := fun A hA => by
    have := Draws.list (prog := X.prog) (w := X.w) hA s1.heap.objs.size a (Nat.ne_of_lt b1) its.toArray
    rw [show its.toArray.size = ks.length from by simpa using n1] at this
    exact this
  have D2 : ∀ A : Around, A.handled = none → Draws X.prog X.w A (s1.heap.objs.size + 1) [s1.heap.objs.size + 1, b] ks.length (fun i v => its2.toArray[i]? = some v) (fun i h => h.IsTupleIter (s1.heap.objs.size + 1) b i ∧ h.IsTuple b its2.toArray) := fun A hA => by
    have := Draws.tuple (prog := X.prog) (w := X.w) hA (s1.heap.objs.size + 1) b (Nat.ne_of_lt (Nat.lt_succ_of_lt b2)) its2.toArray
    rw [show its2.toArray.size = ks.length from by simpa using n2] at this
    exact this
  have PAg := pairs_zip _ (I1.ok.hd hc) S D1 D2 (fun h st c hc => by
    obtain ⟨⟨o1, e1, _⟩, ⟨o2, e2, _⟩⟩ := st
    simp only [List.mem_cons, List.not_mem_nil, or_false] at hc
    rcases hc with rfl | rfl
    · exact ⟨_, e1⟩
    · exact ⟨_, e2⟩) (fun h st c hc => by
    obtain ⟨⟨o1, e1, _⟩, ⟨o2, e2, _⟩⟩ := st
    simp only [List.mem_cons, List.not_mem_nil, or_false] at hc
    rcases hc with rfl | rfl
    · exact ⟨_, e1⟩
    · exact ⟨_, e2⟩)
  have have1 : PairsHave (mixKind X.prog X.w) ks.length (fun i k v => its.toArray[i]? = some k ∧ its2.toArray[i]? = some v) (ks.zip its2) := by
    refine ⟨by simp [n2], fun i k v ⟨e1, e2⟩ => ?_⟩
    have e1' : its[i]? = some k := by simpa using e1
    obtain ⟨x, hx, rx⟩ := vals_back w1 e1'
    rw [List.getElem?_map] at hx
    obtain ⟨key, hkey, rfl⟩ := Option.map_eq_some_iff.mp hx
    exact ⟨key, zip_at hkey (by simpa using e2), kV_is rx⟩
  have zs : ks.length ≤ sizeLine := by
    rw [List.length_map] at z1
    exact z1
  refine PySem.call_dict_pairs (knd := mixKind X.prog X.w) PAg (I1.ok.hd hc)
    ⟨hz, hTI, ⟨_, _, hTO⟩, ⟨⟨_, h1, rfl, rfl⟩, t1.at fun o e => hk _ o e⟩, ⟨⟨_, h2, rfl, rfl⟩, t2.at fun o e => hk _ o e⟩⟩ have1 zs fun h2' tk hd' k2 => ?_
  have up : s1.heap.objs.size ≤ h'.objs.size := by omega
  have hmod : (h'.objs.size == sysModules) = false := beq_eq_false_iff_ne.mpr (Nat.ne_of_gt (Nat.lt_of_lt_of_le I1.big up))
  have hlen : (mergeK [] (ks.zip ys)).length ≤ sizeLine := by
    refine Nat.le_trans (length_mergeK (ks.zip ys) []) ?_
    simp at zs ⊢
    omega
  refine ⟨.ref h'.objs.size, upd H1 h'.objs.size (.dK (mergeK [] (ks.zip ys))), I1.laid (t' := tk) (fun c o e => ?_) up (show ObjOk X.prog X.w _ _ _ (.dK (mergeK [] (ks.zip ys))) from ⟨hlen, hmod, merged [] (ks.zip its2), KV.merge (kv_zip w2) .nil, hd'⟩), rfl, q _ (I1.hok.fresh up)⟩
  refine k2 c o (fun hin => ?_) (hk c o e)
  have lt : c < s1.heap.objs.size := Heap.lt_size e
  simp only [List.mem_cons, List.not_mem_nil, or_false] at hin
  have ne : ∀ k : Nat, c ≠ s1.heap.objs.size + k := fun k e => absurd lt (by rw [e]; exact Nat.not_lt.mpr (Nat.le_add_right _ _))
  rcases hin with e | e | e | e
  · exact ne 4 e
  · exact ne 3 e
  · exact ne 0 e
  · exact ne 1 e
def dictZL : List D → Option D
  | [.lst l, .tup _ m] => (keysD l).bind fun ks => if ks.length = m.length then some (.dct ((mergeD (ks.zip m)).map (·.1)) ((mergeD (ks.zip m)).map (·.2))) else none
  | _ => none
theorem qe_dictZipL {e e2 : Expr} {m : Ma} {p pos p2 pos2 : Pos} (hc : X.calm = true) (hg : Gl X "dict") (hm : X.mg "dict" = none) (hgz : Gl X "zip") (hmz : X.mg "zip" = none) (ha : PA X [e, e2] (RA m))
    (hs : starEach [.Call (.Name "zip" p2) [e, e2] [] pos2] X.env = (false, eval (.Call (.Name "zip" p2) [e, e2] [] pos2) X.env) :: starEach [] X.env := by rfl)
    (hs2 : starEach [e, e2] X.env = (false, eval e X.env) :: starEach [e2] X.env := by rfl) (hpl : (backTo pos2 (starEach [e2] X.env)).any (·.1) = false := by rfl) :
    PE X (.Call (.Name "dict" p) [.Call (.Name "zip" p2) [e, e2] [] pos2] [] pos) (R (mCall dictZL m)) := by
  refine imp (pe_lock (pe_dictZipL hc hg hm hgz hmz ha hs hs2 hpl)) fun σ H Q ⟨G, ρ, d, ρ', rp, e, k⟩ => ?_
  obtain ⟨l, e1, e2⟩ := mCall_inv e
  refine ⟨G, ρ, l, ρ', rp, e1, fun G1 H1 vs t hv => ?_⟩
  unfold dictZL at e2
  split at e2
  · obtain ⟨ks, e3, e2⟩ := bnd e2
    obtain ⟨hl, rfl⟩ := some_if e2
    obtain ⟨v, w, rfl, h1, h2⟩ := two_inv hv
    obtain ⟨b, ys, rfl, h4, z⟩ := tup_cases X.K h2
    cases h1 with
    | lst g1 g2 =>
      have sq := z H1 t.rep.le
      rw [keysD_v g2 e3] at g1
      exact ⟨_, _, ks, _, rfl, sq_l (t.rep.le _ _ g1), sq, by rw [hl, dda_len h4], fun p hp => Ans.dct (fun G2 H2 v ex hv2 => k G2 H2 v (t.trans (Tr.ext t.rep ex)) hv2) t.rep.le hp (KD.merge (kd_zip h4) .nil)⟩
  · cases e2
end
end Pl
namespace Pl
open PySem PySem.Spec PyProof.Rows L2 Kn
variable [Tbs]
/-! the least of a list of things of one shape -/
theorem minD_in (x : PyData) (xs : List PyData) : PySem.W.minD x xs ∈ x :: xs := by
  have key : ∀ (l : List PyData) (a : PyData), l.foldl (fun a y => if PySem.W.dataLt y a = true then y else a) a ∈ a :: l := fun l => by
    induction l with
    | nil => exact fun a => List.mem_cons_self ..
    | cons z l ih =>
      intro a
      have := ih (if PySem.W.dataLt z a = true then z else a)
      rcases List.mem_cons.mp this with h | h
      · rw [List.foldl_cons, h]
        split
        · exact List.mem_cons_of_mem _ (List.mem_cons_self ..)
        · exact List.mem_cons_self ..
      · rw [List.foldl_cons]
        exact List.mem_cons_of_mem _ (List.mem_cons_of_mem _ h)
  exact key xs x
section
variable {X : Cx}
def rMinT (K : PySem.W.Frag) : List V → Hp → VK → Prop := fun vs H Q => ∃ (a : Addr) (xs : List V) (p : PyData) (ps : List PyData), vs = [V.ref a] ∧ SqL K H a xs ∧ DpAll K H xs (p :: ps) ∧ PySem.W.AlikeAll (p :: ps) ∧ PyData.depthAll (p :: ps) ≤ 60 ∧ ∀ (i : Nat) (x : V), xs[i]? = some x → (p :: ps)[i]? = some (PySem.W.minD p ps) → Q x H
theorem cr_minT (hc : X.calm = true) (hu : X.A.units + 65 < cLine) : CallR X (.builtin "min") (rMinT X.K) := by
  intro pins s σ H vs us Q I r h
  obtain ⟨a, xs, p, ps, rfl, hs, dp, al, dep, q⟩ := h
  obtain ⟨its, rv, hl, _⟩ := I.list hs
  rw [Vals.ref1 r]
  obtain ⟨as, rd⟩ := Dp.readsAll I _ _ _ dp rv
  refine PySem.W.min_list_data (I.ok.hd hc) hl.isList (by rw [List.toList_toArray]; exact rd) al (by omega) fun i v h' tk bs hv hr hk => ?_
  rw [List.getElem?_toArray] at hv
  obtain ⟨x, hx, rx⟩ := vals_back rv hv
  obtain ⟨cs, r1, li, mem, _⟩ := PySem.W.readsAll_at rd i v hv
  have e := PySem.W.alike_unique _ _ v _ _ (al.1 _ mem _ (minD_in p ps)) (PySem.W.reads_keeps hk r1) hr
  refine ⟨x, H, I.kept hk, rx, q i x hx ?_⟩
  rw [← e, List.getD_eq_getElem?_getD, List.getElem?_eq_getElem li]
  rfl
theorem dpa_same {K : PySem.W.Frag} {G H : Hp} (le : Le G H) : ∀ {vs : List V} {ds : List PyData}, DpAll K G vs ds → DpAll K H vs ds
  | _, _, .nil => .nil
  | _, _, .cons h t => .cons (dp_same le h) (dpa_same le t)
open Classical in
noncomputable def minT : List D → Option D
  | [.lst (x :: xs)] => if h : (PyData.canLayAll0 (pyA (x :: xs)) = true ∧ PySem.W.AlikeAll (pyA (x :: xs)) ∧ PyData.depthAll (pyA (x :: xs)) ≤ 60) ∧ ∃ d : D, ∀ e ∈ x :: xs, e.py = PySem.W.minD x.py (pyA xs) → e = d then some (Classical.choose h.2) else none
  | _ => none
theorem pyA_get : ∀ {l : List D} {i : Nat} {p : PyData}, (pyA l)[i]? = some p → ∃ d, l[i]? = some d ∧ d.py = p
  | [], i, p, h => by cases i <;> cases h
  | d :: l, 0, p, h => by cases h; exact ⟨d, rfl, rfl⟩
  | d :: l, i + 1, p, h => pyA_get (l := l) (i := i) h
theorem c_minT (hc : X.calm = true) (hu : X.A.units + 65 < cLine) : CallR X (.builtin "min") (rMinT X.K) ∧ CallD (rMinT X.K) minT := by
  refine ⟨cr_minT hc hu, fun G H vs ds d Q le hv e k => ?_⟩
  unfold minT at e
  split at e
  · rename_i x xs
    split at e
    · rename_i h
      cases e
      obtain ⟨v, rfl, h0⟩ := one_inv hv
      cases h0 with
      | lst h1 h2 =>
        refine ⟨_, _, x.py, pyA xs, rfl, sq_l (le _ _ h1), dpa_same le (dda_dp h2 h.1.1), h.1.2.1, h.1.2.2, fun i z hz hp => ?_⟩
        obtain ⟨e1, he1, he2⟩ := pyA_get (l := x :: xs) hp
        obtain ⟨e2, he3, he4⟩ := dda_get h2 hz
        rw [he1] at he3
        cases he3
        have := Classical.choose_spec h.2 e1 (List.mem_of_getElem? he1) he2
        rw [this] at he4
        exact k.sc le he4
    · cases e
  · cases e
/-! the place of a thing in a list -/
def firstAt (p : PyData) : List PyData → Nat → Option Nat
  | [], _ => none
  | q :: l, i => if PyData.eqv q p = true then some i else firstAt p l (i + 1)
theorem first_at {p : PyData} : ∀ {l : List PyData} {i j : Nat}, firstAt p l i = some j → ∃ z, i ≤ j ∧ l[j - i]? = some z ∧ PyData.eqv z p = true ∧ ∀ (m : Nat) (z' : PyData), m < j - i → l[m]? = some z' → PyData.eqv z' p = false
  | [], i, j, h => by cases h
  | q :: l, i, j, h => by
    unfold firstAt at h
    by_cases c : PyData.eqv q p = true
    · rw [if_pos c] at h
      cases h
      refine ⟨q, Nat.le_refl _, by rw [Nat.sub_self]; rfl, c, fun m z' hm => ?_⟩
      omega
    · rw [if_neg c] at h
      obtain ⟨z, h1, h2, h3, h4⟩ := first_at h
      refine ⟨z, by omega, by rw [show j - i = (j - (i + 1)) + 1 by omega, List.getElem?_cons_succ]; exact h2, h3, fun m z' hm hz => ?_⟩
      cases m with
      | zero =>
        cases hz
        exact Bool.eq_false_iff.mpr c
      | succ m => exact h4 m z' (by omega) hz
def mIxD (mo ma : Me) : Me := fun ρ => (mo ρ).bind fun p => (ma p.2).bind fun q => match p.1 with
  | .lst l => if SeqAt.shaped (D.lst l).py = true ∧ SeqAt.shaped q.1.py = true then (firstAt q.1.py (pyA l) 0).map fun (j : Nat) => (.int (j : Int), q.2) else none
  | _ => none
theorem qe_indexD (hu : X.A.units + 65 < cLine) {o e : Expr} {mo ma : Me} {apos cpos : Pos} (ho : PE X o (R mo)) (ha : PE X e (R ma)) (hbase : attributeBase o "index" X.env (eval o X.env) = eval o X.env := by rfl)
    (hfew : ((backTo cpos (starEach [e] X.env)).all (fun x => !x.1) && (backToKw cpos (keywordEach [] X.env)).all (fun x => x.1.isSome) && decide ([e].length + ([] : List Keyword).length + (if ([] : List Keyword).isEmpty then 0 else 1) < 30)) = true := by rfl)
    (hline : (apos.endLine == cpos.line) = true := by rfl) (hs : starEach [e] X.env = (false, eval e X.env) :: starEach [] X.env := by rfl) (hplain : (backTo cpos (starEach [] X.env)).any (·.1) = false := by rfl) :
    PE X (.Call (.Attribute o "index" apos) [e] [] cpos) (R (mIxD mo ma)) := by
  refine imp (pe_bm PySem.F.plainAttrs_list PySem.F.slot_list_index PySem.F.type_list_index (mt_indexD hu) ho (pa_cons ha pa_nil hs) hbase hfew hline hs hplain) fun σ H Q ⟨G, ρ, d, ρ', rp, e, k⟩ => ?_
  obtain ⟨p, e1, e⟩ := bnd e
  obtain ⟨q, e2, e⟩ := bnd e
  split at e
  · rename_i l h1
    split at e
    case isFalse => cases e
    case isTrue hs =>
    obtain ⟨s1, s2⟩ := hs
    obtain ⟨j, e3, e4⟩ := mpd e
    cases e4
    obtain ⟨z, _, f2, f3, f4⟩ := first_at e3
    rw [Nat.sub_zero] at f2 f4
    refine ⟨G, ρ, p.1, p.2, rp, e1, fun G1 H1 v t hv => ?_⟩
    rw [h1] at hv
    cases hv with
    | lst hl hd =>
      refine ⟨.inl ⟨rfl, _, sq_l (t.rep.le _ _ hl)⟩, G1, p.2, q.1, q.2, t.rep, e2, fun G2 H2 u t2 hu => ?_⟩
      have hv2 : Dd G1 _ (D.lst l) := .lst hl hd
      have le2 : Le G1 H2 := t2.rep.le.sub t2.go.gg
      exact ⟨_, u, q.1.py, _, j, z, rfl, rfl, dp_same le2 (dd_dp hv2 (shaped_lay s1)), dp_same t2.rep.le (dd_dp hu (shaped_lay s2)), s1, s2, f2, f3, f4, k G2 H2 _ (t.trans t2) (.int _)⟩
  · cases e
end
end Pl
namespace Pl
open PySem PySem.Spec PyProof.Rows L2 Kn
variable [Tbs]
/-! sorted(a list of things of one shape) -/
abbrev Bt := V × D
def leBt : Bt → Bt → Bool := PySem.W.dataLe false fun b => b.2.py
def leD : D → D → Bool := PySem.W.dataLe false D.py
section
variable {X : Cx}
def rSortT (K : PySem.W.Frag) : List V → Hp → VK → Prop := fun vs H Q => ∃ (a : Addr) (bs : List Bt), vs = [V.ref a] ∧ SqL K H a (bs.map (·.1)) ∧ (∀ b ∈ bs, Dp K H b.1 b.2.py ∧ b.2.py.depth ≤ 60) ∧ PySem.W.AllAlike (bs.map fun b => b.2.py) ∧ PySem.W.Sortable (bs.map fun b => b.2.py) ∧
  ∀ p, H p = none → Q (.ref p) (upd H p (.lst ((bs.mergeSort leBt).map (·.1))))
theorem each_v : ∀ (bs : List Bt) {its : List Value}, Vals (bs.map (·.1)) its → PySem.W.EachIs (fun (v : Value) (b : Bt) => RelV b.1 v) its bs
  | [], _, .nil => .nil
  | b :: bs, _, .cons r t => .cons r (each_v bs t)
theorem vals_v : ∀ {bs : List Bt} {its : List Value}, PySem.W.EachIs (fun (v : Value) (b : Bt) => RelV b.1 v) its bs → Vals (bs.map (·.1)) its
  | _, _, .nil => .nil
  | _, _, .cons r t => .cons r (vals_v t)
theorem cr_sortT (hu : X.A.units + 65 < cLine) : CallR X (.builtin "sorted") (rSortT X.K) := by
  intro pins s σ H args us Q J rel want
  obtain ⟨a, bs, rfl, sq, tp, al, so, q⟩ := want
  rw [Vals.ref1 rel]
  obtain ⟨its, rv, pl, hz⟩ := J.list sq
  have e1 := each_v bs rv
  have hz' : bs.length ≤ sizeLine := by rw [List.length_map] at hz; exact hz
  have er : PySem.W.EachIs (fun (v : Value) (b : Bt) => ∃ as, Reads s.heap v b.2.py as) its bs := each_mem e1 fun v b hb e => Dp.reads J _ _ _ (tp b hb).1 e
  refine PySem.W.sorted_data (R := fun (v : Value) (b : Bt) => RelV b.1 v) (enc := fun b : Bt => b.2.py) pl.isList e1 er al so hz' (fun b hb => ?_) fun out ho eo => ?_
  · have := (tp b hb).2
    show X.A.units + 2 + b.2.py.depth < cLine
    omega
  · obtain ⟨c, hc⟩ := sortedAll_at s.heap its out.toArray
    refine ⟨.ref (s.heap.objs.size + 1), upd H (s.heap.objs.size + 1) (.lst ((bs.mergeSort leBt).map (·.1))), J.laid (t' := s.toks) (fun b o e => sortedAll_old e) (Nat.le_succ _) ?_, rfl, q _ (J.hok.fresh (Nat.le_succ _))⟩
    exact ⟨by rw [List.length_map, List.length_mergeSort]; exact hz', out, c, vals_v eo, hc⟩
open Classical in
noncomputable def sortT : List D → Option (List D)
  | [.lst l] => if (∀ d ∈ l, d.py.canLay0 = true ∧ d.py.depth ≤ 60) ∧ PySem.W.AllAlike (l.map D.py) ∧ PySem.W.Sortable (l.map D.py) then some (l.mergeSort leD) else none
  | _ => none
theorem dda_pairs {G : Hp} : ∀ {vs : List V} {ds : List D}, DdA G vs ds → ∃ bs : List Bt, vs = bs.map (·.1) ∧ ds = bs.map (·.2) ∧ ∀ b ∈ bs, Dd G b.1 b.2
  | _, _, .nil => ⟨[], rfl, rfl, fun b hb => nomatch hb⟩
  | _, _, .cons (v := v) (d := d) h t => by
    obtain ⟨bs, rfl, rfl, hb⟩ := dda_pairs t
    refine ⟨(v, d) :: bs, rfl, rfl, fun b hm => ?_⟩
    rcases List.mem_cons.mp hm with rfl | hm
    · exact h
    · exact hb b hm
theorem dda_of : ∀ {G : Hp} {bs : List Bt}, (∀ b ∈ bs, Dd G b.1 b.2) → DdA G (bs.map (·.1)) (bs.map (·.2))
  | _, [], _ => .nil
  | _, b :: bs, h => .cons (h b (List.mem_cons_self ..)) (dda_of fun c hc => h c (List.mem_cons_of_mem _ hc))
theorem c_sortT (hu : X.A.units + 65 < cLine) : CallR X (.builtin "sorted") (rSortT X.K) ∧ CallF (rSortT X.K) sortT := by
  refine ⟨cr_sortT hu, fun G H vs ds d Q le hv e k => ?_⟩
  unfold sortT at e
  split at e
  · split at e
    case isFalse => cases e
    case isTrue hh =>
    obtain ⟨h1, h2, h3⟩ := hh
    cases e
    obtain ⟨v, rfl, h⟩ := one_inv hv
    cases h with
    | lst g1 g2 =>
      obtain ⟨bs, rfl, rfl, hb⟩ := dda_pairs g2
      rw [List.map_map] at h2 h3
      refine ⟨_, bs, rfl, sq_l (le _ _ g1), fun b hm => ⟨dp_same le (dd_dp (hb b hm) (h1 b.2 (List.mem_map_of_mem hm)).1), (h1 b.2 (List.mem_map_of_mem hm)).2⟩, h2, h3, fun p hp => k.nw le hp ?_⟩
      rw [show (bs.map (·.2)).mergeSort leD = (bs.mergeSort leBt).map (·.2) from (List.map_mergeSort (r := leBt) (s := leD) (f := fun b : Bt => b.2) (l := bs) fun a _ b _ => rfl).symm]
      exact dda_of fun b hm => hb b ((List.mergeSort_perm bs leBt).mem_iff.mp hm)
  · cases e
end
end Pl
namespace Pl
open PySem PySem.Spec PyProof.Rows L2 Kn
variable [Tbs]
/-! a <= b, things of one shape -/
section
variable {X : Cx}
def rLeD (K : PySem.W.Frag) : R2 := fun x y H Q => ∃ d e, Dp K H x d ∧ Dp K H y e ∧ PySem.W.alike d e = true ∧ d ≠ PyData.none ∧ d.depth ≤ 60 ∧ Q (.bl (!PySem.W.dataLt e d)) H
theorem op_leD (hu : X.A.units + 65 < cLine) : OpR X (compareOp .LtE) (rLeD X.K) := by
  intro pins s σ H x y v u Q I rx ry ⟨d, e, h1, h2, h3, h4, h5, q⟩
  obtain ⟨as, r1⟩ := Dp.reads I _ _ _ h1 rx
  obtain ⟨bs, r2⟩ := Dp.reads I _ _ _ h2 ry
  exact PySem.W.le_data r1 r2 h3 h4 (by have : min d.depth e.depth ≤ d.depth := Nat.min_le_left _ _; omega) ⟨.bl (!PySem.W.dataLt e d), H, I, rfl, q⟩
open Classical in
noncomputable def leDD (a b : D) : Option D := if a.py.canLay0 = true ∧ b.py.canLay0 = true ∧ PySem.W.alike a.py b.py = true ∧ a.py ≠ PyData.none ∧ a.py.depth ≤ 60 then some (.bl (!PySem.W.dataLt b.py a.py)) else none
theorem o_leD (hu : X.A.units + 65 < cLine) : OpR X (compareOp .LtE) (rLeD X.K) ∧ OpD (rLeD X.K) leDD := by
  refine ⟨op_leD hu, fun G H x y a b d Q le ha hb e k => ?_⟩
  unfold leDD at e
  split at e
  case isFalse => cases e
  case isTrue hh =>
  obtain ⟨h1, h2, h3, h4, h5⟩ := hh
  cases e
  exact ⟨_, _, dp_same le (dd_dp ha h1), dp_same le (dd_dp hb h2), h3, h4, h5, k.sc le (.bl _)⟩
end
end Pl
namespace Pl
open PySem PySem.Spec PyProof.Rows L2 Kn
variable [Tbs]
/-! a <= b <= c told as a thing -/
def mChainV (f g : D → D → Option D) (a b c : Me) : Me := fun ρ => (a ρ).bind fun p => (b p.2).bind fun q => match f p.1 q.1 with
  | some (.bl true) => (c q.2).bind fun r => (g q.1 r.1).map fun d => (d, r.2)
  | some (.bl false) => some (.bl false, q.2)
  | _ => none
section
variable {X : Cx}
theorem qe_chain {op op' : CmpOp} {r r' : R2} {f g : D → D → Option D} {a b c : Expr} {ma mb mc : Me} {pos : Pos} (ho : OpR X (compareOp op) r ∧ OpD r f) (ho' : OpR X (compareOp op') r' ∧ OpD r' g) (ha : PE X a (R ma)) (hb : PE X b (R mb)) (hc : PE X c (R mc))
    (hm : lastMarks [op, op'] [b, c] = false := by with_unfolding_all rfl) : PE X (.Compare a [op, op'] [b, c] pos) (R (mChainV f g ma mb mc)) := by
  refine imp (pe_chain ho.1 ho'.1 ha hb hc hm) fun σ H Q ⟨G, ρ, d, ρ', rp, e, k⟩ => ?_
  obtain ⟨p, e1, e⟩ := bnd e
  obtain ⟨q, e2, e⟩ := bnd e
  refine ⟨G, ρ, p.1, p.2, rp, e1, fun G1 H1 x t1 hx => ⟨G1, p.2, q.1, q.2, t1.rep, e2, fun G2 H2 y t2 hy => ?_⟩⟩
  split at e
  · rename_i hf
    obtain ⟨w, e3, e⟩ := bnd e
    refine ho.2 G2 H2 x y p.1 q.1 _ _ t2.rep.le (dd_same t2.go.gg hx) hy hf fun G3 H3 z ex hz => ?_
    cases hz
    have t3 := (t1.trans t2).trans (Tr.ext t2.rep ex)
    refine ⟨true, rfl, iteT ⟨G3, q.2, w.1, w.2, t3.rep, e3, fun G4 H4 v t4 hv => ?_⟩⟩
    obtain ⟨d', hg, e5⟩ := mpd e
    cases e5
    refine ho'.2 G4 H4 y v q.1 w.1 _ _ t4.rep.le (dd_same (ex.gg.trans t4.go.gg) hy) hv hg fun G5 H5 z ex2 hz => ?_
    exact k G5 H5 z ((t3.trans t4).trans (Tr.ext t4.rep ex2)) hz
  · rename_i hf
    cases e
    refine ho.2 G2 H2 x y p.1 q.1 _ _ t2.rep.le (dd_same t2.go.gg hx) hy hf fun G3 H3 z ex hz => ?_
    cases hz
    exact ⟨false, rfl, iteF (k G3 H3 _ ((t1.trans t2).trans (Tr.ext t2.rep ex)) (.bl false))⟩
  · cases e
end
end Pl
set_option maxHeartbeats 2000000
namespace Pl
open PySem PySem.Spec PyProof.Rows L2 Kn
/-! comprehensions clause by clause, whatever they put their things into -/
/-- what a turn does behind its tests -/
abbrev TB := L2.St → Hp → (Hp → Prop) → Prop
/-- vs: the slots that it may leave otherwise; k: what follows -/
structure PB (X : Cx) (vs : List Nat) (body : Sem PySem.Fin → Sem PySem.Fin) (t : TB) : Prop where
  run : ∀ (pins : List (Addr × Obj)) (s : Shared) (σ : L2.St) (H : Hp) (Q : Hp → Prop) (k : Sem PySem.Fin) (P : PySem.Fin → Shared → Prop) (E : Value → Shared → Prop), L2.Inv X pins σ H s → t σ H Q →
    (∀ s' σ' H', L2.Inv X pins σ' H' s' → σ'.length = σ.length → (∀ (j : Nat) v, (wipe σ vs)[j]? = some (some v) → σ'[j]? = some (some v)) → Q H' → wpAny (model X.prog X.w) X.A k P E s') → wpAny (model X.prog X.w) X.A (body k) P E s
/-- one turn of a clause -/
def turnOf (p : Pos) (tg : Expr) (ifs : List Expr) (it : Value) (env : Env) (body : Sem PySem.Fin → Sem PySem.Fin) (c : Code) : Sem PySem.Fin := do
  standAt p
  match ← pyNext it with
  | none => pure (.done .next)
  | some v =>
    letOwnedTupleGo tg it v
    assign tg env v
    let mut ok := true
    for t in ifs do
      if ok then ok ← isTrue t env (eval t env)
    if ok then body (again c) else again c
/-- a walk of J: what holds turn by turn -/
def Wlk (J : It) (g : TG) (tt : TT) (tb : TB) (vs : List Nat) (σ : L2.St) (H0 : Hp) (Q : Hp → Prop) : Prop := ∃ W : Nat → Nat → Hp → Prop, (∃ m, W 0 m H0) ∧ ∀ i m H, W i m H →
  (J.stop i H ∧ Q H) ∨ (J.go i H ∧ ∃ Nx : Hp → Prop, (∀ H', Nx H' → ∃ m', m' < m ∧ W (i + 1) m' H') ∧ ∀ x H', J.yld i H x H' → g x (wipe σ vs) H' fun σ2 H2 => wipe σ2 vs = wipe σ vs ∧ tt σ2 H2 fun b H3 =>
    if b = true then tb σ2 H3 Nx else Nx H3)
section
variable {X : Cx}
theorem clause_loop {kx vx : Expr} {gens : List Comprehension} {scope : Scope} {pos : Pos} {j : Nat} {acc : Value} {tg : Expr} {ifs : List Expr} {p : Pos} {body : Sem PySem.Fin → Sem PySem.Fin} {it : Addr} {J : It} {fp : List Addr} {tn : Nat → Heap → Prop} {g : TG} {tt : TT} {tb : TB} {vs : List Nat} {pins : List (Addr × Obj)} {σ : L2.St} {H : Hp} {s : Shared} {Q : Hp → Prop} {R : Result → Shared → Prop}
    (ht : compTurn (.DictComp kx vx gens scope pos) j (.ref it) acc X.env = turnOf p tg ifs (.ref it) X.env body (.compLoop (.DictComp kx vx gens scope pos) j (.ref it) acc X.env)) (hx : X.xe = fun _ _ => False) (hc : X.calm = true) (pg : PG X tg g) (pt : PTs X ifs tt) (pb : PB X vs body tb)
    (T : Turn X.prog X.w X.K tg J fp it tn) (st : tn 0 s.heap) (I : Inv X pins (wipe σ vs) H s) (nf : ∀ b ∈ fp, FpOk X pins H b) (w : Wlk J g tt tb vs σ H Q)
    (hR : ∀ H' s', Inv X pins (wipe σ vs) H' s' → Q H' → R (.ok .next) s') : codeAny (model X.prog X.w) X.A (.compLoop (.DictComp kx vx gens scope pos) j (.ref it) acc X.env) R s := by
  obtain ⟨W, ⟨m0, w0⟩, turn⟩ := w
  refine codeAny_loop rfl (fun n s' => ∃ i H', Inv X pins (wipe σ vs) H' s' ∧ tn i s'.heap ∧ (∀ b ∈ fp, H' b = none) ∧ W i n H') (fun n s1 hI => ?_) m0 ⟨0, H, I, st, fun b hb => (nf b hb).1, w0⟩
  obtain ⟨i, H1, I1, st1, n1, w1⟩ := hI
  show wpAny _ _ ((compTurn (.DictComp kx vx gens scope pos) j (.ref it) acc X.env).onRaise (fun x => do noteFrame x X.env; theTreesLotGoes x)) _ _ s1
  refine wpAny_noted ?_
  rw [ht]
  unfold turnOf
  have off : ∀ {ps : List (Addr × Obj)} {H' : Hp}, (∀ z ∈ ps, z ∈ pins) → (∀ b ∈ fp, H' b = none) → ∀ b ∈ fp, FpOk X ps H' b := fun hp hn b hb =>
    let ⟨_, a1, a2, a3, a4, a5⟩ := nf b hb
    ⟨hn b hb, a1, a2, a3, a4, fun z hz => a5 z ((List.mem_append.mp hz).elim (fun y => List.mem_append_left _ y) fun y => List.mem_append_right _ (hp z y))⟩
  refine wpAny_bind (wpAny_standAt (wpAny_bind ?_))
  rcases turn i n H1 w1 with ⟨stop, q⟩ | ⟨go, Nx, hN, step⟩
  · refine thnF (T.done X rfl rfl rfl hc i pins s1 _ H1 (fun _ _ => False) I1 (off (fun _ z => z) n1) st1 stop) fun r s2 ⟨hr, I2⟩ => ?_
    subst hr
    exact wpAny_pure (hR H1 s2 I2 q)
  · refine thnF (T.item X rfl rfl rfl hc i pins s1 _ H1 (fun _ _ => False) I1 (off (fun _ z => z) n1) st1 go) fun r s2 ⟨u, hr, h2⟩ => ?_
    subst hr
    refine wpAny_bind (thnF h2 fun _ s3 ⟨x, H3, I3, r3, y3, st3, n3⟩ => ?_)
    have I3p := I3.pinned (off (fun _ z => z) n3) (T.obj _ _ st3)
    have hg := pg.run _ s3 _ H3 x u _ I3p r3 (step x H3 y3)
    rw [hx] at hg
    refine wpAny_bind (thnF hg fun _ s4 ⟨σ4, H4, I4, hw4, q4⟩ => ?_)
    have htt := pt.run _ s4 σ4 H4 _ I4 q4
    rw [hx] at htt
    refine wpAny_bind (thnF htt fun b s5 ⟨H5, I5, q5⟩ => ?_)
    have back : ∀ {σ9 : L2.St} {s9 : Shared} {H9 : Hp}, Inv X (pins ++ pinsAt fp s3.heap) σ9 H9 s9 → σ9.length = σ4.length → (∀ (j : Nat) v, (wipe σ4 vs)[j]? = some (some v) → σ9[j]? = some (some v)) → Nx H9 → ∃ m, m < n ∧ ∃ i H', Inv X pins (wipe σ vs) H' s9 ∧ tn i s9.heap ∧ (∀ b ∈ fp, H' b = none) ∧ W i m H' := fun {σ9 s9 H9} I9 hl hk nx => by
      obtain ⟨m', hm, w'⟩ := hN H9 nx
      have pin : ∀ b ∈ fp, ∀ o, s3.heap.get? b = some o → s9.heap.get? b = some o ∧ H9 b = none := fun b hb o z =>
        have y := I9.pin (b, o) (List.mem_append_right _ (List.mem_append_right _ (mem_pinsAt hb z)))
        ⟨y.1, y.2.1⟩
      refine ⟨m', hm, i + 1, H9, I9.unpinned.weak (by rw [hl, ← hw4, wipe_length]) (fun j v z => hk j v (by rw [hw4]; exact z)), T.keep _ _ _ st3 fun b hb o z => (pin b hb o z).1, fun b hb => ?_, w'⟩
      obtain ⟨o, z, _⟩ := T.obj _ _ st3 b hb
      exact (pin b hb o z).2
    cases b with
    | false =>
      rw [if_neg Bool.false_ne_true] at q5
      exact wpAny_pure ⟨rfl, back I5 rfl (fun j v z => (wipe_some z).1) q5⟩
    | true =>
      rw [if_pos rfl] at q5
      exact pb.run _ s5 σ4 H5 _ _ _ _ I5 q5 fun s6 σ6 H6 I6 l6 k6 q6 => wpAny_pure ⟨rfl, back I6 l6 k6 q6⟩
/-- the loop's start -/
theorem clause_start {A : Around} {prog : Program} {w : World} {R : Result → Shared → Prop} {s : Shared} {kx vx : Expr} {gens : List Comprehension} {scope : Scope} {pos : Pos} {j : Nat} {it acc : Value} {env : Env} {cl : Comprehension} (hcl : gens[j]? = some cl) (ha : cl.is_async = 0)
    (h0 : codeAny (model prog w) A (.compLoop (.DictComp kx vx gens scope pos) j it acc env) R s) (h : wpAny (model prog w) A (pyIter it) (fun it' s' => codeAny (model prog w) A (.compLoop (.DictComp kx vx gens scope pos) j it' acc env) R s') (fun _ _ => False) s) : codeAny (model prog w) A (.compStart (.DictComp kx vx gens scope pos) j it acc env) R s := by
  refine codeAny_of_tree ?_
  show wpAny _ _ ((compStart (.DictComp kx vx gens scope pos) j it acc env).onRaise (fun x => do noteFrame x env; standAt theWindowsPlace)) _ _ s
  refine wpAny_notedAt ?_
  have hc : (clausesOf (.DictComp kx vx gens scope pos))[j]? = some cl := hcl
  unfold compStart
  rw [hc]
  simp only [Option.elim, ha, bne_self_eq_false, Bool.false_eq_true, if_false]
  refine wpAny_bind (wpAny_askSetting (wpAny_ite ?_))
  split
  · exact wpAny_bind (wpAny_pure (wpAny_pure ⟨rfl, h0⟩))
  · exact wpAny_bind (wpAny_rule (wpAny_bind (wpAny_standAt (wpAny_bind (thnF h fun it' s' h' => wpAny_pure ⟨rfl, h'⟩)))))
/-- what a turn puts in: k and v, into the dict at D -/
def tPutAt (D : Addr) (tk tv : TE) : TB := fun σ H Q => tk σ H fun y H1 => tv σ H1 fun z H2 => ∃ H3, DPut H2 D y z H3 ∧ Q H3
theorem put_by {pins : List (Addr × Obj)} {σ : L2.St} {H H' : Hp} {s : Shared} {E : Value → Shared → Prop} {D : Addr} {y z : V} {u r : Value} {Q : Unit → Shared → Prop} (hu : X.A.units < cLine) (I : Inv X pins σ H s) (dp : DPut H D y z H') (ry : RelV y u) (rz : RelV z r) (h : ∀ s', Inv X pins σ H' s' → Q () s') :
    wpAny (model X.prog X.w) X.A (dictSet D u r) Q E s := by
  rcases dp with ⟨kvs, k, e, rfl, l, rfl⟩ | ⟨kvs, k, b, e, rfl, eb, l, rfl⟩
  · exact d_dictSet I e l ry rz h
  · obtain rfl : u = Value.ref b := ry
    obtain ⟨_, ns, xs, rel, dd⟩ := dt_of I.hok e
    have zx : xs.length ≤ sizeLine := by
      rw [← Paired.length rel]
      omega
    refine wpAny_dictSet_heap (hsz := zx) hu (key_of I.hok eb) dd fun h' dd' hs => h _ ?_
    obtain ⟨o, es, ep, ho, a1, a2, a3, _, a4⟩ := dd'
    have big : (putK kvs k z).length ≤ sizeLine := by
      have := length_putK kvs k z
      omega
    refine d_write I (by rw [e]; trivial) hs ⟨o, ho⟩ ⟨big, ns, _, (rel.put k eb rz).keeps fun c ys ec => ?_, o, es, ep, ho, a1, a2, a3, a4⟩
    rw [upd_ne (ne_of ec e fun y => nomatch y)]
    exact ec
theorem pb_put {kx vx : Expr} {D : Addr} {tk tv : TE} {vs : List Nat} {p : Pos} (hx : X.xe = fun _ _ => False) (hk : PE X kx tk) (hv : PE X vx tv) (hu : X.A.units < cLine) :
    PB X vs (fun k => (do
      let kv ← eval kx X.env
      let vv ← holding [kv] (eval vx X.env)
      standAt p
      holding [kv, vv] (dictSet D kv vv)) >>= fun _ => k) (tPutAt D tk tv) := by
  refine ⟨fun pins s σ H Q k P E I h hK => ?_⟩
  have h1 := hk.run pins s σ H _ I h
  rw [hx] at h1
  refine wpAny_bind (wpAny_bind (thnF h1 fun u s1 ⟨y, H1, I1, r1, q1⟩ => ?_))
  have h2 := hv.run pins s1 σ H1 _ I1 q1
  rw [hx] at h2
  refine wpAny_bind (wpAny_holding (thnF h2 fun r s2 ⟨z, H2, I2, r2, H3, dp, q⟩ => ?_))
  exact wpAny_bind (wpAny_standAt (wpAny_holding (put_by hu I2 dp r1 r2 fun s3 I3 => hK s3 σ H3 I3 rfl (fun j v z => (wipe_some z).1) q)))
/-- a clause within a clause -/
def tIn (wi : TI) (g : TG) (tt : TT) (tb : TB) (vs : List Nat) : TB := fun σ H Q => wi σ H fun J H1 => Wlk J g tt tb vs σ H1 Q
theorem pb_in {kx vx : Expr} {gens : List Comprehension} {scope : Scope} {pos : Pos} {j : Nat} {acc : Value} {tg iter : Expr} {ifs : List Expr} {p : Pos} {body : Sem PySem.Fin → Sem PySem.Fin} {wi : TI} {g : TG} {tt : TT} {tb : TB} {vs vs1 : List Nat}
    (hcl : gens[j]? = some ⟨tg, iter, ifs, 0⟩) (ht : ∀ it, compTurn (.DictComp kx vx gens scope pos) j (.ref it) acc X.env = turnOf p tg ifs (.ref it) X.env body (.compLoop (.DictComp kx vx gens scope pos) j (.ref it) acc X.env))
    (hx : X.xe = fun _ _ => False) (hc : X.calm = true) (hi : PI X tg iter wi) (pg : PG X tg g) (pt : PTs X ifs tt) (pb : PB X vs1 body tb) (hv : ∀ i ∈ vs1, i ∈ vs) (hs : ∀ x, foldedSetIterable iter X.env x = pure x) :
    PB X vs (fun k => do
      let x ← eval iter X.env
      standAt iter.pos
      let x ← foldedSetIterable iter X.env x
      let _ ← runOwn (.compStart (.DictComp kx vx gens scope pos) j (← holding [x] (pyIter x)) acc X.env) X.env
      k) (tIn wi g tt tb vs1) := by
  refine ⟨fun pins s σ H Q k P E I h hK => ?_⟩
  have h0 := hi.run pins s σ H _ I h
  rw [hx] at h0
  refine wpAny_bind (thnF h0 fun xv s1 h1 => wpAny_bind (wpAny_standAt (wpAny_bind (wpAny_of_eq (hs xv) (wpAny_bind (wpAny_holding (thnF h1 fun itv s2 h2 => ?_)))))))
  obtain ⟨it, fp, tn, J, H2, e, I2, T, st, nf, w⟩ := h2
  subst e
  refine wpAny_bind (wpAny_runOwn ?_)
  rw [Around.mark_none]
  have loop := clause_loop (R := fun r s' => match r with
      | .ok _ => ∃ σ' H', Inv X pins σ' H' s' ∧ σ'.length = σ.length ∧ (∀ (j : Nat) v, (wipe σ vs)[j]? = some (some v) → σ'[j]? = some (some v)) ∧ Q H'
      | .error _ => False) (ht it) hx hc pg pt pb T st (I2.weak (wipe_length σ vs1) fun j v z => (wipe_some z).1) nf w fun H' s' I' q =>
        ⟨wipe σ vs1, H', I', wipe_length σ vs1, fun j v z => by
          obtain ⟨a, b⟩ := wipe_some z
          rw [wipe_out fun y => b (hv j y)]
          exact a, q⟩
  refine codeAny_mono (clause_start hcl rfl loop (T.self X.A 0 _ _ _ st loop)) fun r s' hr => ?_
  cases r with
  | ok f =>
    obtain ⟨σ', H', a, b, c, d⟩ := hr
    exact hK s' σ' H' a b c d
  | error x => exact hr.elim
/-- the whole: a new dict, walked into by the first clause -/
def tDcG (wi : TI) (g : TG) (tt : TT) (tb : Addr → TB) (vs : List Nat) : TE := fun σ H Q => wi σ H fun J H1 => ∀ D, H1 D = none → Wlk J g tt (tb D) vs σ (upd H1 D (.dT [])) fun H2 => Q (.ref D) H2
theorem pe_dcG {kx vx : Expr} {cls : List Comprehension} {tg iter : Expr} {ifs : List Expr} {scope : Scope} {own : List (Str × Nat)} {pos p : Pos} {wi : TI} {g : TG} {tt : TT} {tb : Addr → TB} {body : Addr → Env → Sem PySem.Fin → Sem PySem.Fin} (hc : X.calm = true) (hN : X.N.Nodup) (hi : PI X tg iter wi) (ok : BlkOk X.N X.env.scope scope own)
    (ht : ∀ D it env, compTurn (.DictComp kx vx (⟨tg, iter, ifs, 0⟩ :: cls) scope pos) 0 (.ref it) (.ref D) env = turnOf p tg ifs (.ref it) env (body D env) (.compLoop (.DictComp kx vx (⟨tg, iter, ifs, 0⟩ :: cls) scope pos) 0 (.ref it) (.ref D) env))
    (hg : ∀ (s : Shared) (H : Hp) (C : Addr) (cl : List (Str × Addr)) (fp : List Addr), PG (X.blk s H scope (compEnvC scope cl C X.env) fp) tg g) (htt : ∀ (s : Shared) (H : Hp) (C : Addr) (cl : List (Str × Addr)) (fp : List Addr), PTs (X.blk s H scope (compEnvC scope cl C X.env) fp) ifs tt)
    (hb : ∀ (D : Addr) (s : Shared) (H : Hp) (C : Addr) (cl : List (Str × Addr)) (fp : List Addr), PB (X.blk s H scope (compEnvC scope cl C X.env) fp) (own.map (·.2)) (body D (compEnvC scope cl C X.env)) (tb D)) (hs : ∀ x, foldedSetIterable iter X.env x = pure x) :
    PE X (.DictComp kx vx (⟨tg, iter, ifs, 0⟩ :: cls) scope pos) (tDcG wi g tt tb (own.map (·.2))) := by
  refine ⟨fun pins s σ H Q I h => ?_⟩
  rw [arm_eval_DictComp]
  have cells : ∀ y ∈ scope.names, y.2 = .free → ∃ c, X.env.cells.lookup y.1 = some c := fun y hy e => (ok.free y hy e).elim (fun k => I.ok.has _ (.inl k)) fun k => I.ok.has _ (.inr k)
  refine wpAny_comprehension_free (use := none) rfl hs (closure_ok cells) ok.kind (fun y hy e => by rw [ok.uniq y hy, e]) (thn (hi.run pins s σ H _ I h) fun xv s1 hx => thn hx fun itv s2 h2 => ?_)
  obtain ⟨it, fp, tn, J, H2, e, I2, T, st2, f2, wk⟩ := h2
  subst e
  refine wpAny_newObj_type (newEnv_comp ?_)
  obtain ⟨D, hD⟩ : ∃ D, D = s2.heap.objs.size := ⟨_, rfl⟩
  have nD : H2 D = none := I2.hok.fresh (Nat.le_of_eq hD.symm)
  have w0 := wk D nD
  obtain ⟨s3, hs3⟩ : ∃ s3 : Shared, s3 = { s2 with heap := s2.heap.push { cls := .type "dict", data := .dict #[] } } := ⟨_, rfl⟩
  obtain ⟨H3, hH3⟩ : ∃ H3, H3 = upd H2 D (.dT []) := ⟨_, rfl⟩
  have old : ∀ b o, s2.heap.get? b = some o → s3.heap.get? b = some o := fun b o z => by
    rw [hs3]
    exact Heap.get?_push_of_some _ z
  have I3 : Inv X pins σ H3 s3 := by
    rw [hs3, hH3]
    refine I2.laid (t' := s2.toks) (fun b o z => Heap.get?_push_of_some _ z) (Nat.le_of_eq hD.symm) ?_
    rw [hD]
    exact dt_empty s2.heap I2.big
  have lt2 : ∀ b ∈ fp, b < s2.heap.objs.size := fun b hb => by
    obtain ⟨o, z, _⟩ := T.obj _ _ st2 b hb
    exact Heap.lt_size z
  have f3 : ∀ b ∈ fp, FpOk X pins H3 b ∧ b < s3.heap.objs.size := fun b hb => by
    have l := lt2 b hb
    refine ⟨⟨?_, (f2 b hb).2⟩, by rw [hs3]; exact Nat.lt_of_lt_of_eq (Nat.lt_succ_of_lt l) (Heap.size_push _ _).symm⟩
    rw [hH3, upd_ne (by rw [hD]; exact Nat.ne_of_lt l)]
    exact (f2 b hb).1
  have st3 : tn 0 s3.heap := T.keep _ _ _ st2 fun b _ o z => old b o z
  have I4 := block_start I3 ok hN f3
  have pg := hg s3 H3 s3.heap.objs.size (cellsFrom (s3.heap.objs.size + 1) scope.names (cloFrom X.env.cells scope.names [])) fp
  have pt := htt s3 H3 s3.heap.objs.size (cellsFrom (s3.heap.objs.size + 1) scope.names (cloFrom X.env.cells scope.names [])) fp
  have pb := hb D s3 H3 s3.heap.objs.size (cellsFrom (s3.heap.objs.size + 1) scope.names (cloFrom X.env.cells scope.names [])) fp
  obtain ⟨C, hC⟩ : ∃ C, C = s3.heap.objs.size := ⟨_, rfl⟩
  obtain ⟨ce, hce⟩ : ∃ ce, ce = compEnvC scope (cellsFrom (s3.heap.objs.size + 1) scope.names (cloFrom X.env.cells scope.names [])) s3.heap.objs.size X.env := ⟨_, rfl⟩
  obtain ⟨s4, hs4⟩ : ∃ s4 : Shared, s4 = { s3 with heap := pushCells (s3.heap.push { cls := .type "dict", data := .dict #[] }) scope.names } := ⟨_, rfl⟩
  have cL : ce.locals = C := by rw [hce, hC]; rfl
  have st4 : tn 0 s4.heap := T.keep _ _ _ st3 fun b _ o z => by
    rw [hs4]
    exact pushCells_keeps _ _ _ _ (Heap.get?_push_of_some _ z)
  rw [← hs3, ← hD]
  refine (show codeAny _ _ (.compStart (.DictComp kx vx (⟨tg, iter, ifs, 0⟩ :: cls) scope pos) 0 (.ref it) (.ref D) (compEnvC scope (cellsFrom (s3.heap.objs.size + 1) scope.names (cloFrom X.env.cells scope.names [])) s3.heap.objs.size X.env)) _ { s3 with heap := pushCells (s3.heap.push { cls := .type "dict", data := .dict #[] }) scope.names } from ?_)
  rw [← hce, ← hs4]
  rw [← hce, ← hs4] at I4
  rw [← hce] at pg pt pb
  rw [← hH3] at w0
  have nf4 : ∀ b ∈ fp, FpOk (X.blk s3 H3 scope ce fp) [] H3 b := fun b hb =>
    ⟨(f3 b hb).1.1, (I4.ok.exf b hb).1, I4.ok.exfs b hb, .inl hb, fun x c z => (I4.ok.exf b hb).2 x c z, fun z hz => nomatch (show z ∈ ([] : List (Addr × Obj)) ++ [] from hz)⟩
  have key : ∀ R, codeAny (model X.prog X.w) X.A (.compLoop (.DictComp kx vx (⟨tg, iter, ifs, 0⟩ :: cls) scope pos) 0 (.ref it) (.ref D) ce) R s4 → codeAny (model X.prog X.w) X.A (.compStart (.DictComp kx vx (⟨tg, iter, ifs, 0⟩ :: cls) scope pos) 0 (.ref it) (.ref D) ce) R s4 := fun R loop => clause_start rfl rfl loop (T.self X.A 0 _ _ _ st4 loop)
  refine key _ ?_
  refine clause_loop (X := X.blk s3 H3 scope ce fp) (ht D it ce) rfl hc pg pt pb T st4 I4 nf4 w0 fun H' s' I' q => ?_
  have I7 : Inv X pins σ H' s' := I3.call' (ch := fp) I'.os I'.base I'.hok I'.bare fun b hb => ⟨(f3 b hb).1.2.2.2.1, (f3 b hb).1.2.1, (f3 b hb).1.2.2.2.2.1, (f3 b hb).1.2.2.2.2.2⟩
  have nC : H' C = none := by
    have z : H' ce.locals = none := I'.free
    rw [cL] at z
    exact z
  obtain ⟨m, hn, _⟩ := I'.loc
  have hn : s'.heap.Ns ce.locals m := hn
  rw [cL] at hn
  obtain ⟨c0, c1, c2, c3, c4, c5⟩ : FpOk X pins H' C := I3.fpOk (Nat.le_of_eq hC.symm) nC
  rw [← hC]
  exact ⟨m, hn, fun h8 sb => ⟨.ref D, H', I7.turned (t' := s'.toks) (fun b o hb z => (sb.2 b hb).trans z) c0 c1 c3 c4 c5, rfl, q⟩⟩
end
end Pl
set_option maxHeartbeats 1000000
namespace Pl
open PySem PySem.Spec PyProof.Rows L2 Kn
variable [Tbs]
/-! dict comprehensions whose keys are tuples, with one for or two -/
theorem Go.woC {D : Addr} {G H G' H' : Hp} {F : Addr → Prop} {u : HO} (g : Go G H G' H' F) (hD : H D = some u) (c : Chg u) (hG : G D = none) (hF : ¬ F D) : Go G (Pl.wo D H) G' (Pl.wo D H') F := by
  have n' : G' D = none := g.new D _ hD hG hF c
  have at' : ∀ z, H' D = some z → Chg z := fun z e => by
    rw [g.off D _ hD hF (chg_nt c)] at e
    cases e
    exact c
  refine ⟨g.gg, same_wo g.le n' at', fun a z e n w => ?_, fun a z e h n w => g.new a z (wo_some e).2 h n w, fun a e => ?_⟩
  · obtain ⟨h1, h2⟩ := wo_some e
    rw [wo_ne h1]
    exact g.off a z h2 n w
  · by_cases h : a = D
    · rw [h, wo_at]
    · rw [wo_ne h] at e ⊢
      exact g.dom a e
theorem Tr.woC {D : Addr} {G H G1 H1 : Hp} {σ : L2.St} {ρ ρ1 : Rh} {u : HO} (t : Tr G H σ ρ G1 H1 ρ1) (r : Rep G (Pl.wo D H) σ ρ) (hD : H D = some u) (c : Chg u) : Tr G (Pl.wo D H) σ ρ G1 (Pl.wo D H1) ρ1 ∧ H1 D = some u := by
  have g := t.go.woC hD c (wo_free r) (wo_nofp r)
  have e := t.go.off _ _ hD (wo_nofp r) (chg_nt c)
  exact ⟨⟨g, t.rep.wo (g.le.free wo_at) (fun z => wo_nofp r (t.kp.fp z)) (fun z h => by rw [e] at h; cases h; exact c), t.kp⟩, e⟩
def keyT : D → Option (List Key)
  | .tup true l => keysD l
  | _ => none
abbrev Acc := List (List Key × D)
abbrev Mc := Rh → Acc → Option (Acc × Rh)
def bPut (tk tv : Me) : Mc := fun ρ acc => (tk ρ).bind fun q => (keyT q.1).bind fun k => (tv q.2).bind fun r => if acc.length < 100000 then some (putD acc k r.1, r.2) else none
def wlkL (tg : Mg) (tt : Mt) (body : Mc) (vs : List Nat) : List D → Rh → Acc → Option (Acc × Rh)
  | [], ρ, acc => some (acc, ρ)
  | d :: ds, ρ, acc => (tg d ρ).bind fun ρ1 => (tt ρ1).bind fun p => if p.1 = true then (body p.2 acc).bind fun r => wlkL tg tt body vs ds (wipeR r.2 vs) r.1 else wlkL tg tt body vs ds (wipeR p.2 vs) acc
def bIn (src : Ma) (tg : Mg) (tt : Mt) (body : Mc) (vs : List Nat) : Mc := fun ρ acc => (src ρ).bind fun q => if (vs.all fun i => !isOwn q.2[i]?) = true then (wlkL tg tt body vs q.1 (wipeR q.2 vs) acc).map fun r => (r.1, unwipe q.2 r.2 vs) else none
def mDcT (src : Ma) (tg : Mg) (tt : Mt) (body : Mc) (vs : List Nat) : Me := fun ρ => (src ρ).bind fun p => if (vs.all fun i => !isOwn p.2[i]?) = true then (wlkL tg tt body vs p.1 (wipeR p.2 vs) []).map fun r => (.dcT (r.1.map (·.1)) (r.1.map (·.2)), unwipe p.2 r.2 vs) else none
/-- the dict that is being made -/
def At (D : Addr) (G H : Hp) (acc : Acc) : Prop := ∃ kvs : List (List Key × V), H D = some (.dT kvs) ∧ G D = none ∧ KD G kvs acc
theorem chg_dT {kvs : List (List Key × V)} : Chg (.dT kvs) := .inr (.inr (.inl ⟨_, rfl⟩))
def RB (D : Addr) (m : Mc) : TB := fun σ H Q => ∃ G ρ acc r, Rep G H σ ρ ∧ At D G H acc ∧ m ρ acc = some r ∧ ∀ G' H', Tr G (wo D H) σ ρ G' (wo D H') r.2 → At D G' H' r.1 → Q H'
theorem at_wo {D : Addr} {G H : Hp} {σ : L2.St} {ρ : Rh} {kvs : List (List Key × V)} (r : Rep G H σ ρ) (h : H D = some (.dT kvs)) (g : G D = none) : Rep G (wo D H) σ ρ :=
  r.wo g (fun z => by obtain ⟨xs, e⟩ := fp_some r z; rw [h] at e; cases e) fun u z => by rw [h] at z; cases z; exact chg_dT
section
variable {X : Cx}
theorem wlk_of {J : It} {Da : Addr} {G H : Hp} {ds : List D} {σ : L2.St} {ρ : Rh} {acc : Acc} {ts vs : List Nat} {tg : Mg} {tt : Mt} {body : Mc} {w : Acc × Rh} {Q : Hp → Prop} (wk : WalkD J G ds) (r : Rep G H σ ρ) (hat : At Da G H acc) (hts : ∀ i ∈ ts, i ∈ vs)
    (e : wlkL tg tt body vs ds (wipeR ρ vs) acc = some w) (hv : (vs.all fun i => !isOwn ρ[i]?) = true) (k : ∀ G' H', Tr G (wo Da H) σ ρ G' (wo Da H') (unwipe ρ w.2 vs) → At Da G' H' w.1 → Q H') : Wlk J (RG ts tg) (RT tt) (RB Da body) vs σ H Q := by
  have no : ∀ i ∈ vs, noOwn ρ i := fun i hi l es z => by
    have := List.all_eq_true.mp hv i hi
    rw [z] at this
    cases this
  have hat0 := hat
  obtain ⟨kvs0, hd0, hg0, _⟩ := hat0
  have rw0 : Rep G (wo Da H) σ ρ := at_wo r hd0 hg0
  have r0w := rw0.wipe vs
  let Pv : Nat → Hp → Prop := fun i H2 => ∃ Gi ρi acci, Tr G (wo Da H) (wipe σ vs) (wipeR ρ vs) Gi (wo Da H2) ρi ∧ (∀ j ∈ vs, ∀ s, ρi[j]? = some s → s = .un) ∧ At Da Gi H2 acci ∧ wlkL tg tt body vs (ds.drop i) ρi acci = some w
  refine ⟨fun i m H2 => m = ds.length - i ∧ i ≤ ds.length ∧ Pv i H2, ⟨ds.length, by simp, Nat.zero_le _, G, _, acc, Tr.refl r0w, fun j hj s hs => wiped hj hs, hat, by rw [List.drop_zero]; exact e⟩, ?_⟩
  rintro i m H2 ⟨rfl, hi, Gi, ρi, acci, t, hun, ⟨kvs, hd, hg, hx⟩, el⟩
  have sG : Same G H2 := t.go.gg.trans (t.go.le.same.trans wo_in)
  by_cases hlt : i < ds.length
  case neg =>
    obtain rfl : i = ds.length := by omega
    refine .inl ⟨wk.stops H2 sG, ?_⟩
    rw [List.drop_length] at el
    cases el
    exact k Gi H2 (Tr.unwipe rw0 no t) ⟨kvs, hd, hg, hx⟩
  refine .inr ⟨wk.goes i H2 hlt sG, Pv (i + 1), fun H' p' => ⟨ds.length - (i + 1), by omega, rfl, hlt, p'⟩, fun x H' y => ?_⟩
  obtain ⟨d, hd1, hy⟩ := wk.yields i H2 x H' hlt sG y
  obtain ⟨G2, ex, hxd⟩ := hy Gi t.go.gg (t.go.le.trans wo_in)
  have exw := ex.woC hd chg_dT (wo_free t.rep) id
  have hdH : H' Da = some (.dT kvs) := ex.off _ _ hd id nt_dT
  rw [drop_get hd1] at el
  obtain ⟨ρt, eg, el⟩ := bnd el
  obtain ⟨q, et, el⟩ := bnd el
  have rr : Rep G2 H' (wipe σ vs) ρi := (t.rep.ext exw).unwo
  refine ⟨G2, ρi, d, ρt, rr, hxd, eg, fun σ2 r2 sl hσ hno hlr => ⟨wipe_eq (by rw [sl, wipe_length]) fun i hi => by rw [(hσ i fun z => hi (hts i z)).1, wipe_out hi], ?_⟩⟩
  have slen : σ2.length = σ.length := by rw [sl, wipe_length]
  have r2w : Rep G2 (wo Da H') σ2 ρt := at_wo r2 hdH (exw.le.free wo_at)
  refine ⟨G2, ρt, q.1, q.2, r2, et, fun G3 H4 t3 => ?_⟩
  obtain ⟨t3w, hd4⟩ := t3.woC r2w hdH chg_dT
  cases hq : q.1 with
  | false =>
    rw [hq, if_neg Bool.false_ne_true] at el
    have tA := Tr.turn hts t.rep hun exw slen hlr hσ hno t3w
    exact iteF ⟨G3, wipeR q.2 vs, acci, t.trans tA.1, tA.2, ⟨kvs, hd4, tA.1.go.le.free wo_at, hx.same tA.1.go.gg⟩, el⟩
  | true =>
    rw [hq, if_pos rfl] at el
    obtain ⟨z, ez, el⟩ := bnd el
    have tA := Tr.turn hts t.rep hun exw slen hlr hσ hno t3w
    refine iteT ⟨G3, q.2, acci, z, t3.rep, ⟨kvs, hd4, tA.1.go.le.free wo_at, hx.same tA.1.go.gg⟩, ez, fun G4 H5 t4 at4 => ?_⟩
    have tB := Tr.turn hts t.rep hun exw slen hlr hσ hno (t3w.trans t4)
    exact ⟨G4, wipeR z.2 vs, z.1, t.trans tB.1, tB.2, at4, el⟩
theorem keyT_inv {d : D} {k : List Key} (h : keyT d = some k) : ∃ l, d = .tup true l ∧ keysD l = some k := by
  unfold keyT at h
  split at h
  · exact ⟨_, rfl, h⟩
  · cases h
theorem putT_of {D : Addr} {tk tv : Me} (σ : L2.St) (H : Hp) (Q : Hp → Prop) (h : RB D (bPut tk tv) σ H Q) : tPutAt D (R tk) (R tv) σ H Q := by
  obtain ⟨G, ρ, acc, r, rp, ⟨kvs, hd, hg, hx⟩, e, k⟩ := h
  obtain ⟨q, e1, e⟩ := bnd e
  obtain ⟨ky, e2, e⟩ := bnd e
  obtain ⟨v, e3, e⟩ := bnd e
  obtain ⟨hl, e⟩ := some_if e
  cases e
  have r0 := at_wo rp hd hg
  refine ⟨G, ρ, q.1, q.2, rp, e1, fun G1 H1 y t1 hy => ⟨G1, q.2, v.1, v.2, t1.rep, e3, fun G2 H2 z t2 hz => ?_⟩⟩
  obtain ⟨t1w, hd1⟩ := t1.woC r0 hd chg_dT
  obtain ⟨t2w, hd2⟩ := t2.woC t1w.rep hd1 chg_dT
  obtain ⟨l, el, ek⟩ := keyT_inv e2
  rw [el] at hy
  cases hy with
  | @tupW a xs _ h1 h2 =>
    rw [keysD_v h2 ek] at h1
    have hb : H2 a = some (.tup (ky.map kV)) := t2.rep.le _ _ (t2.go.gg _ _ h1)
    have len : kvs.length < sizeLine := by
      have : kvs.length = acc.length := Paired.length hx
      rw [this]
      exact Nat.lt_of_lt_of_le hl (by decide)
    exact ⟨_, DPut.t hd2 hb len, k G2 _ (by rw [wo_upd]; exact t1w.trans t2w) ⟨_, upd_same, t2w.go.le.free wo_at, (hx.same (t1.go.gg.trans t2.go.gg)).put ky hz⟩⟩
theorem in_of' {D : Addr} {src : Ma} {ts vs : List Nat} {tg : Mg} {tt : Mt} {body : Mc} (hts : ∀ i ∈ ts, i ∈ vs) (σ : L2.St) (H : Hp) (Q : Hp → Prop) (h : RB D (bIn src tg tt body vs) σ H Q) : tIn (RI src) (RG ts tg) (RT tt) (RB D body) vs σ H Q := by
  obtain ⟨G, ρ, acc, r, rp, ⟨kvs, hd, hg, hx⟩, e, k⟩ := h
  obtain ⟨q, e1, e⟩ := bnd e
  split at e
  case isFalse => cases e
  rename_i hv
  cases he : wlkL tg tt body vs q.1 (wipeR q.2 vs) acc with
  | none => rw [he] at e; cases e
  | some w =>
    rw [he] at e
    cases e
    have r0 := at_wo rp hd hg
    refine ⟨G, ρ, q.1, q.2, rp, e1, fun G1 H1 J t1 wk => ?_⟩
    obtain ⟨t1w, hd1⟩ := t1.woC r0 hd chg_dT
    exact wlk_of wk t1.rep ⟨kvs, hd1, t1w.go.le.free wo_at, hx.same t1.go.gg⟩ hts he hv fun G2 H2 T a => k G2 H2 (t1w.trans T) a
theorem dcT_of {src : Ma} {ts vs : List Nat} {tg : Mg} {tt : Mt} {body : Mc} (hts : ∀ i ∈ ts, i ∈ vs) (σ : L2.St) (H : Hp) (Q : VK) (h : R (mDcT src tg tt body vs) σ H Q) : tDcG (RI src) (RG ts tg) (RT tt) (fun D => RB D body) vs σ H (lockQ Q) := by
  obtain ⟨G, ρ, d0, ρ', rp, e, k⟩ := h
  obtain ⟨p, e1, e⟩ := bnd e
  split at e
  case isFalse => cases e
  rename_i hv
  cases he : wlkL tg tt body vs p.1 (wipeR p.2 vs) [] with
  | none => rw [he] at e; cases e
  | some w =>
    rw [he] at e
    cases e
    refine ⟨G, ρ, p.1, p.2, rp, e1, fun G1 H1 J t1 wk Dl hD => ?_⟩
    have nf : ¬ Fp σ p.2 Dl := fun z => by
      obtain ⟨xs, e⟩ := fp_some t1.rep z
      rw [hD] at e
      cases e
    have r1 : Rep G1 (upd H1 Dl (.dT [])) σ p.2 := t1.rep.poke (t1.rep.le.free hD) nf (fun u z => by rw [hD] at z; cases z)
    refine wlk_of wk r1 ⟨[], upd_same, t1.rep.le.free hD, .nil⟩ hts he hv fun G2 H2 T ⟨kvs, hd, hg, hx⟩ => ?_
    have eD : wo Dl (upd H1 Dl (.dT [])) = H1 := by
      rw [wo_upd]
      funext a
      by_cases ha : a = Dl
      · rw [ha, wo_at, hD]
      · rw [wo_ne ha]
    rw [eD] at T
    have T0 := t1.trans T
    have nH : H Dl = none := t1.back rp hD
    have T2 : Tr G H σ ρ G2 H2 (unwipe p.2 w.2 vs) := by
      refine ⟨⟨T0.go.gg, T0.go.le.trans wo_in, fun a o h n w => wo_in _ _ (T0.go.off a o h n w), fun a o h g n w => T0.go.new a o h g n w, fun a h => T0.go.dom a ?_⟩, T0.rep.unwo, T0.kp⟩
      by_cases ha : a = Dl
      · rw [ha, wo_at]
      · rw [wo_ne ha]; exact h
    refine ⟨Dl, _, rfl, hd, trivial, fun o => k _ _ _ (Tr.lay (o := .frz o (.dT kvs)) rp T2 nH hg (fun u z => by rw [hd] at z; cases z; exact chg_dT) nt_frz) ?_⟩
    obtain ⟨h1, h2⟩ := hx.keys
    rw [← h1]
    exact .dcT upd_same (dda_same (same_new hg) h2)
theorem PB.imp {vs : List Nat} {body : Sem PySem.Fin → Sem PySem.Fin} {t t' : TB} (h : PB X vs body t) (hi : ∀ σ H Q, t' σ H Q → t σ H Q) : PB X vs body t' := ⟨fun pins s σ H Q k P E I q hK => h.run pins s σ H Q k P E I (hi σ H Q q) hK⟩
theorem qe_dcT {kx vx tg iter : Expr} {ifs : List Expr} {scope : Scope} {own : List (Str × Nat)} {pos : Pos} {src : Ma} {ts : List Nat} {g : Mg} {tt : Mt} {tk tv : Me} (hu : X.A.units < cLine) (hc : X.calm = true) (hN : X.N.Nodup) (hi : PI X tg iter (RI src)) (ok : BlkOk X.N X.env.scope scope own)
    (hg : ∀ (s : Shared) (H : Hp) (C : Addr) (cl : List (Str × Addr)) (fp : List Addr), PG (X.blk s H scope (compEnvC scope cl C X.env) fp) tg (RG ts g)) (ht : ∀ (s : Shared) (H : Hp) (C : Addr) (cl : List (Str × Addr)) (fp : List Addr), PTs (X.blk s H scope (compEnvC scope cl C X.env) fp) ifs (RT tt))
    (hk : ∀ (s : Shared) (H : Hp) (C : Addr) (cl : List (Str × Addr)) (fp : List Addr), PE (X.blk s H scope (compEnvC scope cl C X.env) fp) kx (R tk)) (he : ∀ (s : Shared) (H : Hp) (C : Addr) (cl : List (Str × Addr)) (fp : List Addr), PE (X.blk s H scope (compEnvC scope cl C X.env) fp) vx (R tv))
    (hts : ∀ i ∈ ts, i ∈ own.map (·.2) := by decide) (hs : ∀ x, foldedSetIterable iter X.env x = pure x := by intro _; rfl) : PE X (.DictComp kx vx [⟨tg, iter, ifs, 0⟩] scope pos) (R (mDcT src g tt (bPut tk tv) (own.map (·.2)))) :=
  imp (pe_lock (pe_dcG (p := iter.pos) (body := fun D env k => (do
      let kv ← eval kx env
      let vv ← holding [kv] (eval vx env)
      standAt { kx.pos with endLine := vx.pos.endLine, endCol := vx.pos.endCol }
      holding [kv, vv] (dictSet D kv vv)) >>= fun _ => k) hc hN hi ok (fun D it env => rfl) hg ht (fun D s H C cl fp => PB.imp (pb_put rfl (hk s H C cl fp) (he s H C cl fp) hu) putT_of) hs)) (dcT_of hts)
theorem qe_dcT2 {kx vx tg iter tg1 iter1 : Expr} {ifs ifs1 : List Expr} {scope : Scope} {own : List (Str × Nat)} {vs1 : List Nat} {pos : Pos} {src src1 : Ma} {ts ts1 : List Nat} {g g1 : Mg} {tt tt1 : Mt} {tk tv : Me} (hu : X.A.units < cLine) (hc : X.calm = true) (hN : X.N.Nodup) (hi : PI X tg iter (RI src)) (ok : BlkOk X.N X.env.scope scope own)
    (hg : ∀ (s : Shared) (H : Hp) (C : Addr) (cl : List (Str × Addr)) (fp : List Addr), PG (X.blk s H scope (compEnvC scope cl C X.env) fp) tg (RG ts g)) (ht : ∀ (s : Shared) (H : Hp) (C : Addr) (cl : List (Str × Addr)) (fp : List Addr), PTs (X.blk s H scope (compEnvC scope cl C X.env) fp) ifs (RT tt))
    (hi1 : ∀ (s : Shared) (H : Hp) (C : Addr) (cl : List (Str × Addr)) (fp : List Addr), PI (X.blk s H scope (compEnvC scope cl C X.env) fp) tg1 iter1 (RI src1))
    (hg1 : ∀ (s : Shared) (H : Hp) (C : Addr) (cl : List (Str × Addr)) (fp : List Addr), PG (X.blk s H scope (compEnvC scope cl C X.env) fp) tg1 (RG ts1 g1)) (ht1 : ∀ (s : Shared) (H : Hp) (C : Addr) (cl : List (Str × Addr)) (fp : List Addr), PTs (X.blk s H scope (compEnvC scope cl C X.env) fp) ifs1 (RT tt1))
    (hk : ∀ (s : Shared) (H : Hp) (C : Addr) (cl : List (Str × Addr)) (fp : List Addr), PE (X.blk s H scope (compEnvC scope cl C X.env) fp) kx (R tk)) (he : ∀ (s : Shared) (H : Hp) (C : Addr) (cl : List (Str × Addr)) (fp : List Addr), PE (X.blk s H scope (compEnvC scope cl C X.env) fp) vx (R tv))
    (hts : ∀ i ∈ ts, i ∈ own.map (·.2) := by decide) (hts1 : ∀ i ∈ ts1, i ∈ vs1 := by decide) (hv : ∀ i ∈ vs1, i ∈ own.map (·.2) := by decide) (hs : ∀ x, foldedSetIterable iter X.env x = pure x := by intro _; rfl) (hs1 : ∀ env x, foldedSetIterable iter1 env x = pure x := by intro _ _; rfl) :
    PE X (.DictComp kx vx [⟨tg, iter, ifs, 0⟩, ⟨tg1, iter1, ifs1, 0⟩] scope pos) (R (mDcT src g tt (bIn src1 g1 tt1 (bPut tk tv) vs1) (own.map (·.2)))) :=
  imp (pe_lock (pe_dcG (p := iter.pos) (body := fun D env k => do
      let x ← eval iter1 env
      standAt iter1.pos
      let x ← foldedSetIterable iter1 env x
      let _ ← runOwn (.compStart (.DictComp kx vx [⟨tg, iter, ifs, 0⟩, ⟨tg1, iter1, ifs1, 0⟩] scope pos) 1 (← holding [x] (pyIter x)) (.ref D) env) env
      k) hc hN hi ok (fun D it env => rfl) hg ht (fun D s H C cl fp => PB.imp (pb_in (body := fun k => (do
      let kv ← eval kx (compEnvC scope cl C X.env)
      let vv ← holding [kv] (eval vx (compEnvC scope cl C X.env))
      standAt { kx.pos with endLine := vx.pos.endLine, endCol := vx.pos.endCol }
      holding [kv, vv] (dictSet D kv vv)) >>= fun _ => k) (p := iter1.pos) rfl (fun it => rfl) rfl hc (hi1 s H C cl fp) (hg1 s H C cl fp) (ht1 s H C cl fp) (PB.imp (pb_put rfl (hk s H C cl fp) (he s H C cl fp) hu) putT_of) hv (hs1 _)) (in_of' hts1)) hs)) (dcT_of hts)
end
end Pl
set_option maxHeartbeats 1000000
namespace Pl
open PySem PySem.Spec PyProof.Rows L2 Kn
/-! == of two dicts whose keys are tuples -/
section
variable {prog : Program} {w : World} {K : Type} [DecidableEq K] {knd : HeapKind prog w K} {A : Around} {E : Value → Shared → Prop} {s : Shared}
/-- going over the one dict's entries beside the other, until one is told otherwise -/
inductive Hit (A : Around) (s : Shared) (ys : List (K × Addr × Value)) : List (K × Addr × Value) → Bool → Prop
  | nil : Hit A s ys [] true
  | no {x : K × Addr × Value} {l : List (K × Addr × Value)} : atKey ys x.1 = none → Hit A s ys (x :: l) false
  | off {x : K × Addr × Value} {y : Addr × Value} {l : List (K × Addr × Value)} : atKey ys x.1 = some y → SeqAt.EqAt A s x.2.2 y.2 false → Hit A s ys (x :: l) false
  | on {x : K × Addr × Value} {y : Addr × Value} {l : List (K × Addr × Value)} {b : Bool} : atKey ys x.1 = some y → SeqAt.EqAt A s x.2.2 y.2 true → Hit A s ys l b → Hit A s ys (x :: l) b
theorem range'_drop {n i j : Nat} {l : List Nat} (h : j :: l = List.range' i (n - i)) : j = i ∧ i < n ∧ l = List.range' (i + 1) (n - (i + 1)) := by
  by_cases hi : i < n
  · rw [show n - i = (n - (i + 1)) + 1 by omega, List.range'_succ] at h
    injection h with h1 h2
    exact ⟨h1, hi, h2⟩
  · rw [show n - i = 0 by omega] at h
    cases h
theorem same_keyed {nm : String} {a b : Addr} {xs ys : List (K × Addr × Value)} {r : Bool} {Q : Bool → Shared → Prop} (na : (a == sysModules) = false) (nb : (b == sysModules) = false) (da : s.heap.DictOfH knd a xs) (db : s.heap.DictOfH knd b ys) (hu : knd.room A)
    (hits : xs.length = ys.length → Hit A s ys xs r) (h : Q (decide (xs.length = ys.length) && r) s) : wpAny (model prog w) A (Builtin.Dict.samePairs nm a b) Q E s := by
  obtain ⟨oa, ea, pa, ga, _, ta, la, ka, _⟩ := da
  obtain ⟨ob, eb, pb, gb, _, tb, lb, kb, ub⟩ := db
  have za := size_of_entries la
  have zb := size_of_entries lb
  unfold Builtin.Dict.samePairs Builtin.Dict.showsAll
  rw [na, nb]
  refine wpAny_bind (wpAny_pure (wpAny_bind (wpAny_pure (wpAny_bind (wpAny_dictEntries ga ta (wpAny_bind (wpAny_dictEntries gb tb ?_)))))))
  by_cases ez : ea.size = eb.size
  case neg =>
    have en : ¬ xs.length = ys.length := by rw [← za, ← zb]; exact ez
    rw [decide_eq_false en, Bool.false_and] at h
    rw [if_pos (bne_iff_ne.mpr ez)]
    exact wpAny_bind (wpAny_rule (wpAny_pure h))
  have ey : xs.length = ys.length := by rw [← za, ← zb]; exact ez
  rw [decide_eq_true ey, Bool.true_and] at h
  have start := hits ey
  rw [if_neg (fun z => (bne_iff_ne.mp z) ez)]
  refine wpAny_bind (wpAny_dictEpoch ga ta (wpAny_bind ?_))
  rw [Std.Legacy.Range.forIn_eq_forIn_range']
  simp only [Std.Legacy.Range.size, Nat.sub_zero, Nat.add_sub_cancel, Nat.div_one]
  refine wpAny_forIn_list _ (fun l q s' => s' = s ∧ q = (none, ()) ∧ ∃ i, l = List.range' i (ea.size - i) ∧ Hit A s ys (xs.drop i) r) _ (fun j l q s' hI => ?_) (fun q s' hI => ?_) _ _ ⟨rfl, rfl, 0, by simp, start⟩
  · obtain ⟨rfl, rfl, i, hl, hh⟩ := hI
    obtain ⟨rfl, hi, hl'⟩ := range'_drop hl
    have hj : j < xs.length := by rw [← za]; exact hi
    have ej : ea[j]? = some (entryOfKey knd xs[j]) := by rw [entry_at la, List.getElem?_eq_getElem hj]; rfl
    have mem : xs[j] ∈ xs := List.getElem_mem hj
    rw [List.drop_eq_getElem_cons hj] at hh
    generalize xs[j] = x at ej mem hh
    refine wpAny_bind (wpAny_dictEntries ga ta ?_)
    rw [ej]
    show wpAny _ _ (holding _ (do
      let some j ← dictFind b (.ref x.2.1) (knd.hash x.1) | pure false
      let some f := (← dictEntries b)[j]? | unsupported "internal:dict-equal"
      holding [f.val] (eqBool x.2.2 f.val)) >>= _) _ _ _
    refine wpAny_bind (wpAny_holding (wpAny_bind (wpAny_dictFind_heap hu (ka x mem) gb tb lb kb ub (fun hn => ?_) fun n p hp => ?_)))
    · have e0 := atKey_none_of_get hn
      cases hh with
      | no _ =>
        refine wpAny_pure ?_
        rw [show (!false) = true from rfl, if_pos rfl]
        exact wpAny_pure (wpAny_pure h)
      | off e1 _ => rw [e0] at e1; cases e1
      | on e1 _ _ => rw [e0] at e1; cases e1
    · have e0 := atKey_of_get ub hp
      have en : eb[n]? = some (entryOfKey knd (x.1, p)) := by rw [entry_at lb, hp]; rfl
      refine wpAny_bind (wpAny_dictEntries gb tb ?_)
      rw [en]
      cases hh with
      | no e1 => rw [e0] at e1; cases e1
      | off e1 e2 =>
        rw [e0] at e1
        cases e1
        refine wpAny_holding (e2 prog w _ _ ?_)
        rw [show (!false) = true from rfl, if_pos rfl]
        exact wpAny_pure (wpAny_pure h)
      | on e1 e2 e3 =>
        rw [e0] at e1
        cases e1
        refine wpAny_holding (e2 prog w _ _ ?_)
        rw [show (!true) = false from rfl, if_neg Bool.false_ne_true]
        refine wpAny_bind (wpAny_dictEpoch ga ta ?_)
        rw [if_neg (by simp)]
        exact wpAny_pure ⟨rfl, rfl, j + 1, hl', e3⟩
  · obtain ⟨rfl, rfl, i, hl, hh⟩ := hI
    have hi : xs.length ≤ i := by
      have := congrArg List.length hl
      simp only [List.length_nil, List.length_range'] at this
      omega
    rw [List.drop_eq_nil_of_le hi] at hh
    cases hh
    exact wpAny_pure h
theorem eq_keyed {a b : Addr} {xs ys : List (K × Addr × Value)} {r : Bool} {Q : Value → Shared → Prop} (na : (a == sysModules) = false) (nb : (b == sysModules) = false) (da : s.heap.DictOfH knd a xs) (db : s.heap.DictOfH knd b ys) (hu : A.units < cLine) (hk : knd.room A.in1)
    (hits : xs.length = ys.length → Hit A.in1 s ys xs r) (h : Q (.bool (decide (xs.length = ys.length) && r)) s) : wpAny (model prog w) A (compareOp .Eq (.ref a) (.ref b)) Q E s := by
  refine wpAny_richCompare_same_room (op := .Eq) da.typeIs db.typeIs PySem.F.slot_dict_eq (wpAny_call_entry PySem.F.slot_dict_eq da.typeIs PySem.F.entry_dict_eq ?_ (PySem.F.args_dict_eq_2 _ _)) hu
  have same : wpAny (model prog w) A.in1 (Builtin.Dict.samePairs "dict.__eq__" a b) (fun z s' => z = (decide (xs.length = ys.length) && r) ∧ s' = s) E s := same_keyed na nb da db hk hits ⟨rfl, rfl⟩
  refine (show wpAny _ _ (Builtin.Dict.dictSlotArgs "__eq__" ⟨[.ref a, .ref b], []⟩ >>= _) _ _ s from wpAny_bind ?_)
  unfold Builtin.Dict.dictSlotArgs
  refine wpAny_bind (wpAny_notOrdered_dict da.typeIs (show wpAny _ _ (pure (Value.ref a, Value.ref b)) _ _ s from wpAny_pure ?_))
  refine wpAny_bind (wpAny_isInstance (T := "dict") db.typeIs PySem.F.sub_dict_dict ?_)
  simp only [Bool.not_true, Bool.false_eq_true, if_false]
  refine wpAny_bind (wpAny_pure (wpAny_bind (wpAny_pure (wpAny_bind (thn same fun z s' ⟨hz, hs⟩ => ?_)))))
  subst hz hs
  exact wpAny_pure ⟨_, rfl, (fun x => nomatch x), by simpa using h⟩
end
end Pl
set_option maxHeartbeats 1000000
namespace Pl
open PySem PySem.Spec PyProof.Rows L2 Kn
variable [Tbs]
/-! == of dicts with tuple keys, by what they hold -/
def eqSh (a b : D) : Option Bool := if SeqAt.shaped a.py = true ∧ SeqAt.shaped b.py = true then some (PyData.eqv a.py b.py) else none
def sameT (ls : List (List Key)) (es : List D) : List (List Key) → List D → Option Bool
  | k :: ks, d :: ds => match look ls es k with
    | none => some false
    | some e => (eqSh d e).bind fun b => if b = true then sameT ls es ks ds else some false
  | _, _ => some true
def eqTD : D → D → Option D
  | .dcT ks ds, .dcT ls es => if ks.length = ls.length then (sameT ls es ks ds).map D.bl else some (.bl false)
  | _, _ => none
section
variable {X : Cx}
def rEqT (K : PySem.W.Frag) : R2 := fun x y H Q => ∃ (a b : Addr) (ks ls : List (List Key × V)) (r : Bool) (G : Hp) (ds es : List D), x = .ref a ∧ y = .ref b ∧ Rd H a (.dT ks) ∧ Rd H b (.dT ls) ∧ Le G H ∧ DdA G (ks.map (·.2)) ds ∧ DdA G (ls.map (·.2)) es ∧
  (ks.length = ls.length → sameT (ls.map (·.1)) es (ks.map (·.1)) ds = some r) ∧ Q (.bl (decide (ks.length = ls.length) && r)) H
theorem kt_look {H G : Hp} {ls : List (List Key × V)} {ys : List (List Key × Addr × Value)} (r : KT H ls ys) : ∀ {es : List D}, DdA G (ls.map (·.2)) es → ∀ k, match look (ls.map (·.1)) es k with
    | none => atKey ys k = none
    | some e => ∃ y v, atKey ys k = some y ∧ RelV v y.2 ∧ Dd G v e := by
  induction r with
  | nil =>
    intro es h k
    cases h
    rfl
  | @cons p q ps qs hq t ih =>
    intro es h k
    cases h with
    | @cons _ _ e es' h1 h2 =>
      have := ih h2 k
      show match (if p.1 = k then some e else look (ps.map (·.1)) es' k) with | none => _ | some e => _
      by_cases hk : p.1 = k
      · rw [if_pos hk]
        refine ⟨q.2, p.2, ?_, hq.2.2, h1⟩
        show ((q :: qs).find? fun x => decide (x.1 = k)).map (·.2) = _
        rw [List.find?_cons_of_pos (by rw [← hq.1, hk]; simp)]
        rfl
      · rw [if_neg hk]
        have e0 : atKey (q :: qs) k = atKey qs k := by
          show ((q :: qs).find? fun x => decide (x.1 = k)).map (·.2) = _
          rw [List.find?_cons_of_neg (by rw [← hq.1]; simpa using hk)]
          rfl
        rw [e0]
        exact this
theorem hits_of {pins : List (Addr × Obj)} {σ : L2.St} {H G : Hp} {s : Shared} {A : Around} (I : Inv X pins σ H s) (hu : A.units + 64 < cLine) (le : Le G H) {ls : List (List Key × V)} {ys : List (List Key × Addr × Value)} {es : List D} (rl : KT H ls ys) (he : DdA G (ls.map (·.2)) es) :
    ∀ {ks : List (List Key × V)} {xs : List (List Key × Addr × Value)}, KT H ks xs → ∀ {ds : List D} {r : Bool}, DdA G (ks.map (·.2)) ds → sameT (ls.map (·.1)) es (ks.map (·.1)) ds = some r → Hit A s ys xs r := by
  intro ks xs rk
  induction rk with
  | nil =>
    intro ds r h e
    cases h
    cases e
    exact .nil
  | @cons p q ps qs hq t ih =>
    intro ds r h e
    cases h with
    | @cons _ _ d ds' h1 h2 =>
      have hk := kt_look rl he p.1
      have e : (match look (ls.map (·.1)) es p.1 with
        | none => some false
        | some e => (eqSh d e).bind fun b => if b = true then sameT (ls.map (·.1)) es (ps.map (·.1)) ds' else some false) = some r := e
      rw [hq.1] at hk e
      cases hl : look (ls.map (·.1)) es q.1 with
      | none =>
        rw [hl] at hk e
        cases e
        exact .no hk
      | some z =>
        rw [hl] at hk e
        obtain ⟨y, v, e1, e2, e3⟩ := hk
        obtain ⟨b, eb, e⟩ := bnd e
        unfold eqSh at eb
        obtain ⟨⟨sa, sb⟩, rfl⟩ := some_if eb
        obtain ⟨as, r1⟩ := Dp.reads I _ p.2 q.2.2 (dp_same le (dd_dp h1 (shaped_lay sa))) hq.2.2
        obtain ⟨bs, r2⟩ := Dp.reads I _ v y.2 (dp_same le (dd_dp e3 (shaped_lay sb))) e2
        have eq := SeqAt.eqAt_reads _ _ A s q.2.2 y.2 as bs r1 r2 (SeqAt.canLay_of_shaped sa) (SeqAt.canLay_of_shaped sb) (SeqAt.room_of_shaped sa hu)
        cases hb : PyData.eqv d.py z.py with
        | false =>
          rw [hb] at e eq
          cases e
          exact .off e1 eq
        | true =>
          rw [hb] at e eq
          exact .on e1 eq (ih h2 e)
theorem o_eqT (hu : X.A.units + 65 < cLine) : OpR X (compareOp .Eq) (rEqT X.K) ∧ OpD (rEqT X.K) eqTD := by
  refine ⟨fun pins s σ H x y v u Q I rx ry h => ?_, fun G H x y a b d Q le ha hb e k => ?_⟩
  · obtain ⟨a, b, ks, ls, r, G, ds, es, rfl, rfl, ra, rb, le, hd, he, hs, q⟩ := h
    obtain rfl : v = Value.ref a := rx
    obtain rfl : u = Value.ref b := ry
    obtain ⟨_, na, xs, ka, da⟩ := dt_rd I.hok ra
    obtain ⟨_, nb, ys, kb, db⟩ := dt_rd I.hok rb
    have l1 := Paired.length ka
    have l2 := Paired.length kb
    have hu1 : X.A.in1.units + 64 < cLine := by
      show X.A.units + 1 + 64 < cLine
      omega
    refine eq_keyed na nb da db (by omega) (tupleKind_room_in1 (by omega)) (fun hl => hits_of I hu1 le kb he ka hd (hs (by rw [l1, l2]; exact hl))) ⟨.bl (decide (ks.length = ls.length) && r), H, I, ?_, q⟩
    rw [l1, l2]
    rfl
  · unfold eqTD at e
    split at e
    · rename_i ks ds ls es
      cases ha with
      | @dcT a _ kvs _ h1 h2 =>
        cases hb with
        | @dcT b _ lvs _ h3 h4 =>
          split at e
          · rename_i hl
            obtain ⟨r, e1, rfl⟩ := mpd e
            have hl' : kvs.length = lvs.length := by simpa using hl
            refine ⟨a, b, kvs, lvs, r, G, ds, es, rfl, rfl, .inr ⟨_, le _ _ h1⟩, .inr ⟨_, le _ _ h3⟩, le, h2, h4, fun _ => e1, ?_⟩
            rw [decide_eq_true hl', Bool.true_and]
            exact k.sc le (.bl _)
          · rename_i hl
            cases e
            have hl' : ¬ kvs.length = lvs.length := by simpa using hl
            refine ⟨a, b, kvs, lvs, false, G, ds, es, rfl, rfl, .inr ⟨_, le _ _ h1⟩, .inr ⟨_, le _ _ h3⟩, le, h2, h4, fun z => absurd z hl', ?_⟩
            rw [Bool.and_false]
            exact k.sc le (.bl _)
    · cases e
end
end Pl
set_option maxHeartbeats 1000000
namespace Pl
open PySem PySem.Spec PyProof.Rows L2 Kn
variable [Tbs]
/-! instances of the class, told by their fields -/
theorem look_fs {G : Hp} {f : Str} : ∀ {fs : List (Str × V)} {ds : List D} {d : D}, DdA G (fs.map (·.2)) ds → look (fs.map (·.1)) ds f = some d → ∃ v, fs.lookup f = some v ∧ Dd G v d
  | [], _, _, .nil, e => nomatch e
  | (n, v) :: fs, _ :: ds, d, .cons h hs, e => by
    have e : (if n = f then some _ else look (fs.map (·.1)) ds f) = some d := e
    by_cases hn : n = f
    · rw [if_pos hn] at e
      cases e
      refine ⟨v, ?_, h⟩
      rw [List.lookup_cons, hn]
      simp
    · rw [if_neg hn] at e
      obtain ⟨u, e1, e2⟩ := look_fs hs e
      refine ⟨u, ?_, e2⟩
      rw [List.lookup_cons, show (f == n) = false from beq_eq_false_iff_ne.mpr (Ne.symm hn)]
      exact e1
def mFld (f : Str) (m : Me) : Me := fun ρ => (m ρ).bind fun p => match p.1 with
  | .ins ns ds => (look ns ds f).map fun d => (d, p.2)
  | _ => none
def mIsC (m : Me) : Me := fun ρ => (m ρ).bind fun p => match p.1 with
  | .ins _ _ => some (.bl true, p.2)
  | _ => none
section
variable {X : Cx}
theorem qe_fld {e : Expr} {f : Str} {m : Me} {pos : Pos} (c : Cls X.K Tbs.C) (n : NoAttr X.K Tbs.C f) (he : PE X e (R m)) (hb : attributeBase e f X.env (eval e X.env) = eval e X.env := by rfl) : PE X (.Attribute e f pos) (R (mFld f m)) := by
  refine imp (pe_fld he hb) fun σ H Q ⟨G, ρ, d, ρ', rp, e, k⟩ => ?_
  obtain ⟨p, e1, e⟩ := bnd e
  split at e
  · rename_i ns ds hd
    obtain ⟨z, e2, e⟩ := mpd e
    cases e
    refine ⟨G, ρ, p.1, p.2, rp, e1, fun G1 H1 v t hv => ?_⟩
    rw [hd] at hv
    cases hv with
    | @ins a dx fs _ h1 h2 =>
      obtain ⟨v, e3, e4⟩ := look_fs h2 e2
      exact ⟨a, _, dx, fs, v, rfl, t.rep.le _ _ h1, c, n, e3, k G1 H1 v t e4⟩
  · cases e
theorem qe_isC {e : Expr} {m : Me} {T : Str} {p q pos : Pos} (c : C8.InsC X.K Tbs.C) (hg : Gl X "isinstance") (hm : X.mg "isinstance" = none) (hb : bootBuiltins "isinstance" = some (.builtin "isinstance")) (he : PE X e (R m)) (hgT : Gl X T) (hmT : X.mg T = some (.ref Tbs.C)) (hdT : (T == ("__debug__" : Str)) = false := by decide)
    (hs1 : starEach [e, .Name T q] X.env = (false, eval e X.env) :: starEach [.Name T q] X.env := by rfl) (hs2 : starEach [.Name T q] X.env = (false, eval (.Name T q) X.env) :: starEach [] X.env := by rfl) (hpl : (backTo pos (starEach [.Name T q] X.env)).any (·.1) = false := by rfl) :
    PE X (.Call (.Name "isinstance" p) [e, .Name T q] [] pos) (R (mIsC m)) := by
  refine imp (pe_callB (C8.call_isC c) hg hm hb (pa_cons he (pa_cons (pe_glob (v := .ref Tbs.C) hgT hmT rfl hdT) pa_nil hs2) hs1) (by decide) (by decide) hs1 hpl) fun σ H Q ⟨G, ρ, d, ρ', rp, e, k⟩ => ?_
  obtain ⟨z, e1, e⟩ := bnd e
  split at e
  · rename_i ns ds hd
    cases e
    refine ⟨G, ρ, z.1, z.2, rp, e1, fun G1 H1 v t hv => ?_⟩
    rw [hd] at hv
    cases hv with
    | @ins a dx fs _ h1 h2 => exact ⟨a, dx, fs, rfl, t.rep.le _ _ h1, k G1 H1 _ t (.bl true)⟩
  · cases e
/-- what __init__ promises: the instance at x gets the fields ns, which hold what F tells -/
def SpI (ns : List Str) (F : List D → Option (List D)) : Sp := fun vs H Q _ => ∃ G x dx ws ds es, vs = .ref x :: ws ∧ Le G H ∧ H x = some (.ins Tbs.C dx []) ∧ G x = none ∧ DdA G ws ds ∧ F ds = some es ∧
  ∀ G' H' fs, Go G H G' H' (· = x) → H' x = some (.ins Tbs.C dx fs) → G' x = none → fs.map (·.1) = ns → DdA G' (fs.map (·.2)) es → Q .non H'
def mMake (ns : List Str) (F : List D → Option (List D)) (m : Ma) : Me := fun ρ => (m ρ).bind fun p => (F p.1).map fun es => (.ins ns es, p.2)
theorem chg_ins {C d : Addr} {fs : List (Str × V)} : Chg (.ins C d fs) := .inr (.inr (.inr ⟨_, _, _, rfl⟩))
theorem make_of {ns : List Str} {F : List D → Option (List D)} {m : Ma} {E : XK} (σ : L2.St) (H : Hp) (Q : VK) (h : R (mMake ns F m) σ H Q) : tMake Tbs.C (SpI ns F) [] E (RA m) σ H Q := by
  obtain ⟨G, ρ, d, ρ', rp, e, k⟩ := h
  obtain ⟨p, e1, e⟩ := bnd e
  obtain ⟨es, e2, e⟩ := mpd e
  cases e
  refine ⟨G, ρ, p.1, p.2, rp, e1, fun G1 H1 vs t hv x dx nx nd ne => ?_⟩
  have s1 : Same H1 (upd H1 dx (.own x)) := same_new nd
  have nx1 : (upd H1 dx (.own x)) x = none := by rw [upd_ne (Ne.symm ne)]; exact nx
  have s2 : Same (upd H1 dx (.own x)) (upd (upd H1 dx (.own x)) x (.ins Tbs.C dx [])) := same_new nx1
  have le2 : Le G1 (upd (upd H1 dx (.own x)) x (.ins Tbs.C dx [])) := t.rep.le.to (s1.trans s2)
  rw [List.append_nil]
  refine ⟨G1, x, dx, vs, p.1, es, rfl, le2, upd_same, t.rep.le.free nx, hv, e2, fun G2 H2 fs go hx gx hn hd => ⟨rfl, ?_⟩⟩
  have nH : H x = none := t.back rp nx
  have T : Tr G H σ ρ G2 H2 p.2 := by
    have off : ∀ a o, H1 a = some o → NT o → H2 a = some o := fun a o h w => go.off a o ((s1.trans s2) _ _ h) (ne_of_none h nx) w
    have new : ∀ a o, H1 a = some o → G1 a = none → Chg o → G2 a = none := fun a o h g w => go.new a o ((s1.trans s2) _ _ h) g (ne_of_none h nx) w
    refine t.trans (Tr.ext t.rep ⟨go.gg, go.le, fun a o h _ w => off a o h w, fun a o h g _ w => new a o h g w, fun a h => ?_⟩)
    exact (s1.trans s2).free (go.dom a h)
  have le3 := T.rep.le
  have hc : ∀ u, H2 x = some u → Chg u := fun u z => by rw [hx] at z; cases z; exact chg_ins
  have T2 := Tr.lay (o := .ins Tbs.C dx fs) rp T nH gx hc nt_ins
  have eH : upd H2 x (.ins Tbs.C dx fs) = H2 := by
    funext a
    by_cases ha : a = x
    · rw [ha, upd_same, hx]
    · rw [upd_ne ha]
  rw [eH] at T2
  refine k _ _ _ T2 ?_
  rw [← hn]
  exact .ins upd_same (dda_same (same_new gx) hd)
theorem qe_make {k : Nat} {f : Addr} {fd : FuncData} {ps ns : List Str} {F : List D → Option (List D)} {x : Str} {p pos : Pos} {e : Expr} {es : List Expr} {m : Ma} (Fn : FnOk X.prog X.w X.K X.mg X.base CX0 k f fd ps (SpI ns F)) (hr : Room (k + 1) X.A) (M : Mk X.K Tbs.C f) (hg : Gl X x) (hm : X.mg x = some (.ref Tbs.C)) (hb : Binds X.K fd ps [])
    (ha : PA X (e :: es) (RA m)) (hdb : (x == ("__debug__" : Str)) = false := by decide) (he : starEach (e :: es) X.env = (false, eval e X.env) :: starEach es X.env := by rfl) (hpl : (backTo pos (starEach es X.env)).any (·.1) = false := by rfl) :
    PE X (.Call (.Name x p) (e :: es) [] pos) (R (mMake ns F m)) := imp (pe_make M Fn hr hg hm hb .nil pass0 ha hdb he hpl) make_of
end
/-! the class with two fields: the first told by the first statements, the second by a call with the first -/
section
variable {X : Cx}
/-- self.a = (m2); self.b = f(self.a, the third slot), behind (m1) -/
def tIni (K : PySem.W.Frag) (m1 m2 : Me) (a b : Str) (F : List D → Option D) (E : XK) : TS :=
  tSeq (tDrop (R m1)) (tSeq (sFld K (tVar 0) (R m2) a) (sFld K (tVar 0) (tCall (SpP F) [] E (tCons (tFld K (tVar 0) a) (tCons (R (mVar 2)) tNil))) b))
def iniF (m1 m2 : Me) (F : List D → Option D) : List D → Option (List D) := fun ds => if ds.length = 2 then (m1 (.un :: begin0 0 ds)).bind fun p => (m2 p.2).bind fun q => (mVar 2 q.2).bind fun r => (F [q.1, r.1]).map fun z => [q.1, z] else none
theorem rep_beginU {G H : Hp} {N : List Str} {u : V} {ws : List V} {ds : List D} {k : Nat} (le : Le G H) (hv : DdA G ws ds) (hn : N.length = ds.length + 1 + k) : Rep G H (start N (u :: ws)) (.un :: begin0 k ds) := by
  refine ⟨le, ?_, fun {i d} h => ?_, fun {i l es} h => ?_, fun {i j l l' es es' a} h1 _ _ _ => ?_⟩
  · have := dda_len hv
    simp [L2.start, begin0]
    omega
  · cases i with
    | zero => cases h
    | succ i =>
      have h : (begin0 k ds)[i]? = some (.val d) := h
      rw [begin_get] at h
      split at h
      · obtain ⟨e, h1, h2⟩ := mpd h
        cases h2
        obtain ⟨v, h3, h4⟩ := dda_at hv h1
        exact ⟨v, start_get (i := i + 1) h3, h4⟩
      · split at h <;> cases h
  · cases i with
    | zero => cases h
    | succ i => exact (begin_noown (show (begin0 k ds)[i]? = _ from h)).elim
  · cases i with
    | zero => cases h1
    | succ i => exact (begin_noown (show (begin0 k ds)[i]? = _ from h1)).elim
theorem nofpU {σ : L2.St} {k : Nat} {ds : List D} {a : Addr} : ¬ Fp σ (.un :: begin0 k ds) a := fun ⟨i, l, es, z, _⟩ => by
  cases i with
  | zero => cases z
  | succ i => exact (begin_noown (show (begin0 k ds)[i]? = _ from z)).elim
theorem ini_read {K : PySem.W.Frag} {m1 m2 : Me} {a b : Str} {F : List D → Option D} {E : XK} {G H : Hp} {x dx : Addr} {ws : List V} {ds es : List D} {N : List Str} {Q : VK} (c : Cls K Tbs.C) (na : NoAttr K Tbs.C a) (nb : NoAttr K Tbs.C b) (hab : a ≠ b) (le : Le G H) (hx : H x = some (.ins Tbs.C dx [])) (gx : G x = none) (hv : DdA G ws ds) (hN : N.length = ds.length + 1)
    (e : iniF m1 m2 F ds = some es) (q : ∀ G' H' fs, Go G H G' H' (· = x) → H' x = some (.ins Tbs.C dx fs) → G' x = none → fs.map (·.1) = [a, b] → DdA G' (fs.map (·.2)) es → Q .non H') :
    tIni K m1 m2 a b F E { nx := fun _ H' => Q .non H', rt := Q } (start N (.ref x :: ws)) H := by
  unfold iniF at e
  obtain ⟨hl, e⟩ : ds.length = 2 ∧ _ := by
    split at e
    · rename_i h
      exact ⟨h, e⟩
    · cases e
  obtain ⟨p, e1, e⟩ := bnd e
  obtain ⟨y, e2, e⟩ := bnd e
  obtain ⟨r, e3, e⟩ := bnd e
  obtain ⟨z, e4, e⟩ := mpd e
  cases e
  have s0 : (start N (.ref x :: ws))[0]? = some (some (.ref x)) := start_get rfl
  have r0 := rep_beginU (u := .ref x) (N := N) (k := 0) le hv hN
  have no : ∀ {G' H' : Hp} {ρ' : Rh}, Tr G H (start N (.ref x :: ws)) (.un :: begin0 0 ds) G' H' ρ' → ¬ Fp (start N (.ref x :: ws)) ρ' x := fun t z => nofpU (t.kp.fp z)
  refine ⟨G, _, p.1, p.2, r0, e1, fun G1 H1 v1 t1 _ => ?_⟩
  refine ⟨G1, _, y.1, y.2, t1.rep, e2, fun G2 H2 v2 t2 h2 => ⟨_, s0, x, Tbs.C, dx, [], rfl, ?_, c, na, by decide, ?_⟩⟩
  · exact t2.go.off _ _ (t1.go.off _ _ hx nofpU nt_ins) (no t1) nt_ins
  have T2 := t1.trans t2
  have x2 : H2 x = some (.ins Tbs.C dx []) := T2.go.off _ _ hx nofpU nt_ins
  have g2 : G2 x = none := T2.go.new _ _ hx gx nofpU chg_ins
  have c2 : ∀ u, H2 x = some u → Chg u := fun u z => by rw [x2] at z; cases z; exact chg_ins
  have e3' := mVar_inv (d := r.1) (ρ' := r.2) e3
  -- the call, with the first field
  refine ⟨_, s0, x, Tbs.C, dx, [(a, v2)], v2, rfl, upd_same, c, na, (by simp [List.lookup]), ?_⟩
  have r2 : Rep G2 (upd H2 x (.ins Tbs.C dx [(a, v2)])) (start N (.ref x :: ws)) y.2 := T2.rep.poke g2 (no T2) c2
  refine ⟨G2, y.2, r.1, r.2, r2, e3, fun G3 H3 v3 t3 h3 => ?_⟩
  have T3 := t3
  have fpn : ¬ Fp (start N (.ref x :: ws)) y.2 x := no T2
  have x3 : H3 x = some (.ins Tbs.C dx [(a, v2)]) := t3.go.off _ _ upd_same fpn nt_ins
  have g3 : G3 x = none := t3.go.new _ _ upd_same g2 fpn chg_ins
  refine ⟨G3, [y.1, r.1], z, t3.rep.le, .cons (dd_same t3.go.gg h2) (.cons h3 .nil), e4, fun G4 H4 v4 ex h4 => ⟨_, s0, x, Tbs.C, dx, [(a, v2)], rfl, ex.off _ _ x3 id nt_ins, c, nb, (by show 1 < 1000; decide), ?_⟩⟩
  have x4 := ex.off _ _ x3 id nt_ins
  have g4 : G4 x = none := ex.new _ _ x3 g3 id chg_ins
  have pf : putF b v4 [(a, v2)] = [(a, v2), (b, v4)] := by
    show (if a = b then _ else (a, v2) :: putF b v4 []) = _
    rw [if_neg hab]
    rfl
  rw [pf]
  have c4 : ∀ u, H4 x = some u → Chg u := fun u z => by rw [x4] at z; cases z; exact chg_ins
  refine q G4 _ _ ⟨T2.go.gg.trans (t3.go.gg.trans ex.gg), ex.le.put g4 c4, fun o u h n w => ?_, fun o u h g n w => ?_, fun o h => ?_⟩ upd_same g4 rfl (.cons (dd_same (t3.go.gg.trans ex.gg) h2) (.cons h4 .nil))
  · rw [upd_ne n]
    have h1 := T2.go.off o u h nofpU w
    have h2 : upd H2 x (.ins Tbs.C dx [(a, v2)]) o = some u := by rw [upd_ne n]; exact h1
    have fp2 : ¬ Fp (start N (.ref x :: ws)) y.2 o := fun z => nofpU (T2.kp.fp z)
    exact ex.off o u (t3.go.off o u h2 fp2 w) id w
  · have h1 := T2.go.off o u h nofpU (chg_nt w)
    have g1 := T2.go.new o u h g nofpU w
    have h2 : upd H2 x (.ins Tbs.C dx [(a, v2)]) o = some u := by rw [upd_ne n]; exact h1
    have fp2 : ¬ Fp (start N (.ref x :: ws)) y.2 o := fun z => nofpU (T2.kp.fp z)
    exact ex.new o u (t3.go.off o u h2 fp2 (chg_nt w)) (t3.go.new o u h2 g1 fp2 w) id w
  · by_cases ho : o = x
    · rw [ho, upd_same] at h
      cases h
    · rw [upd_ne ho] at h
      have h3 := t3.go.dom o (ex.dom o h)
      rw [upd_ne ho] at h3
      exact T2.go.dom o h3
end
end Pl
set_option maxHeartbeats 1000000
namespace Pl
open PySem PySem.Spec PyProof.Rows L2 Kn
variable [Tbs]
/-! == by the class's own __eq__; methods called by their names -/
def eqI (F : List D → Option D) : D → D → Option D
  | .ins ns ds, .ins ms es => match F [.ins ns ds, .ins ms es] with | some (.bl r) => some (.bl r) | _ => none
  | _, _ => none
def rEqI (F : List D → Option D) : R2 := fun x y H Q => ∃ (a b dx dy : Addr) (fs gs : List (Str × V)), x = .ref a ∧ y = .ref b ∧ H a = some (.ins Tbs.C dx fs) ∧ H b = some (.ins Tbs.C dy gs) ∧ SpP F [x, y] H (fun v H' => (∃ r, v = .bl r) ∧ Q v H') E0
section
variable {X : Cx} {k : Nat} {f : Addr} {fd : FuncData} {ps : List Str}
theorem o_eqI {F : List D → Option D} (Fn : FnOk X.prog X.w X.K X.mg X.base CX0 k f fd ps (SpP F)) (hr : Room k X.A) (hs : PySem.W.findIn X.K (.ref Tbs.C) "__eq__" = some (some (.ref f))) (hf : PySem.W.isFn X.K (.ref f) = true) (hb : Binds X.K fd ps []) : OpR X (compareOp .Eq) (rEqI F) ∧ OpD (rEqI F) (eqI F) := by
  refine ⟨fun pins s σ H x y v u Q I rx ry h => ?_, fun G H x y a b d Q le ha hb e k => ?_⟩
  · obtain ⟨a, b, dx, dy, fs, gs, rfl, rfl, h1, h2, sp⟩ := h
    obtain rfl : v = Value.ref a := rx
    obtain rfl : u = Value.ref b := ry
    obtain ⟨mA, J, _⟩ := ins_get I.hok h1
    obtain ⟨mB, J', _⟩ := ins_get I.hok h2
    obtain ⟨od, J, _⟩ := J.look
    obtain ⟨od', J', _⟩ := J'.look
    obtain ⟨m, hF⟩ := I.fr
    refine (show wpAny _ _ (richCompare .Eq (.ref a) (.ref b)) _ _ s from PySem.W.cmp_K (op := .Eq) (tb := .ref Tbs.C) hr.units0 hF I.ok.mod.kin J J'.type (by simp [PySem.W.notFirst]) hs hf ?_)
    refine thn (run_fn (Q := fun w H' => (∃ r, w = V.bl r) ∧ Q w H') Fn hr hb .nil pass0 I (vs := [.ref a, .ref b]) (.cons (show RelV (.ref a) (.ref a) from rfl) (.cons (show RelV (.ref b) (.ref b) from rfl) .nil)) (by rw [List.append_nil]; exact sp)) fun z s' ⟨w, H', I', rw', ⟨r, ew⟩, q⟩ => ?_
    subst ew
    obtain ⟨t, rfl⟩ : ∃ t, z = Value.bool t := ⟨_, rw'⟩
    exact ⟨.bl r, H', I', rw', q⟩
  · unfold eqI at e
    split at e
    · rename_i ns ds ms es
      split at e
      · rename_i r er
        cases e
        cases ha with
        | @ins a dx fs _ h1 h2 =>
          cases hb with
          | @ins b dy gs _ h3 h4 =>
            refine ⟨a, b, dx, dy, fs, gs, rfl, rfl, le _ _ h1, le _ _ h3, G, _, _, le, .cons (.ins h1 h2) (.cons (.ins h3 h4) .nil), er, fun G' H' v ex hv => ?_⟩
            cases hv
            exact ⟨⟨r, rfl⟩, k G' H' _ ex (.bl r)⟩
      · cases e
    · cases e
def mMethI {α : Type} (m : Str) (F : List D → Option α) (mo : Me) (ma : Ma) : Rh → Option (α × Rh) := fun ρ => (mo ρ).bind fun p => match p.1 with
  | .ins ns ds => if m ∈ ns then none else (ma p.2).bind fun q => (F (.ins ns ds :: q.1)).map fun d => (d, q.2)
  | _ => none
theorem look_no {m : Str} : ∀ {fs : List (Str × V)}, m ∉ fs.map (·.1) → fs.lookup m = none
  | [], _ => rfl
  | (n, v) :: fs, h => by
    rw [List.lookup_cons, show (m == n) = false from beq_eq_false_iff_ne.mpr fun z => h (by rw [z]; exact List.mem_cons_self ..)]
    exact look_no fun z => h (List.mem_cons_of_mem _ z)
theorem methI_of {C : Addr} {m : Str} {F : List D → Option D} {mo : Me} {ma : Ma} (σ : L2.St) (H : Hp) (Q : VK) (h : R (mMethI m F mo ma) σ H Q) : tMeth Tbs.C m (SpP F) [] E0 (R mo) (RA ma) σ H Q := by
  obtain ⟨G, ρ, d, ρ', rp, e, k⟩ := h
  obtain ⟨p, e1, e⟩ := bnd e
  split at e
  · rename_i ns ds hd
    split at e
    · cases e
    rename_i hm
    obtain ⟨q, e2, e⟩ := bnd e
    obtain ⟨z, e3, e⟩ := mpd e
    cases e
    refine ⟨G, ρ, p.1, p.2, rp, e1, fun G1 H1 v t1 hv => ?_⟩
    rw [hd] at hv
    cases hv with
    | @ins a dx fs _ h1 h2 =>
      refine ⟨a, dx, fs, rfl, t1.rep.le _ _ h1, look_no hm, G1, p.2, q.1, q.2, t1.rep, e2, fun G2 H2 vs t2 hvs => ?_⟩
      show SpP F (V.ref a :: (vs ++ [])) H2 Q E0
      rw [List.append_nil]
      exact ⟨G2, _, d, t2.rep.le, .cons (dd_same t2.go.gg (.ins h1 h2)) hvs, e3, fun G3 H3 v ex hv2 => k G3 H3 v ((t1.trans t2).trans (Tr.ext t2.rep ex)) hv2⟩
  · cases e
theorem methIF_of {C : Addr} {m : Str} {F : List D → Option (List D)} {mo : Me} {ma : Ma} (σ : L2.St) (H : Hp) (Q : VK) (h : RF (mMethI m F mo ma) σ H Q) : tMeth Tbs.C m (SpO F) [] E0 (R mo) (RA ma) σ H Q := by
  obtain ⟨G, ρ, d, ρ', rp, e, k⟩ := h
  obtain ⟨p, e1, e⟩ := bnd e
  split at e
  · rename_i ns ds hd
    split at e
    · cases e
    rename_i hm
    obtain ⟨q, e2, e⟩ := bnd e
    obtain ⟨z, e3, e⟩ := mpd e
    cases e
    refine ⟨G, ρ, p.1, p.2, rp, e1, fun G1 H1 v t1 hv => ?_⟩
    rw [hd] at hv
    cases hv with
    | @ins a dx fs _ h1 h2 =>
      refine ⟨a, dx, fs, rfl, t1.rep.le _ _ h1, look_no hm, G1, p.2, q.1, q.2, t1.rep, e2, fun G2 H2 vs t2 hvs => ?_⟩
      show SpO F (V.ref a :: (vs ++ [])) H2 Q E0
      rw [List.append_nil]
      exact ⟨G2, _, d, t2.rep.le, .cons (dd_same t2.go.gg (.ins h1 h2)) hvs, e3, AnsF.tr (t1.trans t2) (fun a n => t1.back rp (t2.back t1.rep n)) k⟩
  · cases e
variable {o e : Expr} {es : List Expr} {m : Str} {apos pos : Pos} {mo : Me} {ma : Ma}
theorem qe_meth {pl : Sem Bool} {F : List D → Option D} (Fn : FnOk X.prog X.w X.K X.mg X.base CX0 k f fd ps (SpP F)) (hr : Room k X.A) (c : Cls X.K Tbs.C) (hm : Meth X.K Tbs.C m f) (hb : Binds X.K fd ps []) (ho : PE X o (R mo)) (ha : PA X (e :: es) (RA ma))
    (hst : starEach (e :: es) X.env = (false, eval e X.env) :: starEach es X.env := by rfl) (hpl : (backTo pos (starEach es X.env)).any (·.1) = false := by rfl)
    (ht : eval (.Call (.Attribute o m apos) (e :: es) [] pos) X.env = (do
      let ov ← eval o X.env
      standAt apos.atName
      let (f, first) ← holding [ov] (getMethod ov m pl)
      callWith pos f first (backTo pos (starEach (e :: es) X.env)) (backToKw pos (keywordEach [] X.env))) := by rfl) :
    PE X (.Call (.Attribute o m apos) (e :: es) [] pos) (R (mMethI m F mo ma)) := imp (pe_meth (pl := pl) ho c hm Fn hr hb .nil pass0 ha hst hpl ht) (methI_of (C := Tbs.C))
theorem qf_meth {pl : Sem Bool} {F : List D → Option (List D)} (Fn : FnOk X.prog X.w X.K X.mg X.base CX0 k f fd ps (SpO F)) (hr : Room k X.A) (c : Cls X.K Tbs.C) (hm : Meth X.K Tbs.C m f) (hb : Binds X.K fd ps []) (ho : PE X o (R mo)) (ha : PA X (e :: es) (RA ma))
    (hst : starEach (e :: es) X.env = (false, eval e X.env) :: starEach es X.env := by rfl) (hpl : (backTo pos (starEach es X.env)).any (·.1) = false := by rfl)
    (ht : eval (.Call (.Attribute o m apos) (e :: es) [] pos) X.env = (do
      let ov ← eval o X.env
      standAt apos.atName
      let (f, first) ← holding [ov] (getMethod ov m pl)
      callWith pos f first (backTo pos (starEach (e :: es) X.env)) (backToKw pos (keywordEach [] X.env))) := by rfl) :
    PE X (.Call (.Attribute o m apos) (e :: es) [] pos) (RF (mMethI m F mo ma)) := imp (pe_meth (pl := pl) ho c hm Fn hr hb .nil pass0 ha hst hpl ht) (methIF_of (C := Tbs.C))
theorem qe_meth0 {pl : Sem Bool} {F : List D → Option D} (Fn : FnOk X.prog X.w X.K X.mg X.base CX0 k f fd ps (SpP F)) (hr : Room k X.A) (c : Cls X.K Tbs.C) (hm : Meth X.K Tbs.C m f) (hb : Binds X.K fd ps []) (ho : PE X o (R mo))
    (ht : eval (.Call (.Attribute o m apos) [] [] pos) X.env = (do
      let ov ← eval o X.env
      standAt apos.atName
      let (f, first) ← holding [ov] (getMethod ov m pl)
      callWith pos f first (backTo pos (starEach [] X.env)) (backToKw pos (keywordEach [] X.env))) := by rfl) :
    PE X (.Call (.Attribute o m apos) [] [] pos) (R (mMethI m F mo mNil)) := imp (pe_meth0 (pl := pl) ho c hm Fn hr hb .nil pass0 ht) fun σ H Q h => by
      obtain ⟨G, ρ, d, ρ', rp, e1, k⟩ := methI_of (C := Tbs.C) σ H Q h
      refine ⟨G, ρ, d, ρ', rp, e1, fun G' H' v t hv => ?_⟩
      obtain ⟨a, dx, fs, q1, q2, q3, G2, ρ2, l, ρ3, r2, q5, q6⟩ := k G' H' v t hv
      cases q5
      exact ⟨a, dx, fs, q1, q2, q3, q6 G2 H' [] (Tr.refl r2) .nil⟩
end
end Pl
namespace Pl
open PySem PySem.Spec PyProof.Rows L2 Kn
variable [Tbs]
/-! mathematics of dict comprehensions with tuple keys, of fields, of things made -/
theorem v_dcT {src : Ma} {tg : Mg} {tt : Mt} {body : Mc} {vs : List Nat} {ρ ρ1 ρ2 : Rh} {ds : List D} {kd : Acc} (h : src ρ = some (ds, ρ1)) (hv : (vs.all fun i => !isOwn ρ1[i]?) = true) (h2 : wlkL tg tt body vs ds (wipeR ρ1 vs) [] = some (kd, ρ2)) :
    mDcT src tg tt body vs ρ = some (.dcT (kd.map (·.1)) (kd.map (·.2)), unwipe ρ1 ρ2 vs) := by
  unfold mDcT
  rw [h, Option.bind_some]
  show (if (vs.all fun i => !isOwn ρ1[i]?) = true then _ else none) = _
  rw [if_pos hv, h2]
  rfl
theorem v_bIn {src : Ma} {tg : Mg} {tt : Mt} {body : Mc} {vs : List Nat} {ρ ρ1 ρ2 : Rh} {ds : List D} {acc kd : Acc} (h : src ρ = some (ds, ρ1)) (hv : (vs.all fun i => !isOwn ρ1[i]?) = true) (h2 : wlkL tg tt body vs ds (wipeR ρ1 vs) acc = some (kd, ρ2)) :
    bIn src tg tt body vs ρ acc = some (kd, unwipe ρ1 ρ2 vs) := by
  unfold bIn
  rw [h, Option.bind_some]
  show (if (vs.all fun i => !isOwn ρ1[i]?) = true then _ else none) = _
  rw [if_pos hv, h2]
  rfl
theorem putD_new {κ : Type} [DecidableEq κ] {acc : List (κ × D)} {k : κ} {d : D} (h : k ∉ acc.map (·.1)) : putD acc k d = acc ++ [(k, d)] := by
  unfold putD
  rw [if_neg]
  intro z
  obtain ⟨e, he, hk⟩ := List.any_eq_true.mp z
  exact h (List.mem_map.mpr ⟨e, he, of_decide_eq_true hk⟩)
/-- what is put in one by one, at new keys -/
theorem wlk_put {α : Type} {tg : Mg} {tt : Mt} {tk tv : Me} {vs : List Nat} {ρ0 : Rh} (a : α → D) (p : α → Bool) (kf : α → List Key) (vf : α → D) : ∀ (xs : List α) (acc : Acc), (∀ x ∈ xs, ∃ ρ1, tg (a x) ρ0 = some ρ1 ∧ tt ρ1 = some (p x, ρ1) ∧ wipeR ρ1 vs = ρ0 ∧ (p x = true → ∃ q, tk ρ1 = some (q, ρ1) ∧ keyT q = some (kf x) ∧ tv ρ1 = some (vf x, ρ1))) →
    acc.length + xs.length < 100000 → (acc.map (·.1) ++ (xs.filter p).map kf).Nodup → wlkL tg tt (bPut tk tv) vs (xs.map a) ρ0 acc = some (acc ++ (xs.filter p).map (fun x => (kf x, vf x)), ρ0)
  | [], acc, _, _, _ => by rw [List.map_nil, List.filter_nil, List.map_nil, List.append_nil]; rfl
  | x :: xs, acc, h, hl, nd => by
    obtain ⟨ρ1, h1, h2, h3, h4⟩ := h x (List.mem_cons_self ..)
    rw [List.length_cons] at hl
    rw [List.map_cons, wlkL, h1, Option.bind_some, h2, Option.bind_some]
    cases e : p x with
    | true =>
      obtain ⟨q, h5, h6, h7⟩ := h4 e
      rw [List.filter_cons_of_pos e, List.map_cons] at nd ⊢
      have new : kf x ∉ acc.map (·.1) := fun z => by
        rw [List.nodup_append] at nd
        exact nd.2.2 _ z _ (by simp) rfl
      have eb : bPut tk tv ρ1 acc = some (acc ++ [(kf x, vf x)], ρ1) := by
        unfold bPut
        rw [h5, Option.bind_some, h6, Option.bind_some, h7, Option.bind_some, if_pos (by omega), putD_new new]
      show (if true = true then (bPut tk tv ρ1 acc).bind _ else _) = _
      rw [if_pos rfl, eb, Option.bind_some, h3, wlk_put a p kf vf xs _ (fun y hy => h y (List.mem_cons_of_mem _ hy)) (by rw [List.length_append, List.length_singleton]; omega)]
      · rw [List.append_assoc]
        rfl
      · rw [List.map_append, List.append_assoc]
        exact nd
    | false =>
      rw [List.filter_cons_of_neg (by rw [e]; exact Bool.false_ne_true)] at nd ⊢
      show (if false = true then _ else wlkL tg tt (bPut tk tv) vs (xs.map a) (wipeR ρ1 vs) acc) = _
      rw [if_neg Bool.false_ne_true, h3]
      exact wlk_put a p kf vf xs acc (fun y hy => h y (List.mem_cons_of_mem _ hy)) (by omega) nd
/-- a clause that puts a row of things in at each turn -/
theorem wlk_in {α : Type} {tg : Mg} {tt : Mt} {body : Mc} {vs : List Nat} {ρ0 : Rh} {K : Nat} (a : α → D) (f : α → Acc) : ∀ (xs : List α) (acc : Acc), (∀ x ∈ xs, ∃ ρ1, tg (a x) ρ0 = some ρ1 ∧ tt ρ1 = some (true, ρ1) ∧ wipeR ρ1 vs = ρ0 ∧ ∀ acc' : Acc, acc'.length ≤ K → (acc'.map (·.1) ++ (f x).map (·.1)).Nodup → body ρ1 acc' = some (acc' ++ f x, ρ1)) →
    (acc ++ xs.flatMap f).length ≤ K → ((acc ++ xs.flatMap f).map (·.1)).Nodup → wlkL tg tt body vs (xs.map a) ρ0 acc = some (acc ++ xs.flatMap f, ρ0)
  | [], acc, _, _, _ => by rw [List.map_nil, List.flatMap_nil, List.append_nil]; rfl
  | x :: xs, acc, h, hl, nd => by
    obtain ⟨ρ1, h1, h2, h3, h4⟩ := h x (List.mem_cons_self ..)
    rw [List.flatMap_cons, ← List.append_assoc] at hl nd ⊢
    have nd1 : (acc.map (·.1) ++ (f x).map (·.1)).Nodup := by
      rw [List.map_append] at nd
      have := (List.nodup_append.mp nd).1
      rwa [List.map_append] at this
    rw [List.map_cons, wlkL, h1, Option.bind_some, h2, Option.bind_some]
    show (if true = true then (body ρ1 acc).bind _ else _) = _
    rw [if_pos rfl, h4 acc (by simp only [List.length_append] at hl; omega) nd1, Option.bind_some, h3]
    exact wlk_in a f xs _ (fun y hy => h y (List.mem_cons_of_mem _ hy)) hl nd
theorem v_fld {f : Str} {m : Me} {ρ ρ1 : Rh} {ns : List Str} {ds : List D} {d : D} (h : m ρ = some (.ins ns ds, ρ1)) (hl : look ns ds f = some d) : mFld f m ρ = some (d, ρ1) := by
  unfold mFld
  rw [h, Option.bind_some]
  show (look ns ds f).map _ = _
  rw [hl]
  rfl
theorem v_isC {m : Me} {ρ ρ1 : Rh} {ns : List Str} {ds : List D} (h : m ρ = some (.ins ns ds, ρ1)) : mIsC m ρ = some (.bl true, ρ1) := by
  unfold mIsC
  rw [h, Option.bind_some]
theorem v_make {ns : List Str} {F : List D → Option (List D)} {m : Ma} {ρ ρ1 : Rh} {ds es : List D} (h : m ρ = some (ds, ρ1)) (hf : F ds = some es) : mMake ns F m ρ = some (.ins ns es, ρ1) := by
  unfold mMake
  rw [h, Option.bind_some]
  show (F ds).map _ = _
  rw [hf]
  rfl
theorem v_methI {α : Type} {x : Str} {F : List D → Option α} {mo : Me} {ma : Ma} {ρ ρ1 ρ2 : Rh} {ns : List Str} {ds as : List D} {d : α} (h : mo ρ = some (.ins ns ds, ρ1)) (hx : x ∉ ns) (ha : ma ρ1 = some (as, ρ2)) (hf : F (.ins ns ds :: as) = some d) : mMethI x F mo ma ρ = some (d, ρ2) := by
  unfold mMethI
  rw [h, Option.bind_some]
  show (if x ∈ ns then none else _) = _
  rw [if_neg hx, ha, Option.bind_some, hf]
  rfl
theorem v_ini {m1 m2 : Me} {F : List D → Option D} {a b q z : D} {ρ1 ρ2 : Rh} {d : D} (h1 : m1 [.un, .val a, .val b] = some (d, ρ1)) (h2 : m2 ρ1 = some (q, ρ2)) (h3 : ρ2[2]? = some (.val b)) (h4 : F [q, b] = some z) : iniF m1 m2 F [a, b] = some [q, z] := by
  unfold iniF
  rw [if_pos (show [a, b].length = 2 from rfl)]
  show (m1 [.un, .val a, .val b]).bind _ = _
  rw [h1, Option.bind_some, h2, Option.bind_some]
  unfold mVar
  rw [h3, Option.bind_some]
  show (F [q, b]).map _ = _
  rw [h4]
  rfl
/-! two dicts that are told by the same things -/
theorem look_ix {α : Type} {kf : α → List Key} {vf : α → D} : ∀ {xs : List α} {x : α}, x ∈ xs → (∀ y ∈ xs, kf y = kf x → y = x) → look (xs.map kf) (xs.map vf) (kf x) = some (vf x)
  | y :: ys, x, hx, inj => by
    show (if kf y = kf x then some (vf y) else look (ys.map kf) (ys.map vf) (kf x)) = _
    by_cases h : kf y = kf x
    · rw [if_pos h, inj y (List.mem_cons_self ..) h]
    · rw [if_neg h]
      refine look_ix ?_ fun z hz => inj z (List.mem_cons_of_mem _ hz)
      rcases List.mem_cons.mp hx with e | e
      · rw [e] at h
        exact absurd rfl h
      · exact e
theorem sameT_ix {α : Type} {kf : α → List Key} {vf wf : α → D} {r : α → Bool} {zs : List α} (inj : ∀ x ∈ zs, ∀ y ∈ zs, kf x = kf y → x = y) (hr : ∀ x ∈ zs, eqSh (vf x) (wf x) = some (r x)) : ∀ xs : List α, (∀ x ∈ xs, x ∈ zs) → sameT (zs.map kf) (zs.map wf) (xs.map kf) (xs.map vf) = some (xs.all r)
  | [], _ => rfl
  | x :: xs, h => by
    have hx := h x (List.mem_cons_self ..)
    rw [List.map_cons, List.map_cons, sameT, look_ix hx fun y hy e => inj y hy x hx e]
    show (eqSh (vf x) (wf x)).bind _ = _
    rw [hr x hx, Option.bind_some, List.all_cons]
    cases r x with
    | true =>
      rw [if_pos rfl, Bool.true_and]
      exact sameT_ix inj hr xs fun y hy => h y (List.mem_cons_of_mem _ hy)
    | false => rfl
theorem eqTD_ix {α : Type} {kf : α → List Key} {vf wf : α → D} {r : α → Bool} {xs : List α} (inj : ∀ x ∈ xs, ∀ y ∈ xs, kf x = kf y → x = y) (hr : ∀ x ∈ xs, eqSh (vf x) (wf x) = some (r x)) : eqTD (.dcT (xs.map kf) (xs.map vf)) (.dcT (xs.map kf) (xs.map wf)) = some (.bl (xs.all r)) := by
  show (if (xs.map kf).length = (xs.map kf).length then _ else _) = _
  rw [if_pos rfl, sameT_ix inj hr xs fun x hx => hx]
  rfl
end Pl
namespace Pl
open PySem PySem.Spec PyProof.Rows L2 Kn
variable [Tbs]
def topS (i : Nat) : Stmt := PySem.Challenge.pw_standby_k20_words_alike_by_all_rows.main.body.getD i (.Pass ⟨0, 0, 0, 0⟩)
abbrev lamN (x : Str) : Str := x ++ ".<locals>." ++ "<lambda>"
structure Tx (K : PySem.W.Frag) (mg : Str → Option Value) (base : Heap) where
  f_must_be_same : Addr
  d_must_be_same : FuncData
  F_must_be_same : Fun K "must_be_same" "must_be_same" (topS 4) f_must_be_same d_must_be_same
  g_must_be_same : mg "must_be_same" = some (.ref f_must_be_same)
  b_must_be_same : Binds K d_must_be_same ["one", "other"] []
  f_people : Addr
  d_people : FuncData
  F_people : Fun K "people" "people" (topS 6) f_people d_people
  g_people : mg "people" = some (.ref f_people)
  b_people : Binds K d_people ["call"] []
  f_must_be_of : Addr
  d_must_be_of : FuncData
  F_must_be_of : Fun K "must_be_of" "must_be_of" (topS 8) f_must_be_of d_must_be_of
  g_must_be_of : mg "must_be_of" = some (.ref f_must_be_of)
  b_must_be_of : Binds K d_must_be_of ["names", "word"] []
  f_step : Addr
  d_step : FuncData
  F_step : Fun K "step" "step" (topS 10) f_step d_step
  g_step : mg "step" = some (.ref f_step)
  b_step : Binds K d_step ["told", "pair"] []
  f_pairs_told : Addr
  d_pairs_told : FuncData
  F_pairs_told : Fun K "pairs_told" "pairs_told" (topS 13) f_pairs_told d_pairs_told
  g_pairs_told : mg "pairs_told" = some (.ref f_pairs_told)
  b_pairs_told : Binds K d_pairs_told ["names", "word"] []
  f_Table___init__ : Addr
  d_Table___init__ : FuncData
  F_Table___init__ : Fun K "__init__" "Table.__init__" (inClass (topS 12) 0) f_Table___init__ d_Table___init__
  g_Table___init__ : Mk K Tbs.C f_Table___init__
  b_Table___init__ : Binds K d_Table___init__ ["self", "names", "word"] []
  f_Table___eq__ : Addr
  d_Table___eq__ : FuncData
  F_Table___eq__ : Fun K "__eq__" "Table.__eq__" (inClass (topS 12) 1) f_Table___eq__ d_Table___eq__
  g_Table___eq__ : PySem.W.findIn K (.ref Tbs.C) "__eq__" = some (some (.ref f_Table___eq__))
  h_Table___eq__ : PySem.W.isFn K (.ref f_Table___eq__) = true
  b_Table___eq__ : Binds K d_Table___eq__ ["self", "other"] []
  f_alike : Addr
  d_alike : FuncData
  F_alike : Fun K "alike" "alike" (topS 15) f_alike d_alike
  g_alike : mg "alike" = some (.ref f_alike)
  b_alike : Binds K d_alike ["names", "one", "other"] []
  f_L_take : Addr
  d_L_take : FuncData
  F_L_take : Fun K "_law_take" "_law_take" (topS 18) f_L_take d_L_take
  g_L_take : mg "_law_take" = some (.ref f_L_take)
  b_L_take : Binds K d_L_take ["_law_box_here", "_law_bound"] []
  f_L_same : Addr
  d_L_same : FuncData
  F_L_same : Fun K "_law_same" "_law_same" (topS 19) f_L_same d_L_same
  g_L_same : mg "_law_same" = some (.ref f_L_same)
  b_L_same : Binds K d_L_same ["_law_found", "_law_due"] []
  f_L_lists : Addr
  d_L_lists : FuncData
  F_L_lists : Fun K "_law_lists" "_law_lists" (topS 20) f_L_lists d_L_lists
  g_L_lists : mg "_law_lists" = some (.ref f_L_lists)
  b_L_lists : Binds K d_L_lists ["_law_matter"] []
  f_L_of : Addr
  d_L_of : FuncData
  F_L_of : Fun K "_law_of" "_law_of" (topS 21) f_L_of d_L_of
  g_L_of : mg "_law_of" = some (.ref f_L_of)
  b_L_of : Binds K d_L_of ["_law_box_here", "_law_some"] []
  f_L_strewn : Addr
  d_L_strewn : FuncData
  F_L_strewn : Fun K "_law_strewn" "_law_strewn" (topS 22) f_L_strewn d_L_strewn
  g_L_strewn : mg "_law_strewn" = some (.ref f_L_strewn)
  b_L_strewn : Binds K d_L_strewn ["_law_box_here", "_law_some"] []
  f_L_crew : Addr
  d_L_crew : FuncData
  F_L_crew : Fun K "_law_crew" "_law_crew" (topS 23) f_L_crew d_L_crew
  g_L_crew : mg "_law_crew" = some (.ref f_L_crew)
  b_L_crew : Binds K d_L_crew ["_law_box_here", "_law_most"] []
  f_L_ask : Addr
  d_L_ask : FuncData
  F_L_ask : Fun K "_law_ask" "_law_ask" (topS 24) f_L_ask d_L_ask
  g_L_ask : mg "_law_ask" = some (.ref f_L_ask)
  b_L_ask : Binds K d_L_ask ["_law_box_here", "_law_crew_here"] []
  f_L_asks : Addr
  d_L_asks : FuncData
  F_L_asks : Fun K "_law_asks" "_law_asks" (topS 25) f_L_asks d_L_asks
  g_L_asks : mg "_law_asks" = some (.ref f_L_asks)
  b_L_asks : Binds K d_L_asks ["_law_box_here", "_law_crew_here", "_law_size"] []
  f_L_led : Addr
  d_L_led : FuncData
  F_L_led : Fun K "_law_led" "_law_led" (topS 26) f_L_led d_L_led
  g_L_led : mg "_law_led" = some (.ref f_L_led)
  b_L_led : Binds K d_L_led ["_law_folk", "_law_ask_here"] []
  f_L_all_led : Addr
  d_L_all_led : FuncData
  F_L_all_led : Fun K "_law_all_led" "_law_all_led" (topS 27) f_L_all_led d_L_all_led
  g_L_all_led : mg "_law_all_led" = some (.ref f_L_all_led)
  b_L_all_led : Binds K d_L_all_led ["_law_folk", "_law_asks_here"] []
  f_L_all_rows : Addr
  d_L_all_rows : FuncData
  F_L_all_rows : Fun K "_law_all_rows" "_law_all_rows" (topS 28) f_L_all_rows d_L_all_rows
  g_L_all_rows : mg "_law_all_rows" = some (.ref f_L_all_rows)
  b_L_all_rows : Binds K d_L_all_rows ["_law_crew_here"] []
  f_L_near_word : Addr
  d_L_near_word : FuncData
  F_L_near_word : Fun K "_law_near_word" "_law_near_word" (topS 29) f_L_near_word d_L_near_word
  g_L_near_word : mg "_law_near_word" = some (.ref f_L_near_word)
  b_L_near_word : Binds K d_L_near_word ["_law_box_here", "_law_crew_here", "_law_asks_here"] []
  f_L_right : Addr
  d_L_right : FuncData
  F_L_right : Fun K "_law_right" "_law_right" (topS 30) f_L_right d_L_right
  g_L_right : mg "_law_right" = some (.ref f_L_right)
  b_L_right : Binds K d_L_right ["_law_box_here"] []
  k_alike_210 : KBinds K d_alike ["names", "one", "other"] ["other", "one", "names"] (onlyK [2, 1, 0]) (onlyK [2, 1, 0])
  gC : mg "Table" = some (.ref Tbs.C)
  cC : Cls K Tbs.C
  n_who : NoAttr K Tbs.C "who"
  n_pairs : NoAttr K Tbs.C "pairs"
  iC : C8.InsC K Tbs.C
end Pl
namespace Pl
open PySem PySem.Spec PyProof.Rows L2 Kn
variable [Tbs]
section
variable {P : Program} {w : World} {K : PySem.W.Frag} {mg : Str → Option Value} {base : Heap}
abbrev s_must_be_same : Stmt := (topS 4)
theorem sc_must_be_same : FnScope ["one", "other"] ["one", "other"] (defScope s_must_be_same) := ⟨rfl, rfl, rfl, by decide +kernel, rfl, by decide +kernel, by decide +kernel⟩
noncomputable def m_must_be_same : Ms := (mIfS (mB (mOp neDD (mL (mCall sortF (mCons (mVar 0) mNil))) (mL (mCall sortF (mCons (mVar 1) mNil))))) mDead mNx)
noncomputable def F_must_be_same : List D → Option D := runP 2 0 m_must_be_same
set_option maxHeartbeats 4000000 in
theorem ok_must_be_same (B : Bi mg) (T : Tx K mg base) : FnOk P w K mg base CX0 1 T.f_must_be_same T.d_must_be_same ["one", "other"] (SpP F_must_be_same) := by
  exact fnP T.F_must_be_same sc_must_be_same rfl rfl (fun cdv A outer s H E hr => (
      (qss_one (qs_if (qt_cmp (o_ne hr.units) (qe_good (qf_b c_sort (by rfl) B.sorted (by decide +kernel) (qa_cons (qe_var 0) qa_nil))) (qe_good (qf_b c_sort (by rfl) B.sorted (by decide +kernel) (qa_cons (qe_var 1) qa_nil))) (nomark _))
      (qss_one qs_dead)
      qss_nil))))
abbrev s_people : Stmt := (topS 6)
theorem sc_people : FnScope ["call", "who", "name"] ["call"] (defScope s_people) := ⟨rfl, rfl, rfl, by decide +kernel, rfl, by decide +kernel, by decide +kernel⟩
noncomputable def m_people : Ms := (mRet (mCall tupleD (mCons (mL (mLc (mIt (mVar 0)) (tg2 1 2) mYes (mVar 1) [1, 2])) mNil)))
noncomputable def F_people : List D → Option D := runP 1 2 m_people
set_option maxHeartbeats 4000000 in
theorem ok_people (B : Bi mg) (T : Tx K mg base) : FnOk P w K mg base CX0 1 T.f_people T.d_people ["call"] (SpP F_people) := by
  exact fnP T.F_people sc_people rfl rfl (fun cdv A outer s H E hr => (
      (qss_one (qs_ret (qe_ty c_tuple (by rfl) B.tuple (by decide +kernel) (qa_cons (qe_good (qf_lc (own := [("who", 1), ("name", 2)]) (g := (tg2 1 2)) (tt := mYes) (te := (mVar 1)) rfl sc_people.nd (qi_seq (qe_var 0)) (blkOk_by (N := ["call", "who", "name"]) (sc := defScope s_people) (by decide +kernel)) (fun _ _ _ _ _ => (qg_pair (pg_tup rfl (pgs_cons (pg_name (i := 1) sc_people.nd rfl (by first | exact .inl rfl | exact .inr rfl)) (pgs_cons (pg_name (i := 2) sc_people.nd rfl (by first | exact .inl rfl | exact .inr rfl)) pgs_nil))) (pg_unl rfl (pgs_cons (pg_name (i := 1) sc_people.nd rfl (by first | exact .inl rfl | exact .inr rfl)) (pgs_cons (pg_name (i := 2) sc_people.nd rfl (by first | exact .inl rfl | exact .inr rfl)) pgs_nil))))) (fun _ _ _ _ _ => qts_nil) (fun _ _ _ _ _ => (qe_var 1)))) qa_nil))))))
abbrev s_must_be_of : Stmt := (topS 8)
theorem sc_must_be_of : FnScope ["names", "word", "call"] ["names", "word"] (defScope s_must_be_of) := ⟨rfl, rfl, rfl, by decide +kernel, rfl, by decide +kernel, by decide +kernel⟩
noncomputable def m_must_be_of : Ms := (mFor (mIt (mVar 1)) (setV 2) (mEx (mCall F_must_be_same (mCons (mVar 0) (mCons (mCall F_people (mCons (mVar 2) mNil)) mNil)))))
noncomputable def F_must_be_of : List D → Option D := runP 2 1 m_must_be_of
set_option maxHeartbeats 4000000 in
theorem ok_must_be_of (B : Bi mg) (T : Tx K mg base) : FnOk P w K mg base CX0 2 T.f_must_be_of T.d_must_be_of ["names", "word"] (SpP F_must_be_of) := by
  have G_must_be_same := ok_must_be_same (P := P) (w := w) (base := base) B T
  have G_people := ok_people (P := P) (w := w) (base := base) B T
  exact fnP T.F_must_be_of sc_must_be_of rfl rfl (fun cdv A outer s H E hr => (
      (qss_one (qs_for (ts := [2]) (g := (setV 2)) PassesOwn.never rfl (qi_seq (qe_var 1)) (qg_name (pg_name (i := 2) sc_must_be_of.nd rfl (by first | exact .inl rfl | exact .inr rfl)))
      (qss_one (qs_expr (qe_call G_must_be_same (hr.mono (by first | decide | omega)) (by rfl) T.g_must_be_same T.F_must_be_same.kp T.b_must_be_same (qa_cons (qe_var 0) (qa_cons (qe_call G_people (hr.mono (by first | decide | omega)) (by rfl) T.g_people T.F_people.kp T.b_people (qa_cons (qe_var 2) qa_nil)) qa_nil)))))))))
abbrev s_step : Stmt := (topS 10)
theorem sc_step : FnScope ["told", "pair", "one", "other"] ["told", "pair"] (defScope s_step) := ⟨rfl, rfl, rfl, by decide +kernel, rfl, by decide +kernel, by decide +kernel⟩
noncomputable def m_step : Ms := (mSeq (mPar2 2 3 [.v (mOp ixD (mVar 0) (mOp ixD (mVar 1) (mC (.int 0)))), .v (mOp ixD (mVar 0) (mOp ixD (mVar 1) (mC (.int 1))))])
    (mSeq (mIfS (mB (mOp eqDD (mVar 2) (mVar 3))) (mRet (mVar 1)) mNx)
    (mRet (mTup true (mCons (mVar 2) (mCons (mVar 3) mNil))))))
noncomputable def F_step : List D → Option D := runP 2 2 m_step
set_option maxHeartbeats 4000000 in
theorem ok_step (B : Bi mg) (T : Tx K mg base) : FnOk P w K mg base CX0 1 T.f_step T.d_step ["told", "pair"] (SpP F_step) := by
  exact fnP T.F_step sc_step rfl rfl (fun cdv A outer s H E hr => (
      (qss_cons (qs_par2 (i := 2) (j := 3) rfl sc_step.nd rfl rfl (by decide) rfl rfl (qp_v (qe_ix (o_ix (hu_of hr)) (qe_var 0) (qe_ix (o_ix (hu_of hr)) (qe_var 1) qe_int (fun _ _ => rfl)) (fun _ _ => rfl)) (qp_v (qe_ix (o_ix (hu_of hr)) (qe_var 0) (qe_ix (o_ix (hu_of hr)) (qe_var 1) qe_int (fun _ _ => rfl)) (fun _ _ => rfl)) qp_nil)) rfl)
      (qss_cons (qs_if (qt_cmp (o_eq hr.units) (qe_var 2) (qe_var 3) (nomark _))
      (qss_one (qs_ret (qe_var 1)))
      qss_nil)
      (qss_one (qs_ret (qe_tupW (qa_cons (qe_var 2) (qa_cons (qe_var 3) qa_nil)))))))))
abbrev s_pairs_told : Stmt := (topS 13)
theorem sc_pairs_told : FnScope ["names", "word", "pairs", "call", "told", "one", "other", "pair"] ["names", "word"] (defScope s_pairs_told) := ⟨rfl, rfl, rfl, by decide +kernel, rfl, by decide +kernel, by decide +kernel⟩
noncomputable def m_pairs_told : Ms := (mSeq (mSet 2 (mDcT (mIt (mVar 0)) (setV 5) mYes (bIn (mIt (mVar 0)) (setV 6) (mB (mOp neDD (mVar 5) (mVar 6))) (bPut (mTup true (mCons (mVar 5) (mCons (mVar 6) mNil))) (mTup true (mCons (mVar 5) (mCons (mVar 6) mNil)))) [6]) [5, 6]))
    (mSeq (mFor (mRv (mVar 1)) (setV 3) (mSeq (mSet 4 (mCall dictD (mCons (mVar 3) mNil)))
    (mSet 2 (mDcT (mIt (mVar 2)) (setV 7) mYes (bPut (mVar 7) (mCall F_step (mCons (mVar 4) (mCons (mOp ixD (mVar 2) (mVar 7)) mNil)))) [7]))))
    (mRet (mVar 2))))
noncomputable def F_pairs_told : List D → Option D := runP 2 6 m_pairs_told
set_option maxHeartbeats 4000000 in
theorem ok_pairs_told (B : Bi mg) (T : Tx K mg base) : FnOk P w K mg base CX0 2 T.f_pairs_told T.d_pairs_told ["names", "word"] (SpP F_pairs_told) := by
  have G_step := ok_step (P := P) (w := w) (base := base) B T
  exact fnP T.F_pairs_told sc_pairs_told rfl rfl (fun cdv A outer s H E hr => (
      (qss_cons (qs_set (i := 2) sc_pairs_told.nd rfl (by first | exact .inl rfl | exact .inr rfl) (qe_dcT2 (own := [("one", 5), ("other", 6)]) (vs1 := [6]) (g := (setV 5)) (tt := mYes) (src1 := (mIt (mVar 0))) (g1 := (setV 6)) (tt1 := (mB (mOp neDD (mVar 5) (mVar 6)))) (tk := (mTup true (mCons (mVar 5) (mCons (mVar 6) mNil)))) (tv := (mTup true (mCons (mVar 5) (mCons (mVar 6) mNil)))) (Nat.lt_of_succ_lt (hu_of hr)) rfl sc_pairs_told.nd (qi_seq (qe_var 0)) (blkOk_by (N := ["names", "word", "pairs", "call", "told", "one", "other", "pair"]) (sc := defScope s_pairs_told) (by decide +kernel)) (fun _ _ _ _ _ => (qg_name (pg_name (i := 5) sc_pairs_told.nd rfl (by first | exact .inl rfl | exact .inr rfl)))) (fun _ _ _ _ _ => qts_nil) (fun _ _ _ _ _ => (qi_seq (qe_var 0))) (fun _ _ _ _ _ => (qg_name (pg_name (i := 6) sc_pairs_told.nd rfl (by first | exact .inl rfl | exact .inr rfl)))) (fun _ _ _ _ _ => (qts_one (qt_cmp (o_ne hr.units) (qe_var 5) (qe_var 6) (nomark _)))) (fun _ _ _ _ _ => (qe_tupW (qa_cons (qe_var 5) (qa_cons (qe_var 6) qa_nil)))) (fun _ _ _ _ _ => (qe_tupW (qa_cons (qe_var 5) (qa_cons (qe_var 6) qa_nil))))))
      (qss_cons (qs_for (ts := [3]) (g := (setV 3)) PassesOwn.never rfl (qi_rev (by rfl) B.rev (qe_var 1)) (qg_name (pg_name (i := 3) sc_pairs_told.nd rfl (by first | exact .inl rfl | exact .inr rfl)))
      (qss_cons (qs_set (i := 4) sc_pairs_told.nd rfl (by first | exact .inl rfl | exact .inr rfl) (qe_ty (c_dict rfl) (by rfl) B.dict (by decide +kernel) (qa_cons (qe_var 3) qa_nil)))
      (qss_one (qs_set (i := 2) sc_pairs_told.nd rfl (by first | exact .inl rfl | exact .inr rfl) (qe_dcT (own := [("pair", 7)]) (g := (setV 7)) (tt := mYes) (tk := (mVar 7)) (tv := (mCall F_step (mCons (mVar 4) (mCons (mOp ixD (mVar 2) (mVar 7)) mNil)))) (Nat.lt_of_succ_lt (hu_of hr)) rfl sc_pairs_told.nd (qi_seq (qe_var 2)) (blkOk_by (N := ["names", "word", "pairs", "call", "told", "one", "other", "pair"]) (sc := defScope s_pairs_told) (by decide +kernel)) (fun _ _ _ _ _ => (qg_name (pg_name (i := 7) sc_pairs_told.nd rfl (by first | exact .inl rfl | exact .inr rfl)))) (fun _ _ _ _ _ => qts_nil) (fun _ _ _ _ _ => (qe_var 7)) (fun _ _ _ _ _ => (qe_call G_step (hr.mono (by first | decide | omega)) (by rfl) T.g_step T.F_step.kp T.b_step (qa_cons (qe_var 4) (qa_cons (qe_ix (o_ix (hu_of hr)) (qe_var 2) (qe_var 7) (fun _ _ => rfl)) qa_nil)))))))))
      (qss_one (qs_ret (qe_var 2)))))))
end
end Pl
namespace Pl
open PySem PySem.Spec PyProof.Rows L2 Kn
variable [Tbs]
section
variable {P : Program} {w : World} {K : PySem.W.Frag} {mg : Str → Option Value} {base : Heap}
abbrev s_Table___init__ : Stmt := (inClass (topS 12) 0)
theorem sc_Table___init__ : FnScope ["self", "names", "word"] ["self", "names", "word"] (defScope s_Table___init__) := ⟨rfl, rfl, rfl, by decide +kernel, rfl, by decide +kernel, by decide +kernel⟩
noncomputable def m1_Table___init__ : Me := (mCall F_must_be_of (mCons (mVar 1) (mCons (mVar 2) mNil)))
noncomputable def m2_Table___init__ : Me := (mCall tupleD (mCons (mL (mCall sortF (mCons (mVar 1) mNil))) mNil))
noncomputable def F_Table___init__ : List D → Option (List D) := iniF m1_Table___init__ m2_Table___init__ F_pairs_told
set_option maxHeartbeats 4000000 in
theorem ok_Table___init__ (B : Bi mg) (T : Tx K mg base) : FnOk P w K mg base CX0 3 T.f_Table___init__ T.d_Table___init__ ["self", "names", "word"] (SpI ["who", "pairs"] F_Table___init__) := by
  have G_must_be_of := ok_must_be_of (P := P) (w := w) (base := base) B T
  have G_pairs_told := ok_pairs_told (P := P) (w := w) (base := base) B T
  refine T.F_Table___init__.ok sc_Table___init__ (fun vs H Q E ⟨G, x, dx, ws, ds, es, ev, _, _, _, hv, e, _⟩ => ?_) fun cdv A outer s H vs Q E hr ⟨G, x, dx, ws, ds, es, ev, le, hx, gx, hv, e, q⟩ => ?_
  · unfold F_Table___init__ iniF at e
    split at e
    · rename_i hl
      rw [ev, List.length_cons, dda_len hv, hl]
      rfl
    · cases e
  · subst ev
    have hl : ds.length = 2 := by
      unfold F_Table___init__ iniF at e
      split at e
      · assumption
      · cases e
    exact ⟨_, (pss_cons (ps_expr (show PE _ _ (R m1_Table___init__) from (qe_call G_must_be_of (hr.mono (by first | decide | omega)) (by rfl) T.g_must_be_of T.F_must_be_of.kp T.b_must_be_of (qa_cons (qe_var 1) (qa_cons (qe_var 2) qa_nil))))) (pss_cons (ps_fld (pv 0) (show PE _ _ (R m2_Table___init__) from (qe_ty c_tuple (by rfl) B.tuple (by decide +kernel) (qa_cons (qe_good (qf_b c_sort (by rfl) B.sorted (by decide +kernel) (qa_cons (qe_var 1) qa_nil))) qa_nil))) rfl) (pss_one (ps_fld (pv 0) (pe_call G_pairs_told (hr.mono (by decide)) (by rfl) T.g_pairs_told T.F_pairs_told.kp T.b_pairs_told .nil pass0 (pa_cons (pe_fld (pv 0) rfl) (pa_cons (qe_var 2) pa_nil))) rfl)))), ini_read (E := E0) T.cC T.n_who T.n_pairs (by decide) le hx gx hv (by rw [hl]; rfl) e q⟩
abbrev s_Table___eq__ : Stmt := (inClass (topS 12) 1)
theorem sc_Table___eq__ : FnScope ["self", "other"] ["self", "other"] (defScope s_Table___eq__) := ⟨rfl, rfl, rfl, by decide +kernel, rfl, by decide +kernel, by decide +kernel⟩
noncomputable def m_Table___eq__ : Ms := (mRet (mAndV (mIsC (mVar 1)) (mAndV (mOp eqDD (mFld "who" (mVar 0)) (mFld "who" (mVar 1))) (mOp eqTD (mFld "pairs" (mVar 0)) (mFld "pairs" (mVar 1))))))
noncomputable def F_Table___eq__ : List D → Option D := runP 2 0 m_Table___eq__
set_option maxHeartbeats 4000000 in
theorem ok_Table___eq__ (B : Bi mg) (T : Tx K mg base) : FnOk P w K mg base CX0 1 T.f_Table___eq__ T.d_Table___eq__ ["self", "other"] (SpP F_Table___eq__) := by
  exact fnP T.F_Table___eq__ sc_Table___eq__ rfl rfl (fun cdv A outer s H E hr => (
      (qss_one (qs_ret (qe_and (qe_isC T.iC (by rfl) B.isi (by decide +kernel) (qe_var 1) (by rfl) T.gC) (qe_and (qe_cmp (o_eq hr.units) (qe_fld T.cC T.n_who (qe_var 0)) (qe_fld T.cC T.n_who (qe_var 1)) (nomark _)) (qe_one (qe_cmp (o_eqT (hu65 hr)) (qe_fld T.cC T.n_pairs (qe_var 0)) (qe_fld T.cC T.n_pairs (qe_var 1)) (nomark _)))))))))
abbrev s_alike : Stmt := (topS 15)
theorem sc_alike : FnScope ["names", "one", "other"] ["names", "one", "other"] (defScope s_alike) := ⟨rfl, rfl, rfl, by decide +kernel, rfl, by decide +kernel, by decide +kernel⟩
noncomputable def m_alike : Ms := (mRet (mOp (eqI F_Table___eq__) (mMake ["who", "pairs"] F_Table___init__ (mCons (mVar 0) (mCons (mVar 1) mNil))) (mMake ["who", "pairs"] F_Table___init__ (mCons (mVar 0) (mCons (mVar 2) mNil)))))
noncomputable def F_alike : List D → Option D := runP 3 0 m_alike
set_option maxHeartbeats 4000000 in
theorem ok_alike (B : Bi mg) (T : Tx K mg base) : FnOk P w K mg base CX0 5 T.f_alike T.d_alike ["names", "one", "other"] (SpP F_alike) := by
  have G_Table___eq__ := ok_Table___eq__ (P := P) (w := w) (base := base) B T
  have G_Table___init__ := ok_Table___init__ (P := P) (w := w) (base := base) B T
  exact fnP T.F_alike sc_alike rfl rfl (fun cdv A outer s H E hr => (
      (qss_one (qs_ret (qe_cmp (o_eqI G_Table___eq__ (hr.mono (by first | decide | omega)) T.g_Table___eq__ T.h_Table___eq__ T.b_Table___eq__) (qe_make G_Table___init__ (hr.mono (by first | decide | omega)) T.g_Table___init__ (by rfl) T.gC T.b_Table___init__ (qa_cons (qe_var 0) (qa_cons (qe_var 1) qa_nil))) (qe_make G_Table___init__ (hr.mono (by first | decide | omega)) T.g_Table___init__ (by rfl) T.gC T.b_Table___init__ (qa_cons (qe_var 0) (qa_cons (qe_var 2) qa_nil))) (nomark _))))))
end
end Pl
namespace Pl
open PySem PySem.Spec PyProof.Rows L2 Kn
variable [Tbs]
section
variable {P : Program} {w : World} {K : PySem.W.Frag} {mg : Str → Option Value} {base : Heap}
abbrev s_L_take : Stmt := (topS 18)
theorem sc_L_take : FnScope ["_law_box_here", "_law_bound", "_law_once", "_law_found"] ["_law_box_here", "_law_bound"] (defScope s_L_take) := ⟨rfl, rfl, rfl, by decide +kernel, rfl, by decide +kernel, by decide +kernel⟩
noncomputable def m_L_take : Ms := (mSeq (mIfS (mB (mOp (cmpD fun i j => decide (j < i)) (mIxO 0 (mC (.int 0))) (mC (.int 0)))) (mSeq (mSet 3 (mOp (intD modF) (mIxO 0 (mC (.int 0))) (mVar 1)))
    (mSeq (mPut 0 (mC (.int 0)) (mOp (intD fdivF) (mIxO 0 (mC (.int 0))) (mVar 1)))
    (mRet (mVar 3)))) mNx)
    (mSeq (mPut 0 (mC (.int 2)) (mOp addD (mIxO 0 (mC (.int 2))) (mC (.int 1))))
    (mSeq (mSet 2 (mOp (intD modF) (mOp (intD powF) (mOp addD (mIxO 0 (mC (.int 1))) (mOp mulD (mC (.int 39373)) (mIxO 0 (mC (.int 2))))) (mC (.int 5))) (mC (.int 2147483647))))
    (mRet (mOp (intD modF) (mOp (intD fdivF) (mOp (intD modF) (mOp addD (mOp mulD (mVar 2) (mOp addD (mOp (intD modF) (mVar 2) (mC (.int 40009))) (mC (.int 7)))) (mOp mulD (mIxO 0 (mC (.int 2))) (mC (.int 7919)))) (mC (.int 2147483629))) (mC (.int 64))) (mVar 1))))))
noncomputable def F_L_take : List D → List D → Option (D × List D) := runB 1 2 m_L_take
set_option maxHeartbeats 4000000 in
theorem ok_L_take (B : Bi mg) (T : Tx K mg base) : FnOk P w K mg base CX0 1 T.f_L_take T.d_L_take ["_law_box_here", "_law_bound"] (SpB F_L_take) := by
  exact fnB T.F_L_take sc_L_take rfl rfl (fun cdv A outer s H E hr => (
      (qss_cons (qs_if (qt_cmp o_gt (qe_ixO (pv 0) qe_int (fun _ _ => rfl)) qe_int (nomark _))
      (qss_cons (qs_set (i := 3) sc_L_take.nd rfl (by first | exact .inl rfl | exact .inr rfl) (qe_op o_mod (qe_ixO (pv 0) qe_int (fun _ _ => rfl)) (qe_var 1)))
      (qss_cons (qs_put (i := 0) (qe_op o_fdiv (qe_ixO (pv 0) qe_int (fun _ _ => rfl)) (qe_var 1)) (pg_sub (pv 0) qe_int set_list))
      (qss_one (qs_ret (qe_var 3)))))
      qss_nil)
      (qss_cons (qs_put (i := 0) (qe_op o_add (qe_ixO (pv 0) qe_int (fun _ _ => rfl)) qe_int) (pg_sub (pv 0) qe_int set_list))
      (qss_cons (qs_set (i := 2) sc_L_take.nd rfl (by first | exact .inl rfl | exact .inr rfl) (qe_op o_mod (qe_op o_pow (qe_op o_add (qe_ixO (pv 0) qe_int (fun _ _ => rfl)) (qe_op o_mul qe_int (qe_ixO (pv 0) qe_int (fun _ _ => rfl)))) qe_int) qe_int))
      (qss_one (qs_ret (qe_op o_mod (qe_op o_fdiv (qe_op o_mod (qe_op o_add (qe_op o_mul (qe_var 2) (qe_op o_add (qe_op o_mod (qe_var 2) qe_int) qe_int)) (qe_op o_mul (qe_ixO (pv 0) qe_int (fun _ _ => rfl)) qe_int)) qe_int) qe_int) (qe_var 1)))))))))
abbrev s_L_same : Stmt := (topS 19)
theorem sc_L_same : FnScope ["_law_found", "_law_due", "_law_mine", "_law_its"] ["_law_found", "_law_due"] (defScope s_L_same) := ⟨rfl, rfl, rfl, by decide +kernel, rfl, by decide +kernel, by decide +kernel⟩
noncomputable def m_L_same (Fn : List D → Option D) : Ms := (mSeq (mIfS (mB (mIsi2 "list" "tuple" (mVar 1))) (mSeq (mIfS (mOr (mB (mOp neDD (mIsi "list" (mVar 0)) (mIsi "list" (mVar 1)))) (mB (mOp neDD (mIsi "tuple" (mVar 0)) (mIsi "tuple" (mVar 1))))) (mRet (mC (.bl false))) mNx)
    (mSeq (mIfS (mB (mOp neDD (mCall lenD (mCons (mVar 0) mNil)) (mCall lenD (mCons (mVar 1) mNil)))) (mRet (mC (.bl false))) mNx)
    (mRet (mCall allD (mCons (mL (mLc (mCall zipD (mCons (mVar 0) (mCons (mVar 1) mNil))) (tg2 2 3) mYes (mCall Fn (mCons (mVar 2) (mCons (mVar 3) mNil))) [2, 3])) mNil))))) mNx)
    (mSeq (mIfS (mOr (mB (mOp (fun a b => (isB a b).map D.bl) (mVar 1) (mC .non))) (mB (mIsi "str" (mVar 1)))) (mRet (mAndV (mOp eqDD (mVar 0) (mVar 1)) (mOp eqDD (mIsi "str" (mVar 0)) (mIsi "str" (mVar 1))))) mNx)
    (mRet (mAndV (mIsi "int" (mVar 0)) (mAndV (mOp eqDD (mIsi "bool" (mVar 0)) (mIsi "bool" (mVar 1))) (mOp eqDD (mVar 0) (mVar 1)))))))
noncomputable def F_L_same : Nat → List D → Option D
  | 0 => fun _ => none
  | n + 1 => runP 2 2 (m_L_same (F_L_same n))
set_option maxHeartbeats 4000000 in
theorem ok_L_same (B : Bi mg) (T : Tx K mg base) : ∀ n : Nat, FnOk P w K mg base CX0 (n + 0) T.f_L_same T.d_L_same ["_law_found", "_law_due"] (SpP (F_L_same n))
  | 0 => fn0P
  | n + 1 => by
    have G_L_same := ok_L_same B T n
    rw [show n + 1 + 0 = n + 0 + 1 from by omega]
    exact fnP T.F_L_same sc_L_same rfl rfl (fun cdv A outer s H E hr => (
      (qss_cons (qs_if (qt_val (qe_isi2 (S := "list") (T := "tuple") (by rfl) B.isi (by decide +kernel) (qe_var 1) (pe_tup (pa_cons (pe_bltn (v := .ty "list") (by rfl) B.list (by decide +kernel) rfl) (pa_cons (pe_bltn (v := .ty "tuple") (by rfl) B.tuple (by decide +kernel) rfl) pa_nil)))))
      (qss_cons (qs_if (PW.pt (qw_or (qt_cmp (o_ne hr.units) (qe_isi (S := "list") (by rfl) B.isi (by decide +kernel) (qe_var 0) (pe_bltn (v := .ty "list") (by rfl) B.list (by decide +kernel) rfl)) (qe_isi (S := "list") (by rfl) B.isi (by decide +kernel) (qe_var 1) (pe_bltn (v := .ty "list") (by rfl) B.list (by decide +kernel) rfl)) (nomark _)) (qw_or1 (qt_cmp (o_ne hr.units) (qe_isi (S := "tuple") (by rfl) B.isi (by decide +kernel) (qe_var 0) (pe_bltn (v := .ty "tuple") (by rfl) B.tuple (by decide +kernel) rfl)) (qe_isi (S := "tuple") (by rfl) B.isi (by decide +kernel) (qe_var 1) (pe_bltn (v := .ty "tuple") (by rfl) B.tuple (by decide +kernel) rfl)) (nomark _)))))
      (qss_one (qs_ret qe_bl))
      qss_nil)
      (qss_cons (qs_if (qt_cmp (o_ne hr.units) (qe_b c_len (by rfl) B.len PySem.boot_len (qa_cons (qe_var 0) qa_nil)) (qe_b c_len (by rfl) B.len PySem.boot_len (qa_cons (qe_var 1) qa_nil)) (nomark _))
      (qss_one (qs_ret qe_bl))
      qss_nil)
      (qss_one (qs_ret (qe_b (c_all rfl) (by rfl) B.all (by decide +kernel) (qa_cons (qe_good (qf_lc (own := [("_law_mine", 2), ("_law_its", 3)]) (g := (tg2 2 3)) (tt := mYes) (te := (mCall (F_L_same n) (mCons (mVar 2) (mCons (mVar 3) mNil)))) rfl sc_L_same.nd (qi_zip (by rfl) B.zip (qa_cons (qe_var 0) (qa_cons (qe_var 1) qa_nil))) (blkOk_by (N := ["_law_found", "_law_due", "_law_mine", "_law_its"]) (sc := defScope s_L_same) (by decide +kernel)) (fun _ _ _ _ _ => (qg_pair (pg_tup rfl (pgs_cons (pg_name (i := 2) sc_L_same.nd rfl (by first | exact .inl rfl | exact .inr rfl)) (pgs_cons (pg_name (i := 3) sc_L_same.nd rfl (by first | exact .inl rfl | exact .inr rfl)) pgs_nil))) (pg_unl rfl (pgs_cons (pg_name (i := 2) sc_L_same.nd rfl (by first | exact .inl rfl | exact .inr rfl)) (pgs_cons (pg_name (i := 3) sc_L_same.nd rfl (by first | exact .inl rfl | exact .inr rfl)) pgs_nil))))) (fun _ _ _ _ _ => qts_nil) (fun _ _ _ _ _ => (qe_call G_L_same hr (by rfl) T.g_L_same T.F_L_same.kp T.b_L_same (qa_cons (qe_var 2) (qa_cons (qe_var 3) qa_nil)))))) qa_nil))))))
      qss_nil)
      (qss_cons (qs_if (PW.pt (qw_or (qt_cmp o_is (qe_var 1) qe_non (nomark _)) (qw_or1 (qt_val (qe_isi (S := "str") (by rfl) B.isi (by decide +kernel) (qe_var 1) (pe_bltn (v := .ty "str") (by rfl) B.str (by decide +kernel) rfl))))))
      (qss_one (qs_ret (qe_and (qe_cmp (o_eq hr.units) (qe_var 0) (qe_var 1) (nomark _)) (qe_one (qe_cmp (o_eq hr.units) (qe_isi (S := "str") (by rfl) B.isi (by decide +kernel) (qe_var 0) (pe_bltn (v := .ty "str") (by rfl) B.str (by decide +kernel) rfl)) (qe_isi (S := "str") (by rfl) B.isi (by decide +kernel) (qe_var 1) (pe_bltn (v := .ty "str") (by rfl) B.str (by decide +kernel) rfl)) (nomark _))))))
      qss_nil)
      (qss_one (qs_ret (qe_and (qe_isi (S := "int") (by rfl) B.isi (by decide +kernel) (qe_var 0) (pe_bltn (v := .ty "int") (by rfl) B.int (by decide +kernel) rfl)) (qe_and (qe_cmp (o_eq hr.units) (qe_isi (S := "bool") (by rfl) B.isi (by decide +kernel) (qe_var 0) (pe_bltn (v := .ty "bool") (by rfl) B.bool (by decide +kernel) rfl)) (qe_isi (S := "bool") (by rfl) B.isi (by decide +kernel) (qe_var 1) (pe_bltn (v := .ty "bool") (by rfl) B.bool (by decide +kernel) rfl)) (nomark _)) (qe_one (qe_cmp (o_eq hr.units) (qe_var 0) (qe_var 1) (nomark _)))))))))))
abbrev s_L_lists : Stmt := (topS 20)
theorem sc_L_lists : FnScope ["_law_matter", "_law_part"] ["_law_matter"] (defScope s_L_lists) := ⟨rfl, rfl, rfl, by decide +kernel, rfl, by decide +kernel, by decide +kernel⟩
noncomputable def m_L_lists (Fn : List D → Option D) : Ms := (mRet (mIf (mB (mIsi2 "list" "tuple" (mVar 0))) (mL (mLc (mIt (mVar 0)) (setV 1) mYes (mCall Fn (mCons (mVar 1) mNil)) [1])) (mVar 0)))
noncomputable def F_L_lists : Nat → List D → Option D
  | 0 => fun _ => none
  | n + 1 => runP 1 1 (m_L_lists (F_L_lists n))
set_option maxHeartbeats 4000000 in
theorem ok_L_lists (B : Bi mg) (T : Tx K mg base) : ∀ n : Nat, FnOk P w K mg base CX0 (n + 0) T.f_L_lists T.d_L_lists ["_law_matter"] (SpP (F_L_lists n))
  | 0 => fn0P
  | n + 1 => by
    have G_L_lists := ok_L_lists B T n
    rw [show n + 1 + 0 = n + 0 + 1 from by omega]
    exact fnP T.F_L_lists sc_L_lists rfl rfl (fun cdv A outer s H E hr => (
      (qss_one (qs_ret (qe_if (qt_val (qe_isi2 (S := "list") (T := "tuple") (by rfl) B.isi (by decide +kernel) (qe_var 0) (pe_tup (pa_cons (pe_bltn (v := .ty "list") (by rfl) B.list (by decide +kernel) rfl) (pa_cons (pe_bltn (v := .ty "tuple") (by rfl) B.tuple (by decide +kernel) rfl) pa_nil))))) (qe_good (qf_lc (own := [("_law_part", 1)]) (g := (setV 1)) (tt := mYes) (te := (mCall (F_L_lists n) (mCons (mVar 1) mNil))) rfl sc_L_lists.nd (qi_seq (qe_var 0)) (blkOk_by (N := ["_law_matter", "_law_part"]) (sc := defScope s_L_lists) (by decide +kernel)) (fun _ _ _ _ _ => (qg_name (pg_name (i := 1) sc_L_lists.nd rfl (by first | exact .inl rfl | exact .inr rfl)))) (fun _ _ _ _ _ => qts_nil) (fun _ _ _ _ _ => (qe_call G_L_lists hr (by rfl) T.g_L_lists T.F_L_lists.kp T.b_L_lists (qa_cons (qe_var 1) qa_nil))))) (qe_var 0))))))
abbrev s_L_of : Stmt := (topS 21)
theorem sc_L_of : FnScope ["_law_box_here", "_law_some"] ["_law_box_here", "_law_some"] (defScope s_L_of) := ⟨rfl, rfl, rfl, by decide +kernel, rfl, by decide +kernel, by decide +kernel⟩
noncomputable def m_L_of : Ms := (mRet (mOp ixD (mVar 1) (mCallB 0 F_L_take (mCons (mCall lenD (mCons (mVar 1) mNil)) mNil))))
noncomputable def F_L_of : List D → List D → Option (D × List D) := runB 1 0 m_L_of
set_option maxHeartbeats 4000000 in
theorem ok_L_of (B : Bi mg) (T : Tx K mg base) : FnOk P w K mg base CX0 2 T.f_L_of T.d_L_of ["_law_box_here", "_law_some"] (SpB F_L_of) := by
  have G_L_take := ok_L_take (P := P) (w := w) (base := base) B T
  exact fnB T.F_L_of sc_L_of rfl rfl (fun cdv A outer s H E hr => (
      (qss_one (qs_ret (qe_ix (o_ix (hu_of hr)) (qe_var 1) (qe_callB G_L_take (hr.mono (by first | decide | omega)) (by rfl) T.g_L_take T.F_L_take.kp T.b_L_take (pv 0) (qa_cons (qe_b c_len (by rfl) B.len PySem.boot_len (qa_cons (qe_var 1) qa_nil)) qa_nil)) (fun _ _ => rfl))))))
abbrev s_L_strewn : Stmt := (topS 22)
theorem sc_L_strewn : FnScope ["_law_box_here", "_law_some", "_law_found", "_law_item"] ["_law_box_here", "_law_some"] (defScope s_L_strewn) := ⟨rfl, rfl, rfl, by decide +kernel, rfl, by decide +kernel, by decide +kernel⟩
noncomputable def m_L_strewn : Ms := (mSeq (mSetO 2 (mDisp mNil))
    (mSeq (mFor (mIt (mVar 1)) (setV 3) (mEx (mMeth 2 insF (mCons (mCallB 0 F_L_take (mCons (mOp addD (mLenO 2) (mC (.int 1))) mNil)) (mCons (mVar 3) mNil)))))
    (mFz 2 (mRet (mVar 2)))))
noncomputable def F_L_strewn : List D → List D → Option (D × List D) := runB 1 2 m_L_strewn
set_option maxHeartbeats 4000000 in
theorem ok_L_strewn (B : Bi mg) (T : Tx K mg base) : FnOk P w K mg base CX0 2 T.f_L_strewn T.d_L_strewn ["_law_box_here", "_law_some"] (SpB F_L_strewn) := by
  have G_L_take := ok_L_take (P := P) (w := w) (base := base) B T
  exact fnB T.F_L_strewn sc_L_strewn rfl rfl (fun cdv A outer s H E hr => (
      (qss_cons (qs_setO (i := 2) sc_L_strewn.nd rfl (by first | exact .inl rfl | exact .inr rfl) (qf_lst qa_nil))
      (qss_cons (qs_for (ts := [3]) (g := (setV 3)) PassesOwn.never rfl (qi_seq (qe_var 1)) (qg_name (pg_name (i := 3) sc_L_strewn.nd rfl (by first | exact .inl rfl | exact .inr rfl)))
      (qss_one (qs_expr (qe_mo PySem.F.slot_list_insert PySem.F.type_list_insert mt_insert o_ins (pv 2) (qa_cons (qe_callB G_L_take (hr.mono (by first | decide | omega)) (by rfl) T.g_L_take T.F_L_take.kp T.b_L_take (pv 0) (qa_cons (qe_op o_add (qe_lenO B.len (by rfl) (pv 2)) qe_int) qa_nil)) (qa_cons (qe_var 3) qa_nil))))))
      (qss_frz (i := 2) (qss_one (qs_ret (qe_var 2))))))))
end
end Pl
namespace Pl
open PySem PySem.Spec PyProof.Rows L2 Kn
variable [Tbs]
section
variable {P : Program} {w : World} {K : PySem.W.Frag} {mg : Str → Option Value} {base : Heap}
abbrev s_L_crew : Stmt := (topS 23)
theorem sc_L_crew : FnScope ["_law_box_here", "_law_most", "_law_at", "_law_size", "_law_letters", "_law_pool", "_law_start", "_law_step", "_law_sign"] ["_law_box_here", "_law_most"] (defScope s_L_crew) := ⟨rfl, rfl, rfl, by decide +kernel, rfl, by decide +kernel, by decide +kernel⟩
noncomputable def m_L_crew : Ms := (mSeq (mPar3 3 4 5 [.v (mOp addD (mC (.int 1)) (mCallB 0 F_L_take (mCons (mVar 1) mNil))), .v (mC (.str "abcdefghijklmnopqrstuvwxyz")), .f (mDisp mNil)])
    (mSeq (mPar2 6 7 [.v (mCallB 0 F_L_take (mCons (mC (.int 26)) mNil)), .v (mOp ixD (mL (mDisp (mCons (mC (.int 1)) (mCons (mC (.int 3)) (mCons (mC (.int 25)) mNil))))) (mCallB 0 F_L_take (mCons (mC (.int 3)) mNil)))])
    (mSeq (mFor (mCall rng1 (mCons (mVar 3) mNil)) (setV 2) (mSeq (mSet 8 (mOp ixD (mVar 4) (mOp (intD modF) (mOp addD (mVar 6) (mOp mulD (mVar 7) (mOp (intD fdivF) (mVar 2) (mC (.int 2))))) (mC (.int 26)))))
    (mEx (mMeth 5 appF (mCons (mOp addD (mVar 8) (mOp ixD (mL (mDisp (mCons (mC (.str "")) (mCons (mC (.str "a")) (mCons (mC (.str "zz")) mNil))))) (mOp mulD (mOp (intD modF) (mVar 2) (mC (.int 2))) (mOp addD (mC (.int 1)) (mOp (intD modF) (mVar 6) (mC (.int 2))))))) mNil)))))
    (mFz 5 (mRet (mCallB 0 F_L_strewn (mCons (mVar 5) mNil)))))))
noncomputable def F_L_crew : List D → List D → Option (D × List D) := runB 1 7 m_L_crew
set_option maxHeartbeats 4000000 in
theorem ok_L_crew (B : Bi mg) (T : Tx K mg base) : FnOk P w K mg base CX0 3 T.f_L_crew T.d_L_crew ["_law_box_here", "_law_most"] (SpB F_L_crew) := by
  have G_L_strewn := ok_L_strewn (P := P) (w := w) (base := base) B T
  have G_L_take := ok_L_take (P := P) (w := w) (base := base) B T
  exact fnB T.F_L_crew sc_L_crew rfl rfl (fun cdv A outer s H E hr => (
      (qss_cons (qs_par3 (i := 3) (j := 4) (n := 5) rfl sc_L_crew.nd rfl rfl rfl (by decide) (by decide) (by decide) rfl rfl rfl (qp_v (qe_op o_add qe_int (qe_callB G_L_take (hr.mono (by first | decide | omega)) (by rfl) T.g_L_take T.F_L_take.kp T.b_L_take (pv 0) (qa_cons (qe_var 1) qa_nil))) (qp_v qe_str (qp_f (qf_lst qa_nil) qp_nil))) rfl)
      (qss_cons (qs_par2 (i := 6) (j := 7) rfl sc_L_crew.nd rfl rfl (by decide) rfl rfl (qp_v (qe_callB G_L_take (hr.mono (by first | decide | omega)) (by rfl) T.g_L_take T.F_L_take.kp T.b_L_take (pv 0) (qa_cons qe_int qa_nil)) (qp_v (qe_ix (o_ix (hu_of hr)) (qe_good (qf_lst (qa_cons qe_int (qa_cons qe_int (qa_cons qe_int qa_nil))))) (qe_callB G_L_take (hr.mono (by first | decide | omega)) (by rfl) T.g_L_take T.F_L_take.kp T.b_L_take (pv 0) (qa_cons qe_int qa_nil)) (fun _ _ => rfl)) qp_nil)) rfl)
      (qss_cons (qs_for (ts := [2]) (g := (setV 2)) PassesOwn.never rfl (qi_range1 (by rfl) B.range (qa_cons (qe_var 3) qa_nil)) (qg_name (pg_name (i := 2) sc_L_crew.nd rfl (by first | exact .inl rfl | exact .inr rfl)))
      (qss_cons (qs_set (i := 8) sc_L_crew.nd rfl (by first | exact .inl rfl | exact .inr rfl) (qe_ix (o_ix (hu_of hr)) (qe_var 4) (qe_op o_mod (qe_op o_add (qe_var 6) (qe_op o_mul (qe_var 7) (qe_op o_fdiv (qe_var 2) qe_int))) qe_int) (fun _ _ => rfl)))
      (qss_one (qs_expr (qe_mo PySem.F.slot_list_append PySem.F.type_list_append mt_append o_app (pv 5) (qa_cons (qe_op o_add (qe_var 8) (qe_ix (o_ix (hu_of hr)) (qe_good (qf_lst (qa_cons qe_str (qa_cons qe_str (qa_cons qe_str qa_nil))))) (qe_op o_mul (qe_op o_mod (qe_var 2) qe_int) (qe_op o_add qe_int (qe_op o_mod (qe_var 6) qe_int))) (fun _ _ => rfl))) qa_nil))))))
      (qss_frz (i := 5) (qss_one (qs_ret (qe_callB G_L_strewn (hr.mono (by first | decide | omega)) (by rfl) T.g_L_strewn T.F_L_strewn.kp T.b_L_strewn (pv 0) (qa_cons (qe_var 5) qa_nil))))))))))
abbrev s_L_ask : Stmt := (topS 24)
theorem sc_L_ask : FnScope ["_law_box_here", "_law_crew_here", "_law_found", "_law_folk", "_law_sort", "_law_some", "_law_swap", "_law_at", "_law_mate", "_law_seldom", "_law_any_one", "_law_near"] ["_law_box_here", "_law_crew_here"] (defScope s_L_ask) := ⟨rfl, rfl, rfl, by decide +kernel, rfl, by decide +kernel, by decide +kernel⟩
noncomputable def m_L_ask : Ms := (mSeq (mPar2 3 4 [.v (mL (mCall sortF (mCons (mVar 1) mNil))), .v (mCallB 0 F_L_take (mCons (mC (.int 6)) mNil))])
    (mSeq (mPar2 5 6 [.v (mL (mSl (mCallB 0 F_L_strewn (mCons (mVar 3) mNil)) moN (moS (mOp addD (mC (.int 1)) (mCallB 0 F_L_take (mCons (mC (.int 3)) mNil)))))), .v (mCallB 0 F_L_strewn (mCons (mVar 3) mNil))])
    (mSeq (mSetO 2 (mDisp mNil))
    (mSeq (mFor (mCall enD (mCons (mVar 3) mNil)) (tg2 7 8) (mSeq (mPar2 10 11 [.v (mCallB 0 F_L_of (mCons (mVar 3) mNil)), .v (mCallB 0 F_L_of (mCons (mVar 5) mNil))])
    (mSeq (mSet 9 (mIf (mB (mOp eqDD (mCallB 0 F_L_take (mCons (mC (.int 4)) mNil)) (mC (.int 0)))) (mVar 10) (mVar 8)))
    (mEx (mMeth 2 appF (mCons (mTup false (mCons (mVar 8) (mCons (mOp ixD (mL (mDisp (mCons (mVar 10) (mCons (mVar 10) (mCons (mVar 11) (mCons (mVar 9) (mCons (mOp ixD (mVar 6) (mVar 7)) (mCons (mVar 11) mNil)))))))) (mVar 4)) mNil))) mNil))))))
    (mFz 2 (mRet (mCall tupleD (mCons (mVar 2) mNil))))))))
noncomputable def F_L_ask : List D → List D → Option (D × List D) := runB 1 10 m_L_ask
set_option maxHeartbeats 4000000 in
theorem ok_L_ask (B : Bi mg) (T : Tx K mg base) : FnOk P w K mg base CX0 3 T.f_L_ask T.d_L_ask ["_law_box_here", "_law_crew_here"] (SpB F_L_ask) := by
  have G_L_of := ok_L_of (P := P) (w := w) (base := base) B T
  have G_L_strewn := ok_L_strewn (P := P) (w := w) (base := base) B T
  have G_L_take := ok_L_take (P := P) (w := w) (base := base) B T
  exact fnB T.F_L_ask sc_L_ask rfl rfl (fun cdv A outer s H E hr => (
      (qss_cons (qs_par2 (i := 3) (j := 4) rfl sc_L_ask.nd rfl rfl (by decide) rfl rfl (qp_v (qe_good (qf_b c_sort (by rfl) B.sorted (by decide +kernel) (qa_cons (qe_var 1) qa_nil))) (qp_v (qe_callB G_L_take (hr.mono (by first | decide | omega)) (by rfl) T.g_L_take T.F_L_take.kp T.b_L_take (pv 0) (qa_cons qe_int qa_nil)) qp_nil)) rfl)
      (qss_cons (qs_par2 (i := 5) (j := 6) rfl sc_L_ask.nd rfl rfl (by decide) rfl rfl (qp_v (qe_good (qf_slice (qe_callB G_L_strewn (hr.mono (by first | decide | omega)) (by rfl) T.g_L_strewn T.F_L_strewn.kp T.b_L_strewn (pv 0) (qa_cons (qe_var 3) qa_nil)) qo_none (qo_some (qe_op o_add qe_int (qe_callB G_L_take (hr.mono (by first | decide | omega)) (by rfl) T.g_L_take T.F_L_take.kp T.b_L_take (pv 0) (qa_cons qe_int qa_nil)))))) (qp_v (qe_callB G_L_strewn (hr.mono (by first | decide | omega)) (by rfl) T.g_L_strewn T.F_L_strewn.kp T.b_L_strewn (pv 0) (qa_cons (qe_var 3) qa_nil)) qp_nil)) rfl)
      (qss_cons (qs_setO (i := 2) sc_L_ask.nd rfl (by first | exact .inl rfl | exact .inr rfl) (qf_lst qa_nil))
      (qss_cons (qs_for (ts := [7, 8]) (g := (tg2 7 8)) PassesOwn.never rfl (qi_enum (by rfl) B.enum (qa_cons (qe_var 3) qa_nil)) (qg_pair (pg_tup rfl (pgs_cons (pg_name (i := 7) sc_L_ask.nd rfl (by first | exact .inl rfl | exact .inr rfl)) (pgs_cons (pg_name (i := 8) sc_L_ask.nd rfl (by first | exact .inl rfl | exact .inr rfl)) pgs_nil))) (pg_unl rfl (pgs_cons (pg_name (i := 7) sc_L_ask.nd rfl (by first | exact .inl rfl | exact .inr rfl)) (pgs_cons (pg_name (i := 8) sc_L_ask.nd rfl (by first | exact .inl rfl | exact .inr rfl)) pgs_nil))))
      (qss_cons (qs_par2 (i := 10) (j := 11) rfl sc_L_ask.nd rfl rfl (by decide) rfl rfl (qp_v (qe_callB G_L_of (hr.mono (by first | decide | omega)) (by rfl) T.g_L_of T.F_L_of.kp T.b_L_of (pv 0) (qa_cons (qe_var 3) qa_nil)) (qp_v (qe_callB G_L_of (hr.mono (by first | decide | omega)) (by rfl) T.g_L_of T.F_L_of.kp T.b_L_of (pv 0) (qa_cons (qe_var 5) qa_nil)) qp_nil)) rfl)
      (qss_cons (qs_set (i := 9) sc_L_ask.nd rfl (by first | exact .inl rfl | exact .inr rfl) (qe_if (qt_cmp (o_eq hr.units) (qe_callB G_L_take (hr.mono (by first | decide | omega)) (by rfl) T.g_L_take T.F_L_take.kp T.b_L_take (pv 0) (qa_cons qe_int qa_nil)) qe_int (nomark _)) (qe_var 10) (qe_var 8)))
      (qss_one (qs_expr (qe_mo PySem.F.slot_list_append PySem.F.type_list_append mt_append o_app (pv 2) (qa_cons (qe_tupM (qa_cons (qe_var 8) (qa_cons (qe_ix (o_ix (hu_of hr)) (qe_good (qf_lst (qa_cons (qe_var 10) (qa_cons (qe_var 10) (qa_cons (qe_var 11) (qa_cons (qe_var 9) (qa_cons (qe_ix (o_ix (hu_of hr)) (qe_var 6) (qe_var 7) (fun _ _ => rfl)) (qa_cons (qe_var 11) qa_nil)))))))) (qe_var 4) (fun _ _ => rfl)) qa_nil))) qa_nil)))))))
      (qss_frz (i := 2) (qss_one (qs_ret (qe_ty c_tuple (by rfl) B.tuple (by decide +kernel) (qa_cons (qe_var 2) qa_nil)))))))))))
abbrev s_L_asks : Stmt := (topS 25)
theorem sc_L_asks : FnScope ["_law_box_here", "_law_crew_here", "_law_size", "_law_turn"] ["_law_box_here", "_law_crew_here", "_law_size"] (defScope s_L_asks) := ⟨rfl, rfl, rfl, by decide +kernel, rfl, by decide +kernel, by decide +kernel⟩
noncomputable def m_L_asks : Ms := (mRet (mL (mLc (mCall rng1 (mCons (mCallB 0 F_L_take (mCons (mOp addD (mVar 2) (mC (.int 1))) mNil)) mNil)) (setV 3) mYes (mCallB 0 F_L_ask (mCons (mVar 1) mNil)) [3])))
noncomputable def F_L_asks : List D → List D → Option (D × List D) := runB 2 1 m_L_asks
set_option maxHeartbeats 4000000 in
theorem ok_L_asks (B : Bi mg) (T : Tx K mg base) : FnOk P w K mg base CX0 4 T.f_L_asks T.d_L_asks ["_law_box_here", "_law_crew_here", "_law_size"] (SpB F_L_asks) := by
  have G_L_ask := ok_L_ask (P := P) (w := w) (base := base) B T
  have G_L_take := ok_L_take (P := P) (w := w) (base := base) B T
  exact fnB T.F_L_asks sc_L_asks rfl rfl (fun cdv A outer s H E hr => (
      (qss_one (qs_ret (qe_good (qf_lc (own := [("_law_turn", 3)]) (g := (setV 3)) (tt := mYes) (te := (mCallB 0 F_L_ask (mCons (mVar 1) mNil))) rfl sc_L_asks.nd (qi_range1 (by rfl) B.range (qa_cons (qe_callB G_L_take (hr.mono (by first | decide | omega)) (by rfl) T.g_L_take T.F_L_take.kp T.b_L_take (pv 0) (qa_cons (qe_op o_add (qe_var 2) qe_int) qa_nil)) qa_nil)) (blkOk_by (N := ["_law_box_here", "_law_crew_here", "_law_size", "_law_turn"]) (sc := defScope s_L_asks) (by decide +kernel)) (fun _ _ _ _ _ => (qg_name (pg_name (i := 3) sc_L_asks.nd rfl (by first | exact .inl rfl | exact .inr rfl)))) (fun _ _ _ _ _ => qts_nil) (fun _ _ _ _ _ => (qe_callB G_L_ask (hr.mono (by first | decide | omega)) (by rfl) T.g_L_ask T.F_L_ask.kp T.b_L_ask (pv 0) (qa_cons (qe_var 1) qa_nil)))))))))
abbrev s_L_led : Stmt := (topS 26)
theorem sc_L_led : FnScope ["_law_folk", "_law_ask_here", "_law_goal", "_law_spots", "_law_near", "_law_at", "_law_mate"] ["_law_folk", "_law_ask_here"] (defScope s_L_led) := ⟨rfl, rfl, rfl, by decide +kernel, rfl, by decide +kernel, by decide +kernel⟩
noncomputable def m_L_led : Ms := (mSeq (mAsg (mTup false (mCons (mCall dictD (mCons (mVar 1) mNil)) (mCons (mCall dictD (mCons (mL (mLc (mCall enD (mCons (mVar 0) mNil)) (tg2 5 6) mYes (mTup false (mCons (mVar 6) (mCons (mVar 5) mNil))) [5, 6])) mNil)) mNil))) (tg2 2 3))
    (mRet (mCall tupleD (mCons (mL (mLc (mIt (mL (mCall sortIF (mCons (mL (mLc (mIt (mVar 0)) (setV 6) mYes (mTup false (mCons (mOp ixD (mVar 3) (mOp ixD (mVar 2) (mVar 6))) (mCons (mOp ixD (mVar 3) (mVar 6)) mNil))) [6])) mNil)))) (tg2 4 5) mYes (mOp ixD (mVar 0) (mVar 5)) [4, 5])) mNil))))
noncomputable def F_L_led : List D → Option D := runP 2 5 m_L_led
set_option maxHeartbeats 4000000 in
theorem ok_L_led (B : Bi mg) (T : Tx K mg base) : FnOk P w K mg base CX0 1 T.f_L_led T.d_L_led ["_law_folk", "_law_ask_here"] (SpP F_L_led) := by
  exact fnP T.F_L_led sc_L_led rfl rfl (fun cdv A outer s H E hr => (
      (qss_cons (qs_asg (ts := [2, 3]) (g := (tg2 2 3)) (qe_tupM (qa_cons (qe_ty (c_dict rfl) (by rfl) B.dict (by decide +kernel) (qa_cons (qe_var 1) qa_nil)) (qa_cons (qe_ty (c_dict rfl) (by rfl) B.dict (by decide +kernel) (qa_cons (qe_good (qf_lc (own := [("_law_at", 5), ("_law_mate", 6)]) (g := (tg2 5 6)) (tt := mYes) (te := (mTup false (mCons (mVar 6) (mCons (mVar 5) mNil)))) rfl sc_L_led.nd (qi_enum (by rfl) B.enum (qa_cons (qe_var 0) qa_nil)) (blkOk_by (N := ["_law_folk", "_law_ask_here", "_law_goal", "_law_spots", "_law_near", "_law_at", "_law_mate"]) (sc := defScope s_L_led) (by decide +kernel)) (fun _ _ _ _ _ => (qg_pair (pg_tup rfl (pgs_cons (pg_name (i := 5) sc_L_led.nd rfl (by first | exact .inl rfl | exact .inr rfl)) (pgs_cons (pg_name (i := 6) sc_L_led.nd rfl (by first | exact .inl rfl | exact .inr rfl)) pgs_nil))) (pg_unl rfl (pgs_cons (pg_name (i := 5) sc_L_led.nd rfl (by first | exact .inl rfl | exact .inr rfl)) (pgs_cons (pg_name (i := 6) sc_L_led.nd rfl (by first | exact .inl rfl | exact .inr rfl)) pgs_nil))))) (fun _ _ _ _ _ => qts_nil) (fun _ _ _ _ _ => (qe_tupM (qa_cons (qe_var 6) (qa_cons (qe_var 5) qa_nil)))))) qa_nil)) qa_nil))) (qg_pair (pg_tup rfl (pgs_cons (pg_name (i := 2) sc_L_led.nd rfl (by first | exact .inl rfl | exact .inr rfl)) (pgs_cons (pg_name (i := 3) sc_L_led.nd rfl (by first | exact .inl rfl | exact .inr rfl)) pgs_nil))) (pg_unl rfl (pgs_cons (pg_name (i := 2) sc_L_led.nd rfl (by first | exact .inl rfl | exact .inr rfl)) (pgs_cons (pg_name (i := 3) sc_L_led.nd rfl (by first | exact .inl rfl | exact .inr rfl)) pgs_nil)))))
      (qss_one (qs_ret (qe_ty c_tuple (by rfl) B.tuple (by decide +kernel) (qa_cons (qe_good (qf_lc (own := [("_law_near", 4), ("_law_at", 5)]) (g := (tg2 4 5)) (tt := mYes) (te := (mOp ixD (mVar 0) (mVar 5))) rfl sc_L_led.nd (qi_seq (qe_good (qf_b (c_sortI (hu65 hr)) (by rfl) B.sorted (by decide +kernel) (qa_cons (qe_good (qf_lc (own := [("_law_mate", 6)]) (g := (setV 6)) (tt := mYes) (te := (mTup false (mCons (mOp ixD (mVar 3) (mOp ixD (mVar 2) (mVar 6))) (mCons (mOp ixD (mVar 3) (mVar 6)) mNil)))) rfl sc_L_led.nd (qi_seq (qe_var 0)) (blkOk_by (N := ["_law_folk", "_law_ask_here", "_law_goal", "_law_spots", "_law_near", "_law_at", "_law_mate"]) (sc := defScope s_L_led) (by decide +kernel)) (fun _ _ _ _ _ => (qg_name (pg_name (i := 6) sc_L_led.nd rfl (by first | exact .inl rfl | exact .inr rfl)))) (fun _ _ _ _ _ => qts_nil) (fun _ _ _ _ _ => (qe_tupM (qa_cons (qe_ix (o_ix (hu_of hr)) (qe_var 3) (qe_ix (o_ix (hu_of hr)) (qe_var 2) (qe_var 6) (fun _ _ => rfl)) (fun _ _ => rfl)) (qa_cons (qe_ix (o_ix (hu_of hr)) (qe_var 3) (qe_var 6) (fun _ _ => rfl)) qa_nil)))))) qa_nil)))) (blkOk_by (N := ["_law_folk", "_law_ask_here", "_law_goal", "_law_spots", "_law_near", "_law_at", "_law_mate"]) (sc := defScope s_L_led) (by decide +kernel)) (fun _ _ _ _ _ => (qg_pair (pg_tup rfl (pgs_cons (pg_name (i := 4) sc_L_led.nd rfl (by first | exact .inl rfl | exact .inr rfl)) (pgs_cons (pg_name (i := 5) sc_L_led.nd rfl (by first | exact .inl rfl | exact .inr rfl)) pgs_nil))) (pg_unl rfl (pgs_cons (pg_name (i := 4) sc_L_led.nd rfl (by first | exact .inl rfl | exact .inr rfl)) (pgs_cons (pg_name (i := 5) sc_L_led.nd rfl (by first | exact .inl rfl | exact .inr rfl)) pgs_nil))))) (fun _ _ _ _ _ => qts_nil) (fun _ _ _ _ _ => (qe_ix (o_ix (hu_of hr)) (qe_var 0) (qe_var 5) (fun _ _ => rfl))))) qa_nil)))))))
abbrev s_L_all_led : Stmt := (topS 27)
theorem sc_L_all_led : FnScope ["_law_folk", "_law_asks_here", "_law_ask_here"] ["_law_folk", "_law_asks_here"] (defScope s_L_all_led) := ⟨rfl, rfl, rfl, by decide +kernel, rfl, by decide +kernel, by decide +kernel⟩
noncomputable def m_L_all_led : Ms := (mSeq (mFor (mIt (mVar 1)) (setV 2) (mSet 0 (mCall F_L_led (mCons (mVar 0) (mCons (mVar 2) mNil)))))
    (mRet (mCall tupleD (mCons (mVar 0) mNil))))
noncomputable def F_L_all_led : List D → Option D := runP 2 1 m_L_all_led
set_option maxHeartbeats 4000000 in
theorem ok_L_all_led (B : Bi mg) (T : Tx K mg base) : FnOk P w K mg base CX0 2 T.f_L_all_led T.d_L_all_led ["_law_folk", "_law_asks_here"] (SpP F_L_all_led) := by
  have G_L_led := ok_L_led (P := P) (w := w) (base := base) B T
  exact fnP T.F_L_all_led sc_L_all_led rfl rfl (fun cdv A outer s H E hr => (
      (qss_cons (qs_for (ts := [2]) (g := (setV 2)) PassesOwn.never rfl (qi_seq (qe_var 1)) (qg_name (pg_name (i := 2) sc_L_all_led.nd rfl (by first | exact .inl rfl | exact .inr rfl)))
      (qss_one (qs_set (i := 0) sc_L_all_led.nd rfl (by first | exact .inl rfl | exact .inr rfl) (qe_call G_L_led (hr.mono (by first | decide | omega)) (by rfl) T.g_L_led T.F_L_led.kp T.b_L_led (qa_cons (qe_var 0) (qa_cons (qe_var 2) qa_nil))))))
      (qss_one (qs_ret (qe_ty c_tuple (by rfl) B.tuple (by decide +kernel) (qa_cons (qe_var 0) qa_nil)))))))
abbrev s_L_all_rows : Stmt := (topS 28)
theorem sc_L_all_rows : FnScope ["_law_crew_here", "_law_found", "_law_turn", "_law_longer", "_law_some", "_law_mate"] ["_law_crew_here"] (defScope s_L_all_rows) := ⟨rfl, rfl, rfl, by decide +kernel, rfl, by decide +kernel, by decide +kernel⟩
noncomputable def m_L_all_rows : Ms := (mSeq (mSet 1 (mL (mDisp (mCons (mTup false mNil) mNil))))
    (mSeq (mFor (mIt (mVar 0)) (setV 2) (mSeq (mSet 3 (mL (mDisp mNil)))
    (mSeq (mFor (mIt (mVar 1)) (setV 4) (mSet 3 (mOp addD (mVar 3) (mL (mLc (mIt (mVar 0)) (setV 5) (mB (mOp (fun a b => (inB a b).map fun r => .bl (!r)) (mVar 5) (mVar 4))) (mOp addTD (mVar 4) (mTup false (mCons (mVar 5) mNil))) [5])))))
    (mSet 1 (mVar 3)))))
    (mRet (mVar 1))))
noncomputable def F_L_all_rows : List D → Option D := runP 1 5 m_L_all_rows
set_option maxHeartbeats 4000000 in
theorem ok_L_all_rows (B : Bi mg) (T : Tx K mg base) : FnOk P w K mg base CX0 1 T.f_L_all_rows T.d_L_all_rows ["_law_crew_here"] (SpP F_L_all_rows) := by
  exact fnP T.F_L_all_rows sc_L_all_rows rfl rfl (fun cdv A outer s H E hr => (
      (qss_cons (qs_set (i := 1) sc_L_all_rows.nd rfl (by first | exact .inl rfl | exact .inr rfl) (qe_good (qf_lst (qa_cons (qe_tupM qa_nil) qa_nil))))
      (qss_cons (qs_for (ts := [2]) (g := (setV 2)) PassesOwn.never rfl (qi_seq (qe_var 0)) (qg_name (pg_name (i := 2) sc_L_all_rows.nd rfl (by first | exact .inl rfl | exact .inr rfl)))
      (qss_cons (qs_set (i := 3) sc_L_all_rows.nd rfl (by first | exact .inl rfl | exact .inr rfl) (qe_good (qf_lst qa_nil)))
      (qss_cons (qs_for (ts := [4]) (g := (setV 4)) PassesOwn.never rfl (qi_seq (qe_var 1)) (qg_name (pg_name (i := 4) sc_L_all_rows.nd rfl (by first | exact .inl rfl | exact .inr rfl)))
      (qss_one (qs_set (i := 3) sc_L_all_rows.nd rfl (by first | exact .inl rfl | exact .inr rfl) (qe_op o_add (qe_var 3) (qe_good (qf_lc (own := [("_law_mate", 5)]) (g := (setV 5)) (tt := (mB (mOp (fun a b => (inB a b).map fun r => .bl (!r)) (mVar 5) (mVar 4)))) (te := (mOp addTD (mVar 4) (mTup false (mCons (mVar 5) mNil)))) rfl sc_L_all_rows.nd (qi_seq (qe_var 0)) (blkOk_by (N := ["_law_crew_here", "_law_found", "_law_turn", "_law_longer", "_law_some", "_law_mate"]) (sc := defScope s_L_all_rows) (by decide +kernel)) (fun _ _ _ _ _ => (qg_name (pg_name (i := 5) sc_L_all_rows.nd rfl (by first | exact .inl rfl | exact .inr rfl)))) (fun _ _ _ _ _ => (qts_one (qt_cmp (o_nin (hu_of hr)) (qe_var 5) (qe_var 4) (by rfl)))) (fun _ _ _ _ _ => (qe_op o_addT (qe_var 4) (qe_tupM (qa_cons (qe_var 5) qa_nil))))))))))
      (qss_one (qs_set (i := 1) sc_L_all_rows.nd rfl (by first | exact .inl rfl | exact .inr rfl) (qe_var 3))))))
      (qss_one (qs_ret (qe_var 1)))))))
abbrev s_L_near_word : Stmt := (topS 29)
theorem sc_L_near_word : FnScope ["_law_box_here", "_law_crew_here", "_law_asks_here", "_law_own", "_law_some", "_law_at", "_law_sort", "_law_mate"] ["_law_box_here", "_law_crew_here", "_law_asks_here"] (defScope s_L_near_word) := ⟨rfl, rfl, rfl, by decide +kernel, rfl, by decide +kernel, by decide +kernel⟩
noncomputable def m_L_near_word : Ms := (mSeq (mPar2 5 6 [.v (mCallB 0 F_L_take (mCons (mOp addD (mCall lenD (mCons (mVar 2) mNil)) (mC (.int 1))) mNil)), .v (mCallB 0 F_L_take (mCons (mC (.int 5)) mNil))])
    (mSeq (mSet 3 (mCall tupleD (mCons (mL (mLc (mIt (mL (mCall sortF (mCons (mVar 1) mNil)))) (setV 7) mYes (mTup false (mCons (mVar 7) (mCons (mVar 7) mNil))) [7])) mNil)))
    (mSeq (mSet 4 (mL (mDisp (mCons (mOp addD (mOp addD (mL (mSl (mVar 2) moN (moS (mVar 5)))) (mL (mDisp (mCons (mVar 3) mNil)))) (mL (mSl (mVar 2) (moS (mVar 5)) moN))) (mCons (mOp addD (mOp addD (mL (mSl (mVar 2) moN (moS (mVar 5)))) (mL (mSl (mVar 2) (moS (mVar 5)) (moS (mOp addD (mVar 5) (mC (.int 1))))))) (mL (mSl (mVar 2) (moS (mVar 5)) moN))) (mCons (mOp addD (mL (mSl (mVar 2) moN (moS (mVar 5)))) (mL (mSl (mVar 2) (moS (mOp addD (mVar 5) (mC (.int 1)))) moN))) mNil))))))
    (mRet (mOp ixD (mOp addD (mVar 4) (mL (mDisp (mCons (mOp addD (mOp addD (mL (mSl (mVar 2) moN (moS (mVar 5)))) (mL (mDisp (mCons (mCallB 0 F_L_ask (mCons (mVar 1) mNil)) mNil)))) (mL (mSl (mVar 2) (moS (mOp addD (mVar 5) (mC (.int 1)))) moN))) (mCons (mCallB 0 F_L_asks (mCons (mVar 1) (mCons (mC (.int 5)) mNil))) mNil))))) (mVar 6))))))
noncomputable def F_L_near_word : List D → List D → Option (D × List D) := runB 2 5 m_L_near_word
set_option maxHeartbeats 4000000 in
theorem ok_L_near_word (B : Bi mg) (T : Tx K mg base) : FnOk P w K mg base CX0 5 T.f_L_near_word T.d_L_near_word ["_law_box_here", "_law_crew_here", "_law_asks_here"] (SpB F_L_near_word) := by
  have G_L_ask := ok_L_ask (P := P) (w := w) (base := base) B T
  have G_L_asks := ok_L_asks (P := P) (w := w) (base := base) B T
  have G_L_take := ok_L_take (P := P) (w := w) (base := base) B T
  exact fnB T.F_L_near_word sc_L_near_word rfl rfl (fun cdv A outer s H E hr => (
      (qss_cons (qs_par2 (i := 5) (j := 6) rfl sc_L_near_word.nd rfl rfl (by decide) rfl rfl (qp_v (qe_callB G_L_take (hr.mono (by first | decide | omega)) (by rfl) T.g_L_take T.F_L_take.kp T.b_L_take (pv 0) (qa_cons (qe_op o_add (qe_b c_len (by rfl) B.len PySem.boot_len (qa_cons (qe_var 2) qa_nil)) qe_int) qa_nil)) (qp_v (qe_callB G_L_take (hr.mono (by first | decide | omega)) (by rfl) T.g_L_take T.F_L_take.kp T.b_L_take (pv 0) (qa_cons qe_int qa_nil)) qp_nil)) rfl)
      (qss_cons (qs_set (i := 3) sc_L_near_word.nd rfl (by first | exact .inl rfl | exact .inr rfl) (qe_ty c_tuple (by rfl) B.tuple (by decide +kernel) (qa_cons (qe_good (qf_lc (own := [("_law_mate", 7)]) (g := (setV 7)) (tt := mYes) (te := (mTup false (mCons (mVar 7) (mCons (mVar 7) mNil)))) rfl sc_L_near_word.nd (qi_seq (qe_good (qf_b c_sort (by rfl) B.sorted (by decide +kernel) (qa_cons (qe_var 1) qa_nil)))) (blkOk_by (N := ["_law_box_here", "_law_crew_here", "_law_asks_here", "_law_own", "_law_some", "_law_at", "_law_sort", "_law_mate"]) (sc := defScope s_L_near_word) (by decide +kernel)) (fun _ _ _ _ _ => (qg_name (pg_name (i := 7) sc_L_near_word.nd rfl (by first | exact .inl rfl | exact .inr rfl)))) (fun _ _ _ _ _ => qts_nil) (fun _ _ _ _ _ => (qe_tupM (qa_cons (qe_var 7) (qa_cons (qe_var 7) qa_nil)))))) qa_nil)))
      (qss_cons (qs_set (i := 4) sc_L_near_word.nd rfl (by first | exact .inl rfl | exact .inr rfl) (qe_good (qf_lst (qa_cons (qe_op o_add (qe_op o_add (qe_good (qf_slice (qe_var 2) qo_none (qo_some (qe_var 5)))) (qe_good (qf_lst (qa_cons (qe_var 3) qa_nil)))) (qe_good (qf_slice (qe_var 2) (qo_some (qe_var 5)) qo_none))) (qa_cons (qe_op o_add (qe_op o_add (qe_good (qf_slice (qe_var 2) qo_none (qo_some (qe_var 5)))) (qe_good (qf_slice (qe_var 2) (qo_some (qe_var 5)) (qo_some (qe_op o_add (qe_var 5) qe_int))))) (qe_good (qf_slice (qe_var 2) (qo_some (qe_var 5)) qo_none))) (qa_cons (qe_op o_add (qe_good (qf_slice (qe_var 2) qo_none (qo_some (qe_var 5)))) (qe_good (qf_slice (qe_var 2) (qo_some (qe_op o_add (qe_var 5) qe_int)) qo_none))) qa_nil))))))
      (qss_one (qs_ret (qe_ix (o_ix (hu_of hr)) (qe_op o_add (qe_var 4) (qe_good (qf_lst (qa_cons (qe_op o_add (qe_op o_add (qe_good (qf_slice (qe_var 2) qo_none (qo_some (qe_var 5)))) (qe_good (qf_lst (qa_cons (qe_callB G_L_ask (hr.mono (by first | decide | omega)) (by rfl) T.g_L_ask T.F_L_ask.kp T.b_L_ask (pv 0) (qa_cons (qe_var 1) qa_nil)) qa_nil)))) (qe_good (qf_slice (qe_var 2) (qo_some (qe_op o_add (qe_var 5) qe_int)) qo_none))) (qa_cons (qe_callB G_L_asks (hr.mono (by first | decide | omega)) (by rfl) T.g_L_asks T.F_L_asks.kp T.b_L_asks (pv 0) (qa_cons (qe_var 1) (qa_cons qe_int qa_nil))) qa_nil))))) (qe_var 6) (fun _ _ => rfl)))))))))
end
end Pl
namespace Pl
open PySem PySem.Spec PyProof.Rows L2 Kn
variable [Tbs]
section
variable {P : Program} {w : World} {K : PySem.W.Frag} {mg : Str → Option Value} {base : Heap}
abbrev s_L_right : Stmt := (topS 30)
theorem sc_L_right : FnScope ["_law_box_here", "_law_crew_here", "_law_asks_here", "_law_kept", "_law_due", "_law_found", "_law_its", "_law_every", "_law_folk"] ["_law_box_here"] (defScope s_L_right) := ⟨rfl, rfl, rfl, by decide +kernel, rfl, by decide +kernel, by decide +kernel⟩
noncomputable def m_L_right : Ms := (mSeq (mSet 1 (mOp addD (mCallB 0 F_L_crew (mCons (mC (.int 3)) mNil)) (mL (mDisp (mCons (mC (.str "qqq")) mNil)))))
    (mSeq (mSet 2 (mCallB 0 F_L_asks (mCons (mVar 1) (mCons (mC (.int 5)) mNil))))
    (mSeq (mAsg (mTup false (mCons (mCallB 0 F_L_near_word (mCons (mVar 1) (mCons (mVar 2) mNil))) (mCons (mCall F_L_all_rows (mCons (mVar 1) mNil)) mNil))) (tg2 6 7))
    (mSeq (mSet 3 (mCall reprD (mCons (mL (mDisp (mCons (mVar 2) (mCons (mVar 6) mNil)))) mNil)))
    (mSeq (mSet 4 (mCall allD (mCons (mL (mLc (mIt (mVar 7)) (setV 8) mYes (mOp eqDD (mCall F_L_all_led (mCons (mVar 8) (mCons (mVar 2) mNil))) (mCall F_L_all_led (mCons (mVar 8) (mCons (mVar 6) mNil)))) [8])) mNil)))
    (mSeq (mSetO 5 (mDisp (mCons (mCall F_alike (mCons (mVar 1) (mCons (mVar 2) (mCons (mVar 6) mNil)))) (mCons (mCall F_alike (mCons (mVar 1) (mCons (mVar 6) (mCons (mVar 2) mNil)))) mNil))))
    (mSeq (mEx (mMeth 5 appF (mCons (mCall (fun ds => F_alike (perm [2, 1, 0] ds)) (mCons (mCall tupleD (mCons (mCall (F_L_lists 8) (mCons (mVar 6) mNil)) mNil)) (mCons (mCall (F_L_lists 8) (mCons (mVar 2) mNil)) (mCons (mCall tupleD (mCons (mVar 1) mNil)) mNil)))) mNil)))
    (mFz 5 (mSeq (mSetO 5 (mOp catF (mVar 5) (mL (mDisp (mCons (mCall F_alike (mCons (mVar 1) (mCons (mVar 2) (mCons (mVar 2) mNil)))) (mCons (mCall F_alike (mCons (mVar 1) (mCons (mL (mDisp mNil)) (mCons (mL (mDisp mNil)) mNil)))) mNil))))))
    (mFz 5 (mRet (mAndV (mCall (F_L_same 8) (mCons (mVar 5) (mCons (mL (mDisp (mCons (mVar 4) (mCons (mVar 4) (mCons (mVar 4) (mCons (mC (.bl true)) (mCons (mC (.bl true)) mNil))))))) mNil))) (mOp eqDD (mCall reprD (mCons (mL (mDisp (mCons (mVar 2) (mCons (mVar 6) mNil)))) mNil)) (mVar 3))))))))))))))
noncomputable def F_L_right : List D → List D → Option (D × List D) := runB 0 8 m_L_right
set_option maxHeartbeats 4000000 in
theorem ok_L_right (B : Bi mg) (T : Tx K mg base) : FnG P w K mg base CX0 9 T.f_L_right T.d_L_right ["_law_box_here"] (SpB F_L_right) := by
  have G_L_all_led := ok_L_all_led (P := P) (w := w) (base := base) B T
  have G_L_all_rows := ok_L_all_rows (P := P) (w := w) (base := base) B T
  have G_L_asks := ok_L_asks (P := P) (w := w) (base := base) B T
  have G_L_crew := ok_L_crew (P := P) (w := w) (base := base) B T
  have G_L_lists := ok_L_lists (P := P) (w := w) (base := base) B T 8
  have G_L_near_word := ok_L_near_word (P := P) (w := w) (base := base) B T
  have G_L_same := ok_L_same (P := P) (w := w) (base := base) B T 8
  have G_alike := ok_alike (P := P) (w := w) (base := base) B T
  exact fnGB T.F_L_right sc_L_right rfl rfl (fun cdv A outer s H E hg hr => (
      (qss_cons (qs_set (i := 1) sc_L_right.nd rfl (by first | exact .inl rfl | exact .inr rfl) (qe_op o_add (qe_callB G_L_crew (hr.mono (by first | decide | omega)) (by rfl) T.g_L_crew T.F_L_crew.kp T.b_L_crew (pv 0) (qa_cons qe_int qa_nil)) (qe_good (qf_lst (qa_cons qe_str qa_nil)))))
      (qss_cons (qs_set (i := 2) sc_L_right.nd rfl (by first | exact .inl rfl | exact .inr rfl) (qe_callB G_L_asks (hr.mono (by first | decide | omega)) (by rfl) T.g_L_asks T.F_L_asks.kp T.b_L_asks (pv 0) (qa_cons (qe_var 1) (qa_cons qe_int qa_nil))))
      (qss_cons (qs_asg (ts := [6, 7]) (g := (tg2 6 7)) (qe_tupM (qa_cons (qe_callB G_L_near_word (hr.mono (by first | decide | omega)) (by rfl) T.g_L_near_word T.F_L_near_word.kp T.b_L_near_word (pv 0) (qa_cons (qe_var 1) (qa_cons (qe_var 2) qa_nil))) (qa_cons (qe_call G_L_all_rows (hr.mono (by first | decide | omega)) (by rfl) T.g_L_all_rows T.F_L_all_rows.kp T.b_L_all_rows (qa_cons (qe_var 1) qa_nil)) qa_nil))) (qg_pair (pg_tup rfl (pgs_cons (pg_name (i := 6) sc_L_right.nd rfl (by first | exact .inl rfl | exact .inr rfl)) (pgs_cons (pg_name (i := 7) sc_L_right.nd rfl (by first | exact .inl rfl | exact .inr rfl)) pgs_nil))) (pg_unl rfl (pgs_cons (pg_name (i := 6) sc_L_right.nd rfl (by first | exact .inl rfl | exact .inr rfl)) (pgs_cons (pg_name (i := 7) sc_L_right.nd rfl (by first | exact .inl rfl | exact .inr rfl)) pgs_nil)))))
      (qss_cons (qs_set (i := 3) sc_L_right.nd rfl (by first | exact .inl rfl | exact .inr rfl) (qe_b (c_repr hg hr.units) (by rfl) B.repr (by decide +kernel) (qa_cons (qe_good (qf_lst (qa_cons (qe_var 2) (qa_cons (qe_var 6) qa_nil)))) qa_nil)))
      (qss_cons (qs_set (i := 4) sc_L_right.nd rfl (by first | exact .inl rfl | exact .inr rfl) (qe_b (c_all rfl) (by rfl) B.all (by decide +kernel) (qa_cons (qe_good (qf_lc (own := [("_law_folk", 8)]) (g := (setV 8)) (tt := mYes) (te := (mOp eqDD (mCall F_L_all_led (mCons (mVar 8) (mCons (mVar 2) mNil))) (mCall F_L_all_led (mCons (mVar 8) (mCons (mVar 6) mNil))))) rfl sc_L_right.nd (qi_seq (qe_var 7)) (blkOk_by (N := ["_law_box_here", "_law_crew_here", "_law_asks_here", "_law_kept", "_law_due", "_law_found", "_law_its", "_law_every", "_law_folk"]) (sc := defScope s_L_right) (by decide +kernel)) (fun _ _ _ _ _ => (qg_name (pg_name (i := 8) sc_L_right.nd rfl (by first | exact .inl rfl | exact .inr rfl)))) (fun _ _ _ _ _ => qts_nil) (fun _ _ _ _ _ => (qe_cmp (o_eq hr.units) (qe_call G_L_all_led (hr.mono (by first | decide | omega)) (by rfl) T.g_L_all_led T.F_L_all_led.kp T.b_L_all_led (qa_cons (qe_var 8) (qa_cons (qe_var 2) qa_nil))) (qe_call G_L_all_led (hr.mono (by first | decide | omega)) (by rfl) T.g_L_all_led T.F_L_all_led.kp T.b_L_all_led (qa_cons (qe_var 8) (qa_cons (qe_var 6) qa_nil))) (nomark _))))) qa_nil)))
      (qss_cons (qs_setO (i := 5) sc_L_right.nd rfl (by first | exact .inl rfl | exact .inr rfl) (qf_lst (qa_cons (qe_call G_alike (hr.mono (by first | decide | omega)) (by rfl) T.g_alike T.F_alike.kp T.b_alike (qa_cons (qe_var 1) (qa_cons (qe_var 2) (qa_cons (qe_var 6) qa_nil)))) (qa_cons (qe_call G_alike (hr.mono (by first | decide | omega)) (by rfl) T.g_alike T.F_alike.kp T.b_alike (qa_cons (qe_var 1) (qa_cons (qe_var 6) (qa_cons (qe_var 2) qa_nil)))) qa_nil))))
      (qss_cons (qs_expr (qe_mo PySem.F.slot_list_append PySem.F.type_list_append mt_append o_app (pv 5) (qa_cons (qe_callK (is := [2, 1, 0]) G_alike (hr.mono (by first | decide | omega)) (by rfl) T.g_alike T.F_alike.kp T.k_alike_210 (qk_cons (qe_ty c_tuple (by rfl) B.tuple (by decide +kernel) (qa_cons (qe_call G_L_lists (hr.mono (by first | decide | omega)) (by rfl) T.g_L_lists T.F_L_lists.kp T.b_L_lists (qa_cons (qe_var 6) qa_nil)) qa_nil)) (qk_cons (qe_call G_L_lists (hr.mono (by first | decide | omega)) (by rfl) T.g_L_lists T.F_L_lists.kp T.b_L_lists (qa_cons (qe_var 2) qa_nil)) (qk_cons (qe_ty c_tuple (by rfl) B.tuple (by decide +kernel) (qa_cons (qe_var 1) qa_nil)) qk_nil)))) qa_nil)))
      (qss_frz (i := 5) (qss_cons (qs_setO (i := 5) sc_L_right.nd rfl (by first | exact .inl rfl | exact .inr rfl) (qf_op o_catF (qe_var 5) (qe_good (qf_lst (qa_cons (qe_call G_alike (hr.mono (by first | decide | omega)) (by rfl) T.g_alike T.F_alike.kp T.b_alike (qa_cons (qe_var 1) (qa_cons (qe_var 2) (qa_cons (qe_var 2) qa_nil)))) (qa_cons (qe_call G_alike (hr.mono (by first | decide | omega)) (by rfl) T.g_alike T.F_alike.kp T.b_alike (qa_cons (qe_var 1) (qa_cons (qe_good (qf_lst qa_nil)) (qa_cons (qe_good (qf_lst qa_nil)) qa_nil)))) qa_nil))))))
      (qss_frz (i := 5) (qss_one (qs_ret (qe_and (qe_call G_L_same (hr.mono (by first | decide | omega)) (by rfl) T.g_L_same T.F_L_same.kp T.b_L_same (qa_cons (qe_var 5) (qa_cons (qe_good (qf_lst (qa_cons (qe_var 4) (qa_cons (qe_var 4) (qa_cons (qe_var 4) (qa_cons qe_bl (qa_cons qe_bl qa_nil))))))) qa_nil))) (qe_one (qe_cmp (o_eq hr.units) (qe_b (c_repr hg hr.units) (by rfl) B.repr (by decide +kernel) (qa_cons (qe_good (qf_lst (qa_cons (qe_var 2) (qa_cons (qe_var 6) qa_nil)))) qa_nil)) (qe_var 3) (nomark _))))))))))))))))))
end
end Pl
namespace Pl
open PySem PySem.Spec PyProof.Rows L2 Kn
/-! the names of a crew -/
def nmc (s t i : Nat) : List Nat := (97 + (s + t * (i / 2)) % 26) :: (if i % 2 = 0 then [] else if s % 2 = 0 then [97] else [122, 122])
def nm (s t i : Nat) : Str := ⟨(nmc s t i).toArray⟩
def sfx (s i : Nat) : Str := if i % 2 = 0 then "" else if s % 2 = 0 then "a" else "zz"
theorem nm_eq (s t i : Nat) : (⟨#[97 + (s + t * (i / 2)) % 26]⟩ : Str) ++ sfx s i = nm s t i := by
  unfold nm nmc sfx
  split
  · rfl
  · split <;> rfl
theorem nmc_nodup : ∀ s : _root_.Fin 26, ∀ t ∈ [1, 3, 25], ((List.range 24).map (nmc s.val t)).Nodup := by decide +kernel
theorem nm_nodup {s t n : Nat} (hs : s < 26) (ht : t ∈ [1, 3, 25]) (hn : n ≤ 24) : ((List.range n).map (nm s t)).Nodup := by
  have h := nmc_nodup ⟨s, hs⟩ t ht
  have h2 : ((List.range n).map (nmc s t)).Nodup := by
    refine h.sublist ?_
    refine List.Sublist.map _ ?_
    rw [show (24 : Nat) = n + (24 - n) by omega, List.range_add]
    exact List.sublist_append_left _ _
  have e : (List.range n).map (nmc s t) = ((List.range n).map (nm s t)).map fun z => z.cps.toList := by
    rw [List.map_map]
    rfl
  rw [e] at h2
  exact (List.pairwise_map.mp h2).imp fun h e => h (by rw [e])
/-- a name of one to three small letters -/
def Nm (z : Str) : Prop := 1 ≤ z.length ∧ z.length ≤ 3 ∧ ∀ c ∈ z.cps.toList, 97 ≤ c ∧ c ≤ 122
theorem nm_nm (s t i : Nat) : Nm (nm s t i) := by
  have hm : (s + t * (i / 2)) % 26 < 26 := Nat.mod_lt _ (by decide)
  unfold nm nmc
  generalize (s + t * (i / 2)) % 26 = k at hm
  split
  · refine ⟨(by show 1 ≤ 1; decide), (by show 1 ≤ 3; decide), fun c hc => ?_⟩
    have h : c ∈ [97 + k] := hc
    rw [List.mem_singleton] at h
    omega
  · split
    · refine ⟨(by show 1 ≤ 2; decide), (by show 2 ≤ 3; decide), fun c hc => ?_⟩
      have h : c ∈ [97 + k, 97] := hc
      simp only [List.mem_cons, List.not_mem_nil, or_false] at h
      omega
    · refine ⟨(by show 1 ≤ 3; decide), (by show 3 ≤ 3; decide), fun c hc => ?_⟩
      have h : c ∈ [97 + k, 122, 122] := hc
      simp only [List.mem_cons, List.not_mem_nil, or_false] at h
      omega
theorem let_at {k : Nat} (h : k < 26) : atI ("abcdefghijklmnopqrstuvwxyz" : Str).cps.toList (k : Int) = some (97 + k) := by
  refine atI_nat ?_
  have : ∀ k : _root_.Fin 26, ("abcdefghijklmnopqrstuvwxyz" : Str).cps.toList[k.val]? = some (97 + k.val) := by decide +kernel
  exact this ⟨k, h⟩
theorem nm_q {s t i : Nat} : nm s t i ≠ "qqq" := fun h => by
  have h : (nm s t i).cps.toList = [113, 113, 113] := by rw [h]; rfl
  unfold nm nmc at h
  split at h
  · simp at h
  · split at h <;> simp at h
theorem nm_qq : Nm "qqq" := ⟨by decide, by decide, fun c hc => by
  have h : c ∈ [113, 113, 113] := hc
  simp at h
  omega⟩
/-! rows of things, calls, words -/
def sq (b : Bool) (l : List D) : D := if b then .lst l else .tup false l
abbrev pD (b : Bool) (p : Str × Str) : D := sq b [.str p.1, .str p.2]
abbrev cD (b : Bool) (c : List (Str × Str)) : D := sq b (c.map (pD b))
theorem sq_seq (b : Bool) (l : List D) : seqD (sq b l) = some l := by cases b <;> rfl
theorem sq_it (b : Bool) (l : List D) : itD (sq b l) = some l := by cases b <;> rfl
theorem look_map {c : List (Str × Str)} {a : Str} : look (c.map fun p => (Sum.inr p.1 : Key)) (c.map fun p => D.str p.2) (Sum.inr a) = (c.lookup a).map D.str := by
  induction c with
  | nil => rfl
  | cons p c ih =>
    rw [List.map_cons, List.map_cons, look]
    by_cases e : p.1 = a
    · subst e
      rw [if_pos rfl, List.lookup_cons, beq_self_eq_true]
      rfl
    · rw [if_neg (fun z => e (Sum.inr.inj z)), ih, List.lookup_cons, beq_eq_false_iff_ne.mpr (Ne.symm e)]
theorem put_new {kvs : List (Key × D)} {k : Key} {d : D} (h : k ∉ kvs.map (·.1)) : putD kvs k d = kvs ++ [(k, d)] := by
  unfold putD
  rw [if_neg]
  intro z
  obtain ⟨p, hp, e⟩ := List.any_eq_true.mp z
  exact h (List.mem_map.mpr ⟨p, hp, of_decide_eq_true e⟩)
theorem merge_nodup : ∀ (kvs acc : List (Key × D)), ((acc ++ kvs).map (·.1)).Nodup → kvs.foldl (fun a kv => putD a kv.1 kv.2) acc = acc ++ kvs
  | [], acc, _ => by simp
  | p :: kvs, acc, h => by
    rw [List.foldl_cons, put_new, merge_nodup kvs (acc ++ [(p.1, p.2)])]
    · simp
    · simpa using h
    · rw [List.map_append, List.nodup_append] at h
      exact fun z => h.2.2 p.1 z p.1 (by simp) rfl
theorem pairs_of {b : Bool} : ∀ c : List (Str × Str), pairsOf (c.map (pD b)) = some (c.map fun p => (Sum.inr p.1, .str p.2))
  | [] => rfl
  | p :: c => by
    rw [List.map_cons, pairsOf, pairs_of c]
    cases b <;> rfl
/-- the dict of a call -/
def dctOf (c : List (Str × Str)) : D := .dct (c.map fun p => Sum.inr p.1) (c.map fun p => .str p.2)
theorem dict_ok {b : Bool} {c : List (Str × Str)} (h : (c.map (·.1)).Nodup) : dictD [cD b c] = some (dctOf c) := by
  have hm : mergeD (c.map fun p => ((Sum.inr p.1 : Key), D.str p.2)) = c.map fun p => (Sum.inr p.1, .str p.2) := by
    unfold mergeD
    rw [merge_nodup]
    · rfl
    · rw [List.nil_append, List.map_map]
      exact List.pairwise_map.mpr ((List.pairwise_map.mp h).imp fun h e => h (Sum.inr.inj e))
  have fin : ∀ l, pairsOf l = some (c.map fun p => (Sum.inr p.1, .str p.2)) → (pairsOf l).map (fun ps => D.dct ((mergeD ps).map (·.1)) ((mergeD ps).map (·.2))) = some (dctOf c) := fun l e => by
    rw [e, Option.map_some, hm, List.map_map, List.map_map]
    rfl
  cases b
  · exact fin _ (pairs_of c)
  · exact fin _ (pairs_of c)
end Pl
namespace Pl
open PySem PySem.Spec PyProof.Rows L2 Kn
/-! data that repr can show -/
theorem nm_asc {z : Str} (h : Nm z) : Asc z := fun c hc => by have := h.2.2 c hc; omega
theorem nm_ok {z : Str} (h : Nm z) : PyData.strOk z = true := by
  unfold PyData.strOk
  rw [← Array.all_toList, List.all_eq_true]
  intro c hc
  have := h.2.2 c hc
  exact decide_eq_true (by omega)
theorem pyA_map : ∀ l : List D, pyA l = l.map D.py
  | [] => rfl
  | d :: l => by rw [pyA, pyA_map l]; rfl
theorem wtA_le {k : Nat} : ∀ {ds : List PyData}, (∀ d ∈ ds, wt d ≤ k) → wtA ds ≤ k * ds.length
  | [], _ => Nat.zero_le _
  | d :: ds, h => by
    rw [wtA, List.length_cons, Nat.mul_succ]
    have h1 := h d (List.mem_cons_self ..)
    have h2 := wtA_le (k := k) (ds := ds) fun e he => h e (List.mem_cons_of_mem _ he)
    omega
theorem lay_mem : ∀ {ds : List PyData}, (∀ d ∈ ds, d.canLay0 = true) → PyData.canLayAll0 ds = true
  | [], _ => rfl
  | d :: ds, h => by
    show (d.canLay0 && PyData.canLayAll0 ds) = true
    rw [h d (List.mem_cons_self ..), lay_mem fun e he => h e (List.mem_cons_of_mem _ he)]
    rfl
structure Nc (n w : Nat) (d : D) : Prop where
  dep : d.py.depth ≤ n
  nic : Nic d.py
  wt : wt d.py ≤ w
  lay : d.py.canLay0 = true
theorem Nc.mono {n m w v : Nat} {d : D} (h : Nc n w d) (hn : n ≤ m) (hw : w ≤ v) : Nc m v d := ⟨Nat.le_trans h.dep hn, h.nic, Nat.le_trans h.wt hw, h.lay⟩
theorem nc_str {z : Str} (h : Nm z) : Nc 0 4 (.str z) := ⟨Nat.le_refl _, nm_asc h, by show 1 + z.length ≤ 4; have := h.2.1; omega, nm_ok h⟩
theorem nc_all {n w m : Nat} {l : List D} (h : ∀ d ∈ l, Nc n w d) (hl : l.length ≤ m) : PyData.depthAll (pyA l) ≤ n ∧ NicA (pyA l) ∧ wtA (pyA l) ≤ w * m ∧ PyData.canLayAll0 (pyA l) = true := by
  rw [pyA_map]
  have mem : ∀ d ∈ l.map D.py, ∃ e ∈ l, d = e.py := fun d hd => by
    obtain ⟨e, he, rfl⟩ := List.mem_map.mp hd
    exact ⟨e, he, rfl⟩
  refine ⟨(depthA_iff _).mpr fun d hd => ?_, (nicA_iff _).mpr fun d hd => ?_, ?_, lay_mem fun d hd => ?_⟩
  · obtain ⟨e, he, rfl⟩ := mem d hd
    exact (h e he).dep
  · obtain ⟨e, he, rfl⟩ := mem d hd
    exact (h e he).nic
  · have := wtA_le (k := w) (ds := l.map D.py) fun d hd => by
      obtain ⟨e, he, rfl⟩ := mem d hd
      exact (h e he).wt
    rw [List.length_map] at this
    exact Nat.le_trans this (Nat.mul_le_mul_left _ hl)
  · obtain ⟨e, he, rfl⟩ := mem d hd
    exact (h e he).lay
theorem nc_lst {n w m : Nat} {l : List D} (h : ∀ d ∈ l, Nc n w d) (hl : l.length ≤ m) : Nc (n + 1) (1 + w * m) (.lst l) := by
  obtain ⟨a, b, c, d⟩ := nc_all h hl
  exact ⟨Nat.succ_le_succ a, b, Nat.add_le_add_left c 1, d⟩
theorem nc_tup {n w m : Nat} {k : Bool} {l : List D} (h : ∀ d ∈ l, Nc n w d) (hl : l.length ≤ m) : Nc (n + 1) (1 + w * m) (.tup k l) := by
  obtain ⟨a, b, c, d⟩ := nc_all h hl
  exact ⟨Nat.succ_le_succ a, b, Nat.add_le_add_left c 1, d⟩
theorem nc_strs {xs : List Str} (h : ∀ x ∈ xs, Nm x) : ∀ d ∈ xs.map D.str, Nc 0 4 d := fun d hd => by
  obtain ⟨x, hx, rfl⟩ := List.mem_map.mp hd
  exact nc_str (h x hx)
theorem nc_p {p : Str × Str} (h : Nm p.1 ∧ Nm p.2) : Nc 1 9 (pD false p) := nc_tup (n := 0) (w := 4) (m := 2) (fun d hd => by
  simp only [List.mem_cons, List.not_mem_nil, or_false] at hd
  rcases hd with rfl | rfl
  · exact nc_str h.1
  · exact nc_str h.2) (Nat.le_refl _)
theorem nc_c {c : List (Str × Str)} {m : Nat} (h : ∀ p ∈ c, Nm p.1 ∧ Nm p.2) (hl : c.length ≤ m) : Nc 2 (1 + 9 * m) (cD false c) := nc_tup (n := 1) (w := 9) (m := m) (fun d hd => by
  obtain ⟨p, hp, rfl⟩ := List.mem_map.mp hd
  exact nc_p (h p hp)) (by rw [List.length_map]; exact hl)
theorem nc_w {w : List (List (Str × Str))} {m k : Nat} (h : ∀ c ∈ w, ∀ p ∈ c, Nm p.1 ∧ Nm p.2) (hl : ∀ c ∈ w, c.length ≤ m) (hk : w.length ≤ k) : Nc 3 (1 + (1 + 9 * m) * k) (.lst (w.map (cD false))) := nc_lst (fun d hd => by
  obtain ⟨c, hc, rfl⟩ := List.mem_map.mp hd
  exact nc_c (h c hc) (hl c hc)) (by rw [List.length_map]; exact hk)
theorem Nc.repr {d : D} {n w : Nat} (h : Nc n w d) (hn : n ≤ 50) (hw : w ≤ 100000) : reprD [d] = some (.str d.py.shown) := by
  unfold reprD
  exact if_pos ⟨⟨Nat.le_trans h.dep hn, h.nic, Nat.le_trans h.wt hw⟩, h.lay⟩
end Pl
namespace Pl
open PySem PySem.Spec PyProof.Rows L2 Kn
variable [Tbs]
theorem take_ok {n : Nat} {bs : List D} {b : Int} (h : Box n bs) (hn : n < 1000000000) (h0 : 0 < b) (h1 : b < 1073741824) : ∃ (r : Int) (bs' : List D), F_L_take bs [.int b] = some (.int r, bs') ∧ 0 ≤ r ∧ r < b ∧ Box (n + 1) bs' := by
  obtain ⟨x, y, z, rfl, a1, a2, a3, a4, a5⟩ := h
  by_cases hx : 0 < x
  · refine ⟨x % b, [.int (x / b), .int y, .int z], ?_, Int.emod_nonneg _ (by omega), Int.emod_lt_of_pos _ h0, _, _, _, rfl, Int.ediv_nonneg a1 (by omega), a2, a3, a4, by omega⟩
    simp [F_L_take, m_L_take, runB, beginB, begin0, mSeq, mIfS, mB, mOp, mIxO, mC, mVar, isOwn, atI, ixN, cmpD, hx, mSet, isLent, intD, modF, fdivF, h0, h1, mPut, mRet]
  · have hg0 : 0 ≤ (y + 39373 * (z + 1)) ^ 5 % 2147483647 := Int.emod_nonneg _ (by decide)
    have hg1 : (y + 39373 * (z + 1)) ^ 5 % 2147483647 < 2147483647 := Int.emod_lt_of_pos _ (by decide)
    have hp : (y + 39373 * (z + 1)).natAbs < 18446744073709551616 := by omega
    refine ⟨((y + 39373 * (z + 1)) ^ 5 % 2147483647 * ((y + 39373 * (z + 1)) ^ 5 % 2147483647 % 40009 + 7) + (z + 1) * 7919) % 2147483629 / 64 % b, [.int x, .int y, .int (z + 1)], ?_, Int.emod_nonneg _ (by omega), Int.emod_lt_of_pos _ h0, _, _, _, rfl, a1, a2, a3, by omega, by omega⟩
    generalize hw : (y + 39373 * (z + 1)) ^ 5 % 2147483647 = w at hg0 hg1
    have hc : (-18446744073709551616 < w ∧ w < 18446744073709551616) ∨ (-18446744073709551616 < w % 40009 + 7 ∧ w % 40009 + 7 < 18446744073709551616) := .inl ⟨by omega, by omega⟩
    simp [F_L_take, m_L_take, runB, beginB, begin0, mSeq, mIfS, mB, mOp, mIxO, mC, mVar, isOwn, atI, ixN, cmpD, hx, mSet, isLent, intD, modF, fdivF, h0, h1, mPut, mRet, mNx, addD, mulD, mulF, powF, hp, hw, hc]
end Pl
namespace Pl
open PySem PySem.Spec PyProof.Rows L2 Kn
variable [Tbs]
/-! kinds of things -/
theorem kb_ll : kitB "list" "list" = some true := by decide +kernel
theorem kb_lt : kitB "list" "tuple" = some false := by decide +kernel
theorem kb_tl : kitB "tuple" "list" = some false := by decide +kernel
theorem kb_tt : kitB "tuple" "tuple" = some true := by decide +kernel
theorem kb_ls : kitB "list" "str" = some false := by decide +kernel
theorem kb_ts : kitB "tuple" "str" = some false := by decide +kernel
theorem kb_sl : kitB "str" "list" = some false := by decide +kernel
theorem kb_st : kitB "str" "tuple" = some false := by decide +kernel
theorem kb_ss : kitB "str" "str" = some true := by decide +kernel
theorem kb_il : kitB "int" "list" = some false := by decide +kernel
theorem kb_it : kitB "int" "tuple" = some false := by decide +kernel
theorem kb_is : kitB "int" "str" = some false := by decide +kernel
theorem kb_ii : kitB "int" "int" = some true := by decide +kernel
theorem kb_ib : kitB "int" "bool" = some false := by decide +kernel
theorem kb_bl : kitB "bool" "list" = some false := by decide +kernel
theorem kb_bt : kitB "bool" "tuple" = some false := by decide +kernel
theorem kb_bs : kitB "bool" "str" = some false := by decide +kernel
theorem kb_bi : kitB "bool" "int" = some true := by decide +kernel
theorem kb_bb : kitB "bool" "bool" = some true := by decide +kernel
theorem kb_nl : kitB "NoneType" "list" = some false := by decide +kernel
theorem kb_nt : kitB "NoneType" "tuple" = some false := by decide +kernel
theorem kb_ns : kitB "NoneType" "str" = some false := by decide +kernel
/-! comprehensions that only make -/
theorem lcL_map {tg : Mg} {tt : Mt} {te : Me} {vs : List Nat} {ρ0 : Rh} (f : D → D) : ∀ ds : List D, (∀ d ∈ ds, ∃ ρ1 ρ2, tg d ρ0 = some ρ1 ∧ tt ρ1 = some (true, ρ1) ∧ te ρ1 = some (f d, ρ2) ∧ wipeR ρ2 vs = ρ0) → lcL tg tt te vs ds ρ0 = some (ds.map f, ρ0)
  | [], _ => rfl
  | d :: ds, h => by
    obtain ⟨ρ1, ρ2, h1, h2, h3, h4⟩ := h d (List.mem_cons_self ..)
    have ih := lcL_map (tg := tg) (tt := tt) (te := te) (vs := vs) f ds fun e he => h e (List.mem_cons_of_mem _ he)
    rw [lcL, h1, Option.bind_some, h2, Option.bind_some, if_pos rfl, h3, Option.bind_some]
    show (lcL tg tt te vs ds (wipeR ρ2 vs)).map _ = _
    rw [h4, ih]
    rfl
/-! things without dicts, by their depth -/
mutual
def D.dep : D → Nat
  | .lst l => depA l + 1
  | .tup _ l => depA l + 1
  | _ => 0
def depA : List D → Nat
  | [] => 0
  | d :: ds => max d.dep (depA ds)
end
mutual
def D.ok : D → Bool
  | .lst l => decide (l.length ≤ 100000) && okA l
  | .tup _ l => decide (l.length ≤ 100000) && okA l
  | .dct _ _ => false
  | .dcT _ _ => false
  | .ins _ _ => false
  | _ => true
def okA : List D → Bool
  | [] => true
  | d :: ds => d.ok && okA ds
end
theorem depA_mem : ∀ {ds : List D} {d : D}, d ∈ ds → d.dep ≤ depA ds
  | e :: ds, d, h => by
    rcases List.mem_cons.mp h with rfl | h
    · exact Nat.le_max_left _ _
    · exact Nat.le_trans (depA_mem h) (Nat.le_max_right _ _)
theorem okA_mem : ∀ {ds : List D} {d : D}, okA ds = true → d ∈ ds → d.ok = true
  | e :: ds, d, h, hd => by
    have h : (e.ok && okA ds) = true := h
    rw [Bool.and_eq_true] at h
    rcases List.mem_cons.mp hd with rfl | hd
    · exact h.1
    · exact okA_mem h.2 hd
theorem prs_self : ∀ l : List D, prs l l = l.map fun d => .tup true [d, d]
  | [] => rfl
  | d :: l => by rw [prs, prs_self l]; rfl
theorem all_true : ∀ n : Nat, blsOf (List.replicate n (.bl true)) = some (List.replicate n true)
  | 0 => rfl
  | n + 1 => by
    show (blsOf (List.replicate n (.bl true))).map _ = _
    rw [all_true n]
    rfl
theorem same_refl : ∀ (n : Nat) (d : D), d.dep < n → d.ok = true → F_L_same n [d, d] = some (.bl true) := by
  intro n
  induction n with
  | zero => intro d h; omega
  | succ n ih =>
    intro d hd ho
    have seq : ∀ (l : List D), (∀ e ∈ l, F_L_same n [e, e] = some (.bl true)) → ∀ a b : Sl, lcL (tg2 2 3) mYes (mCall (F_L_same n) (mCons (mVar 2) (mCons (mVar 3) mNil))) [2, 3] (prs l l) [a, b, .un, .un] = some (List.replicate l.length (.bl true), [a, b, .un, .un]) := fun l hl a b => by
      rw [prs_self, lcL_map (f := fun _ => .bl true) _ (fun e he => ?_), List.map_map]
      · rw [show ((fun _ => D.bl true) ∘ fun d => D.tup true [d, d]) = fun _ => D.bl true from rfl, List.map_const']
      · obtain ⟨x, hx, rfl⟩ := List.mem_map.mp he
        exact ⟨[a, b, .val x, .val x], [a, b, .val x, .val x], rfl, rfl, by simp [mCall, mCons, mVar, mNil, hl x hx], rfl⟩
    cases d with
    | lst l =>
      have ho : l.length ≤ 100000 ∧ okA l = true := by simpa [D.ok] using ho
      have hp : (prs l l).length ≤ 100000 := by rw [prs_len]; omega
      have hl : ∀ e ∈ l, F_L_same n [e, e] = some (.bl true) := fun e he => ih e (by have := depA_mem he; simp only [D.dep] at hd; omega) (okA_mem ho.2 he)
      simp [F_L_same, m_L_same, runP, begin0, mSeq, mIfS, mB, mIsi2, isi2D, mVar, plainD, tyD, kb_ll, kb_lt, mOr, mOp, mIsi, isiD, neDD, eqB, eqSc, mNx, mCall, mCons, mNil, lenD, mRet, mL, mLc, zipD, isOwn, wipeR, unwipe, seq l hl, allD, all_true, hp]
    | tup w l =>
      have ho : l.length ≤ 100000 ∧ okA l = true := by simpa [D.ok] using ho
      have hp : (prs l l).length ≤ 100000 := by rw [prs_len]; omega
      have hl : ∀ e ∈ l, F_L_same n [e, e] = some (.bl true) := fun e he => ih e (by have := depA_mem he; simp only [D.dep] at hd; omega) (okA_mem ho.2 he)
      simp [F_L_same, m_L_same, runP, begin0, mSeq, mIfS, mB, mIsi2, isi2D, mVar, plainD, tyD, kb_tl, kb_tt, mOr, mOp, mIsi, isiD, neDD, eqB, eqSc, mNx, mCall, mCons, mNil, lenD, mRet, mL, mLc, zipD, isOwn, wipeR, unwipe, seq l hl, allD, all_true, hp]
    | non => simp [F_L_same, m_L_same, runP, begin0, mSeq, mIfS, mB, mIsi2, isi2D, mVar, plainD, tyD, kb_nl, kb_nt, kb_ns, mOr, mOp, mIsi, isiD, eqDD, eqB, eqSc, mNx, mRet, mC, isB, noneD, mAndV]
    | bl b => simp [F_L_same, m_L_same, runP, begin0, mSeq, mIfS, mB, mIsi2, isi2D, mVar, plainD, tyD, kb_bl, kb_bt, kb_bs, kb_bi, kb_bb, mOr, mOp, mIsi, isiD, eqDD, eqB, eqSc, mNx, mRet, mC, isB, noneD, mAndV]
    | int i => simp [F_L_same, m_L_same, runP, begin0, mSeq, mIfS, mB, mIsi2, isi2D, mVar, plainD, tyD, kb_il, kb_it, kb_is, kb_ii, kb_ib, mOr, mOp, mIsi, isiD, eqDD, eqB, eqSc, mNx, mRet, mC, isB, noneD, mAndV]
    | str x => simp [F_L_same, m_L_same, runP, begin0, mSeq, mIfS, mB, mIsi2, isi2D, mVar, plainD, tyD, kb_sl, kb_st, kb_ss, mOr, mOp, mIsi, isiD, eqDD, eqB, eqSc, mNx, mRet, mC, isB, noneD, mAndV]
    | dct _ _ => cases ho
    | dcT _ _ => cases ho
    | ins _ _ => cases ho
end Pl
namespace Pl
open PySem PySem.Spec PyProof.Rows L2 Kn
variable [Tbs]
def fstD : D → D
  | .lst (a :: _) => a
  | .tup _ (a :: _) => a
  | d => d
theorem fst_p (b : Bool) (p : Str × Str) : fstD (pD b p) = .str p.1 := by cases b <;> rfl
theorem tg_p {b : Bool} {p : Str × Str} {x : Sl} : tg2 1 2 (pD b p) [x, .un, .un] = some [x, .val (.str p.1), .val (.str p.2)] := by cases b <;> rfl
theorem people_ok {b : Bool} {c : List (Str × Str)} (h : c.length ≤ 100000) : F_people [cD b c] = some (.tup false ((c.map (·.1)).map D.str)) := by
  have hc : lcL (tg2 1 2) mYes (mVar 1) [1, 2] (c.map (pD b)) [.val (cD b c), .un, .un] = some ((c.map (pD b)).map fstD, [.val (cD b c), .un, .un]) := lcL_map fstD _ fun d hd => by
    obtain ⟨p, _, rfl⟩ := List.mem_map.mp hd
    exact ⟨_, _, tg_p, rfl, by rw [fst_p]; rfl, rfl⟩
  have e : (c.map (pD b)).map fstD = (c.map (·.1)).map D.str := by
    rw [List.map_map, List.map_map]
    exact List.map_congr_left fun p _ => fst_p b p
  rw [e] at hc
  simp [F_people, m_people, runP, begin0, mRet, mCall, mCons, mNil, mL, mLc, mIt, mVar, sq_it, isOwn, wipeR, unwipe, hc, h, tupleD]
/-- texts that can be laid -/
def Txs (xs : List Str) : Prop := ∀ x ∈ xs, PyData.strOk x = true
theorem lay_strs : ∀ {xs : List Str}, Txs xs → PyData.canLayAll0 (pyA (xs.map D.str)) = true
  | [], _ => rfl
  | x :: xs, h => by
    show (PyData.strOk x && PyData.canLayAll0 (pyA (xs.map D.str))) = true
    rw [h x (List.mem_cons_self ..), lay_strs fun y hy => h y (List.mem_cons_of_mem _ hy)]
    rfl
theorem dep_strs : ∀ xs : List Str, PyData.depthAll (pyA (xs.map D.str)) = 0
  | [] => rfl
  | x :: xs => by
    show max 0 (PyData.depthAll (pyA (xs.map D.str))) = 0
    rw [dep_strs xs]
    rfl
theorem sh_strs {xs : List Str} (h : Txs xs) : SeqAt.shaped (D.lst (xs.map D.str)).py = true := by
  unfold SeqAt.shaped
  rw [show (D.lst (xs.map D.str)).py.canLay0 = true from lay_strs h]
  show (true && decide (PyData.depthAll (pyA (xs.map D.str)) + 1 ≤ 64)) = true
  rw [dep_strs]
  rfl
theorem ne_strs {xs : List Str} (h : Txs xs) : neDD (.lst (xs.map D.str)) (.lst (xs.map D.str)) = some (.bl false) := by
  unfold neDD eqB
  show (if SeqAt.shaped (D.lst (xs.map D.str)).py = true ∧ SeqAt.shaped (D.lst (xs.map D.str)).py = true then some (PyData.eqv (D.lst (xs.map D.str)).py (D.lst (xs.map D.str)).py) else none).map _ = _
  rw [if_pos ⟨sh_strs h, sh_strs h⟩, SeqAt.eqv_refl (D.lst (xs.map D.str)).py (show PyData.canLay0 (.list (pyA (xs.map D.str))) = true from lay_strs h)]
  rfl
theorem txs_sort {xs : List Str} (h : Txs xs) : Txs (sortS xs) := fun x hx => h x ((sortS_perm xs).mem_iff.mp hx)
theorem mbs_ok {a b : D} {xs ys : List Str} (ha : seqD a = some (xs.map D.str)) (hb : seqD b = some (ys.map D.str)) (hx : xs.length < 64) (hp : xs.Perm ys) (ht : Txs xs) : F_must_be_same [a, b] = some .non := by
  have h1 : sortF [a] = some ((sortS xs).map D.str) := by simp [sortF, ha, strsOf_map, hx]
  have h2 : sortF [b] = some ((sortS xs).map D.str) := by simp [sortF, hb, strsOf_map, ← hp.length_eq, hx, sortS_same hp]
  simp [F_must_be_same, m_must_be_same, runP, begin0, mIfS, mB, mOp, mL, mCall, mCons, mNil, mVar, h1, h2, ne_strs (txs_sort ht), mNx]
/-- a word of calls of these people, written so or by lists -/
structure WordOk (folk : List Str) (w : List (List (Str × Str))) : Prop where
  few : folk.length < 64
  nd : folk.Nodup
  txs : Txs folk
  who : ∀ c ∈ w, c.map (·.1) = folk
  whom : ∀ c ∈ w, ∀ p ∈ c, p.2 ∈ folk
theorem WordOk.len {folk : List Str} {w : List (List (Str × Str))} (h : WordOk folk w) {c : List (Str × Str)} (hc : c ∈ w) : c.length ≤ 100000 := by
  have := h.who c hc
  have := congrArg List.length this
  rw [List.length_map] at this
  have := h.few
  omega
theorem for_keep {body : Ms} {a b : Sl} : ∀ (ds : List D) (s : Sl), (s = .un ∨ ∃ d, s = .val d) → (∀ d ∈ ds, body [a, b, .val d] = some (.nx [a, b, .val d])) → ∃ ρ, forL (setV 2) body ds [a, b, s] = some (.nx ρ)
  | [], s, _, _ => ⟨_, rfl⟩
  | d :: ds, s, hs, h => by
    have e : setV 2 d [a, b, s] = some [a, b, .val d] := by rcases hs with rfl | ⟨d', rfl⟩ <;> rfl
    obtain ⟨ρ, ih⟩ := for_keep (body := body) (a := a) (b := b) ds (.val d) (.inr ⟨d, rfl⟩) fun e he => h e (List.mem_cons_of_mem _ he)
    exact ⟨ρ, by rw [forL, e, Option.bind_some, h d (List.mem_cons_self ..), Option.bind_some]; exact ih⟩
theorem mbo_ok {folk : List Str} {w : List (List (Str × Str))} {b : Bool} {nm wd : D} (h : WordOk folk w) (hn : seqD nm = some (folk.map D.str)) (hw : itD wd = some (w.map (cD b))) : F_must_be_of [nm, wd] = some .non := by
  obtain ⟨ρ, e⟩ := for_keep (body := mEx (mCall F_must_be_same (mCons (mVar 0) (mCons (mCall F_people (mCons (mVar 2) mNil)) mNil)))) (a := .val nm) (b := .val wd) (w.map (cD b)) .un (.inl rfl) fun d hd => by
    obtain ⟨c, hc, rfl⟩ := List.mem_map.mp hd
    have hp := people_ok (b := b) (h.len hc)
    have hs : F_must_be_same [nm, .tup false ((c.map (·.1)).map D.str)] = some .non := mbs_ok hn rfl h.few (by rw [h.who c hc]) h.txs
    simp [mEx, mCall, mCons, mNil, mVar, hp, hs, -List.map_map]
  simp [F_must_be_of, m_must_be_of, runP, begin0, mFor, mIt, mVar, hw, e]
end Pl
namespace Pl
open PySem PySem.Spec PyProof.Rows L2 Kn
variable [Tbs]
/-! two walkers -/
def tell (c : List (Str × Str)) (a : Str) : Str := (c.lookup a).getD a
def stepM (c : List (Str × Str)) (p : Str × Str) : Str × Str := if tell c p.1 = tell c p.2 then p else (tell c p.1, tell c p.2)
def goM : List (List (Str × Str)) → Str × Str → List (Str × Str)
  | [], _ => []
  | c :: cs, p => stepM c p :: goM cs (stepM c p)
def walksM (w : List (List (Str × Str))) (p : Str × Str) : List (Str × Str) := p :: goM w.reverse p
theorem look_in : ∀ {c : List (Str × Str)} {a : Str}, a ∈ c.map (·.1) → ∃ p ∈ c, c.lookup a = some p.2
  | p :: c, a, h => by
    rw [List.lookup_cons]
    by_cases e : a = p.1
    · subst e
      rw [beq_self_eq_true]
      exact ⟨p, List.mem_cons_self .., rfl⟩
    · rw [beq_eq_false_iff_ne.mpr e]
      have h : a ∈ c.map (·.1) := ((List.mem_cons.mp h).resolve_left e)
      obtain ⟨q, hq, e2⟩ := look_in h
      exact ⟨q, List.mem_cons_of_mem _ hq, e2⟩
theorem tell_at {folk : List Str} {w : List (List (Str × Str))} (h : WordOk folk w) {c : List (Str × Str)} (hc : c ∈ w) {a : Str} (ha : a ∈ folk) : ixD (dctOf c) (.str a) = some (.str (tell c a)) ∧ tell c a ∈ folk := by
  obtain ⟨p, hp, e⟩ := look_in (c := c) (a := a) (by rw [h.who c hc]; exact ha)
  have e2 : tell c a = p.2 := by unfold tell; rw [e]; rfl
  refine ⟨?_, by rw [e2]; exact h.whom c hc p hp⟩
  show (keyD (.str a)).bind (fun k => look (c.map fun p => (Sum.inr p.1 : Key)) (c.map fun p => D.str p.2) k) = _
  show look (c.map fun p => (Sum.inr p.1 : Key)) (c.map fun p => D.str p.2) (Sum.inr a) = _
  rw [look_map, e, e2]
  rfl
theorem step_in {folk : List Str} {w : List (List (Str × Str))} (h : WordOk folk w) {c : List (Str × Str)} (hc : c ∈ w) {p : Str × Str} (h1 : p.1 ∈ folk) (h2 : p.2 ∈ folk) : (stepM c p).1 ∈ folk ∧ (stepM c p).2 ∈ folk := by
  unfold stepM
  split
  · exact ⟨h1, h2⟩
  · exact ⟨(tell_at h hc h1).2, (tell_at h hc h2).2⟩
def Plain (s : Sl) : Prop := s = .un ∨ ∃ d, s = .val d
theorem setV_plain {i : Nat} {d : D} {ρ : Rh} {s : Sl} (h : ρ[i]? = some s) (p : Plain s) : setV i d ρ = some (ρ.set i (.val d)) := by
  unfold setV
  rcases p with rfl | ⟨d', rfl⟩ <;> rw [h]
end Pl
namespace Pl
open PySem PySem.Spec PyProof.Rows L2 Kn
variable [Tbs]
/-! lists for tuples -/
mutual
def D.li : D → D
  | .lst l => .lst (liA l)
  | .tup _ l => .lst (liA l)
  | .non => .non
  | .bl b => .bl b
  | .int i => .int i
  | .str x => .str x
  | .dct k v => .dct k v
  | .dcT k v => .dcT k v
  | .ins k v => .ins k v
def liA : List D → List D
  | [] => []
  | d :: ds => d.li :: liA ds
end
theorem liA_map : ∀ l : List D, liA l = l.map D.li
  | [] => rfl
  | d :: l => by rw [liA, liA_map l]; rfl
theorem lists_ok : ∀ (n : Nat) (d : D), d.dep < n → d.ok = true → F_L_lists n [d] = some d.li := by
  intro n
  induction n with
  | zero => intro d h; omega
  | succ n ih =>
    intro d hd ho
    have seq : ∀ (l : List D) (a : Sl), (∀ e ∈ l, F_L_lists n [e] = some e.li) → lcL (setV 1) mYes (mCall (F_L_lists n) (mCons (mVar 1) mNil)) [1] l [a, .un] = some (liA l, [a, .un]) := fun l a hl => by
      rw [liA_map]
      exact lcL_map D.li l fun e he => ⟨[a, .val e], [a, .val e], rfl, rfl, by simp [mCall, mCons, mVar, mNil, hl e he], rfl⟩
    cases d with
    | lst l =>
      have ho : l.length ≤ 100000 ∧ okA l = true := by simpa [D.ok] using ho
      have hl : ∀ e ∈ l, F_L_lists n [e] = some e.li := fun e he => ih e (by have := depA_mem he; simp only [D.dep] at hd; omega) (okA_mem ho.2 he)
      simp [F_L_lists, m_L_lists, runP, begin0, mRet, mIf, mB, mIsi2, isi2D, mVar, plainD, tyD, kb_ll, kb_lt, mL, mLc, mIt, itD, isOwn, wipeR, unwipe, seq l _ hl, ho.1, D.li]
    | tup w l =>
      have ho : l.length ≤ 100000 ∧ okA l = true := by simpa [D.ok] using ho
      have hl : ∀ e ∈ l, F_L_lists n [e] = some e.li := fun e he => ih e (by have := depA_mem he; simp only [D.dep] at hd; omega) (okA_mem ho.2 he)
      simp [F_L_lists, m_L_lists, runP, begin0, mRet, mIf, mB, mIsi2, isi2D, mVar, plainD, tyD, kb_tl, kb_tt, mL, mLc, mIt, itD, isOwn, wipeR, unwipe, seq l _ hl, ho.1, D.li]
    | non => simp [F_L_lists, m_L_lists, runP, begin0, mRet, mIf, mB, mIsi2, isi2D, mVar, plainD, tyD, kb_nl, kb_nt, D.li]
    | bl b => simp [F_L_lists, m_L_lists, runP, begin0, mRet, mIf, mB, mIsi2, isi2D, mVar, plainD, tyD, kb_bl, kb_bt, D.li]
    | int i => simp [F_L_lists, m_L_lists, runP, begin0, mRet, mIf, mB, mIsi2, isi2D, mVar, plainD, tyD, kb_il, kb_it, D.li]
    | str x => simp [F_L_lists, m_L_lists, runP, begin0, mRet, mIf, mB, mIsi2, isi2D, mVar, plainD, tyD, kb_sl, kb_st, D.li]
    | dct _ _ => cases ho
    | dcT _ _ => cases ho
    | ins _ _ => cases ho
theorem li_word (w : List (List (Str × Str))) : (D.lst (w.map (cD false))).li = .lst (w.map (cD true)) := by
  have hp : ∀ p : Str × Str, (pD false p).li = pD true p := fun p => rfl
  have hc : ∀ c : List (Str × Str), (cD false c).li = cD true c := fun c => by
    show D.lst (liA (c.map (pD false))) = .lst (c.map (pD true))
    rw [liA_map, List.map_map]
    exact congrArg D.lst (List.map_congr_left fun p _ => hp p)
  show D.lst (liA (w.map (cD false))) = _
  rw [liA_map, List.map_map]
  exact congrArg D.lst (List.map_congr_left fun c _ => hc c)
end Pl
namespace Pl
open PySem PySem.Spec PyProof.Rows L2 Kn
variable [Tbs]
/-! draws -/
theorem at_in {α : Type} {l : List α} {r : Int} (h0 : 0 ≤ r) (h1 : r < l.length) : ∃ d ∈ l, atI l r = some d := by
  obtain ⟨k, rfl⟩ := Int.eq_ofNat_of_zero_le h0
  have hk : k < l.length := by omega
  exact ⟨l[k], List.getElem_mem hk, atI_nat (List.getElem?_eq_getElem hk)⟩
theorem of_ok {n : Nat} {bs xs : List D} (h : Box n bs) (hn : n < 1000000000) (h0 : 1 ≤ xs.length) (h1 : xs.length ≤ 1000) : ∃ d ∈ xs, ∃ bs', F_L_of bs [.lst xs] = some (d, bs') ∧ Box (n + 1) bs' := by
  obtain ⟨r, bs', e, r0, r1, hb⟩ := take_ok h hn (b := xs.length) (by omega) (by omega)
  obtain ⟨d, hd, ha⟩ := at_in r0 r1
  refine ⟨d, hd, bs', ?_, hb⟩
  simp [F_L_of, m_L_of, runB, beginB, begin0, mRet, mOp, mVar, mCallB, mMeth, isOwn, mCons, mNil, mCall, lenD, e, ixD, ha]
theorem ins_perm {α : Type} (l : List α) (k : Nat) (a : α) : (l.take k ++ [a] ++ l.drop k).Perm (a :: l) := by
  rw [List.append_assoc]
  refine (List.perm_append_comm).trans ?_
  rw [List.append_assoc, List.cons_append, List.nil_append]
  refine List.Perm.cons a ?_
  exact (List.perm_append_comm).trans (by rw [List.take_append_drop])
theorem strewn_loop {x1 : Sl} : ∀ (xs acc : List D) (n : Nat) (bs : List D) (s3 : Sl), Box n bs → n + xs.length < 1000000000 → acc.length + xs.length ≤ 1000 → Plain s3 →
    ∃ ys bs' t3, forL (setV 3) (mEx (mMeth 2 insF (mCons (mCallB 0 F_L_take (mCons (mOp addD (mLenO 2) (mC (.int 1))) mNil)) (mCons (mVar 3) mNil)))) xs [.own true bs, x1, .own false acc, s3] = some (.nx [.own true bs', x1, .own false ys, t3]) ∧ ys.Perm (xs ++ acc) ∧ Box (n + xs.length) bs'
  | [], acc, n, bs, s3, hb, _, _, _ => ⟨acc, bs, s3, rfl, List.Perm.refl _, hb⟩
  | d :: xs, acc, n, bs, s3, hb, hn, hl, hs => by
    simp at hn hl
    obtain ⟨r, bs1, e, r0, r1, hb1⟩ := take_ok hb (by omega) (b := (acc.length : Int) + 1) (by omega) (by omega)
    obtain ⟨ys, bs', t3, ih, hp, hb'⟩ := strewn_loop (x1 := x1) xs (acc.take r.toNat ++ [d] ++ acc.drop r.toNat) (n + 1) bs1 (.val d) hb1 (by omega) (by have := (ins_perm acc r.toNat d).length_eq; simp only [List.length_cons] at this; omega) (.inr ⟨d, rfl⟩)
    refine ⟨ys, bs', t3, ?_, ?_, ?_⟩
    · have eb : (mEx (mMeth 2 insF (mCons (mCallB 0 F_L_take (mCons (mOp addD (mLenO 2) (mC (.int 1))) mNil)) (mCons (mVar 3) mNil)))) [.own true bs, x1, .own false acc, .val d] = some (.nx [.own true bs1, x1, .own false (acc.take r.toNat ++ [d] ++ acc.drop r.toNat), .val d]) := by
        have h1 : acc.length < 100000 := by omega
        have h2 : r < 9223372036854775808 := by omega
        simp [mEx, mMeth, isOwn, mCons, mNil, mCallB, mOp, mLenO, mC, addD, e, mVar, insF, h1, r0, h2]
      rw [forL, setV_plain rfl hs, Option.bind_some]
      show (mEx _ [.own true bs, x1, .own false acc, .val d]).bind _ = _
      rw [eb, Option.bind_some]
      exact ih
    · refine hp.trans ?_
      refine (List.Perm.append_left xs (ins_perm acc r.toNat d)).trans ?_
      exact List.perm_middle
    · exact hb'.mono (by simp; omega)
theorem strewn_ok {n : Nat} {bs xs : List D} (h : Box n bs) (hn : n + xs.length < 1000000000) (hl : xs.length ≤ 1000) : ∃ ys bs', F_L_strewn bs [.lst xs] = some (.lst ys, bs') ∧ ys.Perm xs ∧ Box (n + xs.length) bs' := by
  obtain ⟨ys, bs', t3, e, hp, hb⟩ := strewn_loop (x1 := .val (.lst xs)) xs [] n bs .un h hn (by simpa using hl) (.inl rfl)
  refine ⟨ys, bs', ?_, by simpa using hp, hb⟩
  unfold F_L_strewn m_L_strewn
  generalize (mEx (mMeth 2 insF (mCons (mCallB 0 F_L_take (mCons (mOp addD (mLenO 2) (mC (.int 1))) mNil)) (mCons (mVar 3) mNil)))) = body at e ⊢
  simp [runB, beginB, begin0, mSeq, mSetO, mDisp, mNil, isLent, mFor, mIt, mVar, itD, e, mFz, mRet]
theorem perm_strs {ys : List D} {l : List Str} (h : ys.Perm (l.map D.str)) : ∃ zs : List Str, ys = zs.map D.str ∧ zs.Perm l := by
  let un : D → Str := fun v => match v with | .str z => z | _ => ""
  refine ⟨ys.map un, ?_, ?_⟩
  · rw [List.map_map]
    refine (List.map_id ys).symm.trans (List.map_congr_left fun v hv => ?_)
    obtain ⟨z, _, e⟩ := List.mem_map.mp (h.mem_iff.mp hv)
    rw [← e]
    rfl
  · have h2 := h.map un
    rw [List.map_map] at h2
    have e : l.map (un ∘ D.str) = l := (List.map_congr_left fun z _ => rfl).trans (List.map_id l)
    rw [e] at h2
    exact h2
end Pl
namespace Pl
open PySem PySem.Spec PyProof.Rows L2 Kn
variable [Tbs]
/-! a crew -/
def LT : Str := "abcdefghijklmnopqrstuvwxyz"
theorem mod_ok {i j : Int} (h : 0 < j) : intD modF (.int i) (.int j) = some (.int (i % j)) := by
  show (modF i j).map D.int = _
  unfold modF
  rw [if_pos h]
  rfl
theorem fdiv_ok {i j : Int} (h : 0 < j) (h1 : j < 1073741824) : intD fdivF (.int i) (.int j) = some (.int (i / j)) := by
  show (fdivF i j).map D.int = _
  unfold fdivF
  rw [if_pos ⟨h, h1⟩]
  rfl
theorem mul_ok {i j : Int} (h : -(2 ^ 64) < i) (h1 : i < 2 ^ 64) : mulD (.int i) (.int j) = some (.int (i * j)) := by
  show (mulF i j).map D.int = _
  unfold mulF
  rw [if_pos (.inl ⟨h, h1⟩)]
  rfl
theorem add_str {a b : Str} (h : a.length + b.length ≤ 100000) : addD (.str a) (.str b) = some (.str (a ++ b)) := if_pos h
theorem crew_body {s t i : Nat} {bs : List D} {m sz s8 : Sl} {acc : List D} (hs : s < 26) (ht : t ∈ [1, 3, 25]) (hi : i < 24) (hacc : acc.length < 1000) (p8 : Plain s8) :
    (mSeq (mSet 8 (mOp ixD (mVar 4) (mOp (intD modF) (mOp addD (mVar 6) (mOp mulD (mVar 7) (mOp (intD fdivF) (mVar 2) (mC (.int 2))))) (mC (.int 26)))))
    (mEx (mMeth 5 appF (mCons (mOp addD (mVar 8) (mOp ixD (mL (mDisp (mCons (mC (.str "")) (mCons (mC (.str "a")) (mCons (mC (.str "zz")) mNil))))) (mOp mulD (mOp (intD modF) (mVar 2) (mC (.int 2))) (mOp addD (mC (.int 1)) (mOp (intD modF) (mVar 6) (mC (.int 2))))))) mNil))))
      [.own true bs, m, .val (.int (i : Int)), sz, .val (.str "abcdefghijklmnopqrstuvwxyz"), .own false acc, .val (.int (s : Int)), .val (.int (t : Int)), s8] =
    some (.nx [.own true bs, m, .val (.int (i : Int)), sz, .val (.str "abcdefghijklmnopqrstuvwxyz"), .own false (acc ++ [.str (nm s t i)]), .val (.int (s : Int)), .val (.int (t : Int)), .val (.str ⟨#[97 + (s + t * (i / 2)) % 26]⟩)]) := by
  have hm : (s + t * (i / 2)) % 26 < 26 := Nat.mod_lt _ (by decide)
  have hmod : ((s : Int) + (t : Int) * ((i : Int) / 2)) % 26 = (((s + t * (i / 2)) % 26 : Nat) : Int) := by push_cast; rfl
  have ht' : t ≤ 25 := by simp at ht; omega
  have hx : ixD (.str "abcdefghijklmnopqrstuvwxyz") (.int (((s : Int) + (t : Int) * ((i : Int) / 2)) % 26)) = some (.str ⟨#[97 + (s + t * (i / 2)) % 26]⟩) := by
    rw [hmod]
    show (if ("abcdefghijklmnopqrstuvwxyz" : Str).length ≤ 100000 then (atI ("abcdefghijklmnopqrstuvwxyz" : Str).cps.toList _).map (fun c => D.str ⟨#[c]⟩) else none) = _
    rw [if_pos (by decide +kernel), let_at hm]
    rfl
  have ei : ixD (.lst [.str "", .str "a", .str "zz"]) (.int ((i : Int) % 2 * (1 + (s : Int) % 2))) = some (.str (sfx s i)) := by
    unfold sfx
    rcases Nat.mod_two_eq_zero_or_one i with h | h
    · rw [show (i : Int) % 2 = 0 by omega, if_pos h]
      simp [ixD, atI, ixN]
    · rcases Nat.mod_two_eq_zero_or_one s with h2 | h2
      · rw [show (i : Int) % 2 = 1 by omega, show (s : Int) % 2 = 0 by omega, if_neg (by omega), if_pos h2]
        rfl
      · rw [show (i : Int) % 2 = 1 by omega, show (s : Int) % 2 = 1 by omega, if_neg (by omega), if_neg (by omega)]
        rfl
  have e3 : addD (.str ⟨#[97 + (s + t * (i / 2)) % 26]⟩) (.str (sfx s i)) = some (.str (nm s t i)) := by
    rw [add_str, nm_eq]
    have : (sfx s i).length ≤ 2 := by
      unfold sfx
      split
      · decide
      · split <;> decide
    have : (⟨#[97 + (s + t * (i / 2)) % 26]⟩ : Str).length = 1 := rfl
    omega
  have l8 : isLent (some s8) = false := by rcases p8 with rfl | ⟨d, rfl⟩ <;> rfl
  refine v_seq (v_set (v_op rfl (v_op (v_op rfl (v_op rfl (v_op rfl rfl (fdiv_ok (by decide) (by decide))) (mul_ok (by omega) (by omega))) rfl) rfl (mod_ok (by decide))) hx) (by simp) l8) ?_
  refine v_ex (v_meth (ρ1 := [.own true bs, m, .val (.int (i : Int)), sz, .val (.str "abcdefghijklmnopqrstuvwxyz"), .own false acc, .val (.int (s : Int)), .val (.int (t : Int)), .val (.str ⟨#[97 + (s + t * (i / 2)) % 26]⟩)]) (l := false) (ds := acc) (ds' := acc ++ [.str (nm s t i)]) (d := .non) rfl (v_cons (v_op rfl (v_op (v_L (v_disp (v_cons rfl (v_cons rfl (v_cons rfl v_nil))) (by decide))) (v_op (v_op rfl rfl (mod_ok (j := 2) (by decide))) (v_op rfl (v_op rfl rfl (mod_ok (j := 2) (by decide))) rfl) (mul_ok (by omega) (by omega))) ei) e3) v_nil) rfl ?_)
  show (if acc.length < 100000 then some (D.non, acc ++ [.str (nm s t i)]) else none) = _
  rw [if_pos (by omega)]
theorem crew_loop {s t : Nat} {bs : List D} {m sz : Sl} (hs : s < 26) (ht : t ∈ [1, 3, 25]) : ∀ (k i : Nat) (s2 s8 : Sl), i + k ≤ 24 → Plain s2 → Plain s8 → ∃ t2 t8,
    forL (setV 2) (mSeq (mSet 8 (mOp ixD (mVar 4) (mOp (intD modF) (mOp addD (mVar 6) (mOp mulD (mVar 7) (mOp (intD fdivF) (mVar 2) (mC (.int 2))))) (mC (.int 26)))))
    (mEx (mMeth 5 appF (mCons (mOp addD (mVar 8) (mOp ixD (mL (mDisp (mCons (mC (.str "")) (mCons (mC (.str "a")) (mCons (mC (.str "zz")) mNil))))) (mOp mulD (mOp (intD modF) (mVar 2) (mC (.int 2))) (mOp addD (mC (.int 1)) (mOp (intD modF) (mVar 6) (mC (.int 2))))))) mNil))))
      ((List.range' i k).map fun (j : Nat) => D.int (j : Int)) [.own true bs, m, s2, sz, .val (.str "abcdefghijklmnopqrstuvwxyz"), .own false (((List.range i).map (nm s t)).map D.str), .val (.int (s : Int)), .val (.int (t : Int)), s8] =
    some (.nx [.own true bs, m, t2, sz, .val (.str "abcdefghijklmnopqrstuvwxyz"), .own false (((List.range (i + k)).map (nm s t)).map D.str), .val (.int (s : Int)), .val (.int (t : Int)), t8])
  | 0, i, s2, s8, _, _, _ => ⟨s2, s8, rfl⟩
  | k + 1, i, s2, s8, hk, p2, p8 => by
    obtain ⟨t2, t8, ih⟩ := crew_loop (bs := bs) (m := m) (sz := sz) hs ht k (i + 1) (.val (.int (i : Int))) (.val (.str ⟨#[97 + (s + t * (i / 2)) % 26]⟩)) (by omega) (.inr ⟨_, rfl⟩) (.inr ⟨_, rfl⟩)
    refine ⟨t2, t8, ?_⟩
    rw [List.range'_succ, List.map_cons]
    refine v_forC (setV_plain rfl p2) (crew_body hs ht (by omega) (by simp; omega) p8) ?_
    have e : (((List.range i).map (nm s t)).map D.str) ++ [D.str (nm s t i)] = ((List.range (i + 1)).map (nm s t)).map D.str := by rw [List.range_succ, List.map_append, List.map_append]; rfl
    rw [e, ih, show i + 1 + k = i + (k + 1) by omega]
theorem rng1_ok {k : Nat} (h : k < 1000000) : rng1 [.int (k : Int)] = some ((List.range k).map fun (j : Nat) => D.int (j : Int)) := by
  have h1 : (-4611686018427387904 : Int) ≤ (k : Int) ∧ (k : Int) < 4611686018427387904 := ⟨by omega, by omega⟩
  simp [rng1, h1, rng]
theorem crew_ok {n m : Nat} {bs : List D} (h : Box n bs) (hn : n + 100 < 1000000000) (h1 : 1 ≤ m) (h2 : m ≤ 24) : ∃ ys : List Str, ys.Nodup ∧ 1 ≤ ys.length ∧ ys.length ≤ m ∧ (∀ z ∈ ys, Nm z ∧ z ≠ "qqq") ∧ ∃ bs', F_L_crew bs [.int m] = some (.lst (ys.map D.str), bs') ∧ Box (n + 30) bs' := by
  obtain ⟨r, bs1, e1, r0, r1, hb1⟩ := take_ok h (by omega) (b := m) (by omega) (by omega)
  obtain ⟨s, bs2, e2, s0, s1, hb2⟩ := take_ok hb1 (by omega) (b := 26) (by omega) (by omega)
  obtain ⟨q, bs3, e3, q0, q1, hb3⟩ := take_ok hb2 (by omega) (b := 3) (by omega) (by omega)
  obtain ⟨k, rfl⟩ := Int.eq_ofNat_of_zero_le r0
  obtain ⟨s, rfl⟩ := Int.eq_ofNat_of_zero_le s0
  have ht : ∃ t : Nat, t ∈ [1, 3, 25] ∧ ixD (.lst [.int 1, .int 3, .int 25]) (.int q) = some (.int (t : Int)) := by
    rcases (show q = 0 ∨ q = 1 ∨ q = 2 by omega) with rfl | rfl | rfl
    · exact ⟨1, by simp, rfl⟩
    · exact ⟨3, by simp, rfl⟩
    · exact ⟨25, by simp, rfl⟩
  obtain ⟨t, ht, e4⟩ := ht
  obtain ⟨t2, t8, e5⟩ := crew_loop (s := s) (t := t) (bs := bs3) (m := .val (.int m)) (sz := .val (.int (1 + (k : Int)))) (by omega) ht (k + 1) 0 .un .un (by omega) (.inl rfl) (.inl rfl)
  have hlen : (((List.range (0 + (k + 1))).map (nm s t)).map D.str).length = k + 1 := by simp
  have hk : k + 1 ≤ 24 := by omega
  obtain ⟨ys, bs', e6, hp, hb⟩ := strewn_ok (xs := ((List.range (0 + (k + 1))).map (nm s t)).map D.str) hb3 (by rw [hlen]; omega) (by rw [hlen]; omega)
  obtain ⟨zs, rfl, hz⟩ := perm_strs hp
  have hl : zs.length = k + 1 := by rw [hz.length_eq]; simp
  refine ⟨zs, ?_, by omega, by omega, fun z hzz => ?_, bs', ?_, hb.mono (by rw [hlen]; omega)⟩
  · exact hz.nodup_iff.mpr (nm_nodup (by omega) ht (by omega))
  · obtain ⟨i, _, rfl⟩ := List.mem_map.mp (hz.mem_iff.mp hzz)
    exact ⟨nm_nm s t i, nm_q⟩
  · have hr : rng1 [.int (1 + (k : Int))] = some ((List.range' 0 (k + 1)).map fun (j : Nat) => D.int (j : Int)) := by
      have e : (1 + (k : Int)) = ((k + 1 : Nat) : Int) := by omega
      rw [e, rng1_ok (by omega), List.range_eq_range']
    refine v_runB rfl (v_seq (v_par3 (v_parV (v_op rfl (v_callB rfl (v_cons rfl v_nil) rfl e1) rfl) (v_parV rfl (v_parF (v_disp v_nil (by decide)) v_parN))) (by simp [beginB, begin0]) (by simp [beginB, begin0]) (by simp [beginB, begin0]) rfl rfl rfl)
      (v_seq (v_par2 (v_parV (v_callB rfl (v_cons rfl v_nil) rfl e2) (v_parV (v_op (v_L (v_disp (v_cons rfl (v_cons rfl (v_cons rfl v_nil))) (by decide))) (v_callB rfl (v_cons rfl v_nil) rfl e3) e4) v_parN)) (by simp [beginB, begin0]) (by simp [beginB, begin0]) rfl rfl)
      (v_seq (v_for (v_call (v_cons rfl v_nil) hr) e5) (v_frz rfl (v_ret (v_callB rfl (v_cons rfl v_nil) rfl e6)))))) rfl
end Pl
namespace Pl
open PySem PySem.Spec PyProof.Rows L2 Kn
variable [Tbs]
/-! a call by draws -/
theorem lent_plain {s : Sl} (h : Plain s) : isLent (some s) = false := by rcases h with rfl | ⟨d, rfl⟩ <;> rfl
theorem tg2_plain {i j : Nat} {a b : D} {w : Bool} {ρ : Rh} {s t : Sl} (hi : ρ[i]? = some s) (hj : (ρ.set i (.val a))[j]? = some t) (ps : Plain s) (pt : Plain t) : tg2 i j (.tup w [a, b]) ρ = some ((ρ.set i (.val a)).set j (.val b)) := by
  show setAll [i, j] [a, b] ρ = _
  rw [setAll, setV_plain hi ps, Option.bind_some, setAll, setV_plain hj pt]
  rfl
theorem ask_loop {fs some' sw : List Str} {srt : Nat} {x1 : Sl} (hso : srt < 6) (hf1 : fs.length ≤ 100) (h0 : 1 ≤ some'.length) (h1 : some'.length ≤ 100) (hsub : ∀ z ∈ some', z ∈ fs) (hsw : sw.length = fs.length) (hsw2 : ∀ z ∈ sw, z ∈ fs) :
    ∀ (rest : List Str) (i : Nat) (acc : List (Str × Str)) (n : Nat) (bs : List D) (s7 s8 s9 s10 s11 : Sl), fs = acc.map (·.1) ++ rest → i = acc.length → (∀ p ∈ acc, p.2 ∈ fs) → Box n bs → n + 3 * rest.length < 1000000000 → Plain s7 → Plain s8 → Plain s9 → Plain s10 → Plain s11 →
    ∃ (c : List (Str × Str)) (bs' : List D) (t7 t8 t9 t10 t11 : Sl), forL (tg2 7 8) (mSeq (mPar2 10 11 [.v (mCallB 0 F_L_of (mCons (mVar 3) mNil)), .v (mCallB 0 F_L_of (mCons (mVar 5) mNil))])
    (mSeq (mSet 9 (mIf (mB (mOp eqDD (mCallB 0 F_L_take (mCons (mC (.int 4)) mNil)) (mC (.int 0)))) (mVar 10) (mVar 8)))
    (mEx (mMeth 2 appF (mCons (mTup false (mCons (mVar 8) (mCons (mOp ixD (mL (mDisp (mCons (mVar 10) (mCons (mVar 10) (mCons (mVar 11) (mCons (mVar 9) (mCons (mOp ixD (mVar 6) (mVar 7)) (mCons (mVar 11) mNil)))))))) (mVar 4)) mNil))) mNil)))))
      (prs ((List.range' i rest.length).map fun (j : Nat) => D.int (j : Int)) (rest.map D.str)) [.own true bs, x1, .own false (acc.map (pD false)), .val (.lst (fs.map D.str)), .val (.int (srt : Int)), .val (.lst (some'.map D.str)), .val (.lst (sw.map D.str)), s7, s8, s9, s10, s11] =
      some (.nx [.own true bs', x1, .own false (c.map (pD false)), .val (.lst (fs.map D.str)), .val (.int (srt : Int)), .val (.lst (some'.map D.str)), .val (.lst (sw.map D.str)), t7, t8, t9, t10, t11]) ∧ c.map (·.1) = fs ∧ (∀ p ∈ c, p.2 ∈ fs) ∧ Box (n + 3 * rest.length) bs'
  | [], i, acc, n, bs, s7, s8, s9, s10, s11, hf, _, ha, hb, _, _, _, _, _, _ => ⟨acc, bs, s7, s8, s9, s10, s11, rfl, by simpa using hf.symm, ha, hb⟩
  | z :: rest, i, acc, n, bs, s7, s8, s9, s10, s11, hf, hi, ha, hb, hn, p7, p8, p9, p10, p11 => by
    have hfl : fs.length = acc.length + (rest.length + 1) := by rw [hf]; simp
    simp only [List.length_cons] at hn
    obtain ⟨d, hd, bs1, e1, hb1⟩ := of_ok (xs := fs.map D.str) hb (by omega) (by simp; omega) (by simp; omega)
    obtain ⟨a, haf, rfl⟩ := List.mem_map.mp hd
    obtain ⟨d2, hd2, bs2, e2, hb2⟩ := of_ok (xs := some'.map D.str) hb1 (by omega) (by simp; omega) (by simp; omega)
    obtain ⟨b, hbf, rfl⟩ := List.mem_map.mp hd2
    obtain ⟨r, bs3, e3, r0, r1, hb3⟩ := take_ok hb2 (by omega) (b := 4) (by omega) (by omega)
    have hz : z ∈ fs := by rw [hf]; simp
    obtain ⟨sd, hsd, e4⟩ : ∃ sd, sd ∈ fs ∧ (mIf (mB (mOp eqDD (mCallB 0 F_L_take (mCons (mC (.int 4)) mNil)) (mC (.int 0)))) (mVar 10) (mVar 8)) [.own true bs2, x1, .own false (acc.map (pD false)), .val (.lst (fs.map D.str)), .val (.int (srt : Int)), .val (.lst (some'.map D.str)), .val (.lst (sw.map D.str)), .val (.int (i : Int)), .val (.str z), s9, .val (.str a), .val (.str b)] =
        some (.str sd, [.own true bs3, x1, .own false (acc.map (pD false)), .val (.lst (fs.map D.str)), .val (.int (srt : Int)), .val (.lst (some'.map D.str)), .val (.lst (sw.map D.str)), .val (.int (i : Int)), .val (.str z), s9, .val (.str a), .val (.str b)]) := by
      by_cases hr : r = 0
      · exact ⟨a, haf, v_ifT (v_B (v_op (v_callB rfl (v_cons rfl v_nil) rfl e3) rfl (by rw [hr]; rfl))) rfl⟩
      · exact ⟨z, hz, v_ifF (v_B (v_op (v_callB rfl (v_cons rfl v_nil) rfl e3) rfl (by show some (D.bl (decide (r = 0))) = _; rw [decide_eq_false hr]))) rfl⟩
    have hsi : i < sw.length := by omega
    have e5 : ixD (.lst (sw.map D.str)) (.int (i : Int)) = some (.str sw[i]) := atI_nat (by simp [hsi])
    have hsm : sw[i] ∈ fs := hsw2 _ (List.getElem_mem hsi)
    obtain ⟨g, hg, e6⟩ : ∃ g, g ∈ fs ∧ ixD (.lst [.str a, .str a, .str b, .str sd, .str sw[i], .str b]) (.int (srt : Int)) = some (.str g) := by
      have hbf' := hsub b hbf
      rcases (show srt = 0 ∨ srt = 1 ∨ srt = 2 ∨ srt = 3 ∨ srt = 4 ∨ srt = 5 by omega) with rfl | rfl | rfl | rfl | rfl | rfl
      · exact ⟨a, haf, rfl⟩
      · exact ⟨a, haf, rfl⟩
      · exact ⟨b, hbf', rfl⟩
      · exact ⟨sd, hsd, rfl⟩
      · exact ⟨sw[i], hsm, rfl⟩
      · exact ⟨b, hbf', rfl⟩
    obtain ⟨c, bs', t7, t8, t9, t10, t11, ih, hc1, hc2, hb'⟩ := ask_loop (x1 := x1) hso hf1 h0 h1 hsub hsw hsw2 rest (i + 1) (acc ++ [(z, g)]) (n + 1 + 1 + 1) bs3 (.val (.int (i : Int))) (.val (.str z)) (.val (.str sd)) (.val (.str a)) (.val (.str b)) (by rw [hf]; simp) (by simp; omega) (fun p hp => by
      rcases List.mem_append.mp hp with h | h
      · exact ha p h
      · rw [List.mem_singleton.mp h]; exact hg) hb3 (by omega) (.inr ⟨_, rfl⟩) (.inr ⟨_, rfl⟩) (.inr ⟨_, rfl⟩) (.inr ⟨_, rfl⟩) (.inr ⟨_, rfl⟩)
    refine ⟨c, bs', t7, t8, t9, t10, t11, ?_, hc1, hc2, hb'.mono (by simp only [List.length_cons]; omega)⟩
    show forL _ _ (D.tup true [.int (i : Int), .str z] :: prs ((List.range' (i + 1) rest.length).map fun (j : Nat) => D.int (j : Int)) (rest.map D.str)) _ = _
    refine v_forC (ρ1 := [.own true bs, x1, .own false (acc.map (pD false)), .val (.lst (fs.map D.str)), .val (.int (srt : Int)), .val (.lst (some'.map D.str)), .val (.lst (sw.map D.str)), .val (.int (i : Int)), .val (.str z), s9, s10, s11]) (tg2_plain rfl rfl p7 p8) (v_seq (ρ1 := [.own true bs2, x1, .own false (acc.map (pD false)), .val (.lst (fs.map D.str)), .val (.int (srt : Int)), .val (.lst (some'.map D.str)), .val (.lst (sw.map D.str)), .val (.int (i : Int)), .val (.str z), s9, .val (.str a), .val (.str b)])
      (v_par2 (ρ1 := [.own true bs2, x1, .own false (acc.map (pD false)), .val (.lst (fs.map D.str)), .val (.int (srt : Int)), .val (.lst (some'.map D.str)), .val (.lst (sw.map D.str)), .val (.int (i : Int)), .val (.str z), s9, s10, s11]) (v_parV (v_callB rfl (v_cons rfl v_nil) rfl e1) (v_parV (v_callB rfl (v_cons rfl v_nil) rfl e2) v_parN)) (by simp) (by simp) (lent_plain p10) (lent_plain p11))
      (v_seq (v_set e4 (by simp) (lent_plain p9)) (v_ex (v_meth (ρ1 := [.own true bs3, x1, .own false (acc.map (pD false)), .val (.lst (fs.map D.str)), .val (.int (srt : Int)), .val (.lst (some'.map D.str)), .val (.lst (sw.map D.str)), .val (.int (i : Int)), .val (.str z), .val (.str sd), .val (.str a), .val (.str b)]) rfl (v_cons (v_tup (v_cons rfl (v_cons (v_op (v_L (v_disp (v_cons rfl (v_cons rfl (v_cons rfl (v_cons rfl (v_cons (v_op rfl rfl e5) (v_cons rfl v_nil)))))) (by simp))) rfl e6) v_nil)) (by simp)) v_nil) rfl (ds' := (acc ++ [(z, g)]).map (pD false)) (d := .non) ?_)))) ih
    show (if (acc.map (pD false)).length < 100000 then some (D.non, acc.map (pD false) ++ [pD false (z, g)]) else none) = _
    rw [if_pos (by simp; omega), List.map_append]
    rfl
theorem ask_ok {n : Nat} {bs : List D} {ys : List Str} (h : Box n bs) (hn : n + 1000 < 1000000000) (h0 : 1 ≤ ys.length) (h1 : ys.length ≤ 60) : ∃ c : List (Str × Str), c.map (·.1) = sortS ys ∧ (∀ p ∈ c, p.2 ∈ sortS ys) ∧ ∃ bs', F_L_ask bs [.lst (ys.map D.str)] = some (cD false c, bs') ∧ Box (n + 400) bs' := by
  have hf : sortF [.lst (ys.map D.str)] = some ((sortS ys).map D.str) := by simp [sortF, seqD, strsOf_map, show ys.length < 64 by omega]
  have hl := sortS_len ys
  obtain ⟨r, bs1, e1, r0, r1, hb1⟩ := take_ok h (by omega) (b := 6) (by omega) (by omega)
  obtain ⟨y1, bs2, e2, hp1, hb2⟩ := strewn_ok (xs := (sortS ys).map D.str) hb1 (by simp; omega) (by simp; omega)
  obtain ⟨z1, rfl, hz1⟩ := perm_strs hp1
  obtain ⟨q, bs3, e3, q0, q1, hb3⟩ := take_ok hb2 (by simp; omega) (b := 3) (by omega) (by omega)
  obtain ⟨y2, bs4, e4, hp2, hb4⟩ := strewn_ok (xs := (sortS ys).map D.str) hb3 (by simp; omega) (by simp; omega)
  obtain ⟨z2, rfl, hz2⟩ := perm_strs hp2
  obtain ⟨srt, rfl⟩ := Int.eq_ofNat_of_zero_le r0
  obtain ⟨k, rfl⟩ := Int.eq_ofNat_of_zero_le q0
  have l1 : z1.length = ys.length := by rw [hz1.length_eq, hl]
  have l2 : z2.length = ys.length := by rw [hz2.length_eq, hl]
  have ec : cutL (z1.map D.str) none (some (1 + (k : Int))) = (z1.take (1 + k)).map D.str := by
    unfold cutL
    rw [show (1 + (k : Int)) = ((1 + k : Nat) : Int) by omega, HT.sIx_nat, HT.sIx_none, List.drop_zero, Nat.sub_zero, ← List.map_take, List.length_map]
    congr 1
    by_cases h : 1 + k ≤ z1.length
    · rw [Nat.min_eq_left h]
    · rw [Nat.min_eq_right (by omega), List.take_of_length_le (Nat.le_refl _), List.take_of_length_le (by omega)]
  obtain ⟨c, bs', t7, t8, t9, t10, t11, e5, hc1, hc2, hb5⟩ := ask_loop (fs := sortS ys) (some' := z1.take (1 + k)) (sw := z2) (srt := srt) (x1 := .val (.lst (ys.map D.str))) (by omega) (by omega) (by rw [List.length_take]; omega) (by rw [List.length_take]; omega) (fun z hz => hz1.mem_iff.mp (List.mem_of_mem_take hz)) (by omega) (fun z hz => hz2.mem_iff.mp hz) (sortS ys) 0 [] _ bs4 .un .un .un .un .un rfl rfl (fun p hp => nomatch hp) hb4 (by simp; omega) (.inl rfl) (.inl rfl) (.inl rfl) (.inl rfl) (.inl rfl)
  refine ⟨c, hc1, hc2, bs', ?_, hb5.mono (by simp; omega)⟩
  have hen : enD [.lst ((sortS ys).map D.str)] = some (prs ((List.range' 0 (sortS ys).length).map fun (j : Nat) => D.int (j : Int)) ((sortS ys).map D.str)) := by
    simp [enD, seqD, nums, List.range_eq_range']
  refine v_runB rfl (v_seq (ρ1 := [.own true bs1, .val (.lst (ys.map D.str)), .un, .val (.lst ((sortS ys).map D.str)), .val (.int (srt : Int)), .un, .un, .un, .un, .un, .un, .un]) (v_par2 (ρ1 := [.own true bs1, .val (.lst (ys.map D.str)), .un, .un, .un, .un, .un, .un, .un, .un, .un, .un]) (v_parV (v_L (v_call (v_cons rfl v_nil) hf)) (v_parV (v_callB rfl (v_cons rfl v_nil) rfl e1) v_parN)) (by simp) (by simp) rfl rfl)
    (v_seq (ρ1 := [.own true bs4, .val (.lst (ys.map D.str)), .un, .val (.lst ((sortS ys).map D.str)), .val (.int (srt : Int)), .val (.lst ((z1.take (1 + k)).map D.str)), .val (.lst (z2.map D.str)), .un, .un, .un, .un, .un]) (v_par2 (ρ1 := [.own true bs4, .val (.lst (ys.map D.str)), .un, .val (.lst ((sortS ys).map D.str)), .val (.int (srt : Int)), .un, .un, .un, .un, .un, .un, .un]) (v_parV (ρ1 := [.own true bs3, .val (.lst (ys.map D.str)), .un, .val (.lst ((sortS ys).map D.str)), .val (.int (srt : Int)), .un, .un, .un, .un, .un, .un, .un]) (v_L (ds := (z1.take (1 + k)).map D.str) ?_) (v_parV (v_callB rfl (v_cons rfl v_nil) rfl e4) v_parN)) (by simp) (by simp) rfl rfl)
    (v_seq (v_setO (v_disp v_nil (by decide)) (by simp) rfl) (v_seq (v_for (v_call (v_cons rfl v_nil) hen) e5) (v_frz rfl (v_ret (v_call (v_cons rfl v_nil) rfl))))))) rfl
  rw [← ec]
  exact v_sl (v_callB rfl (v_cons rfl v_nil) rfl e2) rfl (v_moS (v_op rfl (v_callB (ρ1 := [.own true bs2, .val (.lst (ys.map D.str)), .un, .val (.lst ((sortS ys).map D.str)), .val (.int (srt : Int)), .un, .un, .un, .un, .un, .un, .un]) rfl (v_cons rfl v_nil) rfl e3) (show addD (.int 1) (.int (k : Int)) = some (.int (1 + (k : Int))) from rfl)))
theorem asks_loop {ys : List Str} {x2 : Sl} (h0 : 1 ≤ ys.length) (h1 : ys.length ≤ 60) : ∀ (ds : List D) (n : Nat) (bs : List D), Box n bs → n + 400 * ds.length + 2000 < 1000000000 →
    ∃ (w : List (List (Str × Str))) (bs' : List D), lcL (setV 3) mYes (mCallB 0 F_L_ask (mCons (mVar 1) mNil)) [3] ds [.own true bs, .val (.lst (ys.map D.str)), x2, .un] = some (w.map (cD false), [.own true bs', .val (.lst (ys.map D.str)), x2, .un]) ∧ w.length = ds.length ∧ (∀ c ∈ w, c.map (·.1) = sortS ys ∧ ∀ p ∈ c, p.2 ∈ sortS ys) ∧ Box (n + 400 * ds.length) bs'
  | [], n, bs, hb, _ => ⟨[], bs, rfl, rfl, fun c hc => (nomatch hc), hb⟩
  | d :: ds, n, bs, hb, hn => by
    simp only [List.length_cons] at hn
    obtain ⟨c, hc1, hc2, bs1, e, hb1⟩ := ask_ok hb (by omega) h0 h1
    obtain ⟨w, bs', ih, hl, hw, hb'⟩ := asks_loop (x2 := x2) h0 h1 ds (n + 400) bs1 hb1 (by omega)
    refine ⟨c :: w, bs', v_lcC (ρ5 := []) (ρ1 := [.own true bs, .val (.lst (ys.map D.str)), x2, .val d]) rfl rfl (v_callB rfl (v_cons rfl v_nil) rfl e) ih, by simp [hl], fun q hq => ?_, hb'.mono (by simp only [List.length_cons]; omega)⟩
    rcases List.mem_cons.mp hq with rfl | hq
    · exact ⟨hc1, hc2⟩
    · exact hw q hq
theorem asks_ok {n m : Nat} {bs : List D} {ys : List Str} (h : Box n bs) (hn : n + 100000 < 1000000000) (h0 : 1 ≤ ys.length) (h1 : ys.length ≤ 60) (hm : m ≤ 60) : ∃ w : List (List (Str × Str)), w.length ≤ m ∧ (∀ c ∈ w, c.map (·.1) = sortS ys ∧ ∀ p ∈ c, p.2 ∈ sortS ys) ∧ ∃ bs', F_L_asks bs [.lst (ys.map D.str), .int m] = some (.lst (w.map (cD false)), bs') ∧ Box (n + 30000) bs' := by
  obtain ⟨r, bs1, e1, r0, r1, hb1⟩ := take_ok h (by omega) (b := (m : Int) + 1) (by omega) (by omega)
  obtain ⟨k, rfl⟩ := Int.eq_ofNat_of_zero_le r0
  have hr := rng1_ok (k := k) (by omega)
  obtain ⟨w, bs', e2, hl, hw, hb⟩ := asks_loop (x2 := .val (.int m)) h0 h1 ((List.range k).map fun (j : Nat) => D.int (j : Int)) (n + 1) bs1 hb1 (by simp; omega)
  refine ⟨w, by rw [hl]; simp; omega, hw, bs', ?_, hb.mono (by simp; omega)⟩
  exact v_runB rfl (v_ret (v_L (v_lc (ρ1 := [.own true bs1, .val (.lst (ys.map D.str)), .val (.int m), .un]) (v_call (v_cons (v_callB rfl (v_cons (v_op rfl rfl rfl) v_nil) rfl e1) v_nil) hr) rfl (by simp; omega) e2))) rfl
end Pl
namespace Pl
open PySem PySem.Spec PyProof.Rows L2 Kn
variable [Tbs]
/-! the row behind a call -/
abbrev Cl := List (Str × Str)
def keyM (folk : List Str) (c : Cl) (x : Str) : Nat := folk.idxOf (tell c x)
def leK (folk : List Str) (c : Cl) (a b : Str) : Bool := decide (keyM folk c a ≤ keyM folk c b)
def ledM (folk : List Str) (c : Cl) : List Str := folk.mergeSort (leK folk c)
/-- a is ahead of b behind the call -/
def Ahd (folk : List Str) (c : Cl) (a b : Str) : Prop := keyM folk c a < keyM folk c b ∨ (keyM folk c a = keyM folk c b ∧ folk.idxOf a < folk.idxOf b)
theorem led_perm (folk : List Str) (c : Cl) : (ledM folk c).Perm folk := List.mergeSort_perm _ _
theorem sub_idx {α : Type} [BEq α] [LawfulBEq α] : ∀ {l : List α} {a b : α}, l.idxOf a < l.idxOf b → b ∈ l → List.Sublist [a, b] l
  | [], _, _, _, h => nomatch h
  | x :: l, a, b, h, hb => by
    rw [List.idxOf_cons, List.idxOf_cons] at h
    cases e : (x == a) with
    | true =>
      obtain rfl := eq_of_beq e
      cases e2 : (x == b) with
      | true =>
        rw [e2] at h
        exact absurd h (Nat.not_lt_zero _)
      | false =>
        have hm : b ∈ l := (List.mem_cons.mp hb).resolve_left fun z => by rw [z, beq_self_eq_true] at e2; cases e2
        exact (List.singleton_sublist.mpr hm).cons_cons x
    | false =>
      rw [e] at h
      cases e2 : (x == b) with
      | true =>
        rw [e2] at h
        exact absurd h (Nat.not_lt_zero _)
      | false =>
        rw [e2] at h
        have h : l.idxOf a + 1 < l.idxOf b + 1 := h
        have hm : b ∈ l := (List.mem_cons.mp hb).resolve_left fun z => by rw [z, beq_self_eq_true] at e2; cases e2
        exact (sub_idx (by omega) hm).cons x
theorem idx_sub {α : Type} [BEq α] [LawfulBEq α] : ∀ {l : List α} {a b : α}, l.Nodup → List.Sublist [a, b] l → l.idxOf a < l.idxOf b
  | [], _, _, _, h => nomatch h
  | x :: l, a, b, nd, h => by
    rw [List.nodup_cons] at nd
    rw [List.idxOf_cons, List.idxOf_cons]
    cases h with
    | cons _ h =>
      have ha : a ∈ l := h.subset (by simp)
      have hb : b ∈ l := h.subset (by simp)
      have e1 : (x == a) = false := beq_eq_false_iff_ne.mpr fun z => nd.1 (z ▸ ha)
      have e2 : (x == b) = false := beq_eq_false_iff_ne.mpr fun z => nd.1 (z ▸ hb)
      rw [e1, e2]
      have := idx_sub nd.2 h
      simp
      omega
    | cons_cons _ h =>
      have hb : b ∈ l := List.singleton_sublist.mp h
      have e2 : (x == b) = false := beq_eq_false_iff_ne.mpr fun z => nd.1 (z ▸ hb)
      rw [e2, beq_self_eq_true]
      simp
theorem leK_trans {folk : List Str} {c : Cl} (a b d : Str) (h1 : leK folk c a b = true) (h2 : leK folk c b d = true) : leK folk c a d = true := decide_eq_true (Nat.le_trans (of_decide_eq_true h1) (of_decide_eq_true h2))
theorem leK_total {folk : List Str} {c : Cl} (a b : Str) : (leK folk c a b || leK folk c b a) = true := by
  unfold leK
  rw [Bool.or_eq_true, decide_eq_true_eq, decide_eq_true_eq]
  omega
theorem led_pw {folk : List Str} {c : Cl} (nd : folk.Nodup) : (ledM folk c).Pairwise (Ahd folk c) := by
  have ndL : (ledM folk c).Nodup := (led_perm folk c).nodup_iff.mpr nd
  have pw := List.pairwise_mergeSort (le := leK folk c) leK_trans leK_total folk
  rw [List.pairwise_iff_forall_sublist] at pw ⊢
  intro a b h
  have k := of_decide_eq_true (pw h)
  by_cases e : keyM folk c a = keyM folk c b
  · refine .inr ⟨e, ?_⟩
    have ha : a ∈ folk := (led_perm folk c).mem_iff.mp (h.subset (by simp))
    have ne : a ≠ b := fun z => by
      subst z
      exact absurd (idx_sub ndL h) (Nat.lt_irrefl _)
    by_cases lt : folk.idxOf a < folk.idxOf b
    · exact lt
    · have hb : b ∈ folk := (led_perm folk c).mem_iff.mp (h.subset (by simp))
      have ni : folk.idxOf a ≠ folk.idxOf b := fun z => ne (by
        have h1 := List.getElem_idxOf (List.idxOf_lt_length_iff.mpr ha)
        have h2 := List.getElem_idxOf (List.idxOf_lt_length_iff.mpr hb)
        rw [← h1, ← h2]
        simp only [z])
      have s2 : List.Sublist [b, a] (ledM folk c) := List.pair_sublist_mergeSort leK_trans leK_total (decide_eq_true (Nat.le_of_eq e.symm)) (sub_idx (by omega) ha)
      have := idx_sub ndL h
      have := idx_sub ndL s2
      omega
  · exact .inl (by omega)
theorem ahd_asym {folk : List Str} {c : Cl} {a b : Str} (h1 : Ahd folk c a b) (h2 : Ahd folk c b a) : False := by
  unfold Ahd at h1 h2
  omega
theorem led_one {folk : List Str} {c : Cl} {l : List Str} (nd : folk.Nodup) (hp : l.Perm folk) (hw : l.Pairwise (Ahd folk c)) : l = ledM folk c :=
  List.Perm.eq_of_pairwise (fun a b _ _ h1 h2 => (ahd_asym h1 h2).elim) hw (led_pw nd) (hp.trans (led_perm folk c).symm)
/-- a row that is in order stays -/
theorem led_keeps {folk : List Str} {c : Cl} (h : folk.Pairwise fun a b => keyM folk c a ≤ keyM folk c b) : ledM folk c = folk :=
  List.mergeSort_of_pairwise (h.imp fun z => decide_eq_true z)
end Pl
namespace Pl
open PySem PySem.Spec PyProof.Rows L2 Kn
variable [Tbs]
theorem v_dc {src : Ma} {tg : Mg} {tt : Mt} {tk tv : Me} {vs : List Nat} {ρ ρ1 ρ2 : Rh} {ds : List D} {kd : List (Key × D)} (h : src ρ = some (ds, ρ1)) (hv : (vs.all fun i => !isOwn ρ1[i]?) = true) (hl : ds.length ≤ 100000) (h2 : dcL tg tt tk tv vs ds (wipeR ρ1 vs) [] = some (kd, ρ2)) :
    mDc src tg tt tk tv vs ρ = some (.dct (kd.map (·.1)) (kd.map (·.2)), unwipe ρ1 ρ2 vs) := by
  unfold mDc
  rw [h, Option.bind_some, if_pos ⟨hv, hl⟩, h2]
  rfl
theorem dcL_ix {α : Type} {tg : Mg} {tt : Mt} {tk tv : Me} {vs : List Nat} {ρ0 : Rh} (a : α → D) (kf : α → Key) (vf : α → D) : ∀ (xs : List α) (acc : List (Key × D)), (∀ x ∈ xs, ∃ ρ1 q ρ2 ρ3, tg (a x) ρ0 = some ρ1 ∧ tt ρ1 = some (true, ρ1) ∧ tk ρ1 = some (q, ρ2) ∧ keyD q = some (kf x) ∧ tv ρ2 = some (vf x, ρ3) ∧ wipeR ρ3 vs = ρ0) →
    (acc.map (·.1) ++ xs.map kf).Nodup → dcL tg tt tk tv vs (xs.map a) ρ0 acc = some (acc ++ xs.map (fun x => (kf x, vf x)), ρ0)
  | [], acc, _, _ => by rw [List.map_nil, List.map_nil, List.append_nil]; rfl
  | x :: xs, acc, h, nd => by
    obtain ⟨ρ1, q, ρ2, ρ3, h1, h2, h3, h4, h5, h6⟩ := h x (List.mem_cons_self ..)
    have new : kf x ∉ acc.map (·.1) := fun z => by
      rw [List.nodup_append] at nd
      exact nd.2.2 _ z _ (by simp) rfl
    rw [List.map_cons, dcL, h1, Option.bind_some, h2, Option.bind_some, if_pos rfl, h3, Option.bind_some, h4, Option.bind_some, h5, Option.bind_some, h6, put_new new, dcL_ix a kf vf xs _ (fun y hy => h y (List.mem_cons_of_mem _ hy))]
    · rw [List.map_cons, List.append_assoc]
      rfl
    · rw [List.map_append, List.append_assoc]
      exact nd
theorem lcL_ix {α : Type} {tg : Mg} {tt : Mt} {te : Me} {vs : List Nat} {ρ0 : Rh} (a b : α → D) : ∀ xs : List α, (∀ x ∈ xs, ∃ ρ1 ρ2, tg (a x) ρ0 = some ρ1 ∧ tt ρ1 = some (true, ρ1) ∧ te ρ1 = some (b x, ρ2) ∧ wipeR ρ2 vs = ρ0) → lcL tg tt te vs (xs.map a) ρ0 = some (xs.map b, ρ0)
  | [], _ => rfl
  | x :: xs, h => by
    obtain ⟨ρ1, ρ2, h1, h2, h3, h4⟩ := h x (List.mem_cons_self ..)
    refine v_lcC (ρ5 := ρ0) h1 h2 h3 ?_
    rw [h4]
    exact lcL_ix a b xs fun y hy => h y (List.mem_cons_of_mem _ hy)
theorem en_from : ∀ (xs : List Str) (k : Nat), prs ((List.range' k xs.length).map fun (i : Nat) => D.int (i : Int)) (xs.map D.str) = (xs.zipIdx k).map fun p => .tup true [.int (p.2 : Nat), .str p.1]
  | [], _ => rfl
  | x :: xs, k => by
    rw [List.length_cons, List.range'_succ, List.map_cons, List.map_cons, prs, en_from xs (k + 1), List.zipIdx_cons, List.map_cons]
theorem en_ok {d : D} {xs : List Str} (h : seqD d = some (xs.map D.str)) : enD [d] = some (xs.zipIdx.map fun p => .tup true [.int (p.2 : Nat), .str p.1]) := by
  show (seqD d).map _ = _
  rw [h, Option.map_some, List.length_map]
  unfold nums
  rw [List.range_eq_range', en_from]
theorem zip_fst' (xs : List Str) (k : Nat) : (xs.zipIdx k).map (·.1) = xs := by simp
theorem look_zip : ∀ (xs : List Str) (k : Nat) {x : Str}, x ∈ xs → look ((xs.zipIdx k).map fun p => (Sum.inr p.1 : Key)) ((xs.zipIdx k).map fun p => D.int (p.2 : Nat)) (Sum.inr x) = some (.int ((k + xs.idxOf x : Nat)))
  | y :: xs, k, x, h => by
    rw [List.zipIdx_cons, List.map_cons, List.map_cons, look, List.idxOf_cons]
    by_cases e : y = x
    · subst e
      rw [if_pos rfl, beq_self_eq_true]
      rfl
    · rw [if_neg (fun z => e (Sum.inr.inj z)), look_zip xs (k + 1) ((List.mem_cons.mp h).resolve_left fun z => e z.symm), beq_eq_false_iff_ne.mpr e]
      show some (D.int ((k + 1 + xs.idxOf x : Nat))) = some (D.int ((k + (xs.idxOf x + 1) : Nat)))
      rw [show k + 1 + xs.idxOf x = k + (xs.idxOf x + 1) by omega]
def placesD (xs : List Str) : D := .dct (xs.zipIdx.map fun p => Sum.inr p.1) (xs.zipIdx.map fun p => .int (p.2 : Nat))
theorem place_at {xs : List Str} {x : Str} (h : x ∈ xs) : ixD (placesD xs) (.str x) = some (.int (xs.idxOf x : Nat)) := by
  have := look_zip xs 0 h
  rw [Nat.zero_add] at this
  exact this
theorem inr_nodup {xs : List Str} (nd : xs.Nodup) : (xs.map (Sum.inr : Str → Key)).Nodup := List.pairwise_map.mpr (nd.imp fun h e => h (Sum.inr.inj e))
theorem zip_nodup {xs : List Str} (nd : xs.Nodup) : (xs.zipIdx.map fun p => (Sum.inr p.1 : Key)).Nodup := by
  have : (xs.zipIdx.map fun p => (Sum.inr p.1 : Key)) = xs.map Sum.inr := by
    conv => rhs; rw [← zip_fst' xs 0, List.map_map]
    rfl
  rw [this]
  exact inr_nodup nd
structure RowCall (folk : List Str) (c : Cl) : Prop where
  few : folk.length < 64
  nd : folk.Nodup
  txs : Txs folk
  who : (c.map (·.1)).Perm folk
  whom : ∀ p ∈ c, p.2 ∈ folk
theorem RowCall.tell {folk : List Str} {c : Cl} (h : RowCall folk c) {x : Str} (hx : x ∈ folk) : ixD (dctOf c) (.str x) = some (.str (tell c x)) ∧ Pl.tell c x ∈ folk := by
  obtain ⟨p, hp, e⟩ := look_in (h.who.mem_iff.mpr hx)
  refine ⟨?_, ?_⟩
  · show look (c.map fun p => (Sum.inr p.1 : Key)) (c.map fun p => D.str p.2) (Sum.inr x) = _
    unfold Pl.tell
    rw [look_map, e]
    rfl
  · unfold Pl.tell
    rw [e]
    exact h.whom p hp
theorem RowCall.clen {folk : List Str} {c : Cl} (h : RowCall folk c) : c.length = folk.length := by
  rw [← h.who.length_eq, List.length_map]
theorem RowCall.next {folk : List Str} {c : Cl} (h : RowCall folk c) {l : List Str} (hp : l.Perm folk) : RowCall l c :=
  ⟨by rw [hp.length_eq]; exact h.few, hp.nodup_iff.mpr h.nd, fun x hx => h.txs x (hp.mem_iff.mp hx), h.who.trans hp.symm, fun p hp' => hp.mem_iff.mpr (h.whom p hp')⟩
theorem byKey_ok {folk : List Str} {c : Cl} : byKey (folk.map fun x => (D.str x, (keyM folk c x : Int))) = (ledM folk c).map D.str := by
  unfold byKey ledM
  rw [← List.map_mergeSort (r := leK folk c) (s := fun a b : D × Int => decide (a.2 ≤ b.2)) (f := fun x => (D.str x, (keyM folk c x : Int))), List.map_map]
  · rfl
  · intro a _ b _
    unfold leK
    exact decide_eq_decide.mpr (by omega)
theorem prsI_of {α : Type} (f : α → Int × Int) : ∀ xs : List α, prsOfI (xs.map fun x => .tup false [.int (f x).1, .int (f x).2]) = some (xs.map f)
  | [] => rfl
  | x :: xs => by
    show (prsOfI (xs.map fun x => .tup false [.int (f x).1, .int (f x).2])).map _ = _
    rw [prsI_of f xs]
    rfl
def kiM (folk : List Str) (c : Cl) (x : Str) : Int × Int := ((keyM folk c x : Nat), (folk.idxOf x : Nat))
theorem sortI_ok {folk : List Str} {c : Cl} (nd : folk.Nodup) : sortIF [.lst (folk.map fun x => .tup false [.int (kiM folk c x).1, .int (kiM folk c x).2])] = some ((ledM folk c).map fun x => .tup false [.int (kiM folk c x).1, .int (kiM folk c x).2]) := by
  show (prsOfI _).map _ = _
  rw [prsI_of (kiM folk c) folk, Option.map_some]
  have le : ∀ a b : Str, leI (kiM folk c a) (kiM folk c b) = decide (keyM folk c a < keyM folk c b ∨ (keyM folk c a = keyM folk c b ∧ folk.idxOf a ≤ folk.idxOf b)) := fun a b => by
    unfold leI encI
    rw [PySem.W.dataLe_ii (β := Int × Int) (fun p => p.1) (fun p => p.2)]
    exact decide_eq_decide.mpr (by unfold kiM; omega)
  have tr : ∀ a b d : Str, leI (kiM folk c a) (kiM folk c b) = true → leI (kiM folk c b) (kiM folk c d) = true → leI (kiM folk c a) (kiM folk c d) = true := fun a b d => by
    rw [le, le, le, decide_eq_true_eq, decide_eq_true_eq, decide_eq_true_eq]
    omega
  have to : ∀ a b : Str, (leI (kiM folk c a) (kiM folk c b) || leI (kiM folk c b) (kiM folk c a)) = true := fun a b => by
    rw [le, le, Bool.or_eq_true, decide_eq_true_eq, decide_eq_true_eq]
    omega
  have e : folk.mergeSort (fun a b => leI (kiM folk c a) (kiM folk c b)) = ledM folk c := by
    have pm := List.mergeSort_perm folk (fun a b => leI (kiM folk c a) (kiM folk c b))
    refine led_one nd pm ?_
    have pw := List.pairwise_mergeSort tr to folk
    have nd2 : (folk.mergeSort fun a b => leI (kiM folk c a) (kiM folk c b)).Nodup := pm.nodup_iff.mpr nd
    refine (pw.and nd2).imp_of_mem fun {a b} ha hb h => ?_
    obtain ⟨h1, h2⟩ := h
    rw [le, decide_eq_true_eq] at h1
    have ha := pm.mem_iff.mp ha
    have hb := pm.mem_iff.mp hb
    have ni : folk.idxOf a ≠ folk.idxOf b := fun z => h2 (by
      have h1 := List.getElem_idxOf (List.idxOf_lt_length_iff.mpr ha)
      have h2 := List.getElem_idxOf (List.idxOf_lt_length_iff.mpr hb)
      rw [← h1, ← h2]
      simp only [z])
    unfold Ahd
    omega
  rw [← List.map_mergeSort (r := fun a b => leI (kiM folk c a) (kiM folk c b)) (s := leI) (f := kiM folk c) (fun a _ b _ => rfl), e, List.map_map]
  rfl
theorem at_idx {folk : List Str} {x : Str} (h : x ∈ folk) : atI (folk.map D.str) (folk.idxOf x : Nat) = some (.str x) := by
  refine atI_nat ?_
  rw [List.getElem?_map, List.getElem?_eq_getElem (List.idxOf_lt_length_iff.mpr h), List.getElem_idxOf (List.idxOf_lt_length_iff.mpr h)]
  rfl
theorem spots_ok {folk : List Str} (nd : folk.Nodup) : dictD [.lst (folk.zipIdx.map fun p => .tup false [.str p.1, .int (p.2 : Nat)])] = some (placesD folk) := by
  have hp : ∀ l : List (Str × Nat), pairsOf (l.map fun p => .tup false [.str p.1, .int (p.2 : Nat)]) = some (l.map fun p => (Sum.inr p.1, .int (p.2 : Nat))) := fun l => by
    induction l with
    | nil => rfl
    | cons p l ih =>
      rw [List.map_cons, pairsOf, ih]
      rfl
  show (pairsOf _).map _ = _
  rw [hp, Option.map_some]
  have : mergeD (folk.zipIdx.map fun p => ((Sum.inr p.1 : Key), D.int (p.2 : Nat))) = folk.zipIdx.map fun p => (Sum.inr p.1, .int (p.2 : Nat)) := by
    unfold mergeD
    rw [merge_nodup]
    · rfl
    · rw [List.nil_append, List.map_map]
      exact zip_nodup nd
  rw [this, List.map_map, List.map_map]
  rfl
theorem led_ok {folk : List Str} {c : Cl} (h : RowCall folk c) : F_L_led [.tup false (folk.map D.str), cD false c] = some (.tup false ((ledM folk c).map D.str)) := by
  have few := h.few
  have hd : dictD [cD false c] = some (dctOf c) := dict_ok (h.who.nodup_iff.mpr h.nd)
  have l1 : lcL (tg2 5 6) mYes (mTup false (mCons (mVar 6) (mCons (mVar 5) mNil))) [5, 6] (folk.zipIdx.map fun p => .tup true [.int (p.2 : Nat), .str p.1]) [.val (.tup false (folk.map D.str)), .val (cD false c), .un, .un, .un, .un, .un] = some (folk.zipIdx.map fun p => .tup false [.str p.1, .int (p.2 : Nat)], [.val (.tup false (folk.map D.str)), .val (cD false c), .un, .un, .un, .un, .un]) :=
    lcL_ix _ _ folk.zipIdx fun p _ => ⟨_, _, rfl, rfl, v_tup (v_cons rfl (v_cons rfl v_nil)) (show 2 ≤ 100000 by decide), rfl⟩
  have s1 : mAsg (mTup false (mCons (mCall dictD (mCons (mVar 1) mNil)) (mCons (mCall dictD (mCons (mL (mLc (mCall enD (mCons (mVar 0) mNil)) (tg2 5 6) mYes (mTup false (mCons (mVar 6) (mCons (mVar 5) mNil))) [5, 6])) mNil)) mNil))) (tg2 2 3) [.val (.tup false (folk.map D.str)), .val (cD false c), .un, .un, .un, .un, .un] = some (.nx [.val (.tup false (folk.map D.str)), .val (cD false c), .val (dctOf c), .val (placesD folk), .un, .un, .un]) :=
    v_asg (v_tup (v_cons (v_call (v_cons rfl v_nil) hd) (v_cons (v_call (v_cons (v_L (v_lc (v_call (v_cons rfl v_nil) (en_ok rfl)) rfl (by simp; omega) l1)) v_nil) (spots_ok h.nd)) v_nil)) (show 2 ≤ 100000 by decide)) rfl
  have l2 : lcL (setV 6) mYes (mTup false (mCons (mOp ixD (mVar 3) (mOp ixD (mVar 2) (mVar 6))) (mCons (mOp ixD (mVar 3) (mVar 6)) mNil))) [6] (folk.map D.str) [.val (.tup false (folk.map D.str)), .val (cD false c), .val (dctOf c), .val (placesD folk), .un, .un, .un] = some (folk.map fun x => .tup false [.int (kiM folk c x).1, .int (kiM folk c x).2], [.val (.tup false (folk.map D.str)), .val (cD false c), .val (dctOf c), .val (placesD folk), .un, .un, .un]) :=
    lcL_ix D.str _ folk fun x hx => ⟨_, _, rfl, rfl, v_tup (v_cons (v_op rfl (v_op rfl rfl (h.tell hx).1) (place_at (h.tell hx).2)) (v_cons (v_op rfl rfl (place_at hx)) v_nil)) (show 2 ≤ 100000 by decide), rfl⟩
  have l3 : lcL (tg2 4 5) mYes (mOp ixD (mVar 0) (mVar 5)) [4, 5] ((ledM folk c).map fun x => .tup false [.int (kiM folk c x).1, .int (kiM folk c x).2]) [.val (.tup false (folk.map D.str)), .val (cD false c), .val (dctOf c), .val (placesD folk), .un, .un, .un] = some ((ledM folk c).map D.str, [.val (.tup false (folk.map D.str)), .val (cD false c), .val (dctOf c), .val (placesD folk), .un, .un, .un]) :=
    lcL_ix (fun x => .tup false [.int (kiM folk c x).1, .int (kiM folk c x).2]) D.str (ledM folk c) fun x hx => ⟨_, _, rfl, rfl, v_op rfl rfl (at_idx ((led_perm folk c).mem_iff.mp hx)), rfl⟩
  exact v_runP rfl (v_seq s1 (v_ret (v_call (v_cons (v_L (v_lc (v_it (v_L (v_call (v_cons (v_L (v_lc (v_it rfl rfl) rfl (by simp; omega) l2)) v_nil) (sortI_ok h.nd))) rfl) rfl (by rw [List.length_map, (led_perm folk c).length_eq]; omega) l3)) v_nil) rfl)))

end Pl
namespace Pl
open PySem PySem.Spec PyProof.Rows L2 Kn
variable [Tbs]
/-! lookups -/
theorem look_mem : ∀ {c : Cl} {a y : Str}, c.lookup a = some y → (a, y) ∈ c
  | [], _, _, h => by cases h
  | p :: c, a, y, h => by
    rw [List.lookup_cons] at h
    by_cases e : a = p.1
    · subst e
      rw [beq_self_eq_true] at h
      cases h
      exact List.mem_cons_self ..
    · rw [beq_eq_false_iff_ne.mpr e] at h
      exact List.mem_cons_of_mem _ (look_mem h)
theorem look_at : ∀ {c : Cl} {a y : Str}, (c.map (·.1)).Nodup → (a, y) ∈ c → c.lookup a = some y
  | p :: c, a, y, nd, h => by
    rw [List.lookup_cons]
    rw [List.map_cons, List.nodup_cons] at nd
    rcases List.mem_cons.mp h with e | h
    · rw [← e, beq_self_eq_true]
    · have ne : a ≠ p.1 := fun e => nd.1 (e ▸ List.mem_map.mpr ⟨(a, y), h, rfl⟩)
      rw [beq_eq_false_iff_ne.mpr ne]
      exact look_at nd.2 h
theorem tell_of {c : Cl} {a y : Str} (nd : (c.map (·.1)).Nodup) (h : (a, y) ∈ c) : tell c a = y := by
  unfold tell
  rw [look_at nd h]
  rfl
theorem tell_mem {c : Cl} {a : Str} (h : a ∈ c.map (·.1)) : (a, tell c a) ∈ c := by
  obtain ⟨p, hp, e⟩ := look_in h
  unfold tell
  rw [e]
  exact look_mem e
/-! walks, one behind the other -/
def endM (cs : List Cl) (p : Str × Str) : Str × Str := cs.foldl (fun q c => stepM c q) p
theorem go_app : ∀ (xs ys : List Cl) (p : Str × Str), goM (xs ++ ys) p = goM xs p ++ goM ys (endM xs p)
  | [], _, _ => rfl
  | x :: xs, ys, p => by
    show stepM x p :: goM (xs ++ ys) (stepM x p) = _
    rw [go_app xs ys]
    rfl
theorem walks_app (u v : List Cl) (p : Str × Str) : walksM (u ++ v) p = walksM v p ++ (walksM u (endM v.reverse p)).drop 1 := by
  unfold walksM
  rw [List.reverse_append, go_app]
  rfl
theorem go_last : ∀ (cs : List Cl) (p : Str × Str), ∃ ys, p :: goM cs p = ys ++ [endM cs p]
  | [], p => ⟨[], rfl⟩
  | c :: cs, p => by
    obtain ⟨ys, e⟩ := go_last cs (stepM c p)
    exact ⟨p :: ys, congrArg (p :: ·) e⟩
theorem walks_end (w : List Cl) (p : Str × Str) : ∃ ys, walksM w p = ys ++ [endM w.reverse p] := go_last w.reverse p
theorem end_app (xs ys : List Cl) (p : Str × Str) : endM (xs ++ ys) p = endM ys (endM xs p) := by
  unfold endM
  rw [List.foldl_append]
/-- all at their own -/
def ownC (xs : List Str) : Cl := xs.map fun x => (x, x)
theorem own_fst (xs : List Str) : (ownC xs).map (·.1) = xs := by
  unfold ownC
  rw [List.map_map]
  exact List.map_id _
theorem tell_own {xs : List Str} {a : Str} (h : a ∈ xs) (nd : xs.Nodup) : tell (ownC xs) a = a :=
  tell_of (by rw [own_fst]; exact nd) (List.mem_map.mpr ⟨a, h, rfl⟩)
theorem step_own {xs : List Str} {p : Str × Str} (h1 : p.1 ∈ xs) (h2 : p.2 ∈ xs) (nd : xs.Nodup) : stepM (ownC xs) p = p := by
  unfold stepM
  rw [tell_own h1 nd, tell_own h2 nd]
  split <;> rfl
theorem end_in {folk : List Str} {w : List Cl} (h : WordOk folk w) : ∀ (cs : List Cl) (p : Str × Str), (∀ c ∈ cs, c ∈ w) → p.1 ∈ folk → p.2 ∈ folk → (endM cs p).1 ∈ folk ∧ (endM cs p).2 ∈ folk
  | [], p, _, h1, h2 => ⟨h1, h2⟩
  | c :: cs, p, hc, h1, h2 => by
    obtain ⟨s1, s2⟩ := step_in h (hc c (List.mem_cons_self ..)) h1 h2
    exact end_in h cs (stepM c p) (fun x hx => hc x (List.mem_cons_of_mem _ hx)) s1 s2
theorem end_idle {folk : List Str} {w : List Cl} (h : WordOk folk w) {xs ys : List Cl} {p : Str × Str} (hx : ∀ c ∈ xs, c ∈ w) (h1 : p.1 ∈ folk) (h2 : p.2 ∈ folk) : endM (xs ++ ownC folk :: ys) p = endM (xs ++ ys) p := by
  obtain ⟨e1, e2⟩ := end_in h xs p hx h1 h2
  rw [end_app, end_app]
  show endM ys (stepM (ownC folk) (endM xs p)) = _
  rw [step_own e1 e2 h.nd]
/-! the order of pairs -/
end Pl
namespace Pl
open PySem PySem.Spec PyProof.Rows L2 Kn
variable [Tbs]
theorem step_ne {c : List (Str × Str)} {p : Str × Str} (h : p.1 ≠ p.2) : (stepM c p).1 ≠ (stepM c p).2 := by
  unfold stepM
  by_cases e : tell c p.1 = tell c p.2
  · rw [if_pos e]; exact h
  · rw [if_neg e]; exact e
theorem mbo_perm {folk xs : List Str} {w : List (List (Str × Str))} {b : Bool} {nm wd : D} (h : WordOk folk w) (hx : xs.Perm folk) (hn : seqD nm = some (xs.map D.str)) (hw : itD wd = some (w.map (cD b))) : F_must_be_of [nm, wd] = some .non := by
  obtain ⟨ρ, e⟩ := for_keep (body := mEx (mCall F_must_be_same (mCons (mVar 0) (mCons (mCall F_people (mCons (mVar 2) mNil)) mNil)))) (a := .val nm) (b := .val wd) (w.map (cD b)) .un (.inl rfl) fun d hd => by
    obtain ⟨c, hc, rfl⟩ := List.mem_map.mp hd
    have hp := people_ok (b := b) (h.len hc)
    have hs : F_must_be_same [nm, .tup false ((c.map (·.1)).map D.str)] = some .non := mbs_ok hn rfl (by rw [hx.length_eq]; exact h.few) (by rw [h.who c hc]; exact hx) (fun z hz => h.txs z (hx.mem_iff.mp hz))
    exact v_ex (v_call (v_cons rfl (v_cons (v_call (v_cons rfl v_nil) hp) v_nil)) hs)
  simp [F_must_be_of, m_must_be_of, runP, begin0, mFor, mIt, mVar, hw, e]
def leadAll (folk : List Str) (w : List Cl) : List Str := w.foldl ledM folk
theorem lead_perm : ∀ (w : List Cl) (folk : List Str), (leadAll folk w).Perm folk
  | [], _ => List.Perm.refl _
  | c :: w, folk => (lead_perm w (ledM folk c)).trans (led_perm folk c)
theorem idx_ne {folk : List Str} {a b : Str} (ha : a ∈ folk) (hb : b ∈ folk) (ne : a ≠ b) : folk.idxOf a ≠ folk.idxOf b := fun z => ne (by
  have h1 := List.getElem_idxOf (List.idxOf_lt_length_iff.mpr ha)
  have h2 := List.getElem_idxOf (List.idxOf_lt_length_iff.mpr hb)
  rw [← h1, ← h2]
  simp only [z])
theorem led_ahead {folk : List Str} {c : Cl} {a b : Str} (nd : folk.Nodup) (ha : a ∈ folk) (hb : b ∈ folk) (ne : a ≠ b) : (ledM folk c).idxOf a < (ledM folk c).idxOf b ↔ Ahd folk c a b := by
  have lp := led_perm folk c
  have pw : ∀ x y : Str, List.Sublist [x, y] (ledM folk c) → Ahd folk c x y := fun x y h => List.pairwise_iff_forall_sublist.mp (led_pw (c := c) nd) h
  have to : ∀ {x y : Str}, y ∈ folk → (ledM folk c).idxOf x < (ledM folk c).idxOf y → Ahd folk c x y := fun hy h => pw _ _ (sub_idx h (lp.mem_iff.mpr hy))
  refine ⟨to hb, fun h => ?_⟩
  have := idx_ne (lp.mem_iff.mpr ha) (lp.mem_iff.mpr hb) ne
  by_cases lt : (ledM folk c).idxOf a < (ledM folk c).idxOf b
  · exact lt
  · exact (ahd_asym h (to ha (by omega))).elim
theorem ahd_step {folk : List Str} {c : Cl} {p : Str × Str} (h : RowCall folk c) (h1 : p.1 ∈ folk) (h2 : p.2 ∈ folk) : Ahd folk c p.1 p.2 ↔ folk.idxOf (stepM c p).1 < folk.idxOf (stepM c p).2 := by
  unfold Ahd stepM keyM
  by_cases e : tell c p.1 = tell c p.2
  · rw [if_pos e, e]
    constructor
    · intro z; omega
    · intro z; exact .inr ⟨rfl, z⟩
  · rw [if_neg e]
    have := idx_ne (h.tell h1).2 (h.tell h2).2 e
    constructor
    · intro z
      show folk.idxOf (tell c p.1) < folk.idxOf (tell c p.2)
      omega
    · intro z
      exact .inl z
theorem walkers : ∀ (w : List Cl) (folk : List Str) (p : Str × Str), (∀ c ∈ w, RowCall folk c) → folk.Nodup → p.1 ∈ folk → p.2 ∈ folk → p.1 ≠ p.2 →
    ((endM w.reverse p).1 ∈ folk ∧ (endM w.reverse p).2 ∈ folk ∧ (endM w.reverse p).1 ≠ (endM w.reverse p).2) ∧ ((leadAll folk w).idxOf p.1 < (leadAll folk w).idxOf p.2 ↔ folk.idxOf (endM w.reverse p).1 < folk.idxOf (endM w.reverse p).2)
  | [], folk, p, _, _, h1, h2, ne => ⟨⟨h1, h2, ne⟩, Iff.rfl⟩
  | c :: w, folk, p, h, nd, h1, h2, ne => by
    have rc := h c (List.mem_cons_self ..)
    have lp := led_perm folk c
    obtain ⟨⟨i1, i2, i3⟩, i4⟩ := walkers w (ledM folk c) p (fun d hd => (h d (List.mem_cons_of_mem _ hd)).next lp) (lp.nodup_iff.mpr nd) (lp.mem_iff.mpr h1) (lp.mem_iff.mpr h2) ne
    rw [List.reverse_cons, end_app]
    show ((stepM c (endM w.reverse p)).1 ∈ folk ∧ (stepM c (endM w.reverse p)).2 ∈ folk ∧ (stepM c (endM w.reverse p)).1 ≠ (stepM c (endM w.reverse p)).2) ∧ ((leadAll (ledM folk c) w).idxOf p.1 < (leadAll (ledM folk c) w).idxOf p.2 ↔ folk.idxOf (stepM c (endM w.reverse p)).1 < folk.idxOf (stepM c (endM w.reverse p)).2)
    have j1 := lp.mem_iff.mp i1
    have j2 := lp.mem_iff.mp i2
    refine ⟨?_, i4.trans ((led_ahead nd j1 j2 i3).trans (ahd_step rc j1 j2))⟩
    have : (stepM c (endM w.reverse p)).1 ∈ folk ∧ (stepM c (endM w.reverse p)).2 ∈ folk := by
      unfold stepM
      split
      · exact ⟨j1, j2⟩
      · exact ⟨(rc.tell j1).2, (rc.tell j2).2⟩
    exact ⟨this.1, this.2, step_ne i3⟩
theorem rc_word {ys folk : List Str} {w : List Cl} (h : WordOk (sortS ys) w) (hp : folk.Perm ys) : ∀ c ∈ w, RowCall folk c := fun c hc =>
  have pm : folk.Perm (sortS ys) := hp.trans (sortS_perm ys).symm
  { few := by rw [pm.length_eq]; exact h.few
    nd := pm.nodup_iff.mpr h.nd
    txs := fun x hx => h.txs x (pm.mem_iff.mp hx)
    who := by rw [h.who c hc]; exact pm.symm
    whom := fun p hp' => pm.mem_iff.mpr (h.whom c hc p hp') }
abbrev rD (xs : List Str) : D := .tup false (xs.map D.str)
abbrev wL (w : List Cl) : D := .lst (w.map (cD false))
theorem all_led_loop {wd : D} : ∀ (w : List Cl) (folk : List Str) (s : Sl), (∀ c ∈ w, RowCall folk c) → Plain s → ∃ t, forL (setV 2) (mSet 0 (mCall F_L_led (mCons (mVar 0) (mCons (mVar 2) mNil)))) (w.map (cD false)) [.val (rD folk), .val wd, s] = some (.nx [.val (rD (leadAll folk w)), .val wd, t])
  | [], folk, s, _, _ => ⟨s, rfl⟩
  | c :: w, folk, s, h, hs => by
    obtain ⟨t, e⟩ := all_led_loop (wd := wd) w (ledM folk c) (.val (cD false c)) (fun d hd => (h d (List.mem_cons_of_mem _ hd)).next (led_perm folk c)) (.inr ⟨_, rfl⟩)
    exact ⟨t, v_forC (ρ1 := [.val (rD folk), .val wd, .val (cD false c)]) (setV_plain rfl hs) (v_set (i := 0) (ρ1 := [.val (rD folk), .val wd, .val (cD false c)]) (v_call (v_cons rfl (v_cons rfl v_nil)) (led_ok (h c (List.mem_cons_self ..)))) (show 0 < 3 by decide) rfl) e⟩
theorem all_led_ok {w : List Cl} {folk : List Str} (h : ∀ c ∈ w, RowCall folk c) : F_L_all_led [rD folk, wL w] = some (rD (leadAll folk w)) := by
  obtain ⟨t, e⟩ := all_led_loop (wd := wL w) w folk .un h (.inl rfl)
  exact v_runP rfl (v_seq (v_for (v_it (d := wL w) rfl rfl) e) (v_ret (v_call (v_cons rfl v_nil) rfl)))
theorem v_runN {n k : Nat} {m : Ms} {ds : List D} {ρ : Rh} (hn : ds.length = n) (h : m (begin0 k ds) = some (.nx ρ)) : runP n k m ds = some .non := by
  unfold runP
  rw [if_pos hn, h]
theorem flats (xs : List Str) : (xs.map D.str).all flatD = true := by
  rw [List.all_eq_true]
  intro d hd
  obtain ⟨x, _, rfl⟩ := List.mem_map.mp hd
  rfl
theorem any_in {xs : List Str} {x : Str} : ((xs.map D.str).any fun b => eqFl b (.str x)) = decide (x ∈ xs) := by
  induction xs with
  | nil => rfl
  | cons y xs ih =>
    rw [List.map_cons, List.any_cons, ih]
    show ((y == x) || decide (x ∈ xs)) = decide (x ∈ y :: xs)
    by_cases e : y = x
    · subst e
      simp
    · rw [beq_eq_false_iff_ne.mpr e, Bool.false_or]
      exact decide_eq_decide.mpr ⟨fun h => List.mem_cons_of_mem _ h, fun h => (List.mem_cons.mp h).resolve_left fun z => e z.symm⟩
theorem inB_row {xs : List Str} {x : Str} : inB (.str x) (rD xs) = some (decide (x ∈ xs)) := by
  show (if flatD (.str x) = true ∧ (xs.map D.str).all flatD = true then some ((xs.map D.str).any fun b => eqFl b (.str x)) else none) = _
  rw [if_pos ⟨rfl, flats xs⟩, any_in]
theorem wordOk_of {ys : List Str} {w : List Cl} (nd : ys.Nodup) (ny : ∀ y ∈ ys, Nm y) (hl : ys.length < 64) (h : ∀ c ∈ w, c.map (·.1) = sortS ys ∧ ∀ p ∈ c, p.2 ∈ sortS ys) : WordOk (sortS ys) w :=
  { few := by rw [(sortS_perm ys).length_eq]; exact hl
    nd := (sortS_perm ys).nodup_iff.mpr nd
    txs := txs_sort fun x hx => nm_ok (ny x hx)
    who := fun c hc => (h c hc).1
    whom := fun c hc => (h c hc).2 }
theorem crewq {n m : Nat} {bs : List D} (hb : Box n bs) (hn : n + 100 < 1000000000) (h1 : 1 ≤ m) (h2 : m ≤ 24) {ρ : Rh} (h0 : ρ[0]? = some (.own true bs)) : ∃ (x : Str) (zs ys : List Str) (bs' : List D), ys = x :: zs ∧ ys.getLast? = some ("qqq" : Str) ∧ ys.Nodup ∧ (∀ y ∈ ys, Nm y) ∧ 2 ≤ ys.length ∧ ys.length ≤ m + 1 ∧ x ≠ "qqq" ∧ Box (n + 30) bs' ∧
    mOp addD (mCallB 0 F_L_crew (mCons (mC (.int m)) mNil)) (mL (mDisp (mCons (mC (.str "qqq")) mNil))) ρ = some (.lst (ys.map D.str), ρ.set 0 (.own true bs')) := by
  obtain ⟨zs, znd, z1, z2, zn, bs1, e1, hb1⟩ := crew_ok (m := m) hb hn h1 h2
  obtain ⟨ys, hys⟩ : ∃ ys : List Str, ys = zs ++ [("qqq" : Str)] := ⟨_, rfl⟩
  have ynm : ∀ z ∈ ys, Nm z := by
    intro z hz
    rw [hys, List.mem_append] at hz
    rcases hz with hz | hz
    · exact (zn z hz).1
    · rw [List.mem_singleton] at hz
      rw [hz]
      exact nm_qq
  have ynd : ys.Nodup := by
    rw [hys, List.nodup_append]
    exact ⟨znd, by simp, fun a ha b hb' => by
      rw [List.mem_singleton] at hb'
      rw [hb']
      exact (zn a ha).2⟩
  have e9 : addD (.lst (zs.map D.str)) (.lst [.str "qqq"]) = some (.lst (ys.map D.str)) := by
    rw [hys, List.map_append]
    unfold addD
    exact if_pos (by simp; omega)
  cases zs with
  | nil => simp at z1
  | cons x zs =>
    refine ⟨x, zs ++ [("qqq" : Str)], ys, bs1, hys, by rw [hys, List.getLast?_append]; rfl, ynd, ynm, by rw [hys]; simp, by rw [hys]; simp at z2 ⊢; omega, (zn x (List.mem_cons_self ..)).2, hb1, ?_⟩
    exact v_op (v_callB (i := 0) (l := true) (ρ1 := ρ) (by rw [h0]; rfl) (v_cons rfl v_nil) h0 e1) (v_L (v_disp (v_cons rfl v_nil) (show 1 ≤ 100000 by decide))) e9
theorem sh_row {xs : List Str} (h : Txs xs) : SeqAt.shaped (rD xs).py = true := by
  unfold SeqAt.shaped
  rw [show (rD xs).py.canLay0 = true from lay_strs h]
  show (true && decide (PyData.depthAll (pyA (xs.map D.str)) + 1 ≤ 64)) = true
  rw [dep_strs]
  rfl
theorem eqv_strs : ∀ xs ys : List Str, PyData.eqvAll (pyA (xs.map D.str)) (pyA (ys.map D.str)) = decide (xs = ys)
  | [], [] => by simp [pyA, PyData.eqvAll]
  | [], y :: ys => by simp [pyA, PyData.eqvAll]
  | x :: xs, [] => by simp [pyA, PyData.eqvAll]
  | x :: xs, y :: ys => by
    show PyData.eqvAll (PyData.str x :: pyA (xs.map D.str)) (PyData.str y :: pyA (ys.map D.str)) = _
    rw [PySem.W.eqv_all_cons, eqv_strs xs ys]
    by_cases h : x = y <;> simp [PyData.eqv, h]
theorem eq_row {xs ys : List Str} (h : Txs xs) (h2 : Txs ys) : eqDD (rD xs) (rD ys) = some (.bl (decide (xs = ys))) := by
  unfold eqDD eqB
  show (if SeqAt.shaped (rD xs).py = true ∧ SeqAt.shaped (rD ys).py = true then some (PyData.eqv (rD xs).py (rD ys).py) else none).map D.bl = _
  rw [if_pos ⟨sh_row h, sh_row h2⟩]
  show some (D.bl (PyData.eqvAll (pyA (xs.map D.str)) (pyA (ys.map D.str)))) = _
  rw [eqv_strs]
end Pl
namespace Pl
open PySem PySem.Spec PyProof.Rows L2 Kn
variable [Tbs]
/-! all rows of some people -/
theorem lcL_filter {α : Type} {tg : Mg} {tt : Mt} {te : Me} {vs : List Nat} {ρ0 : Rh} (a b : α → D) (p : α → Bool) : ∀ xs : List α, (∀ x ∈ xs, ∃ ρ1, tg (a x) ρ0 = some ρ1 ∧ tt ρ1 = some (p x, ρ1) ∧ wipeR ρ1 vs = ρ0 ∧ (p x = true → te ρ1 = some (b x, ρ1))) → lcL tg tt te vs (xs.map a) ρ0 = some ((xs.filter p).map b, ρ0)
  | [], _ => rfl
  | x :: xs, h => by
    obtain ⟨ρ1, h1, h2, h3, h4⟩ := h x (List.mem_cons_self ..)
    have ih := lcL_filter a b p xs fun y hy => h y (List.mem_cons_of_mem _ hy)
    rw [List.map_cons, lcL, h1, Option.bind_some, h2, Option.bind_some]
    cases e : p x with
    | true =>
      rw [List.filter_cons_of_pos e, List.map_cons]
      show (if true = true then (te ρ1).bind _ else _) = _
      rw [if_pos rfl, h4 e, Option.bind_some]
      show (lcL tg tt te vs (xs.map a) (wipeR ρ1 vs)).map _ = _
      rw [h3, ih]
      rfl
    | false =>
      rw [List.filter_cons_of_neg (by rw [e]; exact Bool.false_ne_true)]
      show (if false = true then _ else lcL tg tt te vs (xs.map a) (wipeR ρ1 vs)) = _
      rw [if_neg Bool.false_ne_true, h3, ih]
def longer (ys r : List Str) : List (List Str) := (ys.filter fun m => !decide (m ∈ r)).map fun m => r ++ [m]
theorem add_row (r : List Str) (m : Str) (h : r.length ≤ 1000) : addTD (rD r) (.tup false [.str m]) = some (rD (r ++ [m])) := by
  cases r with
  | nil => rfl
  | cons x r =>
    show (if ((D.str x :: r.map D.str).length + [D.str m].length ≤ 100000) then some (D.tup false ((D.str x :: r.map D.str) ++ [D.str m])) else none) = _
    rw [if_pos (by simp at h ⊢; omega)]
    show _ = some (D.tup false (((x :: r) ++ [m]).map D.str))
    rw [List.map_append]
    rfl
theorem comp_ok {ys r : List Str} {s1 s2 s3 : Sl} (h : r.length ≤ 1000) (hy : ys.length ≤ 1000) : mLc (mIt (mVar 0)) (setV 5) (mB (mOp (fun a b => (inB a b).map fun r => .bl (!r)) (mVar 5) (mVar 4))) (mOp addTD (mVar 4) (mTup false (mCons (mVar 5) mNil))) [5] [.val (.lst (ys.map D.str)), s1, s2, s3, .val (rD r), .un] = some ((longer ys r).map rD, [.val (.lst (ys.map D.str)), s1, s2, s3, .val (rD r), .un]) := by
  have e := lcL_filter (tg := setV 5) (tt := mB (mOp (fun a b => (inB a b).map fun r => .bl (!r)) (mVar 5) (mVar 4))) (te := mOp addTD (mVar 4) (mTup false (mCons (mVar 5) mNil))) (vs := [5]) (ρ0 := [.val (.lst (ys.map D.str)), s1, s2, s3, .val (rD r), .un]) D.str (fun m => rD (r ++ [m])) (fun m => !decide (m ∈ r)) ys fun m _ => ⟨[.val (.lst (ys.map D.str)), s1, s2, s3, .val (rD r), .val (.str m)], rfl, v_B (v_op rfl rfl (by rw [inB_row]; rfl)), rfl, fun _ => v_op rfl (v_tup (v_cons rfl v_nil) (show 1 ≤ 100000 by decide)) (add_row r m h)⟩
  have := v_lc (src := mIt (mVar 0)) (ρ := [.val (.lst (ys.map D.str)), s1, s2, s3, .val (rD r), .un]) (ρ1 := [.val (.lst (ys.map D.str)), s1, s2, s3, .val (rD r), .un]) (v_it (d := .lst (ys.map D.str)) rfl rfl) rfl (by rw [List.length_map]; omega) e
  unfold longer
  rw [List.map_map]
  exact this
def longers (ys : List Str) (rows : List (List Str)) : List (List Str) := rows.flatMap (longer ys)
theorem longers_len {ys : List Str} : ∀ rows : List (List Str), (longers ys rows).length ≤ ys.length * rows.length
  | [] => Nat.zero_le _
  | r :: rows => by
    have ih := longers_len (ys := ys) rows
    have h1 : (longer ys r).length ≤ ys.length := by
      unfold longer
      rw [List.length_map]
      exact List.length_filter_le _ _
    unfold longers at ih ⊢
    rw [List.flatMap_cons, List.length_append, List.length_cons, Nat.mul_add]
    omega
theorem mid_loop {ys : List Str} {s1 s2 : Sl} (hy : ys.length ≤ 4) : ∀ (rows acc : List (List Str)) (s4 : Sl), (∀ r ∈ rows, r.length ≤ 1000) → acc.length + 4 * rows.length ≤ 5000 → Plain s4 →
    ∃ t4, Plain t4 ∧ forL (setV 4) (mSet 3 (mOp addD (mVar 3) (mL (mLc (mIt (mVar 0)) (setV 5) (mB (mOp (fun a b => (inB a b).map fun r => .bl (!r)) (mVar 5) (mVar 4))) (mOp addTD (mVar 4) (mTup false (mCons (mVar 5) mNil))) [5])))) (rows.map rD) [.val (.lst (ys.map D.str)), s1, s2, .val (.lst (acc.map rD)), s4, .un] = some (.nx [.val (.lst (ys.map D.str)), s1, s2, .val (.lst ((acc ++ longers ys rows).map rD)), t4, .un])
  | [], acc, s4, _, _, p4 => ⟨s4, p4, by unfold longers; rw [List.flatMap_nil, List.append_nil]; rfl⟩
  | r :: rows, acc, s4, hr, hl, p4 => by
    rw [List.length_cons] at hl
    have ll : (longer ys r).length ≤ 4 := by
      unfold longer
      rw [List.length_map]
      exact Nat.le_trans (List.length_filter_le _ _) hy
    obtain ⟨t4, q4, e⟩ := mid_loop (s1 := s1) (s2 := s2) hy rows (acc ++ longer ys r) (.val (rD r)) (fun x hx => hr x (List.mem_cons_of_mem _ hx)) (by rw [List.length_append]; omega) (.inr ⟨_, rfl⟩)
    have ad : addD (.lst (acc.map rD)) (.lst ((longer ys r).map rD)) = some (.lst ((acc ++ longer ys r).map rD)) := by
      rw [List.map_append]
      exact if_pos (by rw [List.length_map, List.length_map]; omega)
    refine ⟨t4, q4, v_forC (ρ1 := [.val (.lst (ys.map D.str)), s1, s2, .val (.lst (acc.map rD)), .val (rD r), .un]) (setV_plain rfl p4) (v_set (i := 3) (ρ1 := [.val (.lst (ys.map D.str)), s1, s2, .val (.lst (acc.map rD)), .val (rD r), .un]) (v_op rfl (v_L (comp_ok (hr r (List.mem_cons_self ..)) (by omega))) ad) (show 3 < 6 by decide) rfl) ?_⟩
    have : acc ++ longers ys (r :: rows) = (acc ++ longer ys r) ++ longers ys rows := by
      unfold longers
      rw [List.flatMap_cons, List.append_assoc]
    rw [this]
    exact e
structure Part (ys : List Str) (i : Nat) (rows : List (List Str)) : Prop where
  few : rows.length ≤ 4 ^ i
  row : ∀ r ∈ rows, r.Nodup ∧ (∀ x ∈ r, x ∈ ys) ∧ r.length = i
  all : ∀ r : List Str, r.Nodup → (∀ x ∈ r, x ∈ ys) → r.length = i → r ∈ rows
theorem part_next {ys : List Str} {i : Nat} {rows : List (List Str)} (hy : ys.length ≤ 4) (h : Part ys i rows) : Part ys (i + 1) (longers ys rows) := by
  refine ⟨?_, fun q hq => ?_, fun r nr sr lr => ?_⟩
  · have := longers_len (ys := ys) rows
    have h2 := h.few
    rw [Nat.pow_succ]
    calc (longers ys rows).length ≤ ys.length * rows.length := this
      _ ≤ 4 * 4 ^ i := Nat.mul_le_mul hy h2
      _ = 4 ^ i * 4 := Nat.mul_comm _ _
  · obtain ⟨r, hr, hq⟩ := List.mem_flatMap.mp hq
    obtain ⟨m, hm, rfl⟩ := List.mem_map.mp hq
    obtain ⟨m1, m2⟩ := List.mem_filter.mp hm
    have m2 : m ∉ r := by simpa using m2
    obtain ⟨h1, h2, h3⟩ := h.row r hr
    refine ⟨List.nodup_append.mpr ⟨h1, by simp, fun x hx y hy e => ?_⟩, fun x hx => ?_, by simp [h3]⟩
    · rw [List.mem_singleton] at hy
      rw [e, hy] at hx
      exact m2 hx
    · rcases List.mem_append.mp hx with hx | hx
      · exact h2 x hx
      · rw [List.mem_singleton] at hx
        rw [hx]
        exact m1
  · have hn : r ≠ [] := fun z => by rw [z] at lr; simp at lr
    obtain ⟨q, m, rfl⟩ : ∃ q m, r = q ++ [m] := ⟨r.dropLast, r.getLast hn, (List.dropLast_concat_getLast hn).symm⟩
    rw [List.nodup_append] at nr
    have lq : q.length = i := by simpa using lr
    refine List.mem_flatMap.mpr ⟨q, h.all q nr.1 (fun x hx => sr x (List.mem_append_left _ hx)) lq, List.mem_map.mpr ⟨m, List.mem_filter.mpr ⟨sr m (List.mem_append_right _ (List.mem_singleton.mpr rfl)), ?_⟩, rfl⟩⟩
    have : m ∉ q := fun z => nr.2.2 m z m (List.mem_singleton.mpr rfl) rfl
    simpa using this
theorem out_loop {ys : List Str} (hy : ys.length ≤ 4) : ∀ (ds : List D) (i : Nat) (rows : List (List Str)) (s2 s3 s4 : Sl), i + ds.length ≤ 4 → Part ys i rows → Plain s2 → Plain s3 → Plain s4 →
    ∃ out t2 t3 t4, Part ys (i + ds.length) out ∧ forL (setV 2) (mSeq (mSet 3 (mL (mDisp mNil)))
    (mSeq (mFor (mIt (mVar 1)) (setV 4) (mSet 3 (mOp addD (mVar 3) (mL (mLc (mIt (mVar 0)) (setV 5) (mB (mOp (fun a b => (inB a b).map fun r => .bl (!r)) (mVar 5) (mVar 4))) (mOp addTD (mVar 4) (mTup false (mCons (mVar 5) mNil))) [5])))))
    (mSet 1 (mVar 3)))) ds [.val (.lst (ys.map D.str)), .val (.lst (rows.map rD)), s2, s3, s4, .un] = some (.nx [.val (.lst (ys.map D.str)), .val (.lst (out.map rD)), t2, t3, t4, .un])
  | [], i, rows, s2, s3, s4, _, h, _, _, _ => ⟨rows, s2, s3, s4, h, rfl⟩
  | d :: ds, i, rows, s2, s3, s4, hi, h, p2, p3, p4 => by
    rw [List.length_cons] at hi ⊢
    have few : rows.length ≤ 256 := Nat.le_trans h.few (by
      have : 4 ^ i ≤ 4 ^ 4 := Nat.pow_le_pow_right (by decide) (by omega)
      exact this)
    obtain ⟨t4, q4, e⟩ := mid_loop (s1 := .val (.lst (rows.map rD))) (s2 := .val d) hy rows [] s4 (fun r hr => by rw [(h.row r hr).2.2]; omega) (by simp; omega) p4
    rw [List.nil_append] at e
    obtain ⟨out, u2, u3, u4, ho, e2⟩ := out_loop hy ds (i + 1) (longers ys rows) (.val d) (.val (.lst ((longers ys rows).map rD))) t4 (by omega) (part_next hy h) (.inr ⟨_, rfl⟩) (.inr ⟨_, rfl⟩) q4
    rw [show i + 1 + ds.length = i + (ds.length + 1) by omega] at ho
    refine ⟨out, u2, u3, u4, ho, v_forC (ρ1 := [.val (.lst (ys.map D.str)), .val (.lst (rows.map rD)), .val d, s3, s4, .un]) (ρ2 := [.val (.lst (ys.map D.str)), .val (.lst ((longers ys rows).map rD)), .val d, .val (.lst ((longers ys rows).map rD)), t4, .un]) (setV_plain rfl p2) ?_ e2⟩
    exact v_seq (v_set (i := 3) (ρ1 := [.val (.lst (ys.map D.str)), .val (.lst (rows.map rD)), .val d, s3, s4, .un]) (v_L (v_disp v_nil (show 0 ≤ 100000 by decide))) (show 3 < 6 by decide) (lent_plain p3)) (v_seq (v_for (v_it (d := .lst (rows.map rD)) rfl rfl) e) (v_set (i := 1) (ρ1 := [.val (.lst (ys.map D.str)), .val (.lst (rows.map rD)), .val d, .val (.lst ((longers ys rows).map rD)), t4, .un]) rfl (show 1 < 6 by decide) rfl))
theorem perm_full : ∀ {r ys : List Str}, r.Nodup → (∀ x ∈ r, x ∈ ys) → r.length = ys.length → r.Perm ys
  | [], ys, _, _, hl => by
    rw [List.length_eq_zero_iff.mp hl.symm]
  | x :: r, ys, nd, sub, hl => by
    obtain ⟨nx, nd'⟩ := List.nodup_cons.mp nd
    have hx : x ∈ ys := sub x (List.mem_cons_self ..)
    have pe := List.perm_cons_erase hx
    refine List.Perm.trans (List.Perm.cons x (perm_full nd' (fun y hy => ?_) ?_)) pe.symm
    · have ne : y ≠ x := fun e => nx (by rw [← e]; exact hy)
      exact (List.mem_erase_of_ne ne).mpr (sub y (List.mem_cons_of_mem _ hy))
    · have := pe.length_eq
      rw [List.length_cons] at this hl
      omega
theorem all_rows_okF {ys : List Str} (hy : ys.length ≤ 4) : ∃ rows : List (List Str), F_L_all_rows [.lst (ys.map D.str)] = some (.lst (rows.map rD)) ∧ (∀ r ∈ rows, r.Perm ys) ∧ (∀ r : List Str, ys.Nodup → r.Perm ys → r ∈ rows) ∧ rows.length ≤ 256 := by
  obtain ⟨out, t2, t3, t4, ho, e⟩ := out_loop hy (ys.map D.str) 0 [[]] .un .un .un (by rw [List.length_map]; omega) ⟨Nat.le_refl _, fun r hr => by rw [List.mem_singleton.mp hr]; exact ⟨List.nodup_nil, fun x hx => (nomatch hx), rfl⟩, fun r _ _ lr => by rw [List.length_eq_zero_iff.mp lr]; exact List.mem_singleton.mpr rfl⟩ (.inl rfl) (.inl rfl) (.inl rfl)
  rw [List.length_map, Nat.zero_add] at ho
  refine ⟨out, v_runP rfl (v_seq (v_set (i := 1) (ρ1 := [.val (.lst (ys.map D.str)), .un, .un, .un, .un, .un]) (v_L (v_disp (v_cons (v_tup v_nil (show 0 ≤ 100000 by decide)) v_nil) (show 1 ≤ 100000 by decide))) (show 1 < 6 by decide) rfl) (v_seq (v_for (v_it (d := .lst (ys.map D.str)) rfl rfl) e) (v_ret rfl))), fun r hr => ?_, fun r ny hr => ho.all r (hr.nodup_iff.mpr ny) (fun x hx => hr.mem_iff.mp hx) hr.length_eq, Nat.le_trans ho.few (Nat.le_trans (Nat.pow_le_pow_right (by decide) hy) (by decide))⟩
  obtain ⟨h1, h2, h3⟩ := ho.row r hr
  exact perm_full h1 h2 h3
theorem all_rows_ok {ys : List Str} (hy : ys.length ≤ 4) : ∃ rows : List (List Str), F_L_all_rows [.lst (ys.map D.str)] = some (.lst (rows.map rD)) ∧ (∀ r ∈ rows, r.Perm ys) ∧ ∀ r : List Str, ys.Nodup → r.Perm ys → r ∈ rows := by
  obtain ⟨rows, h1, h2, h3, _⟩ := all_rows_okF hy
  exact ⟨rows, h1, h2, h3⟩
theorem rows_few {ys : List Str} {rows : List (List Str)} (h : F_L_all_rows [.lst (ys.map D.str)] = some (.lst (rows.map rD))) (hy : ys.length ≤ 4) : rows.length ≤ 100000 := by
  obtain ⟨out, e, _, _, few⟩ := all_rows_okF hy
  rw [e] at h
  have := congrArg (fun o : Option D => match o with | some (.lst l) => l.length | _ => 0) h
  simp at this
  omega
end Pl
namespace Pl
open PySem PySem.Spec PyProof.Rows L2 Kn
variable [Tbs]
/-! tables of pairs -/
abbrev pW (p : Str × Str) : D := .tup true [.str p.1, .str p.2]
def kW (p : Str × Str) : List Key := [Sum.inr p.1, Sum.inr p.2]
theorem kW_inj {p q : Str × Str} (h : kW p = kW q) : p = q := by
  unfold kW at h
  simp only [List.cons.injEq, Sum.inr.injEq, and_true] at h
  exact Prod.ext h.1 h.2
theorem ix_tell {c : Cl} {a : Str} (h : a ∈ c.map (·.1)) : ixD (dctOf c) (.str a) = some (.str (tell c a)) := by
  obtain ⟨p, hp, e⟩ := look_in h
  show look (c.map fun p => (Sum.inr p.1 : Key)) (c.map fun p => D.str p.2) (Sum.inr a) = _
  unfold tell
  rw [look_map, e]
  rfl
theorem stepW_ok {c : Cl} {p : Str × Str} (h1 : p.1 ∈ c.map (·.1)) (h2 : p.2 ∈ c.map (·.1)) : F_step [dctOf c, pW p] = some (pW (stepM c p)) := by
  have e1 := ix_tell h1
  have e2 := ix_tell h2
  have f1 : ixD (pW p) (.int 0) = some (.str p.1) := rfl
  have f2 : ixD (pW p) (.int 1) = some (.str p.2) := rfl
  by_cases e : tell c p.1 = tell c p.2
  · have es : stepM c p = p := by unfold stepM; rw [if_pos e]
    rw [es]
    simp [F_step, m_step, runP, begin0, mSeq, mPar2, mPar, mOp, mVar, mC, f1, f2, e1, e2, isLent, mIfS, mB, eqDD, eqB, eqSc, e, mRet, mTup, mCons, mNil, mNx]
  · have es : stepM c p = (tell c p.1, tell c p.2) := by unfold stepM; rw [if_neg e]
    rw [es]
    simp [F_step, m_step, runP, begin0, mSeq, mPar2, mPar, mOp, mVar, mC, f1, f2, e1, e2, isLent, mIfS, mB, eqDD, eqB, eqSc, e, mRet, mTup, mCons, mNil, mNx]
def twoP (xs : List Str) : List (Str × Str) := xs.flatMap fun a => (xs.filter fun b => !decide (a = b)).map fun b => (a, b)
theorem mem_two {xs : List Str} {p : Str × Str} : p ∈ twoP xs ↔ p.1 ∈ xs ∧ p.2 ∈ xs ∧ p.1 ≠ p.2 := by
  unfold twoP
  simp only [List.mem_flatMap, List.mem_map, List.mem_filter]
  constructor
  · rintro ⟨a, ha, b, ⟨hb, hn⟩, rfl⟩
    exact ⟨ha, hb, by simpa using hn⟩
  · rintro ⟨h1, h2, h3⟩
    exact ⟨p.1, h1, p.2, ⟨h2, by simpa using h3⟩, rfl⟩
theorem two_len (xs : List Str) : (twoP xs).length ≤ xs.length * xs.length := by
  have : ∀ ys : List Str, (ys.flatMap fun a => (xs.filter fun b => !decide (a = b)).map fun b => (a, b)).length ≤ ys.length * xs.length := by
    intro ys
    induction ys with
    | nil => simp
    | cons y ys ih =>
      rw [List.flatMap_cons, List.length_append, List.length_map, List.length_cons, Nat.succ_mul]
      have := List.length_filter_le (fun b => !decide (y = b)) xs
      omega
  exact this xs
theorem two_nodup {xs : List Str} (nd : xs.Nodup) : (twoP xs).Nodup := by
  have : ∀ ys : List Str, ys.Nodup → (ys.flatMap fun a => (xs.filter fun b => !decide (a = b)).map fun b => (a, b)).Nodup := by
    intro ys
    induction ys with
    | nil => simp
    | cons y ys ih =>
      intro ny
      obtain ⟨n1, n2⟩ := List.nodup_cons.mp ny
      rw [List.flatMap_cons, List.nodup_append]
      refine ⟨List.pairwise_map.mpr ((nd.filter _).imp fun h e => h (Prod.mk.inj e).2), ih n2, fun p hp q hq e => ?_⟩
      obtain ⟨b, _, rfl⟩ := List.mem_map.mp hp
      obtain ⟨a, ha, hq⟩ := List.mem_flatMap.mp hq
      obtain ⟨d, _, rfl⟩ := List.mem_map.mp hq
      rw [(Prod.mk.inj e).1] at n1
      exact n1 ha
  exact this xs nd
theorem kW_nodup {ps : List (Str × Str)} (nd : ps.Nodup) : (ps.map kW).Nodup := List.pairwise_map.mpr (nd.imp fun h e => h (kW_inj e))
abbrev tabG (ps : List (Str × Str)) (g : Str × Str → Str × Str) : D := .dcT (ps.map kW) (ps.map fun p => pW (g p))
theorem tab_ix {ps : List (Str × Str)} {g : Str × Str → Str × Str} {p : Str × Str} (h : p ∈ ps) : ixD (tabG ps g) (pW p) = some (pW (g p)) := by
  show look (ps.map kW) (ps.map fun p => pW (g p)) (kW p) = _
  exact look_ix h fun y _ e => kW_inj e
theorem tab_it (ps : List (Str × Str)) (g : Str × Str → Str × Str) : itD (tabG ps g) = some (ps.map pW) := by
  show some ((ps.map kW).map fun k => D.tup true (k.map keyToD)) = _
  rw [List.map_map]
  rfl
theorem acc_split {g : Str × Str → Str × Str} (ps : List (Str × Str)) : (ps.map fun p => (kW p, pW (g p))).map (·.1) = ps.map kW ∧ (ps.map fun p => (kW p, pW (g p))).map (·.2) = ps.map fun p => pW (g p) := by
  rw [List.map_map, List.map_map]
  exact ⟨rfl, rfl⟩
theorem comp1_ok {xs : List Str} (nd : xs.Nodup) (hl : xs.length < 64) {wd : D} {b : Bool} : mDcT (mIt (mVar 0)) (setV 5) mYes (bIn (mIt (mVar 0)) (setV 6) (mB (mOp neDD (mVar 5) (mVar 6))) (bPut (mTup true (mCons (mVar 5) (mCons (mVar 6) mNil))) (mTup true (mCons (mVar 5) (mCons (mVar 6) mNil)))) [6]) [5, 6] [.val (.tup b (xs.map D.str)), .val wd, .un, .un, .un, .un, .un, .un] = some (tabG (twoP xs) id, [.val (.tup b (xs.map D.str)), .val wd, .un, .un, .un, .un, .un, .un]) := by
  have big : xs.length * xs.length ≤ 4096 := Nat.le_trans (Nat.mul_le_mul (by omega : xs.length ≤ 64) (by omega : xs.length ≤ 64)) (by decide)
  let f : Str → Acc := fun a => ((xs.filter fun b => !decide (a = b)).map fun b => (kW (a, b), pW (a, b)))
  have ef : xs.flatMap f = (twoP xs).map fun p => (kW p, pW (id p)) := by
    unfold twoP
    rw [List.map_flatMap]
    congr 1
    funext a
    rw [List.map_map]
    rfl
  have ek : (xs.flatMap f).map (·.1) = (twoP xs).map kW := by rw [ef]; exact (acc_split (g := id) _).1
  have e := wlk_in (tg := setV 5) (tt := mYes) (body := bIn (mIt (mVar 0)) (setV 6) (mB (mOp neDD (mVar 5) (mVar 6))) (bPut (mTup true (mCons (mVar 5) (mCons (mVar 6) mNil))) (mTup true (mCons (mVar 5) (mCons (mVar 6) mNil)))) [6]) (vs := [5, 6]) (ρ0 := [.val (.tup b (xs.map D.str)), .val wd, .un, .un, .un, .un, .un, .un]) (K := 90000) D.str f xs [] (fun a _ => ⟨[.val (.tup b (xs.map D.str)), .val wd, .un, .un, .un, .val (.str a), .un, .un], rfl, rfl, rfl, fun acc' hk nd' => ?_⟩) (by rw [List.nil_append, ef, List.length_map]; exact Nat.le_trans (two_len xs) (by omega)) (by rw [List.nil_append, ek]; exact kW_nodup (two_nodup nd))
  · rw [List.nil_append] at e
    have := v_dcT (src := mIt (mVar 0)) (ρ := [.val (.tup b (xs.map D.str)), .val wd, .un, .un, .un, .un, .un, .un]) (ρ1 := [.val (.tup b (xs.map D.str)), .val wd, .un, .un, .un, .un, .un, .un]) (v_it (d := .tup b (xs.map D.str)) rfl rfl) rfl e
    rw [this, ef, (acc_split _).1, (acc_split _).2]
    rfl
  · refine v_bIn (ρ1 := [.val (.tup b (xs.map D.str)), .val wd, .un, .un, .un, .val (.str a), .un, .un]) (v_it (d := .tup b (xs.map D.str)) rfl rfl) rfl (ρ2 := [.val (.tup b (xs.map D.str)), .val wd, .un, .un, .un, .val (.str a), .un, .un]) ?_
    refine wlk_put (tg := setV 6) (tt := mB (mOp neDD (mVar 5) (mVar 6))) (vs := [6]) (ρ0 := [.val (.tup b (xs.map D.str)), .val wd, .un, .un, .un, .val (.str a), .un, .un]) D.str (fun b => !decide (a = b)) (fun b => kW (a, b)) (fun b => pW (a, b)) xs acc' (fun x _ => ⟨[.val (.tup b (xs.map D.str)), .val wd, .un, .un, .un, .val (.str a), .val (.str x), .un], rfl, rfl, rfl, fun _ => ⟨pW (a, x), rfl, rfl, rfl⟩⟩) (by omega) ?_
    rw [show (f a).map (·.1) = ((xs.filter fun b => !decide (a = b)).map fun b => kW (a, b)) from by rw [List.map_map]; rfl] at nd'
    exact nd'
theorem told_loop {ps : List (Str × Str)} {folk : List Str} {b : Bool} {nm wd : D} (np : ps.Nodup) (lp : ps.length < 90000) (nd : folk.Nodup) : ∀ (cs : List Cl) (g : Str × Str → Str × Str) (s3 s4 : Sl), (∀ c ∈ cs, c.map (·.1) = folk ∧ ∀ p ∈ c, p.2 ∈ folk) → (∀ p ∈ ps, (g p).1 ∈ folk ∧ (g p).2 ∈ folk) → Plain s3 → Plain s4 →
    ∃ t3 t4, forL (setV 3) (mSeq (mSet 4 (mCall dictD (mCons (mVar 3) mNil)))
    (mSet 2 (mDcT (mIt (mVar 2)) (setV 7) mYes (bPut (mVar 7) (mCall F_step (mCons (mVar 4) (mCons (mOp ixD (mVar 2) (mVar 7)) mNil)))) [7]))) (cs.map (cD b)) [.val nm, .val wd, .val (tabG ps g), s3, s4, .un, .un, .un] = some (.nx [.val nm, .val wd, .val (tabG ps fun p => endM cs (g p)), t3, t4, .un, .un, .un])
  | [], g, s3, s4, _, _, _, _ => ⟨s3, s4, rfl⟩
  | c :: cs, g, s3, s4, h, hg, q3, q4 => by
    obtain ⟨hc, hw⟩ := h c (List.mem_cons_self ..)
    have hd : dictD [cD b c] = some (dctOf c) := dict_ok (by rw [hc]; exact nd)
    have hg' : ∀ p ∈ ps, (stepM c (g p)).1 ∈ folk ∧ (stepM c (g p)).2 ∈ folk := fun p hp => by
      have t1 := tell_mem (c := c) (a := (g p).1) (by rw [hc]; exact (hg p hp).1)
      have t2 := tell_mem (c := c) (a := (g p).2) (by rw [hc]; exact (hg p hp).2)
      show (stepM c (g p)).1 ∈ folk ∧ (stepM c (g p)).2 ∈ folk
      unfold stepM
      split
      · exact hg p hp
      · exact ⟨hw ((g p).1, tell c (g p).1) t1, hw ((g p).2, tell c (g p).2) t2⟩
    obtain ⟨t3, t4, ih⟩ := told_loop np lp nd (nm := nm) (wd := wd) (b := b) cs (fun p => stepM c (g p)) (.val (cD b c)) (.val (dctOf c)) (fun d hd => h d (List.mem_cons_of_mem _ hd)) hg' (.inr ⟨_, rfl⟩) (.inr ⟨_, rfl⟩)
    refine ⟨t3, t4, v_forC (ρ1 := [.val nm, .val wd, .val (tabG ps g), .val (cD b c), s4, .un, .un, .un]) (setV_plain rfl q3) (v_seq (v_set (i := 4) (ρ1 := [.val nm, .val wd, .val (tabG ps g), .val (cD b c), s4, .un, .un, .un]) (v_call (v_cons rfl v_nil) hd) (show 4 < 8 by decide) (lent_plain q4)) (v_set (i := 2) (ρ1 := [.val nm, .val wd, .val (tabG ps g), .val (cD b c), .val (dctOf c), .un, .un, .un]) ?_ (show 2 < 8 by decide) rfl)) ih⟩
    have ft : ps.filter (fun _ => true) = ps := List.filter_eq_self.mpr fun _ _ => rfl
    have e := wlk_put (tg := setV 7) (tt := mYes) (tk := mVar 7) (tv := mCall F_step (mCons (mVar 4) (mCons (mOp ixD (mVar 2) (mVar 7)) mNil))) (vs := [7]) (ρ0 := [.val nm, .val wd, .val (tabG ps g), .val (cD b c), .val (dctOf c), .un, .un, .un]) pW (fun _ => true) kW (fun p => pW (stepM c (g p))) ps [] (fun p hp => ⟨[.val nm, .val wd, .val (tabG ps g), .val (cD b c), .val (dctOf c), .un, .un, .val (pW p)], rfl, rfl, rfl, fun _ => ⟨pW p, rfl, rfl, v_call (v_cons rfl (v_cons (v_op rfl rfl (tab_ix hp)) v_nil)) (stepW_ok (by rw [hc]; exact (hg p hp).1) (by rw [hc]; exact (hg p hp).2))⟩⟩) (by simp; omega) (by rw [ft]; simpa using kW_nodup np)
    rw [ft, List.nil_append] at e
    have := v_dcT (src := mIt (mVar 2)) (ρ := [.val nm, .val wd, .val (tabG ps g), .val (cD b c), .val (dctOf c), .un, .un, .un]) (ρ1 := [.val nm, .val wd, .val (tabG ps g), .val (cD b c), .val (dctOf c), .un, .un, .un]) (v_it rfl (tab_it ps g)) rfl e
    rw [(acc_split (g := fun p => stepM c (g p)) ps).1, (acc_split (g := fun p => stepM c (g p)) ps).2] at this
    exact this
abbrev tabD (folk : List Str) (w : List Cl) : D := tabG (twoP folk) (endM w.reverse)
theorem ptold_ok {folk : List Str} {w : List Cl} {b k : Bool} {wd : D} (h : WordOk folk w) (hwd : seqD wd = some (w.map (cD b))) : F_pairs_told [.tup k (folk.map D.str), wd] = some (tabD folk w) := by
  have big : folk.length * folk.length ≤ 4096 := Nat.le_trans (Nat.mul_le_mul (by have := h.few; omega : folk.length ≤ 64) (by have := h.few; omega : folk.length ≤ 64)) (by decide)
  obtain ⟨t3, t4, e⟩ := told_loop (b := b) (nm := .tup k (folk.map D.str)) (wd := wd) (two_nodup h.nd) (Nat.lt_of_le_of_lt (two_len folk) (by omega)) h.nd w.reverse id .un .un (fun c hc => ⟨h.who c (List.mem_reverse.mp hc), h.whom c (List.mem_reverse.mp hc)⟩) (fun p hp => ⟨(mem_two.mp hp).1, (mem_two.mp hp).2.1⟩) (.inl rfl) (.inl rfl)
  have er : mRv (mVar 1) [.val (.tup k (folk.map D.str)), .val wd, .val (tabG (twoP folk) id), .un, .un, .un, .un, .un] = some (w.reverse.map (cD b), [.val (.tup k (folk.map D.str)), .val wd, .val (tabG (twoP folk) id), .un, .un, .un, .un, .un]) := by
    show (seqD wd).map _ = _
    rw [hwd, List.map_reverse]
    rfl
  exact v_runP rfl (v_seq (v_set (i := 2) (comp1_ok h.nd h.few) (show 2 < 8 by decide) rfl) (v_seq (v_for er e) (v_ret rfl)))
theorem sort_seq {d : D} {xs : List Str} (h : seqD d = some (xs.map D.str)) (hl : xs.length < 64) : sortF [d] = some ((sortS xs).map D.str) := by simp [sortF, h, strsOf_map, hl]
theorem sq_sort {d : D} {xs : List Str} (h : seqD d = some (xs.map D.str)) (hl : xs.length < 64) : sortF [d] = some ((sortS xs).map D.str) := sort_seq h hl
abbrev tableD (folk : List Str) (w : List Cl) : D := .ins ["who", "pairs"] [rD folk, tabD folk w]
theorem table_ok {xs : List Str} {w : List Cl} {b : Bool} {nm wd : D} (h : WordOk (sortS xs) w) (hn : seqD nm = some (xs.map D.str)) (hwd : seqD wd = some (w.map (cD b))) (hit : itD wd = some (w.map (cD b))) : F_Table___init__ [nm, wd] = some [rD (sortS xs), tabD (sortS xs) w] := by
  have hl : xs.length < 64 := by rw [← (sortS_perm xs).length_eq]; exact h.few
  exact v_ini (v_call (v_cons rfl (v_cons rfl v_nil)) (mbo_perm h (sortS_perm xs).symm hn hit)) (v_call (v_cons (v_L (v_call (v_cons rfl v_nil) (sq_sort hn hl))) v_nil) rfl) rfl (ptold_ok h hwd)
theorem pW_sh {p : Str × Str} (h : PyData.strOk p.1 = true ∧ PyData.strOk p.2 = true) : SeqAt.shaped (pW p).py = true := sh_row (xs := [p.1, p.2]) fun x hx => by
  rcases List.mem_cons.mp hx with rfl | hx
  · exact h.1
  · rw [List.mem_singleton.mp hx]
    exact h.2
theorem eqv_pW (p q : Str × Str) : PyData.eqv (pW p).py (pW q).py = decide (p = q) := by
  have := eqv_strs [p.1, p.2] [q.1, q.2]
  rw [show PyData.eqv (pW p).py (pW q).py = PyData.eqvAll (pyA ([p.1, p.2].map D.str)) (pyA ([q.1, q.2].map D.str)) from rfl, this]
  by_cases h : p = q
  · rw [h]; simp
  · rw [decide_eq_false h, decide_eq_false]
    intro z
    simp only [List.cons.injEq, and_true] at z
    exact h (Prod.ext z.1 z.2)
def sameB (folk : List Str) (w v : List Cl) : Bool := (twoP folk).all fun p => decide (endM w.reverse p = endM v.reverse p)
theorem teq_ok {folk : List Str} {w v : List Cl} (hw : WordOk folk w) (hv : WordOk folk v) : F_Table___eq__ [tableD folk w, tableD folk v] = some (.bl (sameB folk w v)) := by
  have e1 : eqDD (rD folk) (rD folk) = some (.bl true) := by rw [eq_row hw.txs hw.txs]; simp
  have e2 : eqTD (tabD folk w) (tabD folk v) = some (.bl (sameB folk w v)) := eqTD_ix (fun x _ y _ e => kW_inj e) fun p hp => by
    obtain ⟨h1, h2, _⟩ := mem_two.mp hp
    have i1 := end_in hw w.reverse p (fun c hc => List.mem_reverse.mp hc) h1 h2
    have i2 := end_in hv v.reverse p (fun c hc => List.mem_reverse.mp hc) h1 h2
    unfold eqSh
    rw [if_pos ⟨pW_sh ⟨hw.txs _ i1.1, hw.txs _ i1.2⟩, pW_sh ⟨hw.txs _ i2.1, hw.txs _ i2.2⟩⟩, eqv_pW]
  exact v_runP rfl (v_ret (v_andV (v_isC rfl) (v_andV (v_op (v_fld rfl rfl) (v_fld rfl rfl) e1) (v_op (v_fld rfl rfl) (v_fld rfl rfl) e2))))
theorem alike_ok {xs : List Str} {w v : List Cl} {b b' : Bool} {nm wd vd : D} (hw : WordOk (sortS xs) w) (hv : WordOk (sortS xs) v) (hn : seqD nm = some (xs.map D.str)) (hwd : seqD wd = some (w.map (cD b))) (hit : itD wd = some (w.map (cD b))) (hvd : seqD vd = some (v.map (cD b'))) (hjt : itD vd = some (v.map (cD b'))) :
    F_alike [nm, wd, vd] = some (.bl (sameB (sortS xs) w v)) := by
  have e : eqI F_Table___eq__ (tableD (sortS xs) w) (tableD (sortS xs) v) = some (.bl (sameB (sortS xs) w v)) := by
    show (match F_Table___eq__ [tableD (sortS xs) w, tableD (sortS xs) v] with | some (D.bl r) => some (D.bl r) | _ => none) = _
    rw [teq_ok hw hv]
  exact v_runP rfl (v_ret (v_op (v_make (v_cons rfl (v_cons rfl v_nil)) (table_ok hw hn hwd hit)) (v_make (v_cons rfl (v_cons rfl v_nil)) (table_ok hv hn hvd hjt)) e))
theorem idx_cons (x a : Str) (l : List Str) : (x :: l).idxOf a = if x = a then 0 else l.idxOf a + 1 := by
  rw [List.idxOf_cons]
  by_cases h : x = a
  · rw [if_pos h, h]; simp
  · rw [if_neg h, beq_false_of_ne h]; rfl
theorem idx_pw {l : List Str} (nd : l.Nodup) : l.Pairwise fun a b => l.idxOf a < l.idxOf b := List.pairwise_iff_getElem.mpr fun i j hi hj hij => by
  rw [List.Nodup.idxOf_getElem nd i hi, List.Nodup.idxOf_getElem nd j hj]
  exact hij
/-! two words lead every row alike just where their tables are one -/
theorem lead_same {w v : List Cl} {row : List Str} (hw : ∀ c ∈ w, RowCall row c) (hv : ∀ c ∈ v, RowCall row c) (nd : row.Nodup) (h : ∀ p : Str × Str, p.1 ∈ row → p.2 ∈ row → p.1 ≠ p.2 → endM w.reverse p = endM v.reverse p) : leadAll row w = leadAll row v := by
  have pw := lead_perm w row
  have pv := lead_perm v row
  have key : ∀ a b, a ∈ row → b ∈ row → ((leadAll row w).idxOf a < (leadAll row w).idxOf b ↔ (leadAll row v).idxOf a < (leadAll row v).idxOf b) := fun a b ha hb => by
    by_cases e : a = b
    · rw [e]
      simp
    · have h1 := (walkers w row (a, b) hw nd ha hb e).2
      have h2 := (walkers v row (a, b) hv nd ha hb e).2
      rw [h (a, b) ha hb e] at h1
      exact h1.trans h2.symm
  have sw : (leadAll row w).Pairwise fun a b => (leadAll row w).idxOf a < (leadAll row w).idxOf b := idx_pw (pw.nodup_iff.mpr nd)
  have sv : (leadAll row v).Pairwise fun a b => (leadAll row w).idxOf a < (leadAll row w).idxOf b := (idx_pw (pv.nodup_iff.mpr nd)).imp_of_mem fun ha hb z => (key _ _ (pv.mem_iff.mp ha) (pv.mem_iff.mp hb)).mpr z
  exact List.Perm.eq_of_pairwise (fun a b _ _ h1 h2 => absurd h2 (by omega)) sw sv (pw.trans pv.symm)
/-- a row in which two wishes are kept -/
theorem row_for {xs : List Str} {a b a' b' : Str} (nd : xs.Nodup) (ha : a ∈ xs) (hb : b ∈ xs) (hab : a ≠ b) (ha' : a' ∈ xs) (hb' : b' ∈ xs) (hab' : a' ≠ b') (ne : (a, b) ≠ (a', b')) : ∃ row : List Str, row.Perm xs ∧ row.idxOf a < row.idxOf b ∧ ¬ row.idxOf a' < row.idxOf b' := by
  have top : ∀ {f s : Str}, f ∈ xs → s ∈ xs → f ≠ s → (f :: s :: (xs.erase f).erase s).Perm xs := fun hf hs n =>
    (List.Perm.cons _ (List.perm_cons_erase ((List.mem_erase_of_ne (Ne.symm n)).mpr hs)).symm).trans (List.perm_cons_erase hf).symm
  by_cases e1 : a = a'
  · subst e1
    have nb : b ≠ b' := fun z => ne (by rw [z])
    exact ⟨b' :: a :: (xs.erase b').erase a, top hb' ha (Ne.symm hab'), by simp [idx_cons, Ne.symm hab', Ne.symm nb, hab], by simp [idx_cons, Ne.symm hab']⟩
  · by_cases e2 : a = b'
    · subst e2
      exact ⟨a :: b :: (xs.erase a).erase b, top ha hb hab, by simp [idx_cons, hab], by simp [idx_cons]⟩
    · exact ⟨a :: b' :: (xs.erase a).erase b', top ha hb' e2, by simp [idx_cons, hab], by simp [idx_cons, e1, e2, Ne.symm hab']⟩
theorem same_iff {folk : List Str} {w v : List Cl} (hw : WordOk folk w) (hv : WordOk folk v) : sameB folk w v = true ↔ ∀ row : List Str, row.Perm folk → leadAll row w = leadAll row v := by
  have rc : ∀ {u : List Cl} {row : List Str}, WordOk folk u → row.Perm folk → ∀ c ∈ u, RowCall row c := fun hu hp c hc =>
    ⟨by rw [hp.length_eq]; exact hu.few, hp.nodup_iff.mpr hu.nd, fun x hx => hu.txs x (hp.mem_iff.mp hx), by rw [hu.who c hc]; exact hp.symm, fun p hp' => hp.mem_iff.mpr (hu.whom c hc p hp')⟩
  unfold sameB
  rw [List.all_eq_true]
  constructor
  · intro h row hp
    refine lead_same (rc hw hp) (rc hv hp) (hp.nodup_iff.mpr hw.nd) fun p h1 h2 n => ?_
    exact of_decide_eq_true (h p (mem_two.mpr ⟨hp.mem_iff.mp h1, hp.mem_iff.mp h2, n⟩))
  · intro h p hp
    obtain ⟨h1, h2, n⟩ := mem_two.mp hp
    refine decide_eq_true (Classical.byContradiction fun ne => ?_)
    have w0 := (walkers w folk p (rc hw (List.Perm.refl _)) hw.nd h1 h2 n).1
    have v0 := (walkers v folk p (rc hv (List.Perm.refl _)) hv.nd h1 h2 n).1
    obtain ⟨row, hr, r1, r2⟩ := row_for hw.nd w0.1 w0.2.1 w0.2.2 v0.1 v0.2.1 v0.2.2 ne
    have nr := hr.nodup_iff.mpr hw.nd
    have a1 := (walkers w row p (rc hw hr) nr (hr.mem_iff.mpr h1) (hr.mem_iff.mpr h2) n).2.mpr r1
    rw [h row hr] at a1
    exact r2 ((walkers v row p (rc hv hr) nr (hr.mem_iff.mpr h1) (hr.mem_iff.mpr h2) n).2.mp a1)
end Pl
namespace Pl
open PySem PySem.Spec PyProof.Rows L2 Kn
variable [Tbs]
theorem cut_w (w : List Cl) (x y : Option Int) : ∃ u : List Cl, cutL (w.map (cD false)) x y = u.map (cD false) ∧ u.length ≤ w.length ∧ ∀ c ∈ u, c ∈ w := by
  refine ⟨(w.drop (HT.sIx w.length 0 x)).take (HT.sIx w.length w.length y - HT.sIx w.length 0 x), ?_, ?_, fun c hc => List.mem_of_mem_drop (List.mem_of_mem_take hc)⟩
  · unfold cutL
    rw [List.length_map, List.map_take, List.map_drop]
  · rw [List.length_take, List.length_drop]
    omega
theorem ad_w (a b : List Cl) (h : a.length + b.length ≤ 1000) : addD (wL a) (wL b) = some (wL (a ++ b)) := by
  rw [wL, wL, wL, List.map_append]
  exact if_pos (by rw [List.length_map, List.length_map]; omega)
abbrev Gd1 (ys : List Str) (c : Cl) : Prop := c.map (·.1) = sortS ys ∧ ∀ p ∈ c, p.2 ∈ sortS ys
theorem own_gd (ys : List Str) : Gd1 ys (ownC (sortS ys)) := ⟨own_fst _, fun p hp => by
  obtain ⟨x, hx, rfl⟩ := List.mem_map.mp hp
  exact hx⟩
theorem add_l (a b : List D) (h : a.length + b.length ≤ 100000) : addD (.lst a) (.lst b) = some (.lst (a ++ b)) := if_pos h
theorem near_ok {n : Nat} {bs : List D} {ys : List Str} {w : List Cl} (h : Box n bs) (hn : n + 200000 < 1000000000) (h0 : 1 ≤ ys.length) (h1 : ys.length ≤ 60) (wl : w.length ≤ 50) (hw : ∀ c ∈ w, Gd1 ys c) :
    ∃ v : List Cl, v.length ≤ 200 ∧ (∀ c ∈ v, Gd1 ys c) ∧ ∃ bs', F_L_near_word bs [.lst (ys.map D.str), wL w] = some (wL v, bs') ∧ Box (n + 31000) bs' := by
  obtain ⟨r, bs1, e1, r0, r1, hb1⟩ := take_ok h (by omega) (b := (w.length : Int) + 1) (by omega) (by omega)
  obtain ⟨q, bs2, e2, q0, q1, hb2⟩ := take_ok hb1 (by omega) (b := 5) (by omega) (by omega)
  obtain ⟨c5, ch, cm, bs3, e3, hb3⟩ := ask_ok (ys := ys) hb2 (by omega) h0 h1
  obtain ⟨v5, vl, vh, bs4, e4, hb4⟩ := asks_ok (m := 5) (ys := ys) hb3 (by omega) h0 h1 (by omega)
  obtain ⟨u1, k1, l1, g1⟩ := cut_w w none (some r)
  obtain ⟨u2, k2, l2, g2⟩ := cut_w w (some r) none
  obtain ⟨u3, k3, l3, g3⟩ := cut_w w (some r) (some (r + 1))
  obtain ⟨u4, k4, l4, g4⟩ := cut_w w (some (r + 1)) none
  let vs : List (List Cl) := [u1 ++ [ownC (sortS ys)] ++ u2, u1 ++ u3 ++ u2, u1 ++ u4, u1 ++ [c5] ++ u4, v5]
  have gv : ∀ v ∈ vs, v.length ≤ 200 ∧ ∀ c ∈ v, Gd1 ys c := by
    intro v hv
    have G1 : ∀ c ∈ u1, Gd1 ys c := fun c hc => hw c (g1 c hc)
    have G2 : ∀ c ∈ u2, Gd1 ys c := fun c hc => hw c (g2 c hc)
    have G3 : ∀ c ∈ u3, Gd1 ys c := fun c hc => hw c (g3 c hc)
    have G4 : ∀ c ∈ u4, Gd1 ys c := fun c hc => hw c (g4 c hc)
    simp only [vs, List.mem_cons, List.not_mem_nil, or_false] at hv
    rcases hv with rfl | rfl | rfl | rfl | rfl
    · refine ⟨by simp; omega, fun c hc => ?_⟩
      simp only [List.mem_append, List.mem_singleton] at hc
      rcases hc with (hc | rfl) | hc
      · exact G1 c hc
      · exact own_gd ys
      · exact G2 c hc
    · refine ⟨by simp; omega, fun c hc => ?_⟩
      simp only [List.mem_append] at hc
      rcases hc with (hc | hc) | hc
      · exact G1 c hc
      · exact G3 c hc
      · exact G2 c hc
    · refine ⟨by simp; omega, fun c hc => ?_⟩
      simp only [List.mem_append] at hc
      rcases hc with hc | hc
      · exact G1 c hc
      · exact G4 c hc
    · refine ⟨by simp; omega, fun c hc => ?_⟩
      simp only [List.mem_append, List.mem_singleton] at hc
      rcases hc with (hc | rfl) | hc
      · exact G1 c hc
      · exact ⟨ch, cm⟩
      · exact G4 c hc
    · exact ⟨by omega, vh⟩
  obtain ⟨d, hd, ed⟩ := at_in (l := vs.map fun v => wL v) q0 (show q < _ by simpa [vs] using q1)
  obtain ⟨v, hv, rfl⟩ := List.mem_map.mp hd
  refine ⟨v, (gv v hv).1, (gv v hv).2, bs4, ?_, hb4.mono (by omega)⟩
  have hl := sortS_len ys
  have lc : lcL (setV 7) mYes (mTup false (mCons (mVar 7) (mCons (mVar 7) mNil))) [7] ((sortS ys).map D.str) [.own true bs2, .val (.lst (ys.map D.str)), .val (wL w), .un, .un, .val (.int r), .val (.int q), .un] = some ((sortS ys).map (fun x => pD false (x, x)), [.own true bs2, .val (.lst (ys.map D.str)), .val (wL w), .un, .un, .val (.int r), .val (.int q), .un]) :=
    lcL_ix D.str (fun x => pD false (x, x)) (sortS ys) fun x _ => ⟨_, _, rfl, rfl, v_tup (v_cons rfl (v_cons rfl v_nil)) (show 2 ≤ 100000 by decide), rfl⟩
  have lc2 : mLc (mIt (mL (mCall sortF (mCons (mVar 1) mNil)))) (setV 7) mYes (mTup false (mCons (mVar 7) (mCons (mVar 7) mNil))) [7] [.own true bs2, .val (.lst (ys.map D.str)), .val (wL w), .un, .un, .val (.int r), .val (.int q), .un] = some ((ownC (sortS ys)).map (pD false), [.own true bs2, .val (.lst (ys.map D.str)), .val (wL w), .un, .un, .val (.int r), .val (.int q), .un]) := by
    have hs : mL (mCall sortF (mCons (mVar 1) mNil)) [.own true bs2, .val (.lst (ys.map D.str)), .val (wL w), .un, .un, .val (.int r), .val (.int q), .un] = some (.lst ((sortS ys).map D.str), [.own true bs2, .val (.lst (ys.map D.str)), .val (wL w), .un, .un, .val (.int r), .val (.int q), .un]) := v_L (v_call (v_cons rfl v_nil) (sq_sort (d := .lst (ys.map D.str)) rfl (by omega)))
    have := v_lc (ρ1 := [.own true bs2, .val (.lst (ys.map D.str)), .val (wL w), .un, .un, .val (.int r), .val (.int q), .un]) (v_it hs rfl) rfl (by rw [List.length_map]; omega) lc
    rw [this]
    unfold ownC
    rw [List.map_map]
    rfl
  have s0 : mPar2 5 6 [.v (mCallB 0 F_L_take (mCons (mOp addD (mCall lenD (mCons (mVar 2) mNil)) (mC (.int 1))) mNil)), .v (mCallB 0 F_L_take (mCons (mC (.int 5)) mNil))] (beginB 5 bs [.lst (ys.map D.str), wL w]) = some (.nx [.own true bs2, .val (.lst (ys.map D.str)), .val (wL w), .un, .un, .val (.int r), .val (.int q), .un]) :=
    v_par2 (ρ1 := [.own true bs2, .val (.lst (ys.map D.str)), .val (wL w), .un, .un, .un, .un, .un]) (v_parV (ρ1 := [.own true bs1, .val (.lst (ys.map D.str)), .val (wL w), .un, .un, .un, .un, .un]) (v_callB (i := 0) (l := true) (ρ1 := [.own true bs, .val (.lst (ys.map D.str)), .val (wL w), .un, .un, .un, .un, .un]) rfl (v_cons (v_op (v_call (v_cons rfl v_nil) (show lenD [wL w] = some (.int w.length) by simp [lenD])) rfl rfl) v_nil) rfl e1) (v_parV (v_callB (i := 0) (l := true) (ρ1 := [.own true bs1, .val (.lst (ys.map D.str)), .val (wL w), .un, .un, .un, .un, .un]) rfl (v_cons rfl v_nil) rfl e2) v_parN)) (show 5 < 8 by decide) (show 6 < 8 by decide) rfl rfl
  have s1 : mSet 3 (mCall tupleD (mCons (mL (mLc (mIt (mL (mCall sortF (mCons (mVar 1) mNil)))) (setV 7) mYes (mTup false (mCons (mVar 7) (mCons (mVar 7) mNil))) [7])) mNil)) [.own true bs2, .val (.lst (ys.map D.str)), .val (wL w), .un, .un, .val (.int r), .val (.int q), .un] = some (.nx [.own true bs2, .val (.lst (ys.map D.str)), .val (wL w), .val (cD false (ownC (sortS ys))), .un, .val (.int r), .val (.int q), .un]) :=
    v_set (i := 3) (ρ1 := [.own true bs2, .val (.lst (ys.map D.str)), .val (wL w), .un, .un, .val (.int r), .val (.int q), .un]) (v_call (v_cons (v_L lc2) v_nil) rfl) (show 3 < 8 by decide) rfl
  -- the pieces, whatever the box and the own list of words
  have P1 : ∀ (b : List D) (s3 s4 : Sl), mL (mSl (mVar 2) moN (moS (mVar 5))) [.own true b, .val (.lst (ys.map D.str)), .val (wL w), s3, s4, .val (.int r), .val (.int q), .un] = some (wL u1, [.own true b, .val (.lst (ys.map D.str)), .val (wL w), s3, s4, .val (.int r), .val (.int q), .un]) := fun b s3 s4 => by
    have := v_L (v_sl (ρ := [.own true b, .val (.lst (ys.map D.str)), .val (wL w), s3, s4, .val (.int r), .val (.int q), .un]) (m := mVar 2) (lo := moN) (hi := moS (mVar 5)) rfl rfl (v_moS rfl))
    rw [k1] at this
    exact this
  have P2 : ∀ (b : List D) (s3 s4 : Sl), mL (mSl (mVar 2) (moS (mVar 5)) moN) [.own true b, .val (.lst (ys.map D.str)), .val (wL w), s3, s4, .val (.int r), .val (.int q), .un] = some (wL u2, [.own true b, .val (.lst (ys.map D.str)), .val (wL w), s3, s4, .val (.int r), .val (.int q), .un]) := fun b s3 s4 => by
    have := v_L (v_sl (ρ := [.own true b, .val (.lst (ys.map D.str)), .val (wL w), s3, s4, .val (.int r), .val (.int q), .un]) (m := mVar 2) (lo := moS (mVar 5)) (hi := moN) rfl (v_moS rfl) rfl)
    rw [k2] at this
    exact this
  have P3 : ∀ (b : List D) (s3 s4 : Sl), mL (mSl (mVar 2) (moS (mVar 5)) (moS (mOp addD (mVar 5) (mC (.int 1))))) [.own true b, .val (.lst (ys.map D.str)), .val (wL w), s3, s4, .val (.int r), .val (.int q), .un] = some (wL u3, [.own true b, .val (.lst (ys.map D.str)), .val (wL w), s3, s4, .val (.int r), .val (.int q), .un]) := fun b s3 s4 => by
    have := v_L (v_sl (ρ := [.own true b, .val (.lst (ys.map D.str)), .val (wL w), s3, s4, .val (.int r), .val (.int q), .un]) (m := mVar 2) (lo := moS (mVar 5)) (hi := moS (mOp addD (mVar 5) (mC (.int 1)))) rfl (v_moS rfl) (v_moS (v_op rfl rfl rfl)))
    rw [k3] at this
    exact this
  have P4 : ∀ (b : List D) (s3 s4 : Sl), mL (mSl (mVar 2) (moS (mOp addD (mVar 5) (mC (.int 1)))) moN) [.own true b, .val (.lst (ys.map D.str)), .val (wL w), s3, s4, .val (.int r), .val (.int q), .un] = some (wL u4, [.own true b, .val (.lst (ys.map D.str)), .val (wL w), s3, s4, .val (.int r), .val (.int q), .un]) := fun b s3 s4 => by
    have := v_L (v_sl (ρ := [.own true b, .val (.lst (ys.map D.str)), .val (wL w), s3, s4, .val (.int r), .val (.int q), .un]) (m := mVar 2) (lo := moS (mOp addD (mVar 5) (mC (.int 1)))) (hi := moN) rfl (v_moS (v_op rfl rfl rfl)) rfl)
    rw [k4] at this
    exact this
  have A0 : addD (wL (u1 ++ [ownC (sortS ys)])) (wL u2) = some (wL (u1 ++ [ownC (sortS ys)] ++ u2)) := ad_w _ _ (by simp; omega)
  have A1 : addD (wL (u1 ++ u3)) (wL u2) = some (wL (u1 ++ u3 ++ u2)) := ad_w _ _ (by simp; omega)
  have A3 : addD (wL (u1 ++ [c5])) (wL u4) = some (wL (u1 ++ [c5] ++ u4)) := ad_w _ _ (by simp; omega)
  let F3 : List D → Sl → Rh := fun b s4 => [.own true b, .val (.lst (ys.map D.str)), .val (wL w), .val (cD false (ownC (sortS ys))), s4, .val (.int r), .val (.int q), .un]
  have own1 : ∀ (b : List D) (s4 : Sl), mL (mDisp (mCons (mVar 3) mNil)) (F3 b s4) = some (wL [ownC (sortS ys)], F3 b s4) := fun b s4 => v_L (v_disp (v_cons rfl v_nil) (show 1 ≤ 100000 by decide))
  have s2 : mSet 4 (mL (mDisp (mCons (mOp addD (mOp addD (mL (mSl (mVar 2) moN (moS (mVar 5)))) (mL (mDisp (mCons (mVar 3) mNil)))) (mL (mSl (mVar 2) (moS (mVar 5)) moN))) (mCons (mOp addD (mOp addD (mL (mSl (mVar 2) moN (moS (mVar 5)))) (mL (mSl (mVar 2) (moS (mVar 5)) (moS (mOp addD (mVar 5) (mC (.int 1))))))) (mL (mSl (mVar 2) (moS (mVar 5)) moN))) (mCons (mOp addD (mL (mSl (mVar 2) moN (moS (mVar 5)))) (mL (mSl (mVar 2) (moS (mOp addD (mVar 5) (mC (.int 1)))) moN))) mNil))))) (F3 bs2 .un) = some (.nx (F3 bs2 (.val (.lst ([u1 ++ [ownC (sortS ys)] ++ u2, u1 ++ u3 ++ u2, u1 ++ u4].map fun v => wL v))))) :=
    v_set (i := 4) (ρ1 := F3 bs2 .un) (v_L (v_disp (v_cons (v_op (v_op (P1 bs2 _ _) (own1 bs2 .un) (ad_w u1 [ownC (sortS ys)] (by simp; omega))) (P2 bs2 _ _) A0) (v_cons (v_op (v_op (P1 bs2 _ _) (P3 bs2 _ _) (ad_w u1 u3 (by omega))) (P2 bs2 _ _) A1) (v_cons (v_op (P1 bs2 _ _) (P4 bs2 _ _) (ad_w u1 u4 (by omega))) v_nil))) (show 3 ≤ 100000 by decide))) (show 4 < 8 by decide) rfl
  have s3 : mRet (mOp ixD (mOp addD (mVar 4) (mL (mDisp (mCons (mOp addD (mOp addD (mL (mSl (mVar 2) moN (moS (mVar 5)))) (mL (mDisp (mCons (mCallB 0 F_L_ask (mCons (mVar 1) mNil)) mNil)))) (mL (mSl (mVar 2) (moS (mOp addD (mVar 5) (mC (.int 1)))) moN))) (mCons (mCallB 0 F_L_asks (mCons (mVar 1) (mCons (mC (.int 5)) mNil))) mNil))))) (mVar 6)) (F3 bs2 (.val (.lst ([u1 ++ [ownC (sortS ys)] ++ u2, u1 ++ u3 ++ u2, u1 ++ u4].map fun v => wL v)))) = some (.rt (wL v) (F3 bs4 (.val (.lst ([u1 ++ [ownC (sortS ys)] ++ u2, u1 ++ u3 ++ u2, u1 ++ u4].map fun v => wL v))))) := by
    refine v_ret (v_op (ρ1 := F3 bs4 (.val (.lst ([u1 ++ [ownC (sortS ys)] ++ u2, u1 ++ u3 ++ u2, u1 ++ u4].map fun v => wL v)))) (x := .lst (vs.map fun v => wL v)) (v_op (x := .lst ([u1 ++ [ownC (sortS ys)] ++ u2, u1 ++ u3 ++ u2, u1 ++ u4].map fun v => wL v)) (y := .lst ([u1 ++ [c5] ++ u4, v5].map fun v => wL v)) rfl (v_L (v_disp (v_cons (v_op (v_op (P1 bs2 _ _) (v_L (v_disp (v_cons (v_callB (i := 0) (l := true) (ρ1 := F3 bs2 _) rfl (v_cons rfl v_nil) rfl e3) v_nil) (show 1 ≤ 100000 by decide))) (ad_w u1 [c5] (by simp; omega))) (P4 bs3 _ _) A3) (v_cons (v_callB (i := 0) (l := true) (ρ1 := F3 bs3 _) rfl (v_cons rfl (v_cons rfl v_nil)) rfl e4) v_nil)) (show 2 ≤ 100000 by decide))) ?_) rfl ?_)
    · exact add_l _ _ (show 3 + 2 ≤ 100000 by decide)
    · exact ed
  exact v_runB (l := true) rfl (v_seq s0 (v_seq s1 (v_seq s2 s3))) rfl
end Pl
namespace Pl
open PySem PySem.Spec PyProof.Rows L2 Kn
variable [Tbs]
theorem bls_of {α : Type} (g : α → Bool) : ∀ l : List α, blsOf (l.map fun d => D.bl (g d)) = some (l.map g)
  | [] => rfl
  | d :: l => by
    rw [List.map_cons, blsOf, bls_of g l]
    rfl
theorem all_is {α : Type} (g : α → Bool) (l : List α) : allD [.lst (l.map fun d => D.bl (g d))] = some (.bl (l.all g)) := by
  show (blsOf (l.map fun d => D.bl (g d))).map _ = _
  rw [bls_of, Option.map_some]
  simp
theorem depA_le {k : Nat} : ∀ {l : List D}, (∀ d ∈ l, d.dep ≤ k) → depA l ≤ k
  | [], _ => Nat.zero_le _
  | d :: l, h => by
    have h1 := h d (List.mem_cons_self ..)
    have h2 := depA_le (k := k) (l := l) fun e he => h e (List.mem_cons_of_mem _ he)
    show max d.dep (depA l) ≤ k
    omega
theorem okA_all : ∀ {l : List D}, (∀ d ∈ l, d.ok = true) → okA l = true
  | [], _ => rfl
  | d :: l, h => by
    show (d.ok && okA l) = true
    rw [h d (List.mem_cons_self ..), okA_all fun e he => h e (List.mem_cons_of_mem _ he)]
    rfl
theorem lst_dep {k : Nat} {l : List D} (h : ∀ d ∈ l, d.dep ≤ k) : (D.lst l).dep ≤ k + 1 := by
  have := depA_le h
  show depA l + 1 ≤ k + 1
  omega
theorem lst_ok {l : List D} (h : ∀ d ∈ l, d.ok = true) (hl : l.length ≤ 100000) : (D.lst l).ok = true := by
  show (decide (l.length ≤ 100000) && okA l) = true
  rw [okA_all h, decide_eq_true hl]
  rfl
theorem depA_strs : ∀ xs : List Str, depA (xs.map D.str) = 0
  | [] => rfl
  | x :: xs => by
    show max 0 (depA (xs.map D.str)) = 0
    rw [depA_strs xs]
    rfl
theorem okA_strs : ∀ xs : List Str, okA (xs.map D.str) = true
  | [] => rfl
  | x :: xs => by
    show (true && okA (xs.map D.str)) = true
    rw [okA_strs xs]
    rfl
theorem dep_c (c : Cl) : (cD false c).dep ≤ 2 := by
  show depA (c.map (pD false)) + 1 ≤ 2
  have : ∀ c : Cl, depA (c.map (pD false)) ≤ 1 := fun c => by
    induction c with
    | nil => exact Nat.zero_le _
    | cons p c ih =>
      show max (pD false p).dep _ ≤ 1
      have h1 : (pD false p).dep = 1 := rfl
      omega
  have := this c
  omega
theorem ok_c {c : Cl} (h : c.length ≤ 1000) : (cD false c).ok = true := by
  have : ∀ c : Cl, okA (c.map (pD false)) = true := fun c => by
    induction c with
    | nil => rfl
    | cons p c ih =>
      show ((pD false p).ok && _) = true
      rw [show (pD false p).ok = true from rfl, ih]
      rfl
  show (decide ((c.map (pD false)).length ≤ 100000) && okA (c.map (pD false))) = true
  rw [this, decide_eq_true (by rw [List.length_map]; omega)]
  rfl

theorem v_fz {i : Nat} {m : Ms} {ρ : Rh} {ds : List D} {o : Out} (h : ρ[i]? = some (.own false ds)) (h2 : m (ρ.set i (.val (.lst ds))) = some o) : mFz i m ρ = some o := by
  unfold mFz
  rw [h]
  exact h2
theorem sameB_comm (folk : List Str) (w v : List Cl) : sameB folk w v = sameB folk v w := by
  unfold sameB
  congr 1
  funext p
  by_cases h : endM w.reverse p = endM v.reverse p
  · rw [decide_eq_true h, decide_eq_true h.symm]
  · rw [decide_eq_false h, decide_eq_false fun z => h z.symm]
theorem sameB_refl (folk : List Str) (w : List Cl) : sameB folk w w = true := by
  unfold sameB
  rw [List.all_eq_true]
  intro p _
  exact decide_eq_true rfl
theorem seq_l (w : List Cl) (b k : Bool) : seqD (.lst (w.map (cD b))) = some (w.map (cD b)) ∧ itD (.lst (w.map (cD b))) = some (w.map (cD b)) ∧ seqD (.tup k (w.map (cD b))) = some (w.map (cD b)) ∧ itD (.tup k (w.map (cD b))) = some (w.map (cD b)) := ⟨rfl, rfl, rfl, rfl⟩
theorem right_ok {n : Nat} {bs : List D} (hb : Box n bs) (hn : n + 300000 < 1000000000) : ∃ bs', F_L_right bs [] = some (.bl true, bs') ∧ Box (n + 70000) bs' := by
  obtain ⟨x, zs, ys, bs1, y0, yl, nd, ny, y2, y3, xq, hb1, e1⟩ := crewq (m := 3) hb (by omega) (by omega) (by omega) (ρ := beginB 8 bs []) rfl
  obtain ⟨w, lw, wo, bs2, e2, hb2⟩ := asks_ok (m := 5) (ys := ys) hb1 (by omega) (by omega) (by omega) (by omega)
  have hw := wordOk_of nd ny (by omega) wo
  obtain ⟨v, lv, vo, bs3, e3, hb3⟩ := near_ok (ys := ys) hb2 (by omega) (by omega) (by omega) (by omega) wo
  have hv := wordOk_of nd ny (by omega) vo
  obtain ⟨rows, er, hr, allr⟩ := all_rows_ok (ys := ys) (by omega)
  have lenr : rows.length ≤ 100000 := rows_few er (by omega)
  refine ⟨bs3, ?_, hb3.mono (by omega)⟩
  have sp := sortS_perm ys
  have rcw : ∀ r ∈ rows, ∀ c ∈ w, RowCall r c := fun r h => rc_word hw (hr r h)
  have rcv : ∀ r ∈ rows, ∀ c ∈ v, RowCall r c := fun r h => rc_word hv (hr r h)
  have txy : Txs ys := fun z hz => nm_ok (ny z hz)
  have gdn : ∀ {u : List Cl}, (∀ c ∈ u, Gd1 ys c) → (∀ c ∈ u, ∀ p ∈ c, Nm p.1 ∧ Nm p.2) ∧ ∀ c ∈ u, c.length ≤ 4 := fun hu => by
    refine ⟨fun c hc p hp => ?_, fun c hc => ?_⟩
    · obtain ⟨h1, h2⟩ := hu c hc
      have : p.1 ∈ c.map (·.1) := List.mem_map_of_mem hp
      rw [h1] at this
      exact ⟨ny _ (sp.mem_iff.mp this), ny _ (sp.mem_iff.mp (h2 p hp))⟩
    · have := congrArg List.length (hu c hc).1
      rw [List.length_map, sp.length_eq] at this
      omega
  have ncw : Nc 3 7401 (wL w) := nc_w (m := 4) (k := 200) (gdn wo).1 (gdn wo).2 (by omega)
  have ncv : Nc 3 7401 (wL v) := nc_w (m := 4) (k := 200) (gdn vo).1 (gdn vo).2 lv
  obtain ⟨R, hR⟩ : ∃ R : Str, reprD [.lst [wL w, wL v]] = some (.str R) := ⟨_, Nc.repr (n := 4) (w := 1 + 7401 * 2) (nc_lst (n := 3) (w := 7401) (m := 2) (fun d hd => by
    simp only [List.mem_cons, List.not_mem_nil, or_false] at hd
    rcases hd with rfl | rfl
    · exact ncw
    · exact ncv) (Nat.le_refl _)) (by decide) (by decide)⟩
  have dw : ∀ u : List Cl, (wL u).dep ≤ 3 := fun u => lst_dep fun d hd => by
    obtain ⟨c, _, rfl⟩ := List.mem_map.mp hd
    exact dep_c c
  have kw : ∀ {u : List Cl}, (∀ c ∈ u, c.length ≤ 4) → u.length ≤ 200 → (wL u).ok = true := fun hu lu => lst_ok (fun d hd => by
    obtain ⟨c, hc, rfl⟩ := List.mem_map.mp hd
    exact ok_c (by have := hu c hc; omega)) (by rw [List.length_map]; omega)
  have liw : F_L_lists 8 [wL w] = some (.lst (w.map (cD true))) := by
    rw [← li_word]
    exact lists_ok 8 _ (by have := dw w; omega) (kw (gdn wo).2 (by omega))
  have liv : F_L_lists 8 [wL v] = some (.lst (v.map (cD true))) := by
    rw [← li_word]
    exact lists_ok 8 _ (by have := dw v; omega) (kw (gdn vo).2 lv)
  obtain ⟨B, hB⟩ : ∃ B, B = sameB (sortS ys) w v := ⟨_, rfl⟩
  have eB : (rows.all fun r => decide (leadAll r w = leadAll r v)) = B := by
    have iff := same_iff hw hv
    rw [← hB] at iff
    cases B with
    | true =>
      rw [List.all_eq_true]
      intro r h
      exact decide_eq_true (iff.mp rfl r ((hr r h).trans sp.symm))
    | false =>
      cases ha : (rows.all fun r => decide (leadAll r w = leadAll r v)) with
      | false => rfl
      | true =>
        rw [List.all_eq_true] at ha
        exact absurd (iff.mpr fun r h => of_decide_eq_true (ha r (allr r nd (h.trans sp)))) Bool.false_ne_true
  let F : List D → Sl → Sl → Sl → Sl → Sl → Sl → Rh := fun b s2 s3 s4 s5 s6 s7 => [.own true b, .val (.lst (ys.map D.str)), s2, s3, s4, s5, s6, s7, .un]
  have s0 : (mSet 1 (mOp addD (mCallB 0 F_L_crew (mCons (mC (.int 3)) mNil)) (mL (mDisp (mCons (mC (.str "qqq")) mNil))))) (beginB 8 bs []) = some (.nx (F bs1 .un .un .un .un .un .un)) := v_set (i := 1) e1 (show 1 < 9 by decide) rfl
  have s1 : (mSet 2 (mCallB 0 F_L_asks (mCons (mVar 1) (mCons (mC (.int 5)) mNil)))) (F bs1 .un .un .un .un .un .un) = some (.nx (F bs2 (.val (wL w)) .un .un .un .un .un)) :=
    v_set (i := 2) (ρ1 := F bs2 .un .un .un .un .un .un) (v_callB (i := 0) (l := true) (ρ1 := F bs1 .un .un .un .un .un .un) rfl (v_cons rfl (v_cons rfl v_nil)) rfl e2) (show 2 < 9 by decide) rfl
  have s2 : (mAsg (mTup false (mCons (mCallB 0 F_L_near_word (mCons (mVar 1) (mCons (mVar 2) mNil))) (mCons (mCall F_L_all_rows (mCons (mVar 1) mNil)) mNil))) (tg2 6 7)) (F bs2 (.val (wL w)) .un .un .un .un .un) = some (.nx (F bs3 (.val (wL w)) .un .un .un (.val (wL v)) (.val (.lst (rows.map rD))))) :=
    v_asg (d := .tup false [wL v, .lst (rows.map rD)]) (ρ1 := F bs3 (.val (wL w)) .un .un .un .un .un) (v_tup (v_cons (v_callB (i := 0) (l := true) (ρ1 := F bs2 (.val (wL w)) .un .un .un .un .un) rfl (v_cons rfl (v_cons rfl v_nil)) rfl e3) (v_cons (v_call (v_cons rfl v_nil) er) v_nil)) (show 2 ≤ 100000 by decide)) (tg2_plain rfl rfl (.inl rfl) (.inl rfl))
  have hq : ∀ s3 s4 s5 : Sl, mCall reprD (mCons (mL (mDisp (mCons (mVar 2) (mCons (mVar 6) mNil)))) mNil) (F bs3 (.val (wL w)) s3 s4 s5 (.val (wL v)) (.val (.lst (rows.map rD)))) = some (.str R, F bs3 (.val (wL w)) s3 s4 s5 (.val (wL v)) (.val (.lst (rows.map rD)))) := fun s3 s4 s5 =>
    v_call (v_cons (v_L (v_disp (v_cons rfl (v_cons rfl v_nil)) (show 2 ≤ 100000 by decide))) v_nil) hR
  have s3 : (mSet 3 (mCall reprD (mCons (mL (mDisp (mCons (mVar 2) (mCons (mVar 6) mNil)))) mNil))) (F bs3 (.val (wL w)) .un .un .un (.val (wL v)) (.val (.lst (rows.map rD)))) = some (.nx (F bs3 (.val (wL w)) (.val (.str R)) .un .un (.val (wL v)) (.val (.lst (rows.map rD))))) := v_set (i := 3) (hq _ _ _) (show 3 < 9 by decide) rfl
  have lc : lcL (setV 8) mYes (mOp eqDD (mCall F_L_all_led (mCons (mVar 8) (mCons (mVar 2) mNil))) (mCall F_L_all_led (mCons (mVar 8) (mCons (mVar 6) mNil)))) [8] (rows.map rD) (F bs3 (.val (wL w)) (.val (.str R)) .un .un (.val (wL v)) (.val (.lst (rows.map rD)))) = some (rows.map (fun r => D.bl (decide (leadAll r w = leadAll r v))), F bs3 (.val (wL w)) (.val (.str R)) .un .un (.val (wL v)) (.val (.lst (rows.map rD)))) :=
    lcL_ix rD (fun r => D.bl (decide (leadAll r w = leadAll r v))) rows fun r h => ⟨_, _, rfl, rfl, v_op (v_call (v_cons rfl (v_cons rfl v_nil)) (all_led_ok (rcw r h))) (v_call (v_cons rfl (v_cons rfl v_nil)) (all_led_ok (rcv r h))) (eq_row (fun z hz => txy z ((lead_perm w r).trans (hr r h) |>.mem_iff.mp hz)) (fun z hz => txy z ((lead_perm v r).trans (hr r h) |>.mem_iff.mp hz))), rfl⟩
  have s4 : (mSet 4 (mCall allD (mCons (mL (mLc (mIt (mVar 7)) (setV 8) mYes (mOp eqDD (mCall F_L_all_led (mCons (mVar 8) (mCons (mVar 2) mNil))) (mCall F_L_all_led (mCons (mVar 8) (mCons (mVar 6) mNil)))) [8])) mNil))) (F bs3 (.val (wL w)) (.val (.str R)) .un .un (.val (wL v)) (.val (.lst (rows.map rD)))) = some (.nx (F bs3 (.val (wL w)) (.val (.str R)) (.val (.bl B)) .un (.val (wL v)) (.val (.lst (rows.map rD))))) :=
    v_set (i := 4) (ρ1 := F bs3 (.val (wL w)) (.val (.str R)) .un .un (.val (wL v)) (.val (.lst (rows.map rD)))) (v_call (v_cons (v_L (v_lc (ρ1 := F bs3 (.val (wL w)) (.val (.str R)) .un .un (.val (wL v)) (.val (.lst (rows.map rD)))) (v_it (d := .lst (rows.map rD)) rfl rfl) rfl (by rw [List.length_map]; exact lenr) lc)) v_nil) (by rw [← eB]; exact all_is _ rows)) (show 4 < 9 by decide) rfl
  let G : Sl → Rh := fun s5 => F bs3 (.val (wL w)) (.val (.str R)) (.val (.bl B)) s5 (.val (wL v)) (.val (.lst (rows.map rD)))
  have ny0 : seqD (.lst (ys.map D.str)) = some (ys.map D.str) := rfl
  have a1 : F_alike [.lst (ys.map D.str), wL w, wL v] = some (.bl B) := by rw [hB]; exact alike_ok (b := false) (b' := false) hw hv ny0 rfl rfl rfl rfl
  have a2 : F_alike [.lst (ys.map D.str), wL v, wL w] = some (.bl B) := by rw [hB, sameB_comm]; exact alike_ok (b := false) (b' := false) hv hw ny0 rfl rfl rfl rfl
  have a3 : F_alike [.tup false (ys.map D.str), .lst (w.map (cD true)), .tup false (v.map (cD true))] = some (.bl B) := by rw [hB]; exact alike_ok (b := true) (b' := true) hw hv rfl rfl rfl rfl rfl
  have a4 : F_alike [.lst (ys.map D.str), wL w, wL w] = some (.bl true) := by rw [← sameB_refl (sortS ys) w]; exact alike_ok (b := false) (b' := false) hw hw ny0 rfl rfl rfl rfl
  have h0 : WordOk (sortS ys) [] := wordOk_of nd ny (by omega) fun c hc => nomatch hc
  have a5 : F_alike [.lst (ys.map D.str), .lst [], .lst []] = some (.bl true) := by rw [← sameB_refl (sortS ys) []]; exact alike_ok (b := false) (b' := false) h0 h0 ny0 rfl rfl rfl rfl
  have s5 : (mSetO 5 (mDisp (mCons (mCall F_alike (mCons (mVar 1) (mCons (mVar 2) (mCons (mVar 6) mNil)))) (mCons (mCall F_alike (mCons (mVar 1) (mCons (mVar 6) (mCons (mVar 2) mNil)))) mNil)))) (G .un) = some (.nx (G (.own false [.bl B, .bl B]))) :=
    v_setO (i := 5) (ρ1 := G .un) (v_disp (v_cons (v_call (v_cons rfl (v_cons rfl (v_cons rfl v_nil))) a1) (v_cons (v_call (v_cons rfl (v_cons rfl (v_cons rfl v_nil))) a2) v_nil)) (show 2 ≤ 100000 by decide)) (show 5 < 9 by decide) rfl
  have p3 : (fun ds => F_alike (perm [2, 1, 0] ds)) [.tup false (v.map (cD true)), .lst (w.map (cD true)), .tup false (ys.map D.str)] = some (.bl B) := a3
  have s6 : (mEx (mMeth 5 appF (mCons (mCall (fun ds => F_alike (perm [2, 1, 0] ds)) (mCons (mCall tupleD (mCons (mCall (F_L_lists 8) (mCons (mVar 6) mNil)) mNil)) (mCons (mCall (F_L_lists 8) (mCons (mVar 2) mNil)) (mCons (mCall tupleD (mCons (mVar 1) mNil)) mNil)))) mNil))) (G (.own false [.bl B, .bl B])) = some (.nx (G (.own false [.bl B, .bl B, .bl B]))) :=
    v_ex (v_meth (i := 5) (l := false) (ρ1 := G (.own false [.bl B, .bl B])) rfl (v_cons (v_call (v_cons (v_call (v_cons (v_call (v_cons rfl v_nil) liv) v_nil) (show tupleD [.lst (v.map (cD true))] = some (.tup false (v.map (cD true))) from rfl)) (v_cons (v_call (v_cons rfl v_nil) liw) (v_cons (v_call (v_cons rfl v_nil) (show tupleD [.lst (ys.map D.str)] = some (.tup false (ys.map D.str)) from rfl)) v_nil))) p3) v_nil) rfl (show appF [.bl B, .bl B] [.bl B] = some (.non, [.bl B, .bl B, .bl B]) from rfl))
  have s7 : (mSetO 5 (mOp catF (mVar 5) (mL (mDisp (mCons (mCall F_alike (mCons (mVar 1) (mCons (mVar 2) (mCons (mVar 2) mNil)))) (mCons (mCall F_alike (mCons (mVar 1) (mCons (mL (mDisp mNil)) (mCons (mL (mDisp mNil)) mNil)))) mNil)))))) (G (.val (.lst [.bl B, .bl B, .bl B]))) = some (.nx (G (.own false [.bl B, .bl B, .bl B, .bl true, .bl true]))) :=
    v_setO (i := 5) (ρ1 := G (.val (.lst [.bl B, .bl B, .bl B]))) (v_op rfl (v_L (v_disp (v_cons (v_call (v_cons rfl (v_cons rfl (v_cons rfl v_nil))) a4) (v_cons (v_call (v_cons rfl (v_cons (v_L (v_disp v_nil (show 0 ≤ 100000 by decide))) (v_cons (v_L (v_disp v_nil (show 0 ≤ 100000 by decide))) v_nil))) a5) v_nil)) (show 2 ≤ 100000 by decide))) (show catF (.lst [.bl B, .bl B, .bl B]) (.lst [.bl true, .bl true]) = some [.bl B, .bl B, .bl B, .bl true, .bl true] from rfl)) (show 5 < 9 by decide) rfl
  have sr : F_L_same 8 [.lst [.bl B, .bl B, .bl B, .bl true, .bl true], .lst [.bl B, .bl B, .bl B, .bl true, .bl true]] = some (.bl true) := same_refl 8 _ (by show 1 < 8; decide) (by cases B <;> decide)
  have s8 : (mRet (mAndV (mCall (F_L_same 8) (mCons (mVar 5) (mCons (mL (mDisp (mCons (mVar 4) (mCons (mVar 4) (mCons (mVar 4) (mCons (mC (.bl true)) (mCons (mC (.bl true)) mNil))))))) mNil))) (mOp eqDD (mCall reprD (mCons (mL (mDisp (mCons (mVar 2) (mCons (mVar 6) mNil)))) mNil)) (mVar 3)))) (G (.val (.lst [.bl B, .bl B, .bl B, .bl true, .bl true]))) = some (.rt (.bl true) (G (.val (.lst [.bl B, .bl B, .bl B, .bl true, .bl true])))) :=
    v_ret (v_andV (ρ1 := G (.val (.lst [.bl B, .bl B, .bl B, .bl true, .bl true]))) (v_call (v_cons rfl (v_cons (v_L (v_disp (v_cons rfl (v_cons rfl (v_cons rfl (v_cons rfl (v_cons rfl v_nil))))) (show 5 ≤ 100000 by decide))) v_nil)) sr) (v_op (hq _ _ _) rfl (by show some (D.bl (decide (R = R))) = _; rw [decide_eq_true rfl])))
  unfold F_L_right m_L_right
  exact v_runB (l := true) rfl (v_seq s0 (v_seq s1 (v_seq s2 (v_seq s3 (v_seq s4 (v_seq s5 (v_seq s6 (v_fz rfl (v_seq s7 (v_fz rfl s8)))))))))) rfl
end Pl
namespace Pl
open PySem PySem.Spec PyProof.Rows L2 Kn
variable [Tbs]
theorem scBox : FnScope ["_law_script", "_law_k", "_law_cell"] ["_law_script", "_law_k"] (defScope (topS 17)) := ⟨rfl, rfl, rfl, by decide +kernel, rfl, by decide +kernel, by decide +kernel⟩
theorem b01 (b : Bool) : -(2 ^ 64) < (if b = true then (1 : Int) else 0) ∧ (if b = true then (1 : Int) else 0) < 2 ^ 64 := by cases b <;> decide
section
variable {P : Program} {w : World} {K : PySem.W.Frag} {mg : Str → Option Value} {base : Heap}
def spBox (K : PySem.W.Frag) : Sp := fun vs H Q _ => ∃ (a : Addr) (ns : List Int) (k : Int), vs = [.ref a, .int k] ∧ SqL K H a (ns.map V.int) ∧ 0 ≤ k ∧ k ≤ 1000 ∧ ∀ (p : Addr) (o : HO), H p = none → Bx 0 o → Q (.ref p) (upd H p o)
theorem ok_box {f : Addr} {fd : FuncData} {k : Nat} (F : Fun K "_law_box" "_law_box" (topS 17) f fd) (B : Bi mg) : FnOk P w K mg base CX0 (k + 1) f fd ["_law_script", "_law_k"] (spBox K) := by
  refine F.ok scBox (fun vs H Q E h => ?_) (fun cdv A outer s H vs Q E hr h => ?_)
  · obtain ⟨a, ns, k, rfl, _⟩ := h
    rfl
  · obtain ⟨a, ns, j, rfl, hS, h0, h1, q⟩ := h
    refine ⟨_, pss_cons (ps_set (i := 2) scBox.nd rfl (.inl rfl) pe_int)
      (pss_cons (ps_if (pt_cmpR op_lt (pv 1) (pe_callB call_len_seq (by rfl) B.len PySem.boot_len (pa_cons (pv 0) pa_nil)) (nomark _))
        (pss_one (ps_set (i := 2) scBox.nd rfl (.inl rfl) (pe_ix ix_list (pv 0) (pv 1) (fun _ _ => rfl)))) pss_nil)
      (pss_one (ps_ret (pe_lst (pa_cons (pe_op op_mul (pe_callB call_abs (by rfl) B.abs (by decide +kernel) (pa_cons (pv 2) pa_nil)) (pe_callTy call_int1 (by rfl) B.int (by decide +kernel) (pa_cons (pe_cmpR op_ge (pe_callB call_abs (by rfl) B.abs (by decide +kernel) (pa_cons (pv 2) pa_nil)) (pe_op op_pow pe_int pe_int) (nomark _)) pa_nil)))
        (pa_cons (pe_op op_add (pe_op op_add (pe_op op_mod (pv 2) pe_int) (pe_op op_mul pe_int (pv 1))) pe_int) (pa_cons pe_int pa_nil))))))), ?_⟩
    refine ⟨_, rfl, _, rfl, a, _, rfl, .inl hS, _, _, rfl, rfl, _, rfl, ?_⟩
    have tail : ∀ (c y : Int) (b : Bool), y = c % 2147483629 → 0 ≤ y → y < 2147483629 → Bx 0 (.lst [.int ((if c < 0 then -c else c) * (if b then 1 else 0)), .int (y + 7919 * j + 11), .int 0]) := by
      intro c y b _ e1 e2
      refine ⟨_, _, _, rfl, ?_, by omega, by omega, by omega, by omega⟩
      have : 0 ≤ (if c < 0 then -c else c) := by split <;> omega
      cases b with
      | true => simpa using this
      | false => simp
    refine ite2 (fun e => ?_) (fun e => ?_)
    · have e : j < ((ns.map V.int).length : Int) := of_decide_eq_true e
      rw [List.length_map] at e
      obtain ⟨c, hc⟩ : ∃ c, ns[j.toNat]? = some c := ⟨ns[j.toNat]'(by omega), List.getElem?_eq_getElem _⟩
      have hat : atI (ns.map V.int) j = some (.int c) := by
        have := atI_nat (xs := ns.map V.int) (j := j.toNat) (v := .int c) (by rw [List.getElem?_map, hc]; rfl)
        rwa [Int.toNat_of_nonneg h0] at this
      refine ⟨.ref a, rfl, _, rfl, a, _, j, .int c, rfl, rfl, hS, hat, ?_⟩
      refine ⟨_, rfl, c, rfl, _, rfl, c, rfl, 10, 18, rfl, rfl, ⟨by decide, by decide, by decide⟩, _, _, rfl, rfl, .inr ⟨_, rfl, _, _, rfl, rfl, .inr ?_, ?_⟩⟩
      · exact b01 _
      · refine ⟨_, rfl, c, 2147483629, rfl, rfl, (by show (0 : Int) < 2147483629; decide), _, rfl, 7919, j, rfl, rfl, .inl (by decide), _, _, rfl, rfl, _, 11, rfl, rfl, (by show 3 ≤ sizeLine; decide), fun p np => q p _ np ?_⟩
        exact tail c _ _ rfl (Int.emod_nonneg _ (by decide)) (Int.emod_lt_of_pos _ (by decide))
    · refine ⟨_, rfl, 0, rfl, _, rfl, 0, rfl, 10, 18, rfl, rfl, ⟨by decide, by decide, by decide⟩, _, _, rfl, rfl, .inr ⟨_, rfl, _, _, rfl, rfl, .inr ?_, ?_⟩⟩
      · exact b01 _
      · refine ⟨_, rfl, 0, 2147483629, rfl, rfl, (by show (0 : Int) < 2147483629; decide), _, rfl, 7919, j, rfl, rfl, .inl (by decide), _, _, rfl, rfl, _, 11, rfl, rfl, (by show 3 ≤ sizeLine; decide), fun p np => q p _ np ?_⟩
        exact tail 0 _ _ rfl (Int.emod_nonneg _ (by decide)) (Int.emod_lt_of_pos _ (by decide))
theorem tyes {σ : L2.St} {H : Hp} {A B : Hp → Prop} (h : A H) : tYes σ H fun b H3 => if b = true then A H3 else B H3 := (show (if true = true then A H else B H) from iteT h)
def spLaw (K : PySem.W.Frag) : Sp := fun vs H Q _ => ∃ (a : Addr) (ns : List Int), vs = [.ref a] ∧ SqL K H a (ns.map V.int) ∧ ns.length ≤ 63 ∧ LamX.Tabs Tbs.T H ∧ ∀ H', Q (.bl true) H'
/-- what stood but tables stands, and the tables are good -/
structure In0 (H G : Hp) : Prop where
  ext : LamX.ExtN H G
  dom : ∀ b, G b = none → H b = none
  tb : LamX.Tabs Tbs.T G
theorem seqN {K : PySem.W.Frag} {H H' : Hp} {a : Addr} {xs : List V} (e : LamX.ExtN H H') (h : SqL K H a xs) : SqL K H' a xs := by
  rcases h with (h | ⟨o, h⟩) | h
  · exact .inl (.inl (e _ _ h nt_lst))
  · exact .inl (.inr ⟨o, e _ _ h nt_frz⟩)
  · exact .inr h
theorem scLaw : FnScope ["_law_script", "_law_k", "_law_box_here", "_law_turn"] ["_law_script"] (defScope (topS 31)) := ⟨rfl, rfl, rfl, by decide +kernel, rfl, by decide +kernel, by decide +kernel⟩
theorem bx_of {n : Nat} {o : HO} (h : Bx n o) : ∃ xs bs, o = .lst xs ∧ Box n bs ∧ ∀ G : Hp, DdA G xs bs := by
  obtain ⟨x, y, z, rfl, h1, h2, h3, h4, h5⟩ := h
  exact ⟨_, _, rfl, ⟨x, y, z, rfl, h1, h2, h3, h4, h5⟩, fun G => .cons (.int _) (.cons (.int _) (.cons (.int _) .nil))⟩
theorem bx_to {n : Nat} {xs : List V} {bs : List D} {G : Hp} (h : Box n bs) (d : DdA G xs bs) : Bx n (.lst xs) := by
  obtain ⟨x, y, z, rfl, h1, h2, h3, h4, h5⟩ := h
  cases d with
  | cons a d => cases d with
    | cons b d => cases d with
      | cons c d => cases d; cases a; cases b; cases c; exact ⟨x, y, z, rfl, h1, h2, h3, h4, h5⟩
theorem ok_law {f fB : Addr} {fd dB : FuncData} (F : Fun K "law" "law" (topS 31) f fd) (B : Bi mg) (T : Tx K mg base) (FB : Fun K "_law_box" "_law_box" (topS 17) fB dB) (gB : mg "_law_box" = some (.ref fB)) (bB : Binds K dB ["_law_script", "_law_k"] []) : FnG P w K mg base CX0 10 f fd ["_law_script"] (spLaw K) := by
  have GR : FnG P w K mg base CX0 9 T.f_L_right T.d_L_right ["_law_box_here"] (SpB F_L_right) := ok_L_right B T
  have GB : FnOk P w K mg base CX0 1 fB dB ["_law_script", "_law_k"] (spBox K) := ok_box FB B
  refine okG F scLaw (fun vs H Q E h => ?_) (fun cdv A outer s H vs Q E hg hr h => ?_)
  · obtain ⟨a, ns, rfl, _⟩ := h
    rfl
  · obtain ⟨a, ns, rfl, hS, hl, hT, q⟩ := h
    have hr1 : Room 1 _ := hr.mono (by decide)
    refine ⟨_, pss_cons (ps_for PassesOwn.never rfl (pi_range1 rfl B.range (pa_cons (pe_callB (call_max2 rfl) (by rfl) B.max (by decide +kernel) (pa_cons pe_int (pa_cons (pe_callB (call_min2 rfl) (by rfl) B.min (by decide +kernel) (pa_cons pe_int (pa_cons (pe_callB call_len_seq (by rfl) B.len PySem.boot_len (pa_cons (pv 0) pa_nil)) pa_nil))) pa_nil))) pa_nil)) (pg_name (i := 1) scLaw.nd rfl (.inl rfl))
        (pss_cons (ps_set (i := 2) scLaw.nd rfl (.inr rfl) (pe_call GB hr1 (by rfl) gB FB.kp bB .nil pass0 (pa_cons (pv 0) (pa_cons (pv 1) pa_nil))))
        (pss_one (ps_if (pt_not (pt_val (pe_callB (cr_all rfl) (by rfl) B.all (by decide +kernel) (pa_cons (pe_lc (own := [("_law_turn", 3)]) (g := gName 3) (tt := tYes) rfl scLaw.nd (pi_range1 rfl B.range (pa_cons pe_int pa_nil)) (blkOk_by (N := ["_law_script", "_law_k", "_law_box_here", "_law_turn"]) (sc := defScope (topS 31)) (by decide +kernel))
          (fun _ _ _ _ _ => pg_name (i := 3) scLaw.nd rfl (Or.inl rfl)) (fun _ _ _ _ _ => pts_nil) (fun _ _ _ _ _ => pe_callG hg GR hr (by rfl) T.g_L_right T.F_L_right.kp T.b_L_right pass0 (pa_cons (pv 2) pa_nil))) pa_nil)))) (pss_one (ps_ret pe_bl)) pss_nil))))
      (pss_one (ps_ret pe_bl)), ?_⟩
    refine ⟨_, rfl, a, _, rfl, .inl hS, 3, _, rfl, 1, _, rfl, _, rfl, ?_, ?_, ?_⟩
    · split <;> split <;> omega
    · split <;> split <;> omega
    generalize hm : (if (if (((ns.map V.int).length : Nat) : Int) < 3 then (((ns.map V.int).length : Nat) : Int) else 3) > 1 then (if (((ns.map V.int).length : Nat) : Int) < 3 then (((ns.map V.int).length : Nat) : Int) else 3) else 1).toNat = m
    have hm3 : m ≤ 3 := by
      rw [← hm]
      split <;> split <;> omega
    refine for_it walk_range (fun i σ G => In0 H G ∧ ∃ v1 v2, σ = [some (.ref a), v1, v2, none]) ⟨⟨LamX.ExtN.refl _, fun _ e => e, hT⟩, none, none, rfl⟩ (fun _ _ _ _ _ => trivial) (fun i x σ G G' hi hP hY => ?_) (fun σ G hP => ?_)
    · obtain ⟨rfl, rfl⟩ := hY
      obtain ⟨sG, v1, v2, rfl⟩ := hP
      refine ⟨_, rfl, _, rfl, a, ns, _, rfl, seqN sG.ext hS, by omega, by omega, fun p o np hB => ?_⟩
      have s2 : Same G' (upd G' p o) := same_new np
      have hp2 : (upd G' p o) p = some o := upd_same
      have npH : H p = none := sG.dom _ np
      have t2 : LamX.Tabs Tbs.T (upd G' p o) := tabs_same sG.tb s2
      generalize upd G' p o = H2 at s2 hp2 t2 ⊢
      refine ⟨5, rfl, by decide, by decide, fun D nD => ?_⟩
      have nDp : D ≠ p := fun e => by
        rw [e, hp2] at nD
        cases nD
      refine lc_it walk_range (fun j G => (∃ o', G p = some o' ∧ Bx (70000 * j) o') ∧ (∀ c u, H2 c = some u → c ≠ p → NT u → G c = some u) ∧ LamX.Tabs Tbs.T G ∧ (∀ c, G c = none → H2 c = none) ∧ G D = some (.lst ((List.replicate j true).map V.bl))) ⟨⟨o, by rw [upd_ne nDp.symm]; exact hp2, hB⟩, fun c u e _ _ => (same_new nD) c u e, tabs_same t2 (same_new nD), fun c => (same_new nD).free, upd_same⟩ (fun _ _ _ _ => trivial) (fun j x G1 G2 hj hP hY => ?_) (fun G1 hP => ?_)
      · obtain ⟨rfl, rfl⟩ := hY
        obtain ⟨⟨o', hp', hB'⟩, off', tb', dm', hD⟩ := hP
        have hj4 : j < 5 := hj
        obtain ⟨xs, bs, rfl, hb, hd⟩ := bx_of hB'
        obtain ⟨bs', eR, hb'⟩ := right_ok hb (by omega)
        refine ⟨rfl, tyes ?_⟩
        refine ⟨_, rfl, fun _ => none, p, xs, bs, [], [], .bl true, bs', rfl, ⟨(fun c u e => nomatch e), tb', fun c u e => nomatch e⟩, hp', rfl, hd _, .nil, eR, fun G4 G3 v xs' go hp'' _ hd' hv => ?_⟩
        cases hv
        have hB'' := bx_to hb' hd'
        have hD3 := go.off _ _ hD nDp
        refine ⟨_, hD3, by rw [List.length_map, List.length_replicate]; exact small1000 (by omega), ⟨_, by rw [upd_ne nDp.symm]; exact hp'', hB''.mono (by omega)⟩, fun c u e hc w => ?_, tabs_put go.le.tb (fun u z => by rw [hD3] at z; cases z; exact .inl ⟨_, rfl⟩), fun c e => ?_, ?_⟩
        · rw [upd_ne (ne_of_none e nD)]
          exact go.off _ _ (off' _ _ e hc w) hc w
        · by_cases hc : c = D
          · rw [hc, upd_same] at e
            cases e
          · rw [upd_ne hc] at e
            exact dm' c (go.dom c e)
        · rw [upd_same, List.replicate_succ', List.map_append]
          rfl
      obtain ⟨_, off', tb', dm', hD⟩ := hP
      refine ⟨D, _, rfl, .inl (.inl hD), _, rfl, iteF ?_⟩
      exact ⟨⟨fun c u e w => off' _ _ (s2 _ _ (sG.ext _ _ e w)) (ne_of_none e npH) w, fun c e => sG.dom c (s2.free (dm' c e)), tb'⟩, _, _, rfl⟩
    · exact q G
end
omit [Tbs] in
theorem all_mk {l : PySem.W.OpenLaw} {w : World} {K : PySem.W.Frag} {h : Heap} {mg : Str → Option Value} {fa : Addr} {C : Addr} (X : K.In h) (G : h.Ns mainGlobals mg) (hfa : mg "law" = some (.ref fa))
    {fmust_be_same : Addr} {odmust_be_same anmust_be_same : Option Addr} {slmust_be_same : Array (Option Value)} {ocmust_be_same kVmust_be_same dcmust_be_same pmmust_be_same cdmust_be_same ctmust_be_same : Value}
    {fpeople : Addr} {odpeople anpeople : Option Addr} {slpeople : Array (Option Value)} {ocpeople kVpeople dcpeople pmpeople cdpeople ctpeople : Value}
    {fmust_be_of : Addr} {odmust_be_of anmust_be_of : Option Addr} {slmust_be_of : Array (Option Value)} {ocmust_be_of kVmust_be_of dcmust_be_of pmmust_be_of cdmust_be_of ctmust_be_of : Value}
    {fstep : Addr} {odstep anstep : Option Addr} {slstep : Array (Option Value)} {ocstep kVstep dcstep pmstep cdstep ctstep : Value}
    {fpairs_told : Addr} {odpairs_told anpairs_told : Option Addr} {slpairs_told : Array (Option Value)} {ocpairs_told kVpairs_told dcpairs_told pmpairs_told cdpairs_told ctpairs_told : Value}
    {fTable___init__ : Addr} {odTable___init__ anTable___init__ : Option Addr} {slTable___init__ : Array (Option Value)} {ocTable___init__ kVTable___init__ dcTable___init__ pmTable___init__ cdTable___init__ ctTable___init__ : Value}
    {fTable___eq__ : Addr} {odTable___eq__ anTable___eq__ : Option Addr} {slTable___eq__ : Array (Option Value)} {ocTable___eq__ kVTable___eq__ dcTable___eq__ pmTable___eq__ cdTable___eq__ ctTable___eq__ : Value}
    {falike : Addr} {odalike analike : Option Addr} {slalike : Array (Option Value)} {ocalike kValike dcalike pmalike cdalike ctalike : Value}
    {fL_take : Addr} {odL_take anL_take : Option Addr} {slL_take : Array (Option Value)} {ocL_take kVL_take dcL_take pmL_take cdL_take ctL_take : Value}
    {fL_same : Addr} {odL_same anL_same : Option Addr} {slL_same : Array (Option Value)} {ocL_same kVL_same dcL_same pmL_same cdL_same ctL_same : Value}
    {fL_lists : Addr} {odL_lists anL_lists : Option Addr} {slL_lists : Array (Option Value)} {ocL_lists kVL_lists dcL_lists pmL_lists cdL_lists ctL_lists : Value}
    {fL_of : Addr} {odL_of anL_of : Option Addr} {slL_of : Array (Option Value)} {ocL_of kVL_of dcL_of pmL_of cdL_of ctL_of : Value}
    {fL_strewn : Addr} {odL_strewn anL_strewn : Option Addr} {slL_strewn : Array (Option Value)} {ocL_strewn kVL_strewn dcL_strewn pmL_strewn cdL_strewn ctL_strewn : Value}
    {fL_crew : Addr} {odL_crew anL_crew : Option Addr} {slL_crew : Array (Option Value)} {ocL_crew kVL_crew dcL_crew pmL_crew cdL_crew ctL_crew : Value}
    {fL_ask : Addr} {odL_ask anL_ask : Option Addr} {slL_ask : Array (Option Value)} {ocL_ask kVL_ask dcL_ask pmL_ask cdL_ask ctL_ask : Value}
    {fL_asks : Addr} {odL_asks anL_asks : Option Addr} {slL_asks : Array (Option Value)} {ocL_asks kVL_asks dcL_asks pmL_asks cdL_asks ctL_asks : Value}
    {fL_led : Addr} {odL_led anL_led : Option Addr} {slL_led : Array (Option Value)} {ocL_led kVL_led dcL_led pmL_led cdL_led ctL_led : Value}
    {fL_all_led : Addr} {odL_all_led anL_all_led : Option Addr} {slL_all_led : Array (Option Value)} {ocL_all_led kVL_all_led dcL_all_led pmL_all_led cdL_all_led ctL_all_led : Value}
    {fL_all_rows : Addr} {odL_all_rows anL_all_rows : Option Addr} {slL_all_rows : Array (Option Value)} {ocL_all_rows kVL_all_rows dcL_all_rows pmL_all_rows cdL_all_rows ctL_all_rows : Value}
    {fL_near_word : Addr} {odL_near_word anL_near_word : Option Addr} {slL_near_word : Array (Option Value)} {ocL_near_word kVL_near_word dcL_near_word pmL_near_word cdL_near_word ctL_near_word : Value}
    {fL_right : Addr} {odL_right anL_right : Option Addr} {slL_right : Array (Option Value)} {ocL_right kVL_right dcL_right pmL_right cdL_right ctL_right : Value}
    {fB : Addr} {odB anB : Option Addr} {slB : Array (Option Value)} {ocB kVB dcB pmB cdB ctB : Value}
    {fL : Addr} {odL anL : Option Addr} {slL : Array (Option Value)} {ocL kVL dcL pmL cdL ctL : Value}
    (amust_be_same : PySem.W.nsIn K mainGlobals "must_be_same" = some (some (.ref fmust_be_same))) (lmust_be_same : K.lookup fmust_be_same = some ⟨ocmust_be_same, odmust_be_same, .func (PySem.W.fnOf "must_be_same" "must_be_same" (defArgs (topS 4)) (defBody (topS 4)) (defScope (topS 4)) .none kVmust_be_same dcmust_be_same pmmust_be_same anmust_be_same cdmust_be_same ctmust_be_same), slmust_be_same⟩) (vmust_be_same : PySem.W.codeIn K cdmust_be_same "must_be_same" = true) (kmust_be_same : PySem.W.keepIn K (.ref fmust_be_same) = true)
    (apeople : PySem.W.nsIn K mainGlobals "people" = some (some (.ref fpeople))) (lpeople : K.lookup fpeople = some ⟨ocpeople, odpeople, .func (PySem.W.fnOf "people" "people" (defArgs (topS 6)) (defBody (topS 6)) (defScope (topS 6)) .none kVpeople dcpeople pmpeople anpeople cdpeople ctpeople), slpeople⟩) (vpeople : PySem.W.codeIn K cdpeople "people" = true) (kpeople : PySem.W.keepIn K (.ref fpeople) = true)
    (amust_be_of : PySem.W.nsIn K mainGlobals "must_be_of" = some (some (.ref fmust_be_of))) (lmust_be_of : K.lookup fmust_be_of = some ⟨ocmust_be_of, odmust_be_of, .func (PySem.W.fnOf "must_be_of" "must_be_of" (defArgs (topS 8)) (defBody (topS 8)) (defScope (topS 8)) .none kVmust_be_of dcmust_be_of pmmust_be_of anmust_be_of cdmust_be_of ctmust_be_of), slmust_be_of⟩) (vmust_be_of : PySem.W.codeIn K cdmust_be_of "must_be_of" = true) (kmust_be_of : PySem.W.keepIn K (.ref fmust_be_of) = true)
    (astep : PySem.W.nsIn K mainGlobals "step" = some (some (.ref fstep))) (lstep : K.lookup fstep = some ⟨ocstep, odstep, .func (PySem.W.fnOf "step" "step" (defArgs (topS 10)) (defBody (topS 10)) (defScope (topS 10)) .none kVstep dcstep pmstep anstep cdstep ctstep), slstep⟩) (vstep : PySem.W.codeIn K cdstep "step" = true) (kstep : PySem.W.keepIn K (.ref fstep) = true)
    (apairs_told : PySem.W.nsIn K mainGlobals "pairs_told" = some (some (.ref fpairs_told))) (lpairs_told : K.lookup fpairs_told = some ⟨ocpairs_told, odpairs_told, .func (PySem.W.fnOf "pairs_told" "pairs_told" (defArgs (topS 13)) (defBody (topS 13)) (defScope (topS 13)) .none kVpairs_told dcpairs_told pmpairs_told anpairs_told cdpairs_told ctpairs_told), slpairs_told⟩) (vpairs_told : PySem.W.codeIn K cdpairs_told "pairs_told" = true) (kpairs_told : PySem.W.keepIn K (.ref fpairs_told) = true)
    (aTable___init__ : PySem.W.findIn K (.ref C) "__init__" = some (some (.ref fTable___init__))) (iTable___init__ : PySem.W.isFn K (.ref fTable___init__) = true) (lTable___init__ : K.lookup fTable___init__ = some ⟨ocTable___init__, odTable___init__, .func (PySem.W.fnOf "__init__" "Table.__init__" (defArgs (inClass (topS 12) 0)) (defBody (inClass (topS 12) 0)) (defScope (inClass (topS 12) 0)) .none kVTable___init__ dcTable___init__ pmTable___init__ anTable___init__ cdTable___init__ ctTable___init__), slTable___init__⟩) (vTable___init__ : PySem.W.codeIn K cdTable___init__ "Table.__init__" = true) (kTable___init__ : PySem.W.keepIn K (.ref fTable___init__) = true)
    (aTable___eq__ : PySem.W.findIn K (.ref C) "__eq__" = some (some (.ref fTable___eq__))) (iTable___eq__ : PySem.W.isFn K (.ref fTable___eq__) = true) (lTable___eq__ : K.lookup fTable___eq__ = some ⟨ocTable___eq__, odTable___eq__, .func (PySem.W.fnOf "__eq__" "Table.__eq__" (defArgs (inClass (topS 12) 1)) (defBody (inClass (topS 12) 1)) (defScope (inClass (topS 12) 1)) .none kVTable___eq__ dcTable___eq__ pmTable___eq__ anTable___eq__ cdTable___eq__ ctTable___eq__), slTable___eq__⟩) (vTable___eq__ : PySem.W.codeIn K cdTable___eq__ "Table.__eq__" = true) (kTable___eq__ : PySem.W.keepIn K (.ref fTable___eq__) = true)
    (aalike : PySem.W.nsIn K mainGlobals "alike" = some (some (.ref falike))) (lalike : K.lookup falike = some ⟨ocalike, odalike, .func (PySem.W.fnOf "alike" "alike" (defArgs (topS 15)) (defBody (topS 15)) (defScope (topS 15)) .none kValike dcalike pmalike analike cdalike ctalike), slalike⟩) (valike : PySem.W.codeIn K cdalike "alike" = true) (kalike : PySem.W.keepIn K (.ref falike) = true)
    (aL_take : PySem.W.nsIn K mainGlobals "_law_take" = some (some (.ref fL_take))) (lL_take : K.lookup fL_take = some ⟨ocL_take, odL_take, .func (PySem.W.fnOf "_law_take" "_law_take" (defArgs (topS 18)) (defBody (topS 18)) (defScope (topS 18)) .none kVL_take dcL_take pmL_take anL_take cdL_take ctL_take), slL_take⟩) (vL_take : PySem.W.codeIn K cdL_take "_law_take" = true) (kL_take : PySem.W.keepIn K (.ref fL_take) = true)
    (aL_same : PySem.W.nsIn K mainGlobals "_law_same" = some (some (.ref fL_same))) (lL_same : K.lookup fL_same = some ⟨ocL_same, odL_same, .func (PySem.W.fnOf "_law_same" "_law_same" (defArgs (topS 19)) (defBody (topS 19)) (defScope (topS 19)) .none kVL_same dcL_same pmL_same anL_same cdL_same ctL_same), slL_same⟩) (vL_same : PySem.W.codeIn K cdL_same "_law_same" = true) (kL_same : PySem.W.keepIn K (.ref fL_same) = true)
    (aL_lists : PySem.W.nsIn K mainGlobals "_law_lists" = some (some (.ref fL_lists))) (lL_lists : K.lookup fL_lists = some ⟨ocL_lists, odL_lists, .func (PySem.W.fnOf "_law_lists" "_law_lists" (defArgs (topS 20)) (defBody (topS 20)) (defScope (topS 20)) .none kVL_lists dcL_lists pmL_lists anL_lists cdL_lists ctL_lists), slL_lists⟩) (vL_lists : PySem.W.codeIn K cdL_lists "_law_lists" = true) (kL_lists : PySem.W.keepIn K (.ref fL_lists) = true)
    (aL_of : PySem.W.nsIn K mainGlobals "_law_of" = some (some (.ref fL_of))) (lL_of : K.lookup fL_of = some ⟨ocL_of, odL_of, .func (PySem.W.fnOf "_law_of" "_law_of" (defArgs (topS 21)) (defBody (topS 21)) (defScope (topS 21)) .none kVL_of dcL_of pmL_of anL_of cdL_of ctL_of), slL_of⟩) (vL_of : PySem.W.codeIn K cdL_of "_law_of" = true) (kL_of : PySem.W.keepIn K (.ref fL_of) = true)
    (aL_strewn : PySem.W.nsIn K mainGlobals "_law_strewn" = some (some (.ref fL_strewn))) (lL_strewn : K.lookup fL_strewn = some ⟨ocL_strewn, odL_strewn, .func (PySem.W.fnOf "_law_strewn" "_law_strewn" (defArgs (topS 22)) (defBody (topS 22)) (defScope (topS 22)) .none kVL_strewn dcL_strewn pmL_strewn anL_strewn cdL_strewn ctL_strewn), slL_strewn⟩) (vL_strewn : PySem.W.codeIn K cdL_strewn "_law_strewn" = true) (kL_strewn : PySem.W.keepIn K (.ref fL_strewn) = true)
    (aL_crew : PySem.W.nsIn K mainGlobals "_law_crew" = some (some (.ref fL_crew))) (lL_crew : K.lookup fL_crew = some ⟨ocL_crew, odL_crew, .func (PySem.W.fnOf "_law_crew" "_law_crew" (defArgs (topS 23)) (defBody (topS 23)) (defScope (topS 23)) .none kVL_crew dcL_crew pmL_crew anL_crew cdL_crew ctL_crew), slL_crew⟩) (vL_crew : PySem.W.codeIn K cdL_crew "_law_crew" = true) (kL_crew : PySem.W.keepIn K (.ref fL_crew) = true)
    (aL_ask : PySem.W.nsIn K mainGlobals "_law_ask" = some (some (.ref fL_ask))) (lL_ask : K.lookup fL_ask = some ⟨ocL_ask, odL_ask, .func (PySem.W.fnOf "_law_ask" "_law_ask" (defArgs (topS 24)) (defBody (topS 24)) (defScope (topS 24)) .none kVL_ask dcL_ask pmL_ask anL_ask cdL_ask ctL_ask), slL_ask⟩) (vL_ask : PySem.W.codeIn K cdL_ask "_law_ask" = true) (kL_ask : PySem.W.keepIn K (.ref fL_ask) = true)
    (aL_asks : PySem.W.nsIn K mainGlobals "_law_asks" = some (some (.ref fL_asks))) (lL_asks : K.lookup fL_asks = some ⟨ocL_asks, odL_asks, .func (PySem.W.fnOf "_law_asks" "_law_asks" (defArgs (topS 25)) (defBody (topS 25)) (defScope (topS 25)) .none kVL_asks dcL_asks pmL_asks anL_asks cdL_asks ctL_asks), slL_asks⟩) (vL_asks : PySem.W.codeIn K cdL_asks "_law_asks" = true) (kL_asks : PySem.W.keepIn K (.ref fL_asks) = true)
    (aL_led : PySem.W.nsIn K mainGlobals "_law_led" = some (some (.ref fL_led))) (lL_led : K.lookup fL_led = some ⟨ocL_led, odL_led, .func (PySem.W.fnOf "_law_led" "_law_led" (defArgs (topS 26)) (defBody (topS 26)) (defScope (topS 26)) .none kVL_led dcL_led pmL_led anL_led cdL_led ctL_led), slL_led⟩) (vL_led : PySem.W.codeIn K cdL_led "_law_led" = true) (kL_led : PySem.W.keepIn K (.ref fL_led) = true)
    (aL_all_led : PySem.W.nsIn K mainGlobals "_law_all_led" = some (some (.ref fL_all_led))) (lL_all_led : K.lookup fL_all_led = some ⟨ocL_all_led, odL_all_led, .func (PySem.W.fnOf "_law_all_led" "_law_all_led" (defArgs (topS 27)) (defBody (topS 27)) (defScope (topS 27)) .none kVL_all_led dcL_all_led pmL_all_led anL_all_led cdL_all_led ctL_all_led), slL_all_led⟩) (vL_all_led : PySem.W.codeIn K cdL_all_led "_law_all_led" = true) (kL_all_led : PySem.W.keepIn K (.ref fL_all_led) = true)
    (aL_all_rows : PySem.W.nsIn K mainGlobals "_law_all_rows" = some (some (.ref fL_all_rows))) (lL_all_rows : K.lookup fL_all_rows = some ⟨ocL_all_rows, odL_all_rows, .func (PySem.W.fnOf "_law_all_rows" "_law_all_rows" (defArgs (topS 28)) (defBody (topS 28)) (defScope (topS 28)) .none kVL_all_rows dcL_all_rows pmL_all_rows anL_all_rows cdL_all_rows ctL_all_rows), slL_all_rows⟩) (vL_all_rows : PySem.W.codeIn K cdL_all_rows "_law_all_rows" = true) (kL_all_rows : PySem.W.keepIn K (.ref fL_all_rows) = true)
    (aL_near_word : PySem.W.nsIn K mainGlobals "_law_near_word" = some (some (.ref fL_near_word))) (lL_near_word : K.lookup fL_near_word = some ⟨ocL_near_word, odL_near_word, .func (PySem.W.fnOf "_law_near_word" "_law_near_word" (defArgs (topS 29)) (defBody (topS 29)) (defScope (topS 29)) .none kVL_near_word dcL_near_word pmL_near_word anL_near_word cdL_near_word ctL_near_word), slL_near_word⟩) (vL_near_word : PySem.W.codeIn K cdL_near_word "_law_near_word" = true) (kL_near_word : PySem.W.keepIn K (.ref fL_near_word) = true)
    (aL_right : PySem.W.nsIn K mainGlobals "_law_right" = some (some (.ref fL_right))) (lL_right : K.lookup fL_right = some ⟨ocL_right, odL_right, .func (PySem.W.fnOf "_law_right" "_law_right" (defArgs (topS 30)) (defBody (topS 30)) (defScope (topS 30)) .none kVL_right dcL_right pmL_right anL_right cdL_right ctL_right), slL_right⟩) (vL_right : PySem.W.codeIn K cdL_right "_law_right" = true) (kL_right : PySem.W.keepIn K (.ref fL_right) = true)
    (aB : PySem.W.nsIn K mainGlobals "_law_box" = some (some (.ref fB))) (lB : K.lookup fB = some ⟨ocB, odB, .func (PySem.W.fnOf "_law_box" "_law_box" (defArgs (topS 17)) (defBody (topS 17)) (defScope (topS 17)) .none kVB dcB pmB anB cdB ctB), slB⟩) (vB : PySem.W.codeIn K cdB "_law_box" = true) (kB : PySem.W.keepIn K (.ref fB) = true)
    (aL : PySem.W.nsIn K mainGlobals "law" = some (some (.ref fL))) (lL : K.lookup fL = some ⟨ocL, odL, .func (PySem.W.fnOf "law" "law" (defArgs (topS 31)) (defBody (topS 31)) (defScope (topS 31)) .none kVL dcL pmL anL cdL ctL), slL⟩) (vL : PySem.W.codeIn K cdL "law" = true) (kL : PySem.W.keepIn K (.ref fL) = true)
    (yC : PySem.W.nsIn K mainGlobals "Table" = some (some (.ref C))) (yPg : PySem.W.plainGet K C Str.empty = true) (yHd : PySem.W.hasDictIn K C = true) (yPo : PySem.W.plainOver K C = true) (ySa : PySem.W.findIn K (.ref C) "__setattr__" = some (some (.builtin "object.__setattr__"))) (yMk : PySem.W.makesIn K C = true) (yKc : PySem.W.keepIn K (.ref C) = true)
    (yHa : PySem.W.findIn K (.ref C) "__class__" = some (some (.builtin "object.__class__"))) (yHn : PySem.W.specialIn K (.builtin "object.__class__") "__get__" = some (some (.builtin "getset_descriptor.__get__"))) (yHt : PySem.W.takesIn K (.builtin "object.__class__") = some true) (yHm : PySem.W.mroIn K C (.type "object") = some true) (yMe : PySem.W.kitOne K (.ref C) (.ref C) = some true)
    (yFwho : PySem.W.findIn K (.ref C) "who" = some none)
    (yFpairs : PySem.W.findIn K (.ref C) "pairs" = some none)
    (z_abs : PySem.W.nsIn K mainGlobals "abs" = some none)
    (z_int : PySem.W.nsIn K mainGlobals "int" = some none)
    (z_len : PySem.W.nsIn K mainGlobals "len" = some none)
    (z_range : PySem.W.nsIn K mainGlobals "range" = some none)
    (z_max : PySem.W.nsIn K mainGlobals "max" = some none)
    (z_min : PySem.W.nsIn K mainGlobals "min" = some none)
    (z_all : PySem.W.nsIn K mainGlobals "all" = some none)
    (z_isi : PySem.W.nsIn K mainGlobals "isinstance" = some none)
    (z_list : PySem.W.nsIn K mainGlobals "list" = some none)
    (z_tuple : PySem.W.nsIn K mainGlobals "tuple" = some none)
    (z_str : PySem.W.nsIn K mainGlobals "str" = some none)
    (z_bool : PySem.W.nsIn K mainGlobals "bool" = some none)
    (z_zip : PySem.W.nsIn K mainGlobals "zip" = some none)
    (z_sorted : PySem.W.nsIn K mainGlobals "sorted" = some none)
    (z_enum : PySem.W.nsIn K mainGlobals "enumerate" = some none)
    (z_dict : PySem.W.nsIn K mainGlobals "dict" = some none)
    (z_repr : PySem.W.nsIn K mainGlobals "repr" = some none)
    (z_set : PySem.W.nsIn K mainGlobals "set" = some none)
    (z_rev : PySem.W.nsIn K mainGlobals "reversed" = some none)
    (z_sum : PySem.W.nsIn K mainGlobals "sum" = some none)
    (z_any : PySem.W.nsIn K mainGlobals "any" = some none)
    : LawAtT l w K 10 63 "_law_script" mg fa h := by
  letI : Tbs := ⟨[], C⟩
  have e := hfa.symm.trans (PySem.W.mg_of X G aL)
  cases e
  have B : Bi mg := ⟨PySem.W.mg_none_of X G z_abs, PySem.W.mg_none_of X G z_int, PySem.W.mg_none_of X G z_len, PySem.W.mg_none_of X G z_range, PySem.W.mg_none_of X G z_max, PySem.W.mg_none_of X G z_min, PySem.W.mg_none_of X G z_all, PySem.W.mg_none_of X G z_isi, PySem.W.mg_none_of X G z_list, PySem.W.mg_none_of X G z_tuple, PySem.W.mg_none_of X G z_str, PySem.W.mg_none_of X G z_bool, PySem.W.mg_none_of X G z_zip, PySem.W.mg_none_of X G z_sorted, PySem.W.mg_none_of X G z_enum, PySem.W.mg_none_of X G z_dict, PySem.W.mg_none_of X G z_repr, PySem.W.mg_none_of X G z_set, PySem.W.mg_none_of X G z_rev, PySem.W.mg_none_of X G z_sum, PySem.W.mg_none_of X G z_any⟩
  have Fmust_be_same := fun_mk (st := (topS 4)) lmust_be_same vmust_be_same kmust_be_same
  have bmust_be_same := Fmust_be_same.binds (ps := ["one", "other"]) fun _ _ _ _ _ _ us hl => match us, hl with | [_, _], _ => rfl
  have Fpeople := fun_mk (st := (topS 6)) lpeople vpeople kpeople
  have bpeople := Fpeople.binds (ps := ["call"]) fun _ _ _ _ _ _ us hl => match us, hl with | [_], _ => rfl
  have Fmust_be_of := fun_mk (st := (topS 8)) lmust_be_of vmust_be_of kmust_be_of
  have bmust_be_of := Fmust_be_of.binds (ps := ["names", "word"]) fun _ _ _ _ _ _ us hl => match us, hl with | [_, _], _ => rfl
  have Fstep := fun_mk (st := (topS 10)) lstep vstep kstep
  have bstep := Fstep.binds (ps := ["told", "pair"]) fun _ _ _ _ _ _ us hl => match us, hl with | [_, _], _ => rfl
  have Fpairs_told := fun_mk (st := (topS 13)) lpairs_told vpairs_told kpairs_told
  have bpairs_told := Fpairs_told.binds (ps := ["names", "word"]) fun _ _ _ _ _ _ us hl => match us, hl with | [_, _], _ => rfl
  have FTable___init__ := fun_mk (st := (inClass (topS 12) 0)) lTable___init__ vTable___init__ kTable___init__
  have bTable___init__ := FTable___init__.binds (ps := ["self", "names", "word"]) fun _ _ _ _ _ _ us hl => match us, hl with | [_, _, _], _ => rfl
  have FTable___eq__ := fun_mk (st := (inClass (topS 12) 1)) lTable___eq__ vTable___eq__ kTable___eq__
  have bTable___eq__ := FTable___eq__.binds (ps := ["self", "other"]) fun _ _ _ _ _ _ us hl => match us, hl with | [_, _], _ => rfl
  have Falike := fun_mk (st := (topS 15)) lalike valike kalike
  have balike := Falike.binds (ps := ["names", "one", "other"]) fun _ _ _ _ _ _ us hl => match us, hl with | [_, _, _], _ => rfl
  have FL_take := fun_mk (st := (topS 18)) lL_take vL_take kL_take
  have bL_take := FL_take.binds (ps := ["_law_box_here", "_law_bound"]) fun _ _ _ _ _ _ us hl => match us, hl with | [_, _], _ => rfl
  have FL_same := fun_mk (st := (topS 19)) lL_same vL_same kL_same
  have bL_same := FL_same.binds (ps := ["_law_found", "_law_due"]) fun _ _ _ _ _ _ us hl => match us, hl with | [_, _], _ => rfl
  have FL_lists := fun_mk (st := (topS 20)) lL_lists vL_lists kL_lists
  have bL_lists := FL_lists.binds (ps := ["_law_matter"]) fun _ _ _ _ _ _ us hl => match us, hl with | [_], _ => rfl
  have FL_of := fun_mk (st := (topS 21)) lL_of vL_of kL_of
  have bL_of := FL_of.binds (ps := ["_law_box_here", "_law_some"]) fun _ _ _ _ _ _ us hl => match us, hl with | [_, _], _ => rfl
  have FL_strewn := fun_mk (st := (topS 22)) lL_strewn vL_strewn kL_strewn
  have bL_strewn := FL_strewn.binds (ps := ["_law_box_here", "_law_some"]) fun _ _ _ _ _ _ us hl => match us, hl with | [_, _], _ => rfl
  have FL_crew := fun_mk (st := (topS 23)) lL_crew vL_crew kL_crew
  have bL_crew := FL_crew.binds (ps := ["_law_box_here", "_law_most"]) fun _ _ _ _ _ _ us hl => match us, hl with | [_, _], _ => rfl
  have FL_ask := fun_mk (st := (topS 24)) lL_ask vL_ask kL_ask
  have bL_ask := FL_ask.binds (ps := ["_law_box_here", "_law_crew_here"]) fun _ _ _ _ _ _ us hl => match us, hl with | [_, _], _ => rfl
  have FL_asks := fun_mk (st := (topS 25)) lL_asks vL_asks kL_asks
  have bL_asks := FL_asks.binds (ps := ["_law_box_here", "_law_crew_here", "_law_size"]) fun _ _ _ _ _ _ us hl => match us, hl with | [_, _, _], _ => rfl
  have FL_led := fun_mk (st := (topS 26)) lL_led vL_led kL_led
  have bL_led := FL_led.binds (ps := ["_law_folk", "_law_ask_here"]) fun _ _ _ _ _ _ us hl => match us, hl with | [_, _], _ => rfl
  have FL_all_led := fun_mk (st := (topS 27)) lL_all_led vL_all_led kL_all_led
  have bL_all_led := FL_all_led.binds (ps := ["_law_folk", "_law_asks_here"]) fun _ _ _ _ _ _ us hl => match us, hl with | [_, _], _ => rfl
  have FL_all_rows := fun_mk (st := (topS 28)) lL_all_rows vL_all_rows kL_all_rows
  have bL_all_rows := FL_all_rows.binds (ps := ["_law_crew_here"]) fun _ _ _ _ _ _ us hl => match us, hl with | [_], _ => rfl
  have FL_near_word := fun_mk (st := (topS 29)) lL_near_word vL_near_word kL_near_word
  have bL_near_word := FL_near_word.binds (ps := ["_law_box_here", "_law_crew_here", "_law_asks_here"]) fun _ _ _ _ _ _ us hl => match us, hl with | [_, _, _], _ => rfl
  have FL_right := fun_mk (st := (topS 30)) lL_right vL_right kL_right
  have bL_right := FL_right.binds (ps := ["_law_box_here"]) fun _ _ _ _ _ _ us hl => match us, hl with | [_], _ => rfl
  have FB := fun_mk (st := (topS 17)) lB vB kB
  have bB := FB.binds (ps := ["_law_script", "_law_k"]) fun _ _ _ _ _ _ us hl => match us, hl with | [_, _], _ => rfl
  have FL := fun_mk (st := (topS 31)) lL vL kL
  have bL := FL.binds (ps := ["_law_script"]) fun _ _ _ _ _ _ us hl => match us, hl with | [_], _ => rfl
  have k_alike_210 : KBinds K _ ["names", "one", "other"] ["other", "one", "names"] (onlyK [2, 1, 0]) (onlyK [2, 1, 0]) := kbinds [2, 1, 0] Falike fun _ _ _ _ _ _ ws hl => match ws, hl with | _ :: _ :: _ :: _, _ => rfl
  refine ⟨PySem.W.fnOf "law" "law" (defArgs (topS 31)) (defBody (topS 31)) (defScope (topS 31)) .none kVL dcL pmL anL cdL ctL, [], spLaw K, fun p hp => ?_, fun s v => .of_eq rfl, fun H a ns hn hH _ hS => ⟨a, ns, rfl, hS, hn, fun p hp => ?_, fun _ => rfl⟩, fun base _ _ TB => ?_⟩
  · cases hp
  · cases hp
  · have T : Tx K mg base := ⟨fmust_be_same, _, Fmust_be_same, PySem.W.mg_of X G amust_be_same, bmust_be_same, fpeople, _, Fpeople, PySem.W.mg_of X G apeople, bpeople, fmust_be_of, _, Fmust_be_of, PySem.W.mg_of X G amust_be_of, bmust_be_of, fstep, _, Fstep, PySem.W.mg_of X G astep, bstep, fpairs_told, _, Fpairs_told, PySem.W.mg_of X G apairs_told, bpairs_told, fTable___init__, _, FTable___init__, ⟨yMk, aTable___init__, iTable___init__, yKc⟩, bTable___init__, fTable___eq__, _, FTable___eq__, aTable___eq__, iTable___eq__, bTable___eq__, falike, _, Falike, PySem.W.mg_of X G aalike, balike, fL_take, _, FL_take, PySem.W.mg_of X G aL_take, bL_take, fL_same, _, FL_same, PySem.W.mg_of X G aL_same, bL_same, fL_lists, _, FL_lists, PySem.W.mg_of X G aL_lists, bL_lists, fL_of, _, FL_of, PySem.W.mg_of X G aL_of, bL_of, fL_strewn, _, FL_strewn, PySem.W.mg_of X G aL_strewn, bL_strewn, fL_crew, _, FL_crew, PySem.W.mg_of X G aL_crew, bL_crew, fL_ask, _, FL_ask, PySem.W.mg_of X G aL_ask, bL_ask, fL_asks, _, FL_asks, PySem.W.mg_of X G aL_asks, bL_asks, fL_led, _, FL_led, PySem.W.mg_of X G aL_led, bL_led, fL_all_led, _, FL_all_led, PySem.W.mg_of X G aL_all_led, bL_all_led, fL_all_rows, _, FL_all_rows, PySem.W.mg_of X G aL_all_rows, bL_all_rows, fL_near_word, _, FL_near_word, PySem.W.mg_of X G aL_near_word, bL_near_word, fL_right, _, FL_right, PySem.W.mg_of X G aL_right, bL_right, k_alike_210, PySem.W.mg_of X G yC, ⟨yPg, yHd, yPo, ySa⟩, yFwho, yFpairs, ⟨⟨yPg, yHd, yPo, ySa⟩, yHa, yHn, yHt, yHm, yMe⟩⟩
    exact ok_law FL B T FB (PySem.W.mg_of X G aB) bB
end Pl
open PySem PySem.W PyProof.Rows
set_option maxRecDepth 100000 in
set_option maxHeartbeats 0 in
theorem PySem.Challenge.cw_standby_k20_words_alike_by_all_rows_holds : PySem.Challenge.rw_standby_k20_words_alike_by_all_rows.Holds := by
  w_on; o_law; k_head; (case hw => w_witness2)
  k_fill
  refine Pl.lawT (l := PySem.Challenge.rw_standby_k20_words_alike_by_all_rows) (n := 63) (k := 10) (x := "_law_script") rfl (by decide) rfl ⟨rfl, by decide, by decide⟩ (fun w h Y => PySem.W.kIn_of Y) ?F
  case F =>
    intro w mg fa h Y KX G hmg
    refine' Pl.all_mk KX G hmg ?amust_be_same ?lmust_be_same ?vmust_be_same ?kmust_be_same ?apeople ?lpeople ?vpeople ?kpeople ?amust_be_of ?lmust_be_of ?vmust_be_of ?kmust_be_of ?astep ?lstep ?vstep ?kstep ?apairs_told ?lpairs_told ?vpairs_told ?kpairs_told ?aTable___init__ ?iTable___init__ ?lTable___init__ ?vTable___init__ ?kTable___init__ ?aTable___eq__ ?iTable___eq__ ?lTable___eq__ ?vTable___eq__ ?kTable___eq__ ?aalike ?lalike ?valike ?kalike ?aL_take ?lL_take ?vL_take ?kL_take ?aL_same ?lL_same ?vL_same ?kL_same ?aL_lists ?lL_lists ?vL_lists ?kL_lists ?aL_of ?lL_of ?vL_of ?kL_of ?aL_strewn ?lL_strewn ?vL_strewn ?kL_strewn ?aL_crew ?lL_crew ?vL_crew ?kL_crew ?aL_ask ?lL_ask ?vL_ask ?kL_ask ?aL_asks ?lL_asks ?vL_asks ?kL_asks ?aL_led ?lL_led ?vL_led ?kL_led ?aL_all_led ?lL_all_led ?vL_all_led ?kL_all_led ?aL_all_rows ?lL_all_rows ?vL_all_rows ?kL_all_rows ?aL_near_word ?lL_near_word ?vL_near_word ?kL_near_word ?aL_right ?lL_right ?vL_right ?kL_right ?aB ?lB ?vB ?kB ?aL ?lL ?vL ?kL ?yC ?yPg ?yHd ?yPo ?ySa ?yMk ?yKc ?yHa ?yHn ?yHt ?yHm ?yMe ?yFwho ?yFpairs ?z_abs ?z_int ?z_len ?z_range ?z_max ?z_min ?z_all ?z_isi ?z_list ?z_tuple ?z_str ?z_bool ?z_zip ?z_sorted ?z_enum ?z_dict ?z_repr ?z_set ?z_rev ?z_sum ?z_any
    (case yC => k_is); (case yPg => k_is); (case yHd => k_is); (case yPo => k_is); (case ySa => k_is); (case yMk => k_is)
    (case yKc => k_is); (case yHa => k_is); (case yHn => k_is); (case yHt => k_is); (case yHm => k_is); (case yMe => kernel_rfl)
    (case yFwho => k_is); (case yFpairs => k_is); (case amust_be_same => k_is); (case lmust_be_same => k_is); (case vmust_be_same => k_is); (case kmust_be_same => k_is)
    (case apeople => k_is); (case lpeople => k_is); (case vpeople => k_is); (case kpeople => k_is); (case amust_be_of => k_is); (case lmust_be_of => k_is)
    (case vmust_be_of => k_is); (case kmust_be_of => k_is); (case astep => k_is); (case lstep => k_is); (case vstep => k_is); (case kstep => k_is)
    (case apairs_told => k_is); (case lpairs_told => k_is); (case vpairs_told => k_is); (case kpairs_told => k_is); (case aTable___init__ => k_is); (case iTable___init__ => k_is)
    (case lTable___init__ => k_is); (case vTable___init__ => k_is); (case kTable___init__ => k_is); (case aTable___eq__ => k_is); (case iTable___eq__ => k_is); (case lTable___eq__ => k_is)
    (case vTable___eq__ => k_is); (case kTable___eq__ => k_is); (case aalike => k_is); (case lalike => k_is); (case valike => k_is); (case kalike => k_is)
    (case aL_take => k_is); (case lL_take => k_is); (case vL_take => k_is); (case kL_take => k_is); (case aL_same => k_is); (case lL_same => k_is)
    (case vL_same => k_is); (case kL_same => k_is); (case aL_lists => k_is); (case lL_lists => k_is); (case vL_lists => k_is); (case kL_lists => k_is)
    (case aL_of => k_is); (case lL_of => k_is); (case vL_of => k_is); (case kL_of => k_is); (case aL_strewn => k_is); (case lL_strewn => k_is)
    (case vL_strewn => k_is); (case kL_strewn => k_is); (case aL_crew => k_is); (case lL_crew => k_is); (case vL_crew => k_is); (case kL_crew => k_is)
    (case aL_ask => k_is); (case lL_ask => k_is); (case vL_ask => k_is); (case kL_ask => k_is); (case aL_asks => k_is); (case lL_asks => k_is)
    (case vL_asks => k_is); (case kL_asks => k_is); (case aL_led => k_is); (case lL_led => k_is); (case vL_led => k_is); (case kL_led => k_is)
    (case aL_all_led => k_is); (case lL_all_led => k_is); (case vL_all_led => k_is); (case kL_all_led => k_is); (case aL_all_rows => k_is); (case lL_all_rows => k_is)
    (case vL_all_rows => k_is); (case kL_all_rows => k_is); (case aL_near_word => k_is); (case lL_near_word => k_is); (case vL_near_word => k_is); (case kL_near_word => k_is)
    (case aL_right => k_is); (case lL_right => k_is); (case vL_right => k_is); (case kL_right => k_is); (case aB => k_is); (case lB => k_is)
    (case vB => k_is); (case kB => k_is); (case aL => k_is); (case lL => k_is); (case vL => k_is); (case kL => k_is)
    (case z_abs => k_is); (case z_int => k_is); (case z_len => k_is); (case z_range => k_is); (case z_max => k_is); (case z_min => k_is)
    (case z_all => k_is); (case z_isi => k_is); (case z_list => k_is); (case z_tuple => k_is); (case z_str => k_is); (case z_bool => k_is)
    (case z_zip => k_is); (case z_sorted => k_is); (case z_enum => k_is); (case z_dict => k_is); (case z_repr => k_is); (case z_set => k_is)
    (case z_rev => k_is); (case z_sum => k_is); (case z_any => k_is)
