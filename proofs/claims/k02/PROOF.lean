import PyProof.Rows.All
import Wide.All
import OpenK.AllK
import Wide.FinOn
import HandS.Base
import HandS.Call
import HandS.List
import HandS.Comp
import HandS.Ends
import HandS.Dict
import HandS.Iter
import HandS.Text
import HandS.Words
import HandS.WordsList
import HandS.More
import HandS.Conv
import HandS.Zip
import HandS.DictComp
import KE.GoesMore
import HandS.Style
import HandS.Strs
import HandS.IsInst
import HandS.Walk
import HandS.EndBits
import HandS.FStrTup
import HandS.SetFor
import HandS.Set
import HandS.Codes
import HandS.StrMore
import KE.GoesZip
import KE.GoesEnum
import PyProof.StrOps2
import KE.KDictPairs
import HandS.TupAny
import PySem.Challenge.RW_standby_k02_calls_or_not
set_option Elab.async false
set_option linter.all false
set_option maxRecDepth 100000
namespace Kn
open PySem PySem.Spec PyProof.Rows L2
/-! what is never reached -/
theorem s_dead {X : Cx} {st : Stmt} : PS X st (fun _ _ _ => False) := ⟨fun _ _ _ _ _ _ h => h.elim⟩
theorem e_dead {X : Cx} {e : Expr} : PE X e (fun _ _ _ => False) := ⟨fun _ _ _ _ _ _ h => h.elim⟩
theorem same_new {H : Hp} {p : Addr} {o : HO} (h : H p = none) : Same H (upd H p o) := fun b x e => by
  rw [upd_ne (ne_of_none e h)]
  exact e
/-! all but one object stay -/
def Off (b : Addr) (H H' : Hp) : Prop := ∀ c o, H c = some o → c ≠ b → H' c = some o
theorem Off.refl (b : Addr) (H : Hp) : Off b H H := fun _ _ h _ => h
theorem Off.trans {b : Addr} {H H1 H2 : Hp} (x : Off b H H1) (y : Off b H1 H2) : Off b H H2 := fun c o h n => y c o (x c o h n) n
theorem Off.at (b : Addr) (H : Hp) (o : HO) : Off b H (upd H b o) := fun c u h n => by rw [upd_ne n]; exact h
theorem Same.off {b : Addr} {H H' : Hp} (s : Same H H') : Off b H H' := fun c o h _ => s c o h
/-! the box of drawn numbers: n draws at most were made -/
def Bx (n : Nat) (o : HO) : Prop := ∃ x y z : Int, o = .lst [.int x, .int y, .int z] ∧ 0 ≤ x ∧ 0 ≤ y ∧ y < 8589934592 ∧ 0 ≤ z ∧ z ≤ n
theorem Bx.mono {n m : Nat} {o : HO} (h : Bx n o) (l : n ≤ m) : Bx m o := by
  obtain ⟨x, y, z, e, a1, a2, a3, a4, a5⟩ := h
  exact ⟨x, y, z, e, a1, a2, a3, a4, by omega⟩
end Kn
namespace PySem
open AutoSeq1 (wpAny_loadPart')
set_option maxHeartbeats 1000000 in
theorem kn_enum_new (t : Addr) (its : Array Value) (n : Nat) (dc : Option Addr) (sl : Array (Option Value)) :
    Meets (Builtin.«enumerate.__new__» ⟨[.type "enumerate", .ref t], []⟩) (fun _ R s => s.heap.get? t = some { cls := .type "tuple", dict := dc, data := .seq its n, slots := sl } ∧
      R (.ok (.ret (.ref (s.heap.push { cls := .type "tuple_iterator", data := .fields #[.ref t, .int 0 0] }).objs.size)))
        { s with heap := (s.heap.push { cls := .type "tuple_iterator", data := .fields #[.ref t, .int 0 0] }).push { cls := .type "enumerate", data := .fields #[.none, .bool false, .ref s.heap.objs.size, rawInt 0, .none, .none] } }) :=
  .of_wp fun prog w A R s h => by
    obtain ⟨hp, g, d, tk, os⟩ := s
    obtain ⟨ht, h⟩ := h
    have sub := sub_enumerate
    have hT : Heap.IsTuple (Shared.heap ⟨hp, g, d, tk, os⟩) t its := ⟨_, ht, rfl, n, rfl⟩
    wp_walk using wpAny_loadPart' ht
    refine wpAny_stack_any fun st => (wpAny_pure ?_)
    split
    · rename_i c _ _ _ _ _
      cases (c == Value.type "enumerate")
      · (wp_walk using wpAny_loadPart' ht, wpAny_pyIter_tuple hT); exact ⟨_, rfl, h⟩
      · (wp_walk using wpAny_loadPart' ht, wpAny_pyIter_tuple hT); exact ⟨_, rfl, h⟩
    · (wp_walk using wpAny_loadPart' ht, wpAny_pyIter_tuple hT); exact ⟨_, rfl, h⟩
section
variable {prog : Program} {w : World} {A : Around} {E : Value → Shared → Prop} {s : Shared}
theorem kn_enum_tup {t : Addr} {its : Array Value} {Q : Value → Shared → Prop} (hT : s.heap.IsTuple t its)
    (h : ∀ h', IsEnum h' (s.heap.objs.size + 1) s.heap.objs.size 0 .none → h'.IsTupleIter s.heap.objs.size t 0 → h'.objs.size = s.heap.objs.size + 2 →
      (∀ b o, s.heap.get? b = some o → h'.get? b = some o) → Q (.ref (s.heap.objs.size + 1)) { s with heap := h' }) :
    wpAny (model prog w) A (call (.type "enumerate") [.ref t]) Q E s := by
  obtain ⟨⟨c, dc, dt, sl⟩, ht, hc, n, hd⟩ := hT
  replace hc : c = .type "tuple" := hc
  replace hd : dt = .seq its n := hd
  subst hc hd
  refine callType_new F.called_enumerate (by decide) (F.typeCall_enumerate_1 _) (F.newCall_enumerate_1 _) (fun ob => F.args_object_init_2 ob _) F.entry_enumerate_new (kn_enum_new t its n dc sl) ⟨ht, ?_⟩
  generalize hq : s.heap.push { cls := .type "tuple_iterator", data := .fields #[.ref t, .int 0 0] } = hp
  have hz : hp.objs.size = s.heap.objs.size + 1 := by rw [← hq]; exact Heap.size_push ..
  show _ ∧ _
  rw [hz]
  have he : IsEnum (hp.push { cls := .type "enumerate", data := .fields #[.none, .bool false, .ref s.heap.objs.size, rawInt 0, .none, .none] }) (s.heap.objs.size + 1) s.heap.objs.size 0 .none := by
    have z := Heap.get?_push_size hp (o := { cls := .type "enumerate", data := .fields #[.none, .bool false, .ref s.heap.objs.size, rawInt 0, .none, .none] }) rfl
    rw [hz] at z
    exact z
  have hi : hp.get? s.heap.objs.size = some { cls := .type "tuple_iterator", data := .fields #[.ref t, .int 0 0] } := by
    rw [← hq]
    exact Heap.get?_push_size _ rfl
  refine ⟨⟨_, he, rfl⟩, h _ he ⟨_, Heap.get?_push_of_some _ hi, rfl, rfl⟩ (by rw [Heap.size_push, hz]) fun b o x => Heap.get?_push_of_some _ ?_⟩
  rw [← hq]
  exact Heap.get?_push_of_some _ x
end
end PySem
namespace Kn
open PySem PySem.Spec PyProof.Rows L2
/-! enumerate(a tuple) -/
def IteT (K : PySem.W.Frag) (a : Addr) : It :=
  ⟨fun i H => ∃ (xs : List V) (x : V), SqT K H a xs ∧ xs[i]? = some x,
   fun i H v H' => ∃ T x, v = .ref T ∧ H T = none ∧ H' = upd H T (.tup [.int (i : Nat), x]) ∧ ∀ xs, SqT K H a xs → xs[i]? = some x,
   fun i H => ∃ xs : List V, SqT K H a xs ∧ xs.length = i⟩
theorem turn_enT {P : Program} {w : World} {K : PySem.W.Frag} {elts : List Expr} {kk : Nat} {tpos : Pos} {a e it : Addr} (ae : a ≠ e) (ai : a ≠ it) :
    Turn P w K (.Tuple elts kk tpos) (IteT K a) [e, it] e (fun i h => (∃ old, IsEnum h e it ((i : Nat) : Int) old) ∧ h.IsTupleIter it a i ∧ e ≠ it) where
  mem := by simp
  obj := fun i h st b hb => by
    obtain ⟨⟨old, he⟩, ⟨o, ho, hc, hd⟩, _⟩ := st
    rcases (show b = e ∨ b = it by simpa using hb) with z | z
    · rw [z]; exact ⟨_, he, fun v q => nomatch q⟩
    · rw [z]; exact ⟨o, ho, fun v q => by rw [hd] at q; cases q⟩
  keep := fun i h h' st k => let ⟨⟨old, he⟩, hi, hne⟩ := st; ⟨⟨old, k e (by simp) _ he⟩, hi.at fun o q => k it (by simp) o q, hne⟩
  item := by
    intro X hP hw hK hc i pins s σ H E I hf st hg
    subst hP hw hK
    obtain ⟨⟨old, he⟩, hit, hne⟩ := st
    obtain ⟨xs, x, hq, hx⟩ := hg
    obtain ⟨its, rv, p, hz⟩ := I.tuple hq
    obtain ⟨u, hu, ru⟩ := rv.get hx
    have hl := rv.length
    have hlt : i < its.toArray.size := by
      have := (List.getElem?_eq_some_iff.mp hx).1
      rw [List.size_toArray]; omega
    have hel : e < s.heap.objs.size := Heap.lt_size he
    have hil : it < s.heap.objs.size := by obtain ⟨_, q, _⟩ := hit; exact Heap.lt_size q
    have hT0 : s.heap.IsTuple a its.toArray := p
    refine wpAny_pyNext_enum_itemD (Draws.tuple (A := X.A.in1) (I.ok.hd hc) it a ai its.toArray) he ⟨hit, hT0⟩ hlt hne (by simp; exact ⟨hne, fun z => ae z.symm⟩) fun u' h' tk hu' ho st' hT hsz hk => ?_
    have eu : u' = u := by
      have : its.toArray[i]? = some u' := hu'
      rw [List.getElem?_toArray, hu] at this
      exact (Option.some.inj this).symm
    subst eu
    refine ⟨_, rfl, wpAny_letOwnedTupleGo_enum (s := { s with heap := h', toks := tk + 1 }) ho fun h'' he' sb => ?_⟩
    have hT2 : h''.get? s.heap.objs.size = some { cls := .type "tuple", data := .seq #[.int i tk, u'] } := (sb.2 _ (Nat.ne_of_gt hel)).trans hT
    have new : ObjOk X.prog X.w (upd H s.heap.objs.size (.tup [.int (i : Nat), x])) h'' s.heap.objs.size (.tup [.int (i : Nat), x]) :=
      ⟨by show 2 ≤ sizeLine; decide, [.int i tk, u'], .cons ⟨_, rfl⟩ (.cons ru .nil), ⟨_, hT2, rfl, _, rfl⟩⟩
    have I1 : Inv X pins σ (upd H s.heap.objs.size (.tup [.int (i : Nat), x])) { s with heap := h'', toks := tk + 1 } :=
      I.turnedNew (ch := [e, it]) (fun b ob hb q => (sb.2 b (fun z => hb (by simp [z]))).trans (hk b ob (fun z => hb (by simp [z])) (fun z => hb (by simp [z])) q)) hf (Nat.le_refl _) new
    refine ⟨.ref s.heap.objs.size, _, I1, rfl, ⟨_, x, rfl, I.hok.fresh (Nat.le_refl _), rfl, fun ys hy => by rw [I.tuple_inj hy hq]; exact hx⟩, ⟨⟨u', ?_⟩, st'.1.at fun o q => (sb.2 it (Ne.symm hne)).trans q, hne⟩, fun b hb => ?_⟩
    · rw [show ((i + 1 : Nat) : Int) = (i : Int) + 1 by omega]
      exact he'
    · have hb' : b < s.heap.objs.size := by
        rcases (show b = e ∨ b = it by simpa using hb) with z | z
        · rw [z]; exact hel
        · rw [z]; exact hil
      rw [upd_ne (Nat.ne_of_lt hb')]
      exact (hf b hb).1
  done := by
    intro X hP hw hK hc i pins s σ H E I hf st hg
    subst hP hw hK
    obtain ⟨⟨old, he⟩, hit, hne⟩ := st
    obtain ⟨xs, hq, hx⟩ := hg
    obtain ⟨its, rv, p, hz⟩ := I.tuple hq
    have hl := rv.length
    obtain ⟨f0, f1, f2, f3, f4, f5⟩ := hf it (by simp)
    have hn : i = its.toArray.size := by rw [List.size_toArray]; omega
    have hT0 : s.heap.IsTuple a its.toArray := p
    subst hn
    exact wpAny_pyNext_enum_endD (Draws.tuple (A := X.A.in1) (I.ok.hd hc) it a ai its.toArray) he ⟨hit, hT0⟩ fun h' eb => ⟨rfl, I.turned (t' := s.toks) (fun b o hb q => eb b o hb q) f0 f1 f3 f4 f5⟩
  self := fun A i s Q E st h => let ⟨⟨_, he⟩, _⟩ := st; wpAny_pyIter_enum he h
def iEnT (K : PySem.W.Frag) (ta : TA) : TI := fun σ H R => ta σ H fun vs H1 => ∃ a xs, vs = [.ref a] ∧ SqT K H1 a xs ∧ R (IteT K a) H1
theorem pi_enT {X : Cx} {e : Expr} {ta : TA} {p pos tpos : Pos} {elts : List Expr} {kk : Nat} (hg : Gl X "enumerate") (hm : X.mg "enumerate" = none) (ha : PA X [e] ta)
    (hs : starEach [e] X.env = [(false, eval e X.env)] := by rfl) : PI X (.Tuple elts kk tpos) (.Call (.Name "enumerate" p) [e] [] pos) (iEnT X.K ta) := by
  refine ⟨fun pins s σ H R I h => ?_⟩
  refine Call_ (ld_blt I hg hm boot_enumerate (PyProof.Rows.callWith_type1 (thn (ha.run pos pins s σ H _ I h) fun us s1 ⟨vs, H1, I1, r1, q1⟩ => ?_) hs rfl))
  obtain ⟨a, xs, ex, hq, q⟩ := q1
  subst ex
  cases r1 with
  | cons r rr =>
    cases rr
    cases r
    obtain ⟨its, rv, p', hz⟩ := I1.tuple hq
    have hal : a < s1.heap.objs.size := by obtain ⟨_, e1, _⟩ := id p'; exact Heap.lt_size e1
    refine kn_enum_tup (show s1.heap.IsTuple a its.toArray from p') fun h' he hit hsz hk => wpAny_pyIter_enum he ?_
    have I2 : Inv X pins σ H1 { s1 with heap := h' } := I1.kept (t' := s1.toks) hk
    refine ⟨s1.heap.objs.size + 1, [s1.heap.objs.size + 1, s1.heap.objs.size], _, _, H1, rfl, I2, turn_enT (a := a) (e := s1.heap.objs.size + 1) (it := s1.heap.objs.size) (Nat.ne_of_lt (Nat.lt_succ_of_lt hal)) (Nat.ne_of_lt hal), ⟨⟨.none, he⟩, hit, Nat.succ_ne_self _⟩, fun b hb => ?_, q⟩
    have hle : s1.heap.objs.size ≤ b := by
      rcases (show b = s1.heap.objs.size + 1 ∨ b = s1.heap.objs.size by simpa using hb) with z | z
      · rw [z]; exact Nat.le_succ _
      · rw [z]; exact Nat.le_refl _
    exact I1.fpOk hle (I1.hok.fresh hle)
theorem walk_enT {K : PySem.W.Frag} {a : Addr} {xs : List V} : Walk (IteT K a) xs.length (fun H => SqT K H a xs) (YPair (fun i => some (.int (i : Nat))) (fun i => xs[i]?)) :=
  ⟨fun i H hi h => ⟨xs, xs[i], h, by simp [hi]⟩, fun H h => ⟨xs, h, rfl⟩, fun i H x H' hi h y => by
    obtain ⟨T, z, e1, e2, e3, e4⟩ := y
    exact ⟨T, _, z, e1, e2, e3, rfl, e4 xs h⟩⟩
theorem walk_zpT {K : PySem.W.Frag} {a b : Addr} {xs ys : List V} {n : Nat} (hn : n = min xs.length ys.length) : Walk (RZ.ItzT K a b) n (fun H => SqT K H a xs ∧ SqT K H b ys) (YPair (fun i => xs[i]?) (fun i => ys[i]?)) :=
  ⟨fun i H hi h => ⟨xs, ys, xs[i]'(by omega), ys[i]'(by omega), h.1, h.2, List.getElem?_eq_getElem _, List.getElem?_eq_getElem _⟩, fun H h => ⟨xs, ys, h.1, h.2, by omega⟩, fun i H x H' hi h y => by
    obtain ⟨T, u, v, e1, e2, e3, e4, e5⟩ := y
    exact ⟨T, u, v, e1, e2, e3, e4 xs h.1, e5 ys h.2⟩⟩
end Kn
namespace HT
open PySem PySem.Calls PyProof.Rows
section
variable {prog : Program} {w : World} {A : Around} {E : Value → Shared → Prop} {s : Shared}
theorem kn_applied {sl : Addr} {vl vu vs : Value} {n : Nat} {Q : Int × Int × Nat → Shared → Prop} (hs : s.heap.IsSliceOf sl vl vu vs) (pl : IsPart vl none) (pu : IsPart vu none) (ps : IsPart vs (some (-1)))
    (h : Q ((n : Int) - 1, -1, n) s) : wpAny (model prog w) A (Builtin.Slice.sliceApplied (.ref sl) (pure (n : Int))) Q E s := by
  obtain ⟨os, hos, hcs, hds⟩ := id hs
  unfold Builtin.Slice.sliceApplied Builtin.Slice.sliceFields
  refine wpAny_bind (wpAny_bind (wpAny_field hos hds (x := vl) rfl (wpAny_bind (wpAny_field hos hds (x := vu) rfl (wpAny_bind (wpAny_field hos hds (x := vs) rfl (wpAny_pure ?_)))))))
  refine wpAny_bind (slicePart_ ps ?_)
  show wpAny _ _ (if ((-1 : Int) == 0) = true then _ else _) _ _ s
  rw [if_neg (by decide)]
  refine wpAny_bind (slicePart_ pl (wpAny_bind (slicePart_ pu (wpAny_bind (wpAny_pure ?_)))))
  show wpAny _ _ (pure ((n : Int) - 1, (-1 : Int), Builtin.Slice.slicePlaces ((n : Int) - 1) (-1) (-1))) _ _ s
  have e : Builtin.Slice.slicePlaces ((n : Int) - 1) (-1) (-1) = n := by
    unfold Builtin.Slice.slicePlaces
    have h1 : ¬ ((-1 : Int) > 0) := by decide
    simp only [h1, if_false]
    rw [show (- -1 : Int) = 1 by decide, Int.ediv_one]
    split <;> omega
  rw [e]
  exact wpAny_pure h
theorem fm_congr {α β : Type} {f g : α → Option β} : ∀ l : List α, (∀ x ∈ l, f x = g x) → l.filterMap f = l.filterMap g
  | [], _ => rfl
  | x :: l, h => by
    rw [List.filterMap_cons, List.filterMap_cons, h x List.mem_cons_self, fm_congr l fun y hy => h y (List.mem_cons_of_mem _ hy)]
theorem kn_pick (xs : Array Value) : ((List.range xs.size).filterMap fun (m : Nat) => xs[((xs.size : Int) - 1 + (m : Int) * -1).toNat]?).toArray = xs.toList.reverse.toArray := by
  have e : (List.range xs.size).filterMap (fun (m : Nat) => xs[((xs.size : Int) - 1 + (m : Int) * -1).toNat]?) = (((List.range xs.size).map fun k => xs.size - 1 - k).filterMap (xs[·]?)) := by
    rw [List.filterMap_map]
    refine fm_congr _ fun m hm => ?_
    have := List.mem_range.mp hm
    show _ = xs[xs.size - 1 - m]?
    rw [show ((xs.size : Int) - 1 + (m : Int) * -1).toNat = xs.size - 1 - m by omega]
  rw [e, PySem.W.krv_range, List.filterMap_reverse, PySem.W.krv_all]
theorem kn_rev {t sl : Addr} {items : Array Value} {vl vu vs : Value} {Q : Value → Shared → Prop} (ht : IsTup s.heap t items) (hs : s.heap.IsSliceOf sl vl vu vs) (pl : IsPart vl none) (pu : IsPart vu none) (ps : IsPart vs (some (-1)))
    (h : Q (.ref s.heap.objs.size) { s with heap := s.heap.push { cls := .type "tuple", data := .seq items.toList.reverse.toArray } })
    (hsz : items.size ≤ sizeLine) : wpAny (model prog w) A (getItem (.ref t) (.ref sl)) Q E s := by
  have htake : sizeOk (.seq items.toList.reverse.toArray) := by
    show items.toList.reverse.toArray.size ≤ sizeLine
    rw [List.size_toArray, List.length_reverse, Array.length_toList]
    exact hsz
  obtain ⟨os, hos, hcs, hds⟩ := id hs
  have hTs : s.TypeIs (.ref sl) "slice" := ⟨os, hos, hcs⟩
  unfold getItem
  try with_reducible refine (wpAny_holding ?_)
  first | refine (wpAny_bind (wpAny_pure ?_)) | skip
  refine wpAny_bind (wpAny_sequenceKey ht.typeIs (by decide) ?_)
  refine wpAny_bind (wpAny_callSpecial?_slot (name := Str.ofString "__getitem__") ht.typeIs PyProof.Rows.slot_tuple_getitem (wpAny_call_entry PyProof.Rows.slot_tuple_getitem ht.typeIs entry_tuple_getitem ?_ (args_tuple_getitem _ _)))
  show wpAny _ _ (Builtin.Tuple.tupleItemsOf (.ref t) >>= _) _ _ s
  refine wpAny_bind (tupleItemsOf_ ht ?_)
  refine wpAny_bind (wpAny_typeOf hTs ?_)
  rw [if_pos (by decide)]
  refine wpAny_bind (kn_applied hs pl pu ps ?_)
  have hno : ¬ (((items.size : Int) - 1 == 0 && (-1 : Int) == 1 && items.size == items.size) = true) := by
    intro q
    rw [Bool.and_eq_true, Bool.and_eq_true] at q
    exact absurd q.1.2 (by decide)
  show wpAny _ _ (if ((items.size : Int) - 1 == 0 && (-1 : Int) == 1 && items.size == items.size) = true then _ else _) _ _ s
  rw [if_neg hno, kn_pick]
  first
    | exact wpAny_bind (m := Builtin.Tuple.tupleExact _) (wpAny_newObj_type (wpAny_pure ⟨_, rfl, wpAny_pure h⟩) htake)
    | exact wpAny_bind (m := Builtin.Tuple.tupleExact _) (wpAny_newObj_type (wpAny_bind (wpAny_pure (wpAny_pure ⟨_, rfl, wpAny_pure h⟩))) htake)
    | exact wpAny_bind (wpAny_bind (m := Builtin.Tuple.tupleExact _) (wpAny_newObj_type (wpAny_pure (wpAny_pure ⟨_, rfl, wpAny_pure h⟩)) htake))
    | exact wpAny_bind (wpAny_bind (m := Builtin.Tuple.tupleExact _) (wpAny_newObj_type (wpAny_pure ⟨_, rfl, wpAny_pure h⟩) htake))
end
end HT
namespace Kn
open PySem PySem.Spec PyProof.Rows L2
section
variable {X : Cx}
/-! t[::-1] of a tuple -/
/-- what x[::-1] is, of one kind of things -/
def RevR (X : Cx) (r : V → Hp → VK → Prop) : Prop := ∀ (pins : List (Addr × Obj)) (s : Shared) (σ : L2.St) (H : Hp) (x : V) (v : Value) (sl : Addr) (lo up st : Value) (Q : VK), Inv X pins σ H s → RelV x v → s.heap.IsSliceOf sl lo up st → IsPart lo none → IsPart up none → IsPart st (some (-1)) → r x H Q →
  ∃ (T g : String), typeLookup (.type T) "__getitem__" = pure (some (.builtin g)) ∧ s.TypeIs v T ∧ wpAny (model X.prog X.w) X.A (getItem v (.ref sl)) (EP X pins σ Q) X.xe s
def tRev (r : V → Hp → VK → Prop) (te : TE) : TE := fun σ H Q => te σ H fun x H1 => r x H1 Q
theorem pe_rev {r : V → Hp → VK → Prop} {e : Expr} {te : TE} {k : Nat} {a1 a2 a3 pos : Pos} (hr : RevR X r) (he : PE X e te) : PE X (.Subscript e (.Slice none none (some (.UnaryOp .USub (.Constant (.int 1) k a1) a2)) a3) pos) (tRev r te) := by
  refine ⟨fun pins s σ H Q J want => Subscript_ (thn (he.run pins s σ H _ J want) fun v s1 ⟨x, G, J1, rx, hx⟩ => ?_)⟩
  refine wpAny_Slice (thn (po_none.run pins s1 σ G (fun y K => y = none ∧ K = G) J1 ⟨rfl, rfl⟩) fun lo s2 ⟨y1, G1, J2, i1, z1⟩ => ?_)
  obtain ⟨rfl, rfl⟩ := z1
  refine thn (po_none.run pins s2 σ G1 (fun y K => y = none ∧ K = G1) J2 ⟨rfl, rfl⟩) fun up s3 ⟨y2, G2, J3, i2, z2⟩ => ?_
  obtain ⟨rfl, rfl⟩ := z2
  refine thn ((po_some (pe_un un_neg pe_int)).run pins s3 σ G2 (fun y K => y = some (-1) ∧ K = G2) J3 ⟨1, rfl, -1, rfl, rfl, rfl⟩) fun st s4 ⟨y3, G3, J4, i3, z3⟩ => ?_
  obtain ⟨rfl, rfl⟩ := z3
  obtain ⟨T, g, l1, l2, l3⟩ := hr pins { s4 with heap := s4.heap.push { cls := .type "slice", data := .fields #[lo, up, st] } } σ G3 x v s4.heap.objs.size lo up st Q (J4.kept (t' := s4.toks) fun b o e => Heap.get?_push_of_some _ e) rx (Heap.IsSliceOf.new _ lo up st) i1 i2 i3 hx
  exact tail_any (ops := [v, .ref s4.heap.objs.size]) l2 l1 l3 (by with_unfolding_all rfl)
/-- of a tuple: a new tuple -/
theorem rev_tup : RevR X (fun x H Q => ∃ a xs, x = .ref a ∧ SqT X.K H a xs ∧ ∀ p, H p = none → Q (.ref p) (upd H p (.tup xs.reverse))) := by
  intro pins s σ H x v sl lo up st Q J rx hs h1 h2 h3 want
  obtain ⟨a, xs, rfl, sq, q⟩ := want
  obtain rfl : v = .ref a := rx
  obtain ⟨its, rv, ht, hz⟩ := J.tuple sq
  refine ⟨"tuple", _, PyProof.Rows.slot_tuple_getitem.lookup, ht.typeIs, HT.kn_rev ht hs h1 h2 h3 ⟨.ref _, _, J.laid (t' := s.toks) (o := .tup xs.reverse) (fun b o e => Heap.get?_push_of_some _ e) (Nat.le_refl _) ?_, rfl, q _ (J.hok.fresh (Nat.le_refl _))⟩ (by rw [List.size_toArray, ← rv.length]; exact hz)⟩
  exact ⟨by rw [List.length_reverse]; exact hz, its.reverse, rv.reverse, IsTup.new _ _⟩
/-- of a tuple: a new tuple without a dict -/
theorem rev_tupD : RevR X (fun x H Q => ∃ a xs, x = .ref a ∧ SqT X.K H a xs ∧ ∀ p o, H p = none → o.cls = .type "tuple" → o.dict = none → Q (.ref p) (upd H p (.frz o (.tup xs.reverse)))) := by
  intro pins s σ H x v sl lo up st Q J rx hs h1 h2 h3 want
  obtain ⟨a, xs, rfl, sq, q⟩ := want
  obtain rfl : v = .ref a := rx
  obtain ⟨its, rv, ht, hz⟩ := J.tuple sq
  refine ⟨"tuple", _, PyProof.Rows.slot_tuple_getitem.lookup, ht.typeIs, HT.kn_rev ht hs h1 h2 h3 ⟨.ref _, _, J.laid (t' := s.toks) (o := .frz { cls := .type "tuple", data := .seq its.reverse.toArray } (.tup xs.reverse)) (fun b o e => Heap.get?_push_of_some _ e) (Nat.le_refl _) ?_, rfl, q _ _ (J.hok.fresh (Nat.le_refl _)) rfl rfl⟩ (by rw [List.size_toArray, ← rv.length]; exact hz)⟩
  exact ⟨Heap.get?_push_size _ rfl, by rw [List.length_reverse]; exact hz, its.reverse, rv.reverse, IsTup.new _ _⟩
abbrev tRevT (K : PySem.W.Frag) (te : TE) : TE := tRev (fun x H Q => ∃ a xs, x = .ref a ∧ SqT K H a xs ∧ ∀ p, H p = none → Q (.ref p) (upd H p (.tup xs.reverse))) te
theorem pe_revT {e : Expr} {te : TE} {k : Nat} {p1 p2 p3 pos : Pos} (he : PE X e te) : PE X (.Subscript e (.Slice none none (some (.UnaryOp .USub (.Constant (.int 1) k p1) p2)) p3) pos) (tRevT X.K te) := pe_rev rev_tup he
/-! sorted(a list or a tuple of texts) -/
def rSortT (K : PySem.W.Frag) : List V → Hp → VK → Prop := fun vs H Q => ∃ (a : Addr) (xs : List Str), vs = [V.ref a] ∧ (SqL K H a (xs.map V.str) ∨ SqT K H a (xs.map V.str)) ∧ xs.length < 64 ∧
  ∀ (ys : List Str) (p : Addr), ys.Perm xs → sortedS ys = true → H p = none → Q (.ref p) (upd H p (.lst (ys.map V.str)))
theorem cr_sortT2 : CallR X (.builtin "sorted") (rSortT X.K) := by
  intro pins s σ H args us Q J rel want
  obtain ⟨a, xs, rfl, sq, few, q⟩ := want
  rw [Vals.ref1 rel]
  have seq : ∃ (T : String) (ob : Obj) (m : Nat) (its : List Value), (T = "list" ∨ T = "tuple") ∧ s.heap.get? a = some ob ∧ ob.cls = .type T ∧ ob.data = .seq its.toArray m ∧ Vals (xs.map V.str) its := by
    rcases sq with sq | sq
    · obtain ⟨its, rv, ⟨ob, m, h1, h2, _, h4⟩, _⟩ := J.list sq
      exact ⟨"list", ob, m, its, .inl rfl, h1, h2, h4, rv⟩
    · obtain ⟨its, rv, ⟨ob, h1, h2, m, h4⟩, _⟩ := J.tuple sq
      exact ⟨"tuple", ob, m, its, .inr rfl, h1, h2, h4, rv⟩
  obtain ⟨T, ob, m, its, hT, ho, hc, hd, rv⟩ := seq
  have il : its.length = xs.length := by rw [← rv.length, List.length_map]
  have tx : StrsAre its xs := rv.strs
  refine Calls.call_function_entry kind_sorted plain_sorted entry_sorted (args_sorted1 _) (show wpAny _ _ (Builtin.«sorted» _) _ _ _ from ?_)
  unfold Builtin.«sorted»
  refine wpAny_bind (m := checkCount "sorted" 1 1 _) (wpAny_pure (wpAny_bind (wpAny_collect_seq a hT ho hc hd (fun g up => ?_) (by rw [List.size_toArray, sizeLine_eq]; omega))))
  have J1 : Inv X pins σ H { s with heap := g } := J.kept (t' := s.toks) up
  refine wpAny_bind (wpAny_newList ?_ (by rw [List.toList_toArray, sizeLine_eq]; omega))
  rw [List.toList_toArray]
  have at0 : (g.push (seqObj "list" its.toArray 0)).get? g.objs.size = some (seqObj "list" its.toArray 0) := Heap.get?_push_size _ rfl
  refine wpAny_bind (wpAny_holding (wpAny_call_entry slot_list_sort ⟨_, at0, rfl⟩ entry_list_sort (list_sort_treeK strKind_oneLt at0 tx.keysOf (fun v₁ v₂ more e => keyKind_strs (by rw [← e]; exact tx)) (by omega) fun st pm so => ⟨_, rfl, ?_⟩) (args_list_sort _)))
  obtain ⟨zs, z1, z2, z3⟩ := sorted_out_str tx pm so
  obtain ⟨c, atE⟩ := sortedHeap_at (vs := its) (out := (arrOf st).map (·.2)) at0
  have old : ∀ b u, g.get? b = some u → (sortedHeap (g.push (seqObj "list" its.toArray 0)) g.objs.size its ((arrOf st).map (·.2))).get? b = some u := fun b u e => by
    have lt := Heap.lt_size e
    rw [sortedHeap_old (Nat.ne_of_lt lt) (by rw [size_push']; exact Nat.lt_succ_of_lt lt)]
    exact Heap.get?_push_of_some _ e
  have fit : (zs.map V.str).length ≤ sizeLine := by rw [List.length_map, z2.length_eq, sizeLine_eq]; omega
  exact wpAny_pure ⟨_, rfl, .ref g.objs.size, upd H g.objs.size (.lst (zs.map V.str)), J1.laid (t' := s.toks) old (Nat.le_refl _) ⟨fit, _, c, vals_of_strs z1, atE⟩, rfl, q zs _ z2 z3 (J1.hok.fresh (Nat.le_refl _))⟩
/-! repr of data, where no repr is under way -/
theorem cr_repr (hg : X.A.guards = some []) (hu : X.A.units + 64 < cLine) : CallR X (.builtin "repr") (fun vs H Q => ∃ (x : V) (d : PyData), vs = [x] ∧ Dp X.K H x d ∧ isDisplay d = true ∧ d.showable = true ∧ d.hasDict = false ∧ d.depth ≤ 60 ∧ d.shown.length ≤ sizeLine ∧ Q (.str d.shown) H) := by
  intro pins s σ H vs us Q I r h
  obtain ⟨x, d, rfl, hd, hD, hs, hn, hdp, hz, q⟩ := h
  obtain ⟨u, rfl, ru⟩ := vals1 r
  obtain ⟨as, hr⟩ := Dp.reads I d x u hd ru
  obtain ⟨a, rfl⟩ := isRef_of_reads hr hD
  refine repr_of_reads' hr hs (PyData.noDict_hsm hn) hg (by omega) (fun _ _ e => e) (fun h' t tk hk => ?_) hz
  exact ⟨.str d.shown, H, I.kept (t' := tk) hk, ⟨_, rfl⟩, q⟩
end
end Kn
namespace Kn
open PySem PySem.Spec PyProof.Rows L2
/-! a def's promise where no repr is under way -/
structure FnG (P : Program) (w : World) (K : PySem.W.Frag) (mg : Str → Option Value) (base : Heap) (CX : CXT) (k : Nat) (f : Addr) (fd : FuncData) (ps : List Str) (sp : Sp) : Prop where
  len : ∀ vs H Q E, sp vs H Q E → vs.length = ps.length
  run : ∀ (A : Around) (outer : List Env) (s : Shared) (H : Hp) (args : Args) (us : List Value) (vs : List V) (Q : VK) (E : XK), A.guards = some [] → Room k A → Env0 P w K mg base A outer s H →
    BindsTo s fd args (ps.zip us) → Vals vs us → sp vs H Q E → codeAny (model P w) A (.call (.ref f) args) (CR CX outer P w H s Q E) s
section
variable {P : Program} {w : World} {K : PySem.W.Frag} {mg : Str → Option Value} {base : Heap}
theorem okG {x qual : Str} {st : Stmt} {f : Addr} {fd : FuncData} {N ps : List Str} {k : Nat} {sp : Sp} (F : Fun K x qual st f fd) (S : FnScope N ps (defScope st)) (len : ∀ vs H Q E, sp vs H Q E → vs.length = ps.length)
    (hbody : ∀ (cdv : Value) (A : Around) (outer : List Env) (s : Shared) (H : Hp) (vs : List V) (Q : VK) (E : XK), A.guards = some [] → Room k (A.deeper (envOfC qual (defScope st) s.heap.objs.size f cdv)) → sp vs H Q E →
      ∃ t, PSs (cxOf CX0 P w K mg base N qual (defScope st) f cdv A outer s H E).nox (defBody st) t ∧ t { nx := fun _ H' => Q .non H', rt := Q } (start N vs) H) : FnG P w K mg base CX0 (k + 1) f fd ps sp := by
  obtain ⟨oc, od, kV, doc, pm, an, cdv, ct, osl, rfl, lk, hcd⟩ := F.ex
  refine ⟨len, fun A outer s H args us vs Q E hg hr e0 hb r hsp => ?_⟩
  have hin : K.In s.heap := e0.mod.kin.keeps fun b o e => (e0.bs b o e).1
  have hno : s.heap.NoLimit := e0.mod.nolimit.keeps fun b o e => (e0.bs b o e).1
  have hkd : ∀ y ∈ ps.zip us, (defScope st).names.lookup y.1 = some .local ∨ ((defScope st).names.lookup y.1 = some .cell ∧ ((cellsFrom (s.heap.objs.size + 1) (defScope st).names []).lookup y.1).isSome = true) := by
    rintro ⟨n, v⟩ hy
    rcases S.par n (List.of_mem_zip hy).1 with q | q
    · exact .inl q
    · exact .inr ⟨q, PySem.W.cellsFrom_some _ _ _ (.inl q)⟩
  refine codeAny_call_function hr.depth (hin _ _ lk) rfl S.co S.gen rfl (PySem.W.codeRec_of hin hcd) (hb _ _ _ _ ?_)
  refine wpAny_newFunctionEnv_cells S.kind hkd fun env he s1 z => ?_
  subst he
  refine ⟨hno.keeps z.toInCall.keep, codeAny_func ?_⟩
  obtain ⟨t, ht, hq⟩ := hbody cdv A outer s H vs Q E hg (hr.deeper _) hsp
  have I := inv_start (CX := CX0) (E := E) S hr.hd e0 (len _ _ _ _ hsp) r z
  refine wpAny_mono (ht.nox.run [] s1 (start N vs) H _ I hq) (fun fl s' hs => ?_) fun e s' hs => hs
  cases fl with
  | ret u =>
    obtain ⟨v, σ', H', J, rv, q⟩ := hs
    exact (show CE outer P w H s Q u s' from ⟨v, H', J.os, J.bare, J.base, J.hok, rv, q⟩)
  | next =>
    obtain ⟨σ', H', J, q⟩ := hs
    exact (show CE outer P w H s Q .none s' from ⟨.non, H', J.os, J.bare, J.base, J.hok, rfl, q⟩)
  | brk => exact hs.elim fun _ h => h.elim fun _ h => h.2.elim
  | cont => exact hs.elim fun _ h => h.elim fun _ h => h.2.elim
/-! f(e, ..) by such a promise -/
theorem pe_callG {X : Cx} {CX : CXT} {k : Nat} {f : Addr} {fd : FuncData} {ps : List Str} {sp : Sp} {E : XK} {x : Str} {p pos : Pos} {e : Expr} {es : List Expr} {t : TA} (hgd : X.A.guards = some []) (F : FnG X.prog X.w X.K X.mg X.base CX k f fd ps sp) (hr : Room k X.A) (hg : Gl X x) (hm : X.mg x = some (.ref f)) (hk : PySem.W.keepIn X.K (.ref f) = true) (hb : Binds X.K fd ps []) (hx : Passes CX X E)
    (ha : PA X (e :: es) t) (hdb : (x == ("__debug__" : Str)) = false := by decide) (he : starEach (e :: es) X.env = (false, eval e X.env) :: starEach es X.env := by rfl) (hpl : (backTo pos (starEach es X.env)).any (·.1) = false := by rfl) :
    PE X (.Call (.Name x p) (e :: es) [] pos) (tCall sp [] E t) := by
  refine ⟨fun pins s σ H Q I h => ?_⟩
  refine wpAny_Call_Name_kw (ld_glob I hg hm ?_ hdb)
  refine PySem.W.callWith_K (h₀ := X.base) I.ok.mod.kin hk (thn (ha.run pos pins s σ H _ I h) fun us s1 ⟨vs, H1, I1, r, q⟩ => ⟨I1.kIn, ?_⟩) he hpl
  have r2 : Vals (vs ++ []) (us ++ []) := r.append .nil
  have hl : (us ++ []).length = ps.length := r2.length.symm.trans (F.len _ _ _ _ q)
  refine wpAny_call (codeAny_mono (F.run X.A X.stack s1 H1 ⟨us, []⟩ (us ++ []) (vs ++ []) Q E hgd hr I1.env0 (hb s1 us I1.kIn hl) r2 q) fun r s' hq => ?_)
  cases r with
  | error e => exact hx pins σ H1 s1 e s' I1 hq
  | ok fl =>
    cases fl with
    | ret u => exact I1.after hq
    | next => exact (show False from hq).elim
    | brk => exact (show False from hq).elim
    | cont => exact (show False from hq).elim
/-! f(k = e, ..), nothing by place -/
theorem pe_callK0 {X : Cx} {CX : CXT} {k : Nat} {f : Addr} {fd : FuncData} {ps ks : List Str} {sp : Sp} {E : XK} {x : Str} {p pos : Pos} {kws : List Keyword} {tk : TA} {g : List Value → List Value → List Value} {gV : List V → List V → List V}
    (F : FnOk X.prog X.w X.K X.mg X.base CX k f fd ps sp) (hr : Room k X.A) (hg : Gl X x) (hm : X.mg x = some (.ref f)) (hk : PySem.W.keepIn X.K (.ref f) = true) (hb : KBinds X.K fd ps ks g gV) (hx : Passes CX X E)
    (hkw : PK X kws tk) (hall : (backToKw pos (keywordEach kws X.env)).all (·.1.isSome) = true := by rfl) (hks : (backToKw pos (keywordEach kws X.env)).filterMap (·.1) = ks := by rfl)
    (hdb : (x == ("__debug__" : Str)) = false := by decide) (hpl : ((backTo pos (starEach [] X.env)).any (·.1) || (backToKw pos (keywordEach kws X.env)).any (·.1.isNone)) = false := by rfl) :
    PE X (.Call (.Name x p) [] kws pos) (fun σ H Q => tk σ H fun zs H2 => sp (gV [] zs) H2 Q E) := by
  refine ⟨fun pins s σ H Q I h => ?_⟩
  refine wpAny_Call_Name_kw (ld_glob I hg hm ?_ hdb)
  refine PySem.W.callWith_KW0 (h₀ := X.base) I.ok.mod.kin hk hall (thn (hkw.run pos pins s σ H _ I h) fun ws s2 ⟨zs, H2, I2, rz, q2⟩ => ⟨I2.kIn, ?_⟩) hpl
  rw [hks]
  exact run_fnk (us := []) (vs := []) F hr hb hx I2 .nil rz q2
def perm {α : Type} (is : List Nat) (l : List α) : List α := is.filterMap (l[·]?)
theorem perm_vals : ∀ (is : List Nat) {zs : List V} {ws : List Value}, Vals zs ws → Vals (perm is zs) (perm is ws)
  | [], _, _, _ => .nil
  | i :: is, zs, ws, r => by
    have ih := perm_vals is r
    unfold perm at ih ⊢
    rw [List.filterMap_cons, List.filterMap_cons]
    cases e : zs[i]? with
    | none =>
      have e2 : ws[i]? = none := by
        rw [List.getElem?_eq_none_iff] at e ⊢
        have := r.length
        omega
      rw [e2]
      exact ih
    | some v =>
      obtain ⟨u, hu, ru⟩ := r.get e
      rw [hu]
      exact .cons ru ih
def onlyK {α : Type} (is : List Nat) : List α → List α → List α
  | [], ws => perm is ws
  | _ :: _, _ => []
theorem kbinds {x qual : Str} {st : Stmt} {f : Addr} {fd : FuncData} {p0 : Str} {ps ks : List Str} (is : List Nat) (F : Fun K x qual st f fd)
    (h : ∀ (kV doc pm : Value) (an : Option Addr) (cdv ct : Value) (ws : List Value), (perm is ws).length = (p0 :: ps).length → bindArgs (PySem.W.fnOf x qual (defArgs st) (defBody st) (defScope st) .none kV doc pm an cdv ct) ⟨[], ks.zip ws⟩ = pure ((p0 :: ps).zip (perm is ws))) :
    KBinds K fd (p0 :: ps) ks (onlyK is) (onlyK is) := by
  obtain ⟨oc, od, kV, doc, pm, an, cdv, ct, osl, rfl, lk, hcd⟩ := F.ex
  refine ⟨fun s us ws _ hl => ?_, fun {vs us zs ws} r rz => ?_⟩
  · cases us with
    | nil => exact .of_eq (h kV doc pm an cdv ct ws hl)
    | cons u us => cases hl
  · cases r with
    | nil => exact perm_vals is rz
    | cons _ _ => exact .nil
/-! the end of a law whose promise is such -/
theorem lawG {l : PySem.W.OpenLaw} {n k : Nat} {q : Program} {loose : List Str} {XP : (Str → Option Value) → Heap → Prop} {YP : World → Heap → Prop} {d : DefRec} {KK : Params → PySem.W.Frag} {x : Str} {sp : World → Sp}
    (hn : l.most = some n) (hn2 : n ≤ sizeLine) (hdf : d.params.defaults = []) (hr : Room k callerA) (hY : ∀ (w : World) (h : Heap), YP w h → (KK w.params).In h)
    (F : ∀ (w : World) (mg : Str → Option Value) (fa : Addr) (h : Heap), (KK w.params).In h → h.Ns mainGlobals mg → mg d.name = some (.ref fa) →
      ∃ fd : FuncData, (∀ (s : Shared) (u : Value), BindsTo s fd ⟨[u], []⟩ [(x, u)]) ∧ ∀ base : Heap, (KK w.params).In base → base.Ns mainGlobals mg → FnG l.prog w (KK w.params) mg base CX0 k fa fd [x] (sp w))
    (hsp : ∀ (w : World) (H : Hp) (a : Addr) (ns : List Int), ns.length ≤ n → Only H → SqL (KK w.params) H a (ns.map V.int) → sp w [.ref a] H (fun v _ => v = .bl true) fun _ _ _ => False) :
    PySem.W.WalkO q loose XP YP l.row.toRowW d [] (fun f vs => PySem.call f vs) := by
  refine Att.attach_callB hn hdf fun w s₀ s₁ mg mb fa o pm cd doc a vs ns G Y ho hd hcd hmg ha hi hlen hbits hgn => ?_
  have hK := hY w _ Y
  obtain ⟨fd, hbind, hF⟩ := F w mg fa _ hK G.T.g hmg
  have hl := Nat.le_trans hlen hn2
  have rv := vals_ints hi
  have key : ∀ H : Hp, Only H → SqL (KK w.params) H a (ns.map V.int) → HOk l.prog w H s₁.heap → (∀ b, H b ≠ none → b = a) → (H a ≠ none → (KK w.params).lookup a = none) →
      codeAny (model l.prog w) callerA (.call (.ref fa) ⟨[.ref a], []⟩) (fun r s' => r = .ok (.ret (.bool true)) ∧ OldK s₁.heap s'.heap ∧ s'.os = s₁.os ∧ AllBare s'.gens) s₁ := by
    intro H hO hS hok hA hKn
    have free : ∀ {b : Addr} {o : Obj} {es : Array DictEntry} {ep : Nat}, s₁.heap.get? b = some o → o.data = .dict es ep → H b = none := fun {b o es ep} e dd => by
      cases z : H b with
      | none => rfl
      | some u =>
        obtain rfl : b = a := hA b (by rw [z]; exact fun h => nomatch h)
        rw [ha] at e
        cases e
        exact nomatch (show Data.seq vs.toArray _ = Data.dict es ep from dd)
    have ns' : ∀ {b : Addr} {m : Str → Option Value}, s₁.heap.Ns b m → (hidT s₁.heap H).Ns b m := fun {b m} ⟨o, es, ep, e, dd, r⟩ => ⟨o, es, ep, hidT_get e (free e dd), dd, r⟩
    have kb : (KK w.params).In (hidT s₁.heap H) := fun b o e => hidT_get (hK b o e) (by
      cases z : H b with
      | none => rfl
      | some u =>
        obtain rfl : b = a := hA b (by rw [z]; exact fun h => nomatch h)
        rw [hKn (by rw [z]; exact fun h => nomatch h)] at e
        cases e)
    have hM : Mod (KK w.params) mg (hidT s₁.heap H) := ⟨kb, ns' G.T.g, ⟨mb, ns' G.T.b, G.T.builtins⟩, let ⟨mc, h1, h2⟩ := G.T.nolimit; ⟨mc, ns' h1, h2⟩⟩
    have e0 : Env0 l.prog w (KK w.params) mg (hidT s₁.heap H) callerA [] s₁ H := ⟨rfl, hM, fun b o e => of_hidT e, Nat.le_of_eq (hidT_size _ _), trivial, (fun b hb => absurd (show b ∈ ([] : List Addr) from hb) List.not_mem_nil), hok, .of_eq hgn⟩
    refine codeAny_mono ((hF _ kb (ns' G.T.g)).run callerA [] s₁ H ⟨[.ref a], []⟩ [.ref a] [.ref a] _ _ rfl hr e0 (hbind s₁ (.ref a)) (.cons rfl .nil) (hsp w H a ns hlen hO hS)) fun r s' h => ?_
    cases r with
    | error e => exact (show False from h).elim
    | ok fl =>
      cases fl with
      | next => exact (show False from h).elim
      | brk => exact (show False from h).elim
      | cont => exact (show False from h).elim
      | ret u =>
        obtain ⟨v, H', os, bare, un, hok', r', z⟩ := h
        obtain rfl : v = .bl true := z
        obtain rfl : u = Value.bool true := r'
        refine ⟨rfl, OldK.of_keep fun b o e => ?_, os, bare⟩
        cases z : H b with
        | none => exact un.keep b o e z (fun y => nomatch (show b ∈ ([] : List Addr) from y)) (fun y => nomatch y)
        | some u =>
          rcases hO b with y | ⟨ob, xs, y⟩
          · rw [z] at y
            cases y
          · obtain ⟨e1, _⟩ := hok b _ y
            obtain ⟨e2, _⟩ := hok' b _ (un.frzs b ob _ y)
            rw [e] at e1
            cases e1
            exact e2
  cases hk : (KK w.params).lookup a with
  | some o =>
    have e := hK a o hk
    rw [ha] at e
    cases e
    exact key (fun _ => none) (fun _ => .inl rfl) (.inr ⟨_, vs.toArray, _, hk, rfl, rfl, rfl, by rw [List.size_toArray, hi.length]; exact hl, by simpa using rv⟩) (fun b u z => nomatch (show (none : Option HO) = some u from z)) (fun b z => absurd rfl z) fun z => absurd rfl z
  | none =>
    refine key (fun b => if b = a then some (.frz { cls := .type "list", data := .seq vs.toArray } (.lst (ns.map V.int))) else none) (fun b => ?_) (.inl (.inr ⟨{ cls := .type "list", data := .seq vs.toArray }, if_pos rfl⟩)) (fun b u z => ?_) (fun b z => ?_) fun _ => hk
    · by_cases hb : b = a
      · exact .inr ⟨_, _, if_pos hb⟩
      · exact .inl (if_neg hb)
    · by_cases hb : b = a
      · have z' := (if_pos hb).symm.trans z
        cases z'
        subst hb
        exact ⟨ha, by rw [List.length_map]; exact hl, vs, _, rv, ha⟩
      · exact nomatch (if_neg hb).symm.trans z
    · by_cases hb : b = a
      · exact hb
      · exact absurd (if_neg hb) z
end
end Kn
namespace Kn
open PySem PySem.Spec PyProof.Rows L2
/-! data, and what is kept of it -/
theorem sqT_same {K : PySem.W.Frag} {H H' : Hp} {a : Addr} {xs : List V} (e : Same H H') (h : SqT K H a xs) : SqT K H' a xs := by
  rcases h with (h | ⟨o, h⟩) | h
  · exact .inl (.inl (e _ _ h))
  · exact .inl (.inr ⟨o, e _ _ h⟩)
  · exact .inr h
mutual
theorem dp_same {K : PySem.W.Frag} {H H' : Hp} (e : Same H H') : ∀ {d : PyData} {x : V}, Dp K H x d → Dp K H' x d
  | _, _, .non => .non
  | _, _, .bl b => .bl b
  | _, _, .int i => .int i
  | _, _, .str x => .str x
  | _, _, .lst h hs => .lst (e.seq h) (dpA_same e hs)
  | _, _, .tup h hs => .tup (sqT_same e h) (dpA_same e hs)
theorem dpA_same {K : PySem.W.Frag} {H H' : Hp} (e : Same H H') : ∀ {ds : List PyData} {xs : List V}, DpAll K H xs ds → DpAll K H' xs ds
  | _, _, .nil => .nil
  | _, _, .cons h hs => .cons (dp_same e h) (dpA_same e hs)
end
theorem dpA_len {K : PySem.W.Frag} {H : Hp} : ∀ {ds : List PyData} {xs : List V}, DpAll K H xs ds → xs.length = ds.length
  | _, _, .nil => rfl
  | _, _, .cons _ hs => by rw [List.length_cons, List.length_cons, dpA_len hs]
theorem dpA_get {K : PySem.W.Frag} {H : Hp} : ∀ {ds : List PyData} {xs : List V} {i : Nat} {x : V}, DpAll K H xs ds → xs[i]? = some x → ∃ d, ds[i]? = some d ∧ Dp K H x d
  | _, _, _, _, .nil, e => by simp at e
  | _, _, 0, _, .cons h _, e => by
    cases (show some _ = some _ from e)
    exact ⟨_, rfl, h⟩
  | _, _, i + 1, _, .cons _ hs, e => by
    obtain ⟨d, h1, h2⟩ := dpA_get (i := i) hs (by simpa using e)
    exact ⟨d, by simpa using h1, h2⟩
theorem dpA_map {K : PySem.W.Frag} {H : Hp} {α : Type} (f : α → V) (g : α → PyData) (h : ∀ a, Dp K H (f a) (g a)) : ∀ l : List α, DpAll K H (l.map f) (l.map g)
  | [] => .nil
  | a :: l => .cons (h a) (dpA_map f g h l)
def tyN : PyData → String
  | .none => "NoneType"
  | .bool _ => "bool"
  | .int _ => "int"
  | .str _ => "str"
  | .list _ => "list"
  | .tuple _ => "tuple"
  | .dict _ => "dict"
theorem dp_ty {K : PySem.W.Frag} {H : Hp} {x : V} {d : PyData} (h : Dp K H x d) : TyX K H x (.type (tyN d)) := by
  cases h with
  | non => exact .base .non
  | bl b => exact .base (.bl b)
  | int i => exact .base (.int i)
  | str s => exact .base (.str s)
  | lst h _ =>
    rcases h with (h | ⟨o, h⟩) | h
    · exact .base (.lst h)
    · exact .base (.frz h)
    · obtain ⟨o, its, n, e, c, _⟩ := h
      exact .kList e c
  | tup h _ =>
    rcases h with (h | ⟨o, h⟩) | h
    · exact .base (.tup h)
    · exact .fTuple h
    · obtain ⟨o, its, n, e, c, _⟩ := h
      exact .kTuple e c
theorem isi_of {K : PySem.W.Frag} {H : Hp} {x : V} {d : PyData} {T : String} {b : Bool} {Q : VK} (h : Dp K H x d) (hb : kitB (tyN d) T = some b) (q : Q (.bl b) H) : rIsi K [x, .ty T] H Q :=
  ⟨x, .ty T, _, _, b, rfl, .ty T, dp_ty h, kit_ty hb, q⟩
theorem isiLT {K : PySem.W.Frag} {H : Hp} {x : V} {d : PyData} {b1 b2 : Bool} {tp : Addr} {S T : String} {Q : VK} (h : Dp K H x d) (ht : H tp = some (.tup [.ty S, .ty T])) (h1 : kitB (tyN d) S = some b1) (h2 : kitB (tyN d) T = some b2) (q : Q (.bl (b1 || b2)) H) : rIsiT K [x, .ref tp] H Q := by
  refine ⟨x, tp, _, _, [.type S, .type T], b1 || b2, rfl, ht, .cons (.ty S) (.cons (.ty T) .nil), dp_ty h, ?_, q⟩
  refine kitAny_cons (kit_ty h1) (fun e => ?_) (fun e => by rw [e]; rfl)
  rw [e, Bool.false_or]
  exact kitAny_cons (kit_ty h2) (fun e2 => by rw [e2]; rfl) fun e2 => e2
theorem kit2 {K : PySem.W.Frag} {t S T : String} {b1 b2 : Bool} (h1 : kitB t S = some b1) (h2 : kitB t T = some b2) : PySem.W.kitAny K (.type t) [.type S, .type T] = some (b1 || b2) := by
  refine kitAny_cons (kit_ty h1) (fun e => ?_) (fun e => by rw [e]; rfl)
  rw [e, Bool.false_or]
  exact kitAny_cons (kit_ty h2) (fun e2 => by rw [e2]; rfl) fun e2 => e2
/-- of at most n levels, of at most a hundred thousand things each -/
def Sm : Nat → PyData → Prop
  | n + 1, .list ds => ds.length ≤ 100000 ∧ ∀ d ∈ ds, Sm n d
  | n + 1, .tuple ds => ds.length ≤ 100000 ∧ ∀ d ∈ ds, Sm n d
  | 0, .list _ => False
  | 0, .tuple _ => False
  | _, .dict _ => False
  | _, _ => True
/-! a comprehension that makes, or leaves out, one thing a turn, and leaves what stands -/
section
variable {J : It} {n : Nat} {G : Hp → Prop} {Y : Nat → Hp → V → Hp → Prop}
theorem lc_fm (wk : Walk J n G Y) {g : TG} {tt : TT} {te : TE} {vs : List Nat} {σ : L2.St} {H1 : Hp} {D : Addr} {Qd : Hp → Prop} (f : Nat → Option V) (hD : H1 D = none) (hz : n < sizeLine) (hG : ∀ H, Same H1 H → G H)
    (hs : ∀ i x H H' (R : Option V → Hp → Prop), i < n → Same H1 H → H D = some (.lst ((List.range i).filterMap f)) → Y i H x H' → (∀ H4, Same H H4 → R (f i) H4) →
      g x (wipe σ vs) H' fun σ2 H2 => wipe σ2 vs = wipe σ vs ∧ tt σ2 H2 fun b H3 => if b = true then te σ2 H3 fun y H4 => R (some y) H4 else R none H3)
    (hd : ∀ H, Same H1 H → H D = some (.lst ((List.range n).filterMap f)) → Qd H) :
    ∃ W : Nat → Nat → Hp → Prop, (∃ m, W 0 m (upd H1 D (.lst []))) ∧ ∀ i m H, W i m H →
      (J.stop i H ∧ Qd H) ∨ (J.go i H ∧ ∃ Nx : Hp → Prop, (∀ H', Nx H' → ∃ m', m' < m ∧ W (i + 1) m' H') ∧ ∀ x H', J.yld i H x H' → g x (wipe σ vs) H' fun σ2 H2 => wipe σ2 vs = wipe σ vs ∧
        tt σ2 H2 fun b H3 => if b = true then te σ2 H3 fun y H4 => ∃ acc, H4 D = some (.lst acc) ∧ acc.length < sizeLine ∧ Nx (upd H4 D (.lst (acc ++ [y]))) else Nx H3) := by
  refine lc_it wk (fun i H => Same H1 H ∧ H D = some (.lst ((List.range i).filterMap f))) ⟨same_new hD, upd_same⟩ (fun i H _ h => hG H h.1) (fun i x H H' hi h y => ?_) (fun H h => hd H h.1 h.2)
  refine hs i x H H' (fun o H4 => match o with | some y => ∃ acc, H4 D = some (.lst acc) ∧ acc.length < sizeLine ∧ Same H1 (upd H4 D (.lst (acc ++ [y]))) ∧ (upd H4 D (.lst (acc ++ [y]))) D = some (.lst ((List.range (i + 1)).filterMap f)) | none => Same H1 H4 ∧ H4 D = some (.lst ((List.range (i + 1)).filterMap f))) hi h.1 h.2 y fun H4 s4 => ?_
  have e1 : (List.range (i + 1)).filterMap f = (List.range i).filterMap f ++ (f i).toList := by
    rw [List.range_succ, List.filterMap_append]
    cases e : f i with
    | none => rw [List.filterMap_cons, e]; rfl
    | some v => rw [List.filterMap_cons, e]; rfl
  have hl : ((List.range i).filterMap f).length ≤ i := by
    have := List.length_filterMap_le f (List.range i)
    rw [List.length_range] at this
    exact this
  rw [e1]
  cases e : f i with
  | none => exact ⟨h.1.trans s4, by rw [s4 _ _ h.2]; simp⟩
  | some v =>
    refine ⟨_, s4 _ _ h.2, by omega, fun b o eb => ?_, upd_same⟩
    rw [upd_ne (ne_of_none eb hD)]
    exact s4 _ _ (h.1 _ _ eb)
end
end Kn
namespace Kn
open PySem PySem.Spec PyProof.Rows L2
def topS (i : Nat) : Stmt := PySem.Challenge.pw_standby_k02_calls_or_not.main.body.getD i (.Pass ⟨0, 0, 0, 0⟩)
abbrev sBox : Stmt := topS 9
abbrev sTake : Stmt := topS 10
theorem scBox : FnScope ["_law_script", "_law_k", "_law_cell"] ["_law_script", "_law_k"] (defScope sBox) := ⟨rfl, rfl, rfl, by decide +kernel, rfl, by decide +kernel, by decide +kernel⟩
theorem scTake : FnScope ["_law_box_here", "_law_bound", "_law_found", "_law_once"] ["_law_box_here", "_law_bound"] (defScope sTake) := ⟨rfl, rfl, rfl, by decide +kernel, rfl, by decide +kernel, by decide +kernel⟩
section
variable {P : Program} {w : World} {K : PySem.W.Frag} {mg : Str → Option Value} {base : Heap}
def spTake : Sp := fun vs H Q _ => ∃ (b : Addr) (o : HO) (n : Nat) (m : Int), vs = [.ref b, .int m] ∧ H b = some o ∧ Bx n o ∧ n < 1000000000 ∧ 0 < m ∧ m < 1073741824 ∧
  ∀ (r : Int) (o' : HO), 0 ≤ r → r < m → Bx (n + 1) o' → Q (.int r) (upd H b o')
theorem ok_take {f : Addr} {fd : FuncData} {k : Nat} (F : Fun K "_law_take" "_law_take" sTake f fd) : FnOk P w K mg base CX0 (k + 1) f fd ["_law_box_here", "_law_bound"] spTake := by
  refine F.ok scTake (fun vs H Q E h => ?_) (fun cdv A outer s H vs Q E hr h => ?_)
  · obtain ⟨b, o, n, m, rfl, _⟩ := h
    rfl
  · obtain ⟨b, o, n, m, rfl, hb, ⟨x, y, z, rfl, hx, hy, hy2, hz, hzn⟩, hn, hm0, hm1, q⟩ := h
    refine ⟨_, pss_cons (ps_if (pt_cmpR op_gt (pe_ix ix_list (pv 0) pe_int (fun _ _ => rfl)) pe_int (nomark _))
        (pss_cons (ps_set (i := 2) scTake.nd rfl (.inl rfl) (pe_op op_mod (pe_ix ix_list (pv 0) pe_int (fun _ _ => rfl)) (pv 1)))
        (pss_cons (ps_asg (pe_op op_fdiv (pe_ix ix_list (pv 0) pe_int (fun _ _ => rfl)) (pv 1)) (pg_sub (pv 0) pe_int set_list))
        (pss_one (ps_ret (pv 2))))) pss_nil)
      (pss_cons (ps_asg (pe_op op_add (pe_ix ix_list (pv 0) pe_int (fun _ _ => rfl)) pe_int) (pg_sub (pv 0) pe_int set_list))
      (pss_cons (ps_set (i := 3) scTake.nd rfl (.inl rfl) (pe_op op_mod (pe_op op_pow (pe_op op_add (pe_ix ix_list (pv 0) pe_int (fun _ _ => rfl)) (pe_op op_mul pe_int (pe_ix ix_list (pv 0) pe_int (fun _ _ => rfl)))) pe_int) pe_int))
      (pss_one (ps_ret (pe_op op_mod (pe_op op_fdiv (pe_op op_mod (pe_op op_add (pe_op op_mul (pv 3) (pe_op op_add (pe_op op_mod (pv 3) pe_int) pe_int)) (pe_op op_mul (pe_ix ix_list (pv 0) pe_int (fun _ _ => rfl)) pe_int)) pe_int) pe_int) (pv 1)))))), ?_⟩
    have hL : SqL K H b [.int x, .int y, .int z] := .inl (.inl hb)
    refine ⟨.ref b, rfl, b, _, 0, .int x, rfl, rfl, hL, rfl, _, _, rfl, rfl, _, rfl, ite2 (fun e => ?_) (fun e => ?_)⟩
    · have hx0 : 0 < x := of_decide_eq_true e
      refine ⟨.ref b, rfl, b, _, 0, .int x, rfl, rfl, hL, rfl, .int m, rfl, x, m, rfl, rfl, hm0, ?_⟩
      refine ⟨.ref b, rfl, b, _, 0, .int x, rfl, rfl, hL, rfl, .int m, rfl, x, m, rfl, rfl, ⟨hm0, hm1⟩, ?_⟩
      refine ⟨.ref b, rfl, b, _, 0, 0, rfl, rfl, hb, rfl, ?_⟩
      refine ⟨_, rfl, ?_⟩
      refine q _ _ (Int.emod_nonneg _ (by omega)) (Int.emod_lt_of_pos _ hm0) ⟨x / m, y, z, rfl, Int.ediv_nonneg hx (by omega), hy, hy2, hz, by omega⟩
    · refine ⟨.ref b, rfl, b, _, 2, .int z, rfl, rfl, hL, rfl, z, 1, rfl, rfl, ?_⟩
      refine ⟨.ref b, rfl, b, _, 2, 2, rfl, rfl, hb, rfl, ?_⟩
      have hb2 : (upd H b (.lst [.int x, .int y, .int (z + 1)])) b = some (.lst [.int x, .int y, .int (z + 1)]) := upd_same
      have hL2 : SqL K (upd H b (.lst [.int x, .int y, .int (z + 1)])) b [.int x, .int y, .int (z + 1)] := .inl (.inl hb2)
      have hg0 : 0 ≤ (y + 39373 * (z + 1)) ^ (5 : Int).toNat % 2147483647 := Int.emod_nonneg _ (by decide)
      have hg1 : (y + 39373 * (z + 1)) ^ (5 : Int).toNat % 2147483647 < 2147483647 := Int.emod_lt_of_pos _ (by decide)
      refine ⟨.ref b, rfl, b, _, 1, .int y, rfl, rfl, hL2, rfl, .ref b, rfl, b, _, 2, .int (z + 1), rfl, rfl, hL2, rfl, 39373, z + 1, rfl, rfl, .inl (by decide), y, 39373 * (z + 1), rfl, rfl, y + 39373 * (z + 1), 5, rfl, rfl, ⟨by decide, by decide, by omega⟩, _, 2147483647, rfl, rfl, (by show (0 : Int) < 2147483647; decide), ?_⟩
      refine ⟨_, rfl, _, rfl, _, 40009, rfl, rfl, (by show (0 : Int) < 40009; decide), _, 7, rfl, rfl, _, _, rfl, rfl, .inl ⟨Int.lt_of_lt_of_le (by decide) hg0, Int.lt_of_lt_of_le hg1 (by decide)⟩, .ref b, rfl, b, _, 2, .int (z + 1), rfl, rfl, hL2, rfl, z + 1, 7919, rfl, rfl, .inr (by decide), _, _, rfl, rfl, _, 2147483629, rfl, rfl, (by show (0 : Int) < 2147483629; decide), _, 64, rfl, rfl, ⟨by decide, by decide⟩, .int m, rfl, _, m, rfl, rfl, hm0, ?_⟩
      exact q _ _ (Int.emod_nonneg _ (by omega)) (Int.emod_lt_of_pos _ hm0) ⟨x, y, z + 1, rfl, hx, hy, hy2, by omega, by omega⟩
end
end Kn
namespace Kn
open PySem PySem.Spec PyProof.Rows L2
/-- the built-in names that the module leaves as they are -/
structure Bn (mg : Str → Option Value) : Prop where
  abs : mg "abs" = none
  int : mg "int" = none
  len : mg "len" = none
  range : mg "range" = none
  max : mg "max" = none
  min : mg "min" = none
  all : mg "all" = none
  isi : mg "isinstance" = none
  list : mg "list" = none
  tuple : mg "tuple" = none
  str : mg "str" = none
  bool : mg "bool" = none
  zip : mg "zip" = none
  sorted : mg "sorted" = none
  enum : mg "enumerate" = none
  dict : mg "dict" = none
  repr : mg "repr" = none
theorem b01 (b : Bool) : -(2 ^ 64) < (if b = true then (1 : Int) else 0) ∧ (if b = true then (1 : Int) else 0) < 2 ^ 64 := by cases b <;> decide
section
variable {P : Program} {w : World} {K : PySem.W.Frag} {mg : Str → Option Value} {base : Heap}
def spBox (K : PySem.W.Frag) : Sp := fun vs H Q _ => ∃ (a : Addr) (ns : List Int) (k : Int), vs = [.ref a, .int k] ∧ SqL K H a (ns.map V.int) ∧ 0 ≤ k ∧ k ≤ 1000 ∧ ∀ (p : Addr) (o : HO), H p = none → Bx 0 o → Q (.ref p) (upd H p o)
theorem ok_box {f : Addr} {fd : FuncData} {k : Nat} (F : Fun K "_law_box" "_law_box" sBox f fd) (B : Bn mg) : FnOk P w K mg base CX0 (k + 1) f fd ["_law_script", "_law_k"] (spBox K) := by
  refine F.ok scBox (fun vs H Q E h => ?_) (fun cdv A outer s H vs Q E hr h => ?_)
  · obtain ⟨a, ns, k, rfl, _⟩ := h
    rfl
  · obtain ⟨a, ns, j, rfl, hS, h0, h1, q⟩ := h
    refine ⟨_, pss_cons (ps_set (i := 2) scBox.nd rfl (.inl rfl) pe_int)
      (pss_cons (ps_if (pt_cmpR op_lt (pv 1) (pe_callB call_len_seq (by rfl) B.len PySem.boot_len (pa_cons (pv 0) pa_nil)) (nomark _))
        (pss_one (ps_set (i := 2) scBox.nd rfl (.inl rfl) (pe_ix ix_list (pv 0) (pv 1) (fun _ _ => rfl)))) pss_nil)
      (pss_one (ps_ret (pe_lst (pa_cons (pe_op op_mul (pe_callB call_abs (by rfl) B.abs (by decide +kernel) (pa_cons (pv 2) pa_nil)) (pe_callTy call_int1 (by rfl) B.int (by decide +kernel) (pa_cons (pe_cmpR op_ge (pe_callB call_abs (by rfl) B.abs (by decide +kernel) (pa_cons (pv 2) pa_nil)) (pe_op op_pow pe_int pe_int) (nomark _)) pa_nil)))
        (pa_cons (pe_op op_add (pe_op op_add (pe_op op_mod (pv 2) pe_int) (pe_op op_mul pe_int (pv 1))) pe_int) (pa_cons pe_int pa_nil))))))), ?_⟩
    refine ⟨_, rfl, _, rfl, a, _, rfl, .inl hS, _, _, rfl, rfl, _, rfl, ?_⟩
    have tail : ∀ (c y : Int) (b : Bool), y = c % 2147483629 → 0 ≤ y → y < 2147483629 → Bx 0 (.lst [.int ((if c < 0 then -c else c) * (if b then 1 else 0)), .int (y + 7919 * j + 11), .int 0]) := by
      intro c y b _ e1 e2
      refine ⟨_, _, _, rfl, ?_, by omega, by omega, by omega, by omega⟩
      have : 0 ≤ (if c < 0 then -c else c) := by split <;> omega
      cases b with
      | true => simpa using this
      | false => simp
    refine ite2 (fun e => ?_) (fun e => ?_)
    · have e : j < ((ns.map V.int).length : Int) := of_decide_eq_true e
      rw [List.length_map] at e
      obtain ⟨c, hc⟩ : ∃ c, ns[j.toNat]? = some c := ⟨ns[j.toNat]'(by omega), List.getElem?_eq_getElem _⟩
      have hat : atI (ns.map V.int) j = some (.int c) := by
        have := atI_nat (xs := ns.map V.int) (j := j.toNat) (v := .int c) (by rw [List.getElem?_map, hc]; rfl)
        rwa [Int.toNat_of_nonneg h0] at this
      refine ⟨.ref a, rfl, _, rfl, a, _, j, .int c, rfl, rfl, hS, hat, ?_⟩
      refine ⟨_, rfl, c, rfl, _, rfl, c, rfl, 10, 18, rfl, rfl, ⟨by decide, by decide, by decide⟩, _, _, rfl, rfl, .inr ⟨_, rfl, _, _, rfl, rfl, .inr ?_, ?_⟩⟩
      · exact b01 _
      · refine ⟨_, rfl, c, 2147483629, rfl, rfl, (by show (0 : Int) < 2147483629; decide), _, rfl, 7919, j, rfl, rfl, .inl (by decide), _, _, rfl, rfl, _, 11, rfl, rfl, (by show 3 ≤ sizeLine; decide), fun p np => q p _ np ?_⟩
        exact tail c _ _ rfl (Int.emod_nonneg _ (by decide)) (Int.emod_lt_of_pos _ (by decide))
    · refine ⟨_, rfl, 0, rfl, _, rfl, 0, rfl, 10, 18, rfl, rfl, ⟨by decide, by decide, by decide⟩, _, _, rfl, rfl, .inr ⟨_, rfl, _, _, rfl, rfl, .inr ?_, ?_⟩⟩
      · exact b01 _
      · refine ⟨_, rfl, 0, 2147483629, rfl, rfl, (by show (0 : Int) < 2147483629; decide), _, rfl, 7919, j, rfl, rfl, .inl (by decide), _, _, rfl, rfl, _, 11, rfl, rfl, (by show 3 ≤ sizeLine; decide), fun p np => q p _ np ?_⟩
        exact tail 0 _ _ rfl (Int.emod_nonneg _ (by decide)) (Int.emod_lt_of_pos _ (by decide))
end
end Kn
namespace Kn
open PySem PySem.Spec PyProof.Rows L2
abbrev sSame : Stmt := topS 11
theorem scSame : FnScope ["_law_found", "_law_due", "_law_mine", "_law_its"] ["_law_found", "_law_due"] (defScope sSame) := ⟨rfl, rfl, rfl, by decide +kernel, rfl, by decide +kernel, by decide +kernel⟩
section
variable {P : Program} {w : World} {K : PySem.W.Frag} {mg : Str → Option Value} {base : Heap}
/-- of the same data: True -/
def spSame (K : PySem.W.Frag) (n : Nat) : Sp := fun vs H Q _ => ∃ (x y : V) (d : PyData), vs = [x, y] ∧ Dp K H x d ∧ Dp K H y d ∧ Sm n d ∧ ∀ H', Same H H' → Q (.bl true) H'
theorem same_step {f : Addr} {fd : FuncData} {n k : Nat} {sp0 : Sp} (F : Fun K "_law_same" "_law_same" sSame f fd) (B : Bn mg) (hg : mg "_law_same" = some (.ref f)) (b : Binds K fd ["_law_found", "_law_due"] [])
    (G : FnOk P w K mg base CX0 k f fd ["_law_found", "_law_due"] sp0) (hrec : ∀ m, n = m + 1 → ∀ vs H Q E, spSame K m vs H Q E → sp0 vs H Q E) : FnOk P w K mg base CX0 (k + 1) f fd ["_law_found", "_law_due"] (spSame K n) := by
    refine F.ok scSame (fun vs H Q E h => ?_) (fun cdv A outer s H vs Q E hr h => ?_)
    · obtain ⟨x, y, d, rfl, _⟩ := h
      rfl
    · obtain ⟨x, y, d, rfl, hx, hy, hsm, q⟩ := h
      refine ⟨_, pss_cons (ps_if (pt_val (pe_callB call_isiT (by rfl) B.isi (by decide +kernel) (pa_cons (pv 1) (pa_cons (pe_tup (pa_cons (pe_bltn (v := .ty "list") (by rfl) B.list (by decide +kernel) rfl) (pa_cons (pe_bltn (v := .ty "tuple") (by rfl) B.tuple (by decide +kernel) rfl) pa_nil))) pa_nil))))
          (pss_cons (ps_if (PW.pt (pw_or (pt_cmpR op_ne (pe_callB call_isi (by rfl) B.isi (by decide +kernel) (pa_cons (pv 0) (pa_cons (pe_bltn (v := .ty "list") (by rfl) B.list (by decide +kernel) rfl) pa_nil))) (pe_callB call_isi (by rfl) B.isi (by decide +kernel) (pa_cons (pv 1) (pa_cons (pe_bltn (v := .ty "list") (by rfl) B.list (by decide +kernel) rfl) pa_nil))) (nomark _))
              (pw_or1 (pt_cmpR op_ne (pe_callB call_isi (by rfl) B.isi (by decide +kernel) (pa_cons (pv 0) (pa_cons (pe_bltn (v := .ty "tuple") (by rfl) B.tuple (by decide +kernel) rfl) pa_nil))) (pe_callB call_isi (by rfl) B.isi (by decide +kernel) (pa_cons (pv 1) (pa_cons (pe_bltn (v := .ty "tuple") (by rfl) B.tuple (by decide +kernel) rfl) pa_nil))) (nomark _)))))
            (pss_one (ps_ret pe_bl)) pss_nil)
          (pss_cons (ps_if (pt_cmpR op_ne (pe_callB call_len_seq (by rfl) B.len PySem.boot_len (pa_cons (pv 0) pa_nil)) (pe_callB call_len_seq (by rfl) B.len PySem.boot_len (pa_cons (pv 1) pa_nil)) (nomark _)) (pss_one (ps_ret pe_bl)) pss_nil)
          (pss_one (ps_ret (pe_callB (cr_all rfl) (by rfl) B.all (by decide +kernel) (pa_cons (pe_lc (own := [("_law_mine", 2), ("_law_its", 3)]) (g := gTup K 2 (gCons (gName 2) (gCons (gName 3) gNil))) (tt := tYes) rfl scSame.nd (RZ.pi_zipA (by rfl) B.zip (pa_cons (pv 0) (pa_cons (pv 1) pa_nil))) (blkOk_by (N := ["_law_found", "_law_due", "_law_mine", "_law_its"]) (sc := defScope sSame) (by decide +kernel))
            (fun _ _ _ _ _ => pg_tup rfl (pgs_cons (pg_name (i := 2) scSame.nd rfl (Or.inl rfl)) (pgs_cons (pg_name (i := 3) scSame.nd rfl (Or.inl rfl)) pgs_nil))) (fun _ _ _ _ _ => pts_nil) (fun _ _ _ _ _ => pe_call G hr (by rfl) hg F.kp b .nil pass0 (pa_cons (pv 2) (pa_cons (pv 3) pa_nil)))) pa_nil)))))) pss_nil)
        (pss_cons (ps_if (PW.pt (pw_or (pt_cmpR op_isN (pv 1) pe_non (nomark _)) (pw_or1 (pt_val (pe_callB call_isi (by rfl) B.isi (by decide +kernel) (pa_cons (pv 1) (pa_cons (pe_bltn (v := .ty "str") (by rfl) B.str (by decide +kernel) rfl) pa_nil)))))))
          (pss_one (ps_ret (pe_and (pe_cmpR op_eq (pv 0) (pv 1) (nomark _)) (pe_one (pe_cmpR op_eq (pe_callB call_isi (by rfl) B.isi (by decide +kernel) (pa_cons (pv 0) (pa_cons (pe_bltn (v := .ty "str") (by rfl) B.str (by decide +kernel) rfl) pa_nil))) (pe_callB call_isi (by rfl) B.isi (by decide +kernel) (pa_cons (pv 1) (pa_cons (pe_bltn (v := .ty "str") (by rfl) B.str (by decide +kernel) rfl) pa_nil))) (nomark _)))))) pss_nil)
        (pss_one (ps_ret (pe_and (pe_callB call_isi (by rfl) B.isi (by decide +kernel) (pa_cons (pv 0) (pa_cons (pe_bltn (v := .ty "int") (by rfl) B.int (by decide +kernel) rfl) pa_nil))) (pe_and (pe_cmpR op_eq (pe_callB call_isi (by rfl) B.isi (by decide +kernel) (pa_cons (pv 0) (pa_cons (pe_bltn (v := .ty "bool") (by rfl) B.bool (by decide +kernel) rfl) pa_nil))) (pe_callB call_isi (by rfl) B.isi (by decide +kernel) (pa_cons (pv 1) (pa_cons (pe_bltn (v := .ty "bool") (by rfl) B.bool (by decide +kernel) rfl) pa_nil))) (nomark _)) (pe_one (pe_cmpR op_eq (pv 0) (pv 1) (nomark _)))))))), ?_⟩
      cases d with
      | dict kvs => cases hx
      | list ds =>
        cases n with
        | zero => exact (show False from hsm).elim
        | succ m =>
          obtain ⟨hlen, hel⟩ := (show ds.length ≤ 100000 ∧ ∀ d ∈ ds, Sm m d from hsm)
          refine ⟨_, rfl, (by show 2 ≤ sizeLine; decide), fun tp np => ⟨_, tp, _, _, [.type "list", .type "tuple"], true || false, rfl, upd_same, .cons (.ty _) (.cons (.ty _) .nil), dp_ty (dp_same (same_new np) hy), kit2 (by show kitB "list" "list" = _; decide +kernel) (by show kitB "list" "tuple" = _; decide +kernel), ⟨true, rfl, iteT ?_⟩⟩⟩
          have s1 : Same H (upd H tp (.tup [.ty "list", .ty "tuple"])) := same_new np
          generalize upd H tp (.tup [.ty "list", .ty "tuple"]) = H1 at s1 ⊢
          have hx1 := dp_same s1 hx
          have hy1 := dp_same s1 hy
          refine ⟨_, rfl, ⟨_, .ty "list", _, _, true, rfl, .ty _, dp_ty hx1, kit_ty (by show kitB "list" "list" = _; decide +kernel), ⟨_, rfl, ⟨_, .ty "list", _, _, true, rfl, .ty _, dp_ty hy1, kit_ty (by show kitB "list" "list" = _; decide +kernel), ⟨rfl, _, rfl, iteNS rfl ?_⟩⟩⟩⟩⟩
          refine ⟨_, rfl, ⟨_, .ty "tuple", _, _, false, rfl, .ty _, dp_ty hx1, kit_ty (by show kitB "list" "tuple" = _; decide +kernel), ⟨_, rfl, ⟨_, .ty "tuple", _, _, false, rfl, .ty _, dp_ty hy1, kit_ty (by show kitB "list" "tuple" = _; decide +kernel), ⟨rfl, _, rfl, iteNS rfl ?_⟩⟩⟩⟩⟩
          cases hx1 with
          | @lst ax xs _ qx ex =>
          cases hy1 with
          | @lst ay ys _ qy ey =>
          have lx := dpA_len ex
          have ly := dpA_len ey
          refine ⟨_, rfl, ax, xs, rfl, .inl qx, _, rfl, ay, ys, rfl, .inl qy, rfl, _, rfl, iteNS (by rw [lx, ly]) ?_⟩
          refine ⟨_, rfl, _, rfl, ax, ay, xs, ys, rfl, .inl ⟨qx, qy, fun D nD => ?_⟩⟩
          have hn : xs.length = min xs.length ys.length := by omega
          refine lc_fm (walk_zip hn) (fun _ => some (.bl true)) nD (Nat.lt_of_le_of_lt (by omega : xs.length ≤ 100000) (by decide)) (fun H2 s2 => ⟨Same.seq s2 qx, Same.seq s2 qy⟩) (fun i v H2 H3 R hi s2 hD hY hR => ?_) (fun H2 s2 hD => ?_)
          · obtain ⟨T, u1, u2, rfl, nT, rfl, g1, g2⟩ := hY
            have s3 : Same H2 (upd H2 T (.tup [u1, u2])) := same_new nT
            refine ⟨T, [u1, u2], rfl, .inl (.inl upd_same), rfl, u1, [u2], rfl, u2, [], rfl, rfl, rfl, iteT (B := R none (upd H2 T (.tup [u1, u2]))) ?_⟩
            obtain ⟨d1, h1, k1⟩ := dpA_get ex g1
            obtain ⟨d2, h2, k2⟩ := dpA_get ey g2
            obtain rfl : d1 = d2 := Option.some.inj (h1.symm.trans h2)
            refine ⟨_, rfl, _, rfl, hrec m rfl _ _ _ _ ⟨u1, u2, d1, rfl, dp_same (s2.trans s3) k1, dp_same (s2.trans s3) k2, hel d1 (List.mem_of_getElem? h1), fun H4 s4 => hR H4 (s3.trans s4)⟩⟩
          · have e : (List.range xs.length).filterMap (fun _ => some (V.bl true)) = (List.replicate xs.length true).map V.bl := by
              rw [List.filterMap_eq_map', List.map_replicate, List.map_const', List.length_range]
            rw [e] at hD
            refine ⟨D, _, rfl, .inl (.inl hD), ?_⟩
            rw [show (List.replicate xs.length true).all id = true by simp]
            exact q H2 (s1.trans s2)
      | tuple ds =>
        cases n with
        | zero => exact (show False from hsm).elim
        | succ m =>
          obtain ⟨hlen, hel⟩ := (show ds.length ≤ 100000 ∧ ∀ d ∈ ds, Sm m d from hsm)
          refine ⟨_, rfl, (by show 2 ≤ sizeLine; decide), fun tp np => ⟨_, tp, _, _, [.type "list", .type "tuple"], false || true, rfl, upd_same, .cons (.ty _) (.cons (.ty _) .nil), dp_ty (dp_same (same_new np) hy), kit2 (by show kitB "tuple" "list" = _; decide +kernel) (by show kitB "tuple" "tuple" = _; decide +kernel), ⟨true, rfl, iteT ?_⟩⟩⟩
          have s1 : Same H (upd H tp (.tup [.ty "list", .ty "tuple"])) := same_new np
          generalize upd H tp (.tup [.ty "list", .ty "tuple"]) = H1 at s1 ⊢
          have hx1 := dp_same s1 hx
          have hy1 := dp_same s1 hy
          refine ⟨_, rfl, ⟨_, .ty "list", _, _, false, rfl, .ty _, dp_ty hx1, kit_ty (by show kitB "tuple" "list" = _; decide +kernel), ⟨_, rfl, ⟨_, .ty "list", _, _, false, rfl, .ty _, dp_ty hy1, kit_ty (by show kitB "tuple" "list" = _; decide +kernel), ⟨rfl, _, rfl, iteNS rfl ?_⟩⟩⟩⟩⟩
          refine ⟨_, rfl, ⟨_, .ty "tuple", _, _, true, rfl, .ty _, dp_ty hx1, kit_ty (by show kitB "tuple" "tuple" = _; decide +kernel), ⟨_, rfl, ⟨_, .ty "tuple", _, _, true, rfl, .ty _, dp_ty hy1, kit_ty (by show kitB "tuple" "tuple" = _; decide +kernel), ⟨rfl, _, rfl, iteNS rfl ?_⟩⟩⟩⟩⟩
          cases hx1 with
          | @tup ax xs _ qx ex =>
          cases hy1 with
          | @tup ay ys _ qy ey =>
          have lx := dpA_len ex
          have ly := dpA_len ey
          refine ⟨_, rfl, ax, xs, rfl, .inr qx, _, rfl, ay, ys, rfl, .inr qy, rfl, _, rfl, iteNS (by rw [lx, ly]) ?_⟩
          refine ⟨_, rfl, _, rfl, ax, ay, xs, ys, rfl, .inr ⟨qx, qy, fun D nD => ?_⟩⟩
          have hn : xs.length = min xs.length ys.length := by omega
          refine lc_fm (walk_zpT hn) (fun _ => some (.bl true)) nD (Nat.lt_of_le_of_lt (by omega : xs.length ≤ 100000) (by decide)) (fun H2 s2 => ⟨sqT_same s2 qx, sqT_same s2 qy⟩) (fun i v H2 H3 R hi s2 hD hY hR => ?_) (fun H2 s2 hD => ?_)
          · obtain ⟨T, u1, u2, rfl, nT, rfl, g1, g2⟩ := hY
            have s3 : Same H2 (upd H2 T (.tup [u1, u2])) := same_new nT
            refine ⟨T, [u1, u2], rfl, .inl (.inl upd_same), rfl, u1, [u2], rfl, u2, [], rfl, rfl, rfl, iteT (B := R none (upd H2 T (.tup [u1, u2]))) ?_⟩
            obtain ⟨d1, h1, k1⟩ := dpA_get ex g1
            obtain ⟨d2, h2, k2⟩ := dpA_get ey g2
            obtain rfl : d1 = d2 := Option.some.inj (h1.symm.trans h2)
            refine ⟨_, rfl, _, rfl, hrec m rfl _ _ _ _ ⟨u1, u2, d1, rfl, dp_same (s2.trans s3) k1, dp_same (s2.trans s3) k2, hel d1 (List.mem_of_getElem? h1), fun H4 s4 => hR H4 (s3.trans s4)⟩⟩
          · have e : (List.range xs.length).filterMap (fun _ => some (V.bl true)) = (List.replicate xs.length true).map V.bl := by
              rw [List.filterMap_eq_map', List.map_replicate, List.map_const', List.length_range]
            rw [e] at hD
            refine ⟨D, _, rfl, .inl (.inl hD), ?_⟩
            rw [show (List.replicate xs.length true).all id = true by simp]
            exact q H2 (s1.trans s2)
      | none =>
        refine ⟨_, rfl, (by show 2 ≤ sizeLine; decide), fun tp np => ⟨_, tp, _, _, [.type "list", .type "tuple"], false || false, rfl, upd_same, .cons (.ty _) (.cons (.ty _) .nil), dp_ty (dp_same (same_new np) hy), kit2 (by show kitB "NoneType" "list" = _; decide +kernel) (by show kitB "NoneType" "tuple" = _; decide +kernel), ⟨false, rfl, iteF ?_⟩⟩⟩
        have s1 : Same H (upd H tp (.tup [.ty "list", .ty "tuple"])) := same_new np
        generalize upd H tp (.tup [.ty "list", .ty "tuple"]) = H1 at s1 ⊢
        have hx1 := dp_same s1 hx
        have hy1 := dp_same s1 hy
        clear hx hy
        cases hx1
        cases hy1
        refine ⟨_, rfl, rfl, _, rfl, iteT ?_⟩
        refine ⟨_, rfl, _, rfl, rfl, _, rfl, iteT ?_⟩
        refine ⟨_, rfl, ⟨_, .ty "str", _, _, false, rfl, .ty _, dp_ty .non, kit_ty (by show kitB "NoneType" "str" = _; decide +kernel), ⟨_, rfl, ⟨_, .ty "str", _, _, false, rfl, .ty _, dp_ty .non, kit_ty (by show kitB "NoneType" "str" = _; decide +kernel), ⟨rfl, ?_⟩⟩⟩⟩⟩
        exact q H1 s1
      | str z =>
        refine ⟨_, rfl, (by show 2 ≤ sizeLine; decide), fun tp np => ⟨_, tp, _, _, [.type "list", .type "tuple"], false || false, rfl, upd_same, .cons (.ty _) (.cons (.ty _) .nil), dp_ty (dp_same (same_new np) hy), kit2 (by show kitB "str" "list" = _; decide +kernel) (by show kitB "str" "tuple" = _; decide +kernel), ⟨false, rfl, iteF ?_⟩⟩⟩
        have s1 : Same H (upd H tp (.tup [.ty "list", .ty "tuple"])) := same_new np
        generalize upd H tp (.tup [.ty "list", .ty "tuple"]) = H1 at s1 ⊢
        have hx1 := dp_same s1 hx
        have hy1 := dp_same s1 hy
        clear hx hy
        cases hx1
        cases hy1
        refine ⟨_, rfl, rfl, _, rfl, iteF ?_⟩
        refine ⟨_, rfl, ⟨_, .ty "str", _, _, true, rfl, .ty _, dp_ty (.str z), kit_ty (by show kitB "str" "str" = _; decide +kernel), ⟨true, rfl, iteT ?_⟩⟩⟩
        refine ⟨_, rfl, _, rfl, rfl, true, by rw [decide_eq_true rfl], iteT ?_⟩
        refine ⟨_, rfl, ⟨_, .ty "str", _, _, true, rfl, .ty _, dp_ty (.str z), kit_ty (by show kitB "str" "str" = _; decide +kernel), ⟨_, rfl, ⟨_, .ty "str", _, _, true, rfl, .ty _, dp_ty (.str z), kit_ty (by show kitB "str" "str" = _; decide +kernel), ⟨rfl, ?_⟩⟩⟩⟩⟩
        exact q H1 s1
      | int z =>
        refine ⟨_, rfl, (by show 2 ≤ sizeLine; decide), fun tp np => ⟨_, tp, _, _, [.type "list", .type "tuple"], false || false, rfl, upd_same, .cons (.ty _) (.cons (.ty _) .nil), dp_ty (dp_same (same_new np) hy), kit2 (by show kitB "int" "list" = _; decide +kernel) (by show kitB "int" "tuple" = _; decide +kernel), ⟨false, rfl, iteF ?_⟩⟩⟩
        have s1 : Same H (upd H tp (.tup [.ty "list", .ty "tuple"])) := same_new np
        generalize upd H tp (.tup [.ty "list", .ty "tuple"]) = H1 at s1 ⊢
        have hx1 := dp_same s1 hx
        have hy1 := dp_same s1 hy
        clear hx hy
        cases hx1
        cases hy1
        refine ⟨_, rfl, rfl, _, rfl, iteF ?_⟩
        refine ⟨_, rfl, ⟨_, .ty "str", _, _, false, rfl, .ty _, dp_ty (.int z), kit_ty (by show kitB "int" "str" = _; decide +kernel), ⟨false, rfl, iteF ?_⟩⟩⟩
        refine ⟨_, rfl, ⟨_, .ty "int", _, _, true, rfl, .ty _, dp_ty (.int z), kit_ty (by show kitB "int" "int" = _; decide +kernel), ⟨true, rfl, iteT ?_⟩⟩⟩
        refine ⟨_, rfl, ⟨_, .ty "bool", _, _, false, rfl, .ty _, dp_ty (.int z), kit_ty (by show kitB "int" "bool" = _; decide +kernel), ⟨_, rfl, ⟨_, .ty "bool", _, _, false, rfl, .ty _, dp_ty (.int z), kit_ty (by show kitB "int" "bool" = _; decide +kernel), ⟨rfl, true, by rw [decide_eq_true rfl], iteT ?_⟩⟩⟩⟩⟩
        refine ⟨_, rfl, _, rfl, rfl, ?_⟩
        rw [decide_eq_true rfl]
        exact q H1 s1
      | bool z =>
        refine ⟨_, rfl, (by show 2 ≤ sizeLine; decide), fun tp np => ⟨_, tp, _, _, [.type "list", .type "tuple"], false || false, rfl, upd_same, .cons (.ty _) (.cons (.ty _) .nil), dp_ty (dp_same (same_new np) hy), kit2 (by show kitB "bool" "list" = _; decide +kernel) (by show kitB "bool" "tuple" = _; decide +kernel), ⟨false, rfl, iteF ?_⟩⟩⟩
        have s1 : Same H (upd H tp (.tup [.ty "list", .ty "tuple"])) := same_new np
        generalize upd H tp (.tup [.ty "list", .ty "tuple"]) = H1 at s1 ⊢
        have hx1 := dp_same s1 hx
        have hy1 := dp_same s1 hy
        clear hx hy
        cases hx1
        cases hy1
        refine ⟨_, rfl, rfl, _, rfl, iteF ?_⟩
        refine ⟨_, rfl, ⟨_, .ty "str", _, _, false, rfl, .ty _, dp_ty (.bl z), kit_ty (by show kitB "bool" "str" = _; decide +kernel), ⟨false, rfl, iteF ?_⟩⟩⟩
        refine ⟨_, rfl, ⟨_, .ty "int", _, _, true, rfl, .ty _, dp_ty (.bl z), kit_ty (by show kitB "bool" "int" = _; decide +kernel), ⟨true, rfl, iteT ?_⟩⟩⟩
        refine ⟨_, rfl, ⟨_, .ty "bool", _, _, true, rfl, .ty _, dp_ty (.bl z), kit_ty (by show kitB "bool" "bool" = _; decide +kernel), ⟨_, rfl, ⟨_, .ty "bool", _, _, true, rfl, .ty _, dp_ty (.bl z), kit_ty (by show kitB "bool" "bool" = _; decide +kernel), ⟨rfl, true, by rw [decide_eq_true rfl], iteT ?_⟩⟩⟩⟩⟩
        refine ⟨_, rfl, _, rfl, rfl, ?_⟩
        rw [decide_eq_true rfl]
        exact q H1 s1
theorem ok_same {f : Addr} {fd : FuncData} (F : Fun K "_law_same" "_law_same" sSame f fd) (B : Bn mg) (hg : mg "_law_same" = some (.ref f)) (b : Binds K fd ["_law_found", "_law_due"] []) :
    ∀ n : Nat, FnOk P w K mg base CX0 (n + 1) f fd ["_law_found", "_law_due"] (spSame K n)
  | 0 => same_step F B hg b (sp0 := fun _ _ _ _ => False) ⟨fun _ _ _ _ h => h.elim, fun _ _ _ _ _ _ _ _ _ _ _ _ _ h => h.elim⟩ (fun _ e => nomatch e)
  | n + 1 => same_step F B hg b (ok_same F B hg b n) (fun m e vs H Q E h => by cases e; exact h)
end
end Kn
namespace Kn
open PySem PySem.Spec PyProof.Rows L2
theorem pi_or {X : Cx} {tg e : Expr} {w1 w2 : TI} (h1 : PI X tg e w1) (h2 : PI X tg e w2) : PI X tg e (fun σ H R => w1 σ H R ∨ w2 σ H R) := ⟨fun pins s σ H R I h => h.elim (h1.run pins s σ H R I) (h2.run pins s σ H R I)⟩
theorem pe_or2 {X : Cx} {e : Expr} {t1 t2 : TE} (h1 : PE X e t1) (h2 : PE X e t2) : PE X e (fun σ H Q => t1 σ H Q ∨ t2 σ H Q) := ⟨fun pins s σ H Q I h => h.elim (h1.run pins s σ H Q I) (h2.run pins s σ H Q I)⟩
def SqA (K : PySem.W.Frag) (H : Hp) (a : Addr) (xs : List V) : Prop := SqL K H a xs ∨ SqT K H a xs
theorem sqA_same {K : PySem.W.Frag} {H H' : Hp} {a : Addr} {xs : List V} (e : Same H H') (h : SqA K H a xs) : SqA K H' a xs := h.imp (e.seq ·) (sqT_same e)
/-- what is kept but for the box, where the box is another thing -/
theorem sqL_off {K : PySem.W.Frag} {H H' : Hp} {a b : Addr} {xs : List V} (e : Off b H H') (n : a ≠ b) (h : SqL K H a xs) : SqL K H' a xs := by
  rcases h with (h | ⟨o, h⟩) | h
  · exact .inl (.inl (e _ _ h n))
  · exact .inl (.inr ⟨o, e _ _ h n⟩)
  · exact .inr h
theorem sqT_off {K : PySem.W.Frag} {H H' : Hp} {a b : Addr} {xs : List V} (e : Off b H H') (n : a ≠ b) (h : SqT K H a xs) : SqT K H' a xs := by
  rcases h with (h | ⟨o, h⟩) | h
  · exact .inl (.inl (e _ _ h n))
  · exact .inl (.inr ⟨o, e _ _ h n⟩)
  · exact .inr h
abbrev sStrewn : Stmt := topS 13
abbrev sCrew : Stmt := topS 14
theorem scStrewn : FnScope ["_law_box_here", "_law_some", "_law_found", "_law_item"] ["_law_box_here", "_law_some"] (defScope sStrewn) := ⟨rfl, rfl, rfl, by decide +kernel, rfl, by decide +kernel, by decide +kernel⟩
theorem scCrew : FnScope ["_law_box_here", "_law_most", "_law_size", "_law_letters", "_law_pool", "_law_start", "_law_step", "_law_at", "_law_sign"] ["_law_box_here", "_law_most"] (defScope sCrew) := ⟨rfl, rfl, rfl, by decide +kernel, rfl, by decide +kernel, by decide +kernel⟩
theorem ins_perm {α : Type} (ys zs : List α) (i : Nat) (y : α) (h : ys.Perm zs) : (ys.take i ++ [y] ++ ys.drop i).Perm (zs ++ [y]) := by
  have h1 : (ys.take i ++ [y] ++ ys.drop i).Perm (y :: (ys.take i ++ ys.drop i)) := by
    rw [List.append_assoc]
    exact List.perm_middle
  rw [List.take_append_drop] at h1
  exact h1.trans ((h.cons y).trans (List.perm_append_singleton y zs).symm)
section
variable {P : Program} {w : World} {K : PySem.W.Frag} {mg : Str → Option Value} {base : Heap}
def spStrewn (K : PySem.W.Frag) : Sp := fun vs H Q _ => ∃ (b a : Addr) (o : HO) (n : Nat) (xs : List V), vs = [.ref b, .ref a] ∧ H b = some o ∧ Bx n o ∧ n + xs.length < 1000000000 ∧ a ≠ b ∧ SqA K H a xs ∧ xs.length ≤ 1000 ∧
  ∀ H' p ys o', H p = none → H' p = some (.lst ys) → ys.Perm xs → H' b = some o' → Bx (n + xs.length) o' → Off b H H' → Q (.ref p) H'
theorem ok_strewn {f ft : Addr} {fd fdt : FuncData} {k : Nat} (F : Fun K "_law_strewn" "_law_strewn" sStrewn f fd) (B : Bn mg) (FT : Fun K "_law_take" "_law_take" sTake ft fdt) (gT : mg "_law_take" = some (.ref ft)) (bT : Binds K fdt ["_law_box_here", "_law_bound"] []) :
    FnOk P w K mg base CX0 (k + 2) f fd ["_law_box_here", "_law_some"] (spStrewn K) := by
  have GT : FnOk P w K mg base CX0 (k + 1) ft fdt ["_law_box_here", "_law_bound"] spTake := ok_take FT
  refine F.ok scStrewn (fun vs H Q E h => ?_) (fun cdv A outer s H vs Q E hr h => ?_)
  · obtain ⟨b, a, o, n, xs, rfl, _⟩ := h
    rfl
  · obtain ⟨b, a, o, n, xs, rfl, hb, hB, hn, nab, hS, hl, q⟩ := h
    refine ⟨_, pss_cons (ps_set (i := 2) scStrewn.nd rfl (.inl rfl) (pe_lst pa_nil))
      (pss_cons (ps_for PassesOwn.never rfl (pi_or (pi_list (pv 1)) (pi_tup (pv 1))) (pg_name (i := 3) scStrewn.nd rfl (.inl rfl))
        (pss_one (ps_expr (pe_bm PySem.F.plainAttrs_list PySem.F.slot_list_insert PySem.F.type_list_insert mt_insert (pv 2) (pa_cons (pe_call GT hr (by rfl) gT FT.kp bT .nil pass0 (pa_cons (pv 0) (pa_cons (pe_op op_add (pe_callB call_len_seq (by rfl) B.len PySem.boot_len (pa_cons (pv 2) pa_nil)) pe_int) pa_nil))) (pa_cons (pv 3) pa_nil))))))
      (pss_one (ps_ret (pv 2)))), ?_⟩
    refine ⟨Nat.zero_le _, fun p np => ?_⟩
    have s1 : Same H (upd H p (.lst [])) := same_new np
    have npb : p ≠ b := fun e => by rw [e, hb] at np; cases np
    have turn : ∀ (i : Nat) (x : V) (σ : L2.St) (H2 : Hp), i < xs.length → xs[i]? = some x → (∃ v ys o', σ = [some (.ref b), some (.ref a), some (.ref p), v] ∧ H2 b = some o' ∧ Bx (n + i) o' ∧ H2 p = some (.lst ys) ∧ ys.Perm (xs.take i) ∧ Off b H H2) →
        ∃ ys o', σ.set 3 (some x) = [some (.ref b), some (.ref a), some (.ref p), some x] ∧ H2 b = some o' ∧ Bx (n + i) o' ∧ H2 p = some (.lst ys) ∧ ys.length = i ∧ ys.Perm (xs.take i) ∧ Off b H H2 := by
      rintro i x σ H2 hi hx ⟨v, ys, o', rfl, h1, h2, h3, h4, h5⟩
      refine ⟨ys, o', rfl, h1, h2, h3, ?_, h4, h5⟩
      rw [h4.length_eq, List.length_take]
      omega
    have after : ∀ (i : Nat) (x : V) (ys : List V) (o' : HO) (H2 : Hp) (r : Int), xs[i]? = some x → H2 b = some o' → H2 p = some (.lst ys) → ys.Perm (xs.take i) → Off b H H2 → Bx (n + i + 1) o' → 0 ≤ r →
        ∃ v zs o'', [some (.ref b), some (.ref a), some (.ref p), some x] = [some (.ref b), some (.ref a), some (.ref p), v] ∧ (upd H2 p (.lst (ys.take r.toNat ++ [x] ++ ys.drop r.toNat))) b = some o'' ∧ Bx (n + (i + 1)) o'' ∧ (upd H2 p (.lst (ys.take r.toNat ++ [x] ++ ys.drop r.toNat))) p = some (.lst zs) ∧ zs.Perm (xs.take (i + 1)) ∧ Off b H (upd H2 p (.lst (ys.take r.toNat ++ [x] ++ ys.drop r.toNat))) := by
      intro i x ys o' H2 r hx h1 h2 h3 h4 h5 h6
      refine ⟨_, _, o', rfl, by rw [upd_ne npb.symm]; exact h1, h5, upd_same, ?_, fun c u e hc => ?_⟩
      · rw [List.take_add_one, hx]
        exact ins_perm _ _ _ _ h3
      · rw [upd_ne (ne_of_none e np)]
        exact h4 c u e hc
    have fin : ∀ (σ : L2.St) (H2 : Hp), (∃ v ys o', σ = [some (.ref b), some (.ref a), some (.ref p), v] ∧ H2 b = some o' ∧ Bx (n + xs.length) o' ∧ H2 p = some (.lst ys) ∧ ys.Perm (xs.take xs.length) ∧ Off b H H2) → ∃ v, σ[2]? = some (some v) ∧ Q v H2 := by
      rintro σ H2 ⟨v, ys, o', rfl, h1, h2, h3, h4, h5⟩
      rw [List.take_length] at h4
      exact ⟨_, rfl, q H2 p ys o' np h3 h4 h1 h2 h5⟩
    have start : ∃ v ys o', ([some (.ref b), some (.ref a), none, none] : L2.St).set 2 (some (.ref p)) = [some (.ref b), some (.ref a), some (.ref p), v] ∧ (upd H p (.lst [])) b = some o' ∧ Bx (n + 0) o' ∧ (upd H p (.lst [])) p = some (.lst ys) ∧ ys.Perm (xs.take 0) ∧ Off b H (upd H p (.lst [])) :=
      ⟨none, [], o, rfl, by rw [upd_ne npb.symm]; exact hb, hB, upd_same, List.Perm.refl _, Same.off s1⟩
    rcases hS with hS | hS
    · refine .inl ⟨_, rfl, a, rfl, ⟨xs, s1.seq hS⟩, for_it (n := xs.length) walk_list (fun i σ H2 => ∃ v ys o', σ = [some (.ref b), some (.ref a), some (.ref p), v] ∧ H2 b = some o' ∧ Bx (n + i) o' ∧ H2 p = some (.lst ys) ∧ ys.Perm (xs.take i) ∧ Off b H H2)
        start (fun i σ H2 _ h => sqL_off h.choose_spec.choose_spec.choose_spec.2.2.2.2.2 nab hS) (fun i x σ H2 H3 hi hP hY => ?_) fin⟩
      obtain ⟨rfl, hx⟩ := hY
      obtain ⟨ys, o', e1, h1, h2, h3, h4, h5, h6⟩ := turn i x σ H3 hi hx hP
      show _
      refine ⟨.ref p, by rw [e1]; rfl, .inl ⟨rfl, _, .inl (.inl h3)⟩, .ref b, by rw [e1]; rfl, .ref p, by rw [e1]; rfl, p, ys, rfl, .inl (.inl (.inl h3)), _, 1, rfl, rfl, b, o', n + i, _, rfl, h1, h2, by omega, by omega, by omega, fun r o'' r0 r1 hB' => ?_⟩
      refine ⟨x, by rw [e1]; rfl, p, ys, r, x, rfl, rfl, by rw [upd_ne npb]; exact h3, small1000 (by omega), r0, by omega, ?_⟩
      rw [e1]
      exact after i x ys o'' (upd H3 b o'') r hx upd_same (by rw [upd_ne npb]; exact h3) h5 (h6.trans (Off.at b H3 o'')) hB' r0
    · refine .inr ⟨_, rfl, a, rfl, ⟨xs, sqT_same s1 hS⟩, for_it (n := xs.length) walk_tup (fun i σ H2 => ∃ v ys o', σ = [some (.ref b), some (.ref a), some (.ref p), v] ∧ H2 b = some o' ∧ Bx (n + i) o' ∧ H2 p = some (.lst ys) ∧ ys.Perm (xs.take i) ∧ Off b H H2)
        start (fun i σ H2 _ h => sqT_off h.choose_spec.choose_spec.choose_spec.2.2.2.2.2 nab hS) (fun i x σ H2 H3 hi hP hY => ?_) fin⟩
      obtain ⟨rfl, hx⟩ := hY
      obtain ⟨ys, o', e1, h1, h2, h3, h4, h5, h6⟩ := turn i x σ H3 hi hx hP
      show _
      refine ⟨.ref p, by rw [e1]; rfl, .inl ⟨rfl, _, .inl (.inl h3)⟩, .ref b, by rw [e1]; rfl, .ref p, by rw [e1]; rfl, p, ys, rfl, .inl (.inl (.inl h3)), _, 1, rfl, rfl, b, o', n + i, _, rfl, h1, h2, by omega, by omega, by omega, fun r o'' r0 r1 hB' => ?_⟩
      refine ⟨x, by rw [e1]; rfl, p, ys, r, x, rfl, rfl, by rw [upd_ne npb]; exact h3, small1000 (by omega), r0, by omega, ?_⟩
      rw [e1]
      exact after i x ys o'' (upd H3 b o'') r hx upd_same (by rw [upd_ne npb]; exact h3) h5 (h6.trans (Off.at b H3 o'')) hB' r0
end
end Kn
namespace Kn
open PySem PySem.Spec PyProof.Rows L2
/-! the names of a crew -/
def nmc (s t i : Nat) : List Nat := (97 + (s + t * (i / 2)) % 26) :: (if i % 2 = 0 then [] else if s % 2 = 0 then [97] else [122, 122])
def nm (s t i : Nat) : Str := ⟨(nmc s t i).toArray⟩
def sfx (s i : Nat) : Str := if i % 2 = 0 then "" else if s % 2 = 0 then "a" else "zz"
theorem nm_eq (s t i : Nat) : (⟨#[97 + (s + t * (i / 2)) % 26]⟩ : Str) ++ sfx s i = nm s t i := by
  unfold nm nmc sfx
  split
  · rfl
  · split <;> rfl
theorem nmc_nodup : ∀ s : Fin 26, ∀ t ∈ [1, 3, 25], ((List.range 24).map (nmc s.val t)).Nodup := by decide +kernel
theorem nm_nodup {s t n : Nat} (hs : s < 26) (ht : t ∈ [1, 3, 25]) (hn : n ≤ 24) : ((List.range n).map (nm s t)).Nodup := by
  have h := nmc_nodup ⟨s, hs⟩ t ht
  have h2 : ((List.range n).map (nmc s t)).Nodup := by
    refine h.sublist ?_
    refine List.Sublist.map _ ?_
    rw [show (24 : Nat) = n + (24 - n) by omega, List.range_add]
    exact List.sublist_append_left _ _
  have e : (List.range n).map (nmc s t) = ((List.range n).map (nm s t)).map fun z => z.cps.toList := by
    rw [List.map_map]
    rfl
  rw [e] at h2
  exact (List.pairwise_map.mp h2).imp fun h e => h (by rw [e])
/-- a name of one to three small letters -/
def Nm (z : Str) : Prop := 1 ≤ z.length ∧ z.length ≤ 3 ∧ ∀ c ∈ z.cps.toList, 97 ≤ c ∧ c ≤ 122
theorem nm_nm (s t i : Nat) : Nm (nm s t i) := by
  have hm : (s + t * (i / 2)) % 26 < 26 := Nat.mod_lt _ (by decide)
  unfold nm nmc
  generalize (s + t * (i / 2)) % 26 = k at hm
  split
  · refine ⟨(by show 1 ≤ 1; decide), (by show 1 ≤ 3; decide), fun c hc => ?_⟩
    have h : c ∈ [97 + k] := hc
    rw [List.mem_singleton] at h
    omega
  · split
    · refine ⟨(by show 1 ≤ 2; decide), (by show 2 ≤ 3; decide), fun c hc => ?_⟩
      have h : c ∈ [97 + k, 97] := hc
      simp only [List.mem_cons, List.not_mem_nil, or_false] at h
      omega
    · refine ⟨(by show 1 ≤ 3; decide), (by show 3 ≤ 3; decide), fun c hc => ?_⟩
      have h : c ∈ [97 + k, 122, 122] := hc
      simp only [List.mem_cons, List.not_mem_nil, or_false] at h
      omega
theorem let_at {k : Nat} (h : k < 26) : atI ("abcdefghijklmnopqrstuvwxyz" : Str).cps.toList (k : Int) = some (97 + k) := by
  refine atI_nat ?_
  have : ∀ k : Fin 26, ("abcdefghijklmnopqrstuvwxyz" : Str).cps.toList[k.val]? = some (97 + k.val) := by decide +kernel
  exact this ⟨k, h⟩
theorem perm_strs {ys : List V} {l : List Str} (h : ys.Perm (l.map V.str)) : ∃ zs : List Str, ys = zs.map V.str ∧ zs.Perm l := by
  let un : V → Str := fun v => match v with | .str z => z | _ => ""
  refine ⟨ys.map un, ?_, ?_⟩
  · rw [List.map_map]
    refine (List.map_id ys).symm.trans (List.map_congr_left fun v hv => ?_)
    obtain ⟨z, _, e⟩ := List.mem_map.mp (h.mem_iff.mp hv)
    rw [← e]
    rfl
  · have h2 := h.map un
    rw [List.map_map] at h2
    have e : l.map (un ∘ V.str) = l := (List.map_congr_left fun z _ => rfl).trans (List.map_id l)
    rw [e] at h2
    exact h2
section
variable {P : Program} {w : World} {K : PySem.W.Frag} {mg : Str → Option Value} {base : Heap}
def spCrew : Sp := fun vs H Q _ => ∃ (b : Addr) (o : HO) (n : Nat) (m : Nat), vs = [.ref b, .int (m : Int)] ∧ H b = some o ∧ Bx n o ∧ n < 900000000 ∧ 1 ≤ m ∧ m ≤ 24 ∧
  ∀ H' p (ys : List Str) o', H p = none → H' p = some (.lst (ys.map V.str)) → ys.Nodup → 1 ≤ ys.length → ys.length ≤ m → (∀ z ∈ ys, Nm z) → H' b = some o' → Bx (n + 30) o' → Off b H H' → Q (.ref p) H'
theorem ok_crew {f ft fs : Addr} {fd fdt fds : FuncData} {k : Nat} (F : Fun K "_law_crew" "_law_crew" sCrew f fd) (B : Bn mg) (FT : Fun K "_law_take" "_law_take" sTake ft fdt) (gT : mg "_law_take" = some (.ref ft)) (bT : Binds K fdt ["_law_box_here", "_law_bound"] [])
    (FS : Fun K "_law_strewn" "_law_strewn" sStrewn fs fds) (gS : mg "_law_strewn" = some (.ref fs)) (bS : Binds K fds ["_law_box_here", "_law_some"] []) :
    FnOk P w K mg base CX0 (k + 3) f fd ["_law_box_here", "_law_most"] spCrew := by
  have GT : FnOk P w K mg base CX0 (k + 1) ft fdt ["_law_box_here", "_law_bound"] spTake := ok_take FT
  have GS : FnOk P w K mg base CX0 (k + 2) fs fds ["_law_box_here", "_law_some"] (spStrewn K) := ok_strewn FS B FT gT bT
  refine F.ok scCrew (fun vs H Q E h => ?_) (fun cdv A outer s H vs Q E hr h => ?_)
  · obtain ⟨b, o, n, m, rfl, _⟩ := h
    rfl
  · obtain ⟨b, o, n, m, rfl, hb, hB, hn, hm1, hm2, q⟩ := h
    have hr1 : Room (k + 1) _ := hr.mono (by omega)
    refine ⟨_, pss_cons (ps_par3 (i := 2) (j := 3) (l := 4) rfl scCrew.nd rfl rfl rfl (by decide) (by decide) (by decide) rfl rfl rfl (pa_cons (pe_op op_add pe_int (pe_call GT hr1 (by rfl) gT FT.kp bT .nil pass0 (pa_cons (pv 0) (pa_cons (pv 1) pa_nil)))) (pa_cons pe_str (pa_cons (pe_lst pa_nil) pa_nil))) rfl)
      (pss_cons (ps_par (i := 5) (j := 6) rfl scCrew.nd rfl rfl (by decide) rfl rfl (pa_cons (pe_call GT hr1 (by rfl) gT FT.kp bT .nil pass0 (pa_cons (pv 0) (pa_cons pe_int pa_nil))) (pa_cons (pe_ix ix_list (pe_lst (pa_cons pe_int (pa_cons pe_int (pa_cons pe_int pa_nil)))) (pe_call GT hr1 (by rfl) gT FT.kp bT .nil pass0 (pa_cons (pv 0) (pa_cons pe_int pa_nil))) (fun _ _ => rfl)) pa_nil)) rfl)
      (pss_cons (ps_for PassesOwn.never rfl (pi_range1 rfl B.range (pa_cons (pv 2) pa_nil)) (pg_name (i := 7) scCrew.nd rfl (.inl rfl))
        (pss_cons (ps_set (i := 8) scCrew.nd rfl (.inl rfl) (pe_ix ix_str (pv 3) (pe_op op_mod (pe_op op_add (pv 5) (pe_op op_mul (pv 6) (pe_op op_fdiv (pv 7) pe_int))) pe_int) (fun _ _ => rfl)))
        (pss_one (ps_expr (pe_bm PySem.F.plainAttrs_list PySem.F.slot_list_append PySem.F.type_list_append mt_append (pv 4) (pa_cons (pe_op op_add_str (pv 8) (pe_ix ix_list (pe_lst (pa_cons pe_str (pa_cons pe_str (pa_cons pe_str pa_nil)))) (pe_op op_mul (pe_op op_mod (pv 7) pe_int) (pe_op op_add pe_int (pe_op op_mod (pv 5) pe_int))) (fun _ _ => rfl))) pa_nil))))))
      (pss_one (ps_ret (pe_call GS hr (by rfl) gS FS.kp bS .nil pass0 (pa_cons (pv 0) (pa_cons (pv 4) pa_nil))))))), ?_⟩
    -- size, letters, pool
    refine ⟨.ref b, rfl, .int m, rfl, b, o, n, m, rfl, hb, hB, by omega, by omega, by omega, fun r o1 r0 r1 hB1 => ?_⟩
    refine ⟨1, r, rfl, rfl, Nat.zero_le _, fun q0 nq => ⟨_, _, _, rfl, ?_⟩⟩
    have nqb : q0 ≠ b := fun e => by
      rw [e, upd_same] at nq
      cases nq
    have nq0 : H q0 = none := by
      rw [upd_ne nqb] at nq
      exact nq
    have off1 : Off b H (upd (upd H b o1) q0 (.lst [])) := (Off.at b H o1).trans (Same.off (same_new nq))
    have hb1 : (upd (upd H b o1) q0 (.lst [])) b = some o1 := by rw [upd_ne nqb.symm, upd_same]
    have hq1 : (upd (upd H b o1) q0 (.lst [])) q0 = some (.lst []) := upd_same
    generalize upd (upd H b o1) q0 (.lst []) = H1 at off1 hb1 hq1 ⊢
    -- start, step
    refine ⟨.ref b, rfl, b, o1, n + 1, 26, rfl, hb1, hB1, by omega, by omega, by omega, fun rs o2 rs0 rs1 hB2 => ?_⟩
    obtain ⟨sN, rfl⟩ := Int.eq_ofNat_of_zero_le rs0
    refine ⟨(by show 3 ≤ sizeLine; decide), fun L nL => ?_⟩
    have nLb : L ≠ b := fun e => by
      rw [e, upd_same] at nL
      cases nL
    have nLq : L ≠ q0 := fun e => by
      rw [e, upd_ne nqb, hq1] at nL
      cases nL
    have off2 : Off b H (upd (upd H1 b o2) L (.lst [.int 1, .int 3, .int 25])) := (off1.trans (Off.at b H1 o2)).trans (Same.off (same_new nL))
    have hb2 : (upd (upd H1 b o2) L (.lst [.int 1, .int 3, .int 25])) b = some o2 := by rw [upd_ne nLb.symm, upd_same]
    have hq2 : (upd (upd H1 b o2) L (.lst [.int 1, .int 3, .int 25])) q0 = some (.lst []) := by rw [upd_ne nLq.symm, upd_ne nqb]; exact hq1
    have hL2 : (upd (upd H1 b o2) L (.lst [.int 1, .int 3, .int 25])) L = some (.lst [.int 1, .int 3, .int 25]) := upd_same
    generalize upd (upd H1 b o2) L (.lst [.int 1, .int 3, .int 25]) = H2 at off2 hb2 hq2 hL2 ⊢
    refine ⟨.ref b, rfl, b, o2, n + 1 + 1, 3, rfl, hb2, hB2, by omega, by omega, by omega, fun rt o3 rt0 rt1 hB3 => ?_⟩
    obtain ⟨tN, ht, hat⟩ : ∃ tN : Nat, tN ∈ [1, 3, 25] ∧ atI [V.int 1, V.int 3, V.int 25] rt = some (.int (tN : Int)) := by
      rcases (by omega : rt = 0 ∨ rt = 1 ∨ rt = 2) with e | e | e
      · exact ⟨1, by decide, by rw [e]; rfl⟩
      · exact ⟨3, by decide, by rw [e]; rfl⟩
      · exact ⟨25, by decide, by rw [e]; rfl⟩
    refine ⟨L, _, rt, .int tN, rfl, rfl, .inl (.inl (by rw [upd_ne nLb]; exact hL2)), hat, _, _, rfl, ?_⟩
    have off3 : Off b H (upd H2 b o3) := off2.trans (Off.at b H2 o3)
    have hb3 : (upd H2 b o3) b = some o3 := upd_same
    have hq3 : (upd H2 b o3) q0 = some (.lst []) := by rw [upd_ne nqb]; exact hq2
    generalize upd H2 b o3 = H3 at off3 hb3 hq3 ⊢
    -- the loop
    obtain ⟨rN, rfl⟩ := Int.eq_ofNat_of_zero_le r0
    have hsN : sN < 26 := by omega
    have hrN : 1 + rN ≤ 24 := by omega
    have hrm : 1 + rN ≤ m := by omega
    have htN : tN ≤ 25 := by
      simp only [List.mem_cons, List.not_mem_nil, or_false] at ht
      omega
    have e0 : (1 + (rN : Int)).toNat = 1 + rN := by omega
    refine ⟨_, rfl, 1 + (rN : Int), rfl, by omega, by omega, ?_⟩
    rw [e0]
    refine for_it walk_range (fun i σ G => ∃ v7 v8, σ = [some (.ref b), some (.int m), some (.int (1 + (rN : Int))), some (.str "abcdefghijklmnopqrstuvwxyz"), some (.ref q0), some (.int (sN : Int)), some (.int (tN : Int)), v7, v8] ∧ G b = some o3 ∧ G q0 = some (.lst (((List.range i).map (nm sN tN)).map V.str)) ∧ Off b H G)
      ⟨none, none, rfl, hb3, hq3, off3⟩ (fun _ _ _ _ _ => trivial) (fun i x σ G G' hi hP hY => ?_) (fun σ G hP => ?_)
    · obtain ⟨rfl, rfl⟩ := hY
      obtain ⟨v7, v8, rfl, gb, gq, go⟩ := hP
      have hk : (sN + tN * (i / 2)) % 26 < 26 := Nat.mod_lt _ (by decide)
      have ek : ((sN : Int) + (tN : Int) * ((0 + (i : Int)) / 2)) % 26 = (((sN + tN * (i / 2)) % 26 : Nat) : Int) := by
        rw [Int.zero_add]
        norm_cast
      refine ⟨_, rfl, _, rfl, _, rfl, _, rfl, 0 + (i : Int), 2, rfl, rfl, ⟨by decide, by decide⟩, _, _, rfl, rfl, .inl ⟨by omega, by omega⟩, _, _, rfl, rfl, _, 26, rfl, rfl, (by show (0 : Int) < 26; decide), _, _, 97 + (sN + tN * (i / 2)) % 26, rfl, rfl, (by show 26 ≤ sizeLine; decide), (by rw [ek]; exact let_at hk), ?_⟩
      refine ⟨_, rfl, .inl ⟨rfl, _, .inl (.inl gq)⟩, _, rfl, (by show 3 ≤ sizeLine; decide), fun L' nL' => ?_⟩
      refine ⟨_, rfl, 0 + (i : Int), 2, rfl, rfl, (by show (0 : Int) < 2; decide), _, rfl, (sN : Int), 2, rfl, rfl, (by show (0 : Int) < 2; decide), 1, _, rfl, rfl, _, _, rfl, rfl, .inl ⟨by omega, by omega⟩, ?_⟩
      have esf : atI [V.str "", V.str "a", V.str "zz"] ((0 + (i : Int)) % 2 * (1 + (sN : Int) % 2)) = some (.str (sfx sN i)) := by
        unfold sfx
        rcases (by omega : i % 2 = 0 ∨ i % 2 = 1) with e | e
        · rw [show (0 + (i : Int)) % 2 = 0 by omega, Int.zero_mul, if_pos e]
          rfl
        · rw [show (0 + (i : Int)) % 2 = 1 by omega, Int.one_mul, if_neg (by omega)]
          rcases (by omega : sN % 2 = 0 ∨ sN % 2 = 1) with e2 | e2
          · rw [show (1 + (sN : Int) % 2) = 1 by omega, if_pos e2]
            rfl
          · rw [show (1 + (sN : Int) % 2) = 2 by omega, if_neg (by omega)]
            rfl
      have gq' : (upd G' L' (.lst [.str "", .str "a", .str "zz"])) q0 = some (.lst (((List.range i).map (nm sN tN)).map V.str)) := by rw [upd_ne (ne_of_none gq nL')]; exact gq
      refine ⟨L', _, _, _, rfl, rfl, .inl (.inl upd_same), esf, _, _, rfl, rfl, ?_, q0, _, _, rfl, rfl, gq', ?_, ?_⟩
      · have h2 : (sfx sN i).length ≤ 2 := by
          unfold sfx
          split
          · decide
          · split <;> decide
        have h1 : (⟨#[97 + (sN + tN * (i / 2)) % 26]⟩ : Str).length = 1 := rfl
        rw [h1]
        exact Nat.le_trans (Nat.add_le_add_left h2 1) (by decide)
      · rw [List.length_map, List.length_map, List.length_range]
        exact small1000 (by omega)
      · refine ⟨_, _, rfl, ?_, ?_, fun c u e hc => ?_⟩
        · rw [upd_ne nqb.symm, upd_ne (ne_of_none gb nL')]
          exact gb
        · rw [upd_same, nm_eq, List.range_succ, List.map_append, List.map_append]
          rfl
        · rw [upd_ne (ne_of_none e nq0)]
          exact (same_new nL') _ _ (go c u e hc)
    · obtain ⟨v7, v8, rfl, gb, gq, go⟩ := hP
      refine ⟨_, rfl, _, rfl, b, q0, o3, n + 1 + 1 + 1, _, rfl, gb, hB3, ?_, nqb, .inl (.inl (.inl gq)), ?_, fun H' p ys o' np' hp' hperm hb' hB' off' => ?_⟩
      · rw [List.length_map, List.length_map, List.length_range]
        omega
      · rw [List.length_map, List.length_map, List.length_range]
        omega
      · obtain ⟨zs, rfl, hz⟩ := perm_strs hperm
        have hlen := hz.length_eq
        rw [List.length_map, List.length_range] at hlen
        have npH : H p = none := by
          cases e : H p with
          | none => rfl
          | some u =>
            by_cases hpb : p = b
            · rw [hpb, gb] at np'
              cases np'
            · rw [go p u e hpb] at np'
              cases np'
        refine q H' p zs o' npH hp' (hz.nodup_iff.mpr (nm_nodup hsN ht hrN)) (by omega) (by omega) (fun z hzz => ?_) hb' (hB'.mono ?_) (go.trans off')
        · obtain ⟨i, _, e⟩ := List.mem_map.mp (hz.mem_iff.mp hzz)
          rw [← e]
          exact nm_nm _ _ _
        · rw [List.length_map, List.length_map, List.length_range]
          omega
end
end Kn
namespace Kn
open PySem PySem.Spec PyProof.Rows L2
/-! a tuple known not to have a dict of its own: its methods -/
def TupD (H : Hp) (a : Addr) (xs : List V) : Prop := ∃ o, H a = some (.frz o (.tup xs)) ∧ o.cls = .type "tuple" ∧ o.dict = none
theorem TupD.sq {K : PySem.W.Frag} {H : Hp} {a : Addr} {xs : List V} (h : TupD H a xs) : SqT K H a xs := let ⟨o, e, _⟩ := h; .inl (.inr ⟨o, e⟩)
theorem TupD.same {H H' : Hp} {a : Addr} {xs : List V} (s : Same H H') (h : TupD H a xs) : TupD H' a xs := let ⟨o, e, r⟩ := h; ⟨o, s _ _ e, r⟩
theorem TupD.off {H H' : Hp} {a b : Addr} {xs : List V} (s : Off b H H') (n : a ≠ b) (h : TupD H a xs) : TupD H' a xs := let ⟨o, e, r⟩ := h; ⟨o, s _ _ e n, r⟩
section
variable {X : Cx}
theorem cr_tupD : CallR X (.type "tuple") (fun xs H Q => ∃ p ys, xs = [.ref p] ∧ SqL X.K H p ys ∧ ∀ l o, H l = none → o.cls = .type "tuple" → o.dict = none → Q (.ref l) (upd H l (.frz o (.tup ys)))) := by
  intro pins s σ H xs us Q I r h
  obtain ⟨p, ys, rfl, hq, q⟩ := h
  obtain ⟨u, rfl, rx⟩ := vals1 r
  cases rx
  obtain ⟨its, r', pl, hz⟩ := I.list hq
  have hlen := r'.length
  refine call_tuple_list pl.isList (fun h' kp => ?_) (by simp only [List.size_toArray] <;> omega)
  have J : Inv X pins σ H { s with heap := h' } := I.kept (t' := s.toks) kp
  refine ⟨.ref h'.objs.size, _, J.laid (t' := s.toks) (o := .frz { cls := .type "tuple", data := .seq its.toArray } (.tup ys)) (fun b o e => Heap.get?_push_of_some _ e) (Nat.le_refl _) ?_, rfl, q _ _ (J.hok.fresh (Nat.le_refl _)) rfl rfl⟩
  exact ⟨Heap.get?_push_size _ rfl, hz, its, r', IsTup.new _ _⟩
def tBT (r : V → List V → Hp → VK → Prop) (to : TE) (t : TA) : TE := fun σ H Q => to σ H fun x H1 => (∃ a xs, x = .ref a ∧ TupD H1 a xs) ∧ t σ H1 fun xs H2 => r x xs H2 Q
theorem pe_bmT {o e : Expr} {es : List Expr} {to : TE} {t : TA} {name : Str} {apos cpos : Pos} {id : String} {r : V → List V → Hp → VK → Prop} (slot : Slot "tuple" name id) (hty : typeOf (.builtin id) = pure (.type "method_descriptor")) (hm : MtR X id r) (ho : PE X o to) (ha : PA X (e :: es) t)
    (hbase : attributeBase o name X.env (eval o X.env) = eval o X.env := by rfl)
    (hfew : ((backTo cpos (starEach (e :: es) X.env)).all (fun x => !x.1) && (backToKw cpos (keywordEach [] X.env)).all (fun x => x.1.isSome) && decide ((e :: es).length + ([] : List Keyword).length + (if ([] : List Keyword).isEmpty then 0 else 1) < 30)) = true := by rfl)
    (hline : (apos.endLine == cpos.line) = true := by rfl) (hs : starEach (e :: es) X.env = (false, eval e X.env) :: starEach es X.env := by rfl) (hplain : (backTo cpos (starEach es X.env)).any (·.1) = false := by rfl) :
    PE X (.Call (.Attribute o name apos) (e :: es) [] cpos) (tBT r to t) := by
  refine ⟨fun pins s σ H Q I h => ?_⟩
  refine wpAny_Call_method_late hbase hfew hline rfl (thn (ho.run pins s σ H _ I h) fun v s1 ⟨x, H1, I1, r1, ⟨a, xs, ex, ob, hob, hc, hd⟩, q1⟩ => ?_)
  subst ex
  cases r1
  obtain ⟨hget, _⟩ := I1.hok a _ hob
  refine ⟨"tuple", id, PySem.F.plainAttrs_tuple, slot, hty, ⟨ob, hget, hc⟩, fun c ec => by cases ec; exact ⟨ob, hget, hd⟩, ?_⟩
  have hA := ha.run cpos pins s1 σ H1 _ I1 q1
  rw [hs] at hA ⊢
  refine Calls.callWith_builtin (by show (false || (backTo cpos (starEach es X.env)).any (·.1)) = false; rw [hplain] <;> rfl) (Calls.evalArgs_plain ?_)
  exact thn hA fun us s2 ⟨vs, H2, I2, r2, q2⟩ => hm pins s2 σ H2 (.ref a) vs _ us Q I2 rfl r2 q2
/-! a dict comprehension over a walk -/
theorem dc_it {J : It} {n : Nat} {G : Hp → Prop} {Y : Nat → Hp → V → Hp → Prop} (wk : Walk J n G Y) {g : TG} {tt : TT} {tk tv : TE} {vs : List Nat} {σ : L2.St} {H1 : Hp} {D : Addr} {Qd : Hp → Prop} (Pv : Nat → Hp → Prop) (h0 : Pv 0 (upd H1 D (.dK []))) (hG : ∀ i H, i ≤ n → Pv i H → G H)
    (hs : ∀ i x H H', i < n → Pv i H → Y i H x H' → g x (wipe σ vs) H' fun σ2 H2 => wipe σ2 vs = wipe σ vs ∧ tt σ2 H2 fun b H3 =>
      if b = true then tk σ2 H3 fun y H4 => tv σ2 H4 fun z H5 => ∃ kvs k, y = kV k ∧ H5 D = some (.dK kvs) ∧ kvs.length < sizeLine ∧ Pv (i + 1) (upd H5 D (.dK (putK kvs k z))) else Pv (i + 1) H3) (hd : ∀ H, Pv n H → Qd H) :
    ∃ W : Nat → Nat → Hp → Prop, (∃ m, W 0 m (upd H1 D (.dK []))) ∧ ∀ i m H, W i m H →
      (J.stop i H ∧ Qd H) ∨ (J.go i H ∧ ∃ Nx : Hp → Prop, (∀ H', Nx H' → ∃ m', m' < m ∧ W (i + 1) m' H') ∧ ∀ x H', J.yld i H x H' → g x (wipe σ vs) H' fun σ2 H2 => wipe σ2 vs = wipe σ vs ∧ tt σ2 H2 fun b H3 =>
        if b = true then tk σ2 H3 fun y H4 => tv σ2 H4 fun z H5 => ∃ kvs k, y = kV k ∧ H5 D = some (.dK kvs) ∧ kvs.length < sizeLine ∧ Nx (upd H5 D (.dK (putK kvs k z))) else Nx H3) := by
  refine ⟨fun i m H => m = n - i ∧ i ≤ n ∧ Pv i H, ⟨n, by simp, Nat.zero_le _, h0⟩, ?_⟩
  rintro i m H ⟨rfl, hi, p⟩
  have q := hG i H hi p
  by_cases hlt : i < n
  · exact .inr ⟨wk.goes i H hlt q, Pv (i + 1), fun H' p' => ⟨n - (i + 1), by omega, rfl, hlt, p'⟩, fun x H' y => hs i x H H' hlt p (wk.yields i H x H' hlt q y)⟩
  · obtain rfl : i = n := by omega
    exact .inl ⟨wk.stops H q, hd H p⟩
/-! two sorted lists of the same texts -/
theorem str_ext {a b : Str} (h : a.cps.toList = b.cps.toList) : a = b := by
  cases a with | mk x => cases b with | mk y => exact congrArg Str.mk (Array.toList_inj.mp h)
theorem rising_pw : ∀ (l : List Str) (p : Str), risingS p l = true → (p :: l).Pairwise (fun a b => a.cps.toList ≤ b.cps.toList)
  | [], p, _ => List.pairwise_singleton _ _
  | x :: r, p, h => by
    unfold risingS at h
    rw [Bool.and_eq_true] at h
    have h1 : p.cps.toList ≤ x.cps.toList := by
      rw [ltCps_eq] at h
      exact List.not_lt.mp (by simpa using h.1)
    have ih := rising_pw r x h.2
    refine List.pairwise_cons.mpr ⟨fun y hy => ?_, ih⟩
    rcases List.mem_cons.mp hy with e | e
    · rw [e]; exact h1
    · exact List.le_trans h1 ((List.pairwise_cons.mp ih).1 y e)
theorem sorted_pw : ∀ {l : List Str}, sortedS l = true → l.Pairwise (fun a b => a.cps.toList ≤ b.cps.toList)
  | [], _ => .nil
  | x :: r, h => rising_pw r x h
theorem sorted_one {a b : List Str} (hp : a.Perm b) (ha : sortedS a = true) (hb : sortedS b = true) : a = b :=
  List.Perm.eq_of_pairwise (fun x y _ _ h1 h2 => str_ext (List.le_antisymm h1 h2)) (sorted_pw ha) (sorted_pw hb) hp
end
end Kn
namespace Kn
open PySem PySem.Spec PyProof.Rows L2
/-! how many unlike ones there are -/
def dcs : List Str → List Str → Nat → Nat
  | _, [], c => c
  | seen, x :: r, c => dcs (seen ++ [x]) r (if x ∈ seen then c else c + 1)
theorem dcs_le : ∀ (r seen : List Str) (c : Nat), dcs seen r c ≤ c + r.length
  | [], _, _ => Nat.le_refl _
  | x :: r, seen, c => by
    unfold dcs
    have := dcs_le r (seen ++ [x]) (if x ∈ seen then c else c + 1)
    have h2 : (if x ∈ seen then c else c + 1) ≤ c + 1 := by split <;> omega
    rw [List.length_cons]
    omega
theorem dcs_eq : ∀ (r seen : List Str) (c : Nat), dcs seen r c = c + r.length ↔ (∀ x ∈ r, x ∉ seen) ∧ r.Nodup
  | [], seen, c => by
    unfold dcs
    simp
  | x :: r, seen, c => by
    unfold dcs
    by_cases hx : x ∈ seen
    · rw [if_pos hx]
      have := dcs_le r (seen ++ [x]) c
      constructor
      · intro h
        rw [List.length_cons] at h
        omega
      · intro h
        exact absurd hx (h.1 x List.mem_cons_self)
    · rw [if_neg hx]
      have ih := dcs_eq r (seen ++ [x]) (c + 1)
      rw [List.length_cons, show c + (r.length + 1) = c + 1 + r.length by omega, ih, List.nodup_cons]
      constructor
      · rintro ⟨h1, h2⟩
        refine ⟨fun y hy hs => ?_, fun hm => h1 x hm (List.mem_append_right _ (List.mem_singleton.mpr rfl)), h2⟩
        rcases List.mem_cons.mp hy with e | e
        · exact hx (e ▸ hs)
        · exact h1 y e (List.mem_append_left _ hs)
      · rintro ⟨h1, h2, h3⟩
        refine ⟨fun y hy hs => ?_, h3⟩
        rcases List.mem_append.mp hs with e | e
        · exact h1 y (List.mem_cons_of_mem _ hy) e
        · rw [List.mem_singleton] at e
          exact h2 (e ▸ hy)
theorem dcs_nodup (xs : List Str) : decide (dcs [] xs 0 = xs.length) = decide xs.Nodup := by
  rw [decide_eq_decide]
  have := dcs_eq xs [] 0
  rw [Nat.zero_add] at this
  rw [this]
  simp
/-! sets of texts whose tables can be walked -/
def Tab (w : World) (h : Heap) (a : Addr) (es : List (Int × Value)) : Prop :=
  ∃ o arr ep t, h.get? a = some o ∧ o.ExactSet ∧ o.data = .set arr ep t ∧ arr.toList.Perm es ∧ arr.size < scanBound ∧ t.fits arr.size = true ∧ Ris t.place.toList ∧ (w.params.followText "set-order" = true ∨ t.led = true)
theorem Tab.at {w : World} {h h' : Heap} {a : Addr} {es : List (Int × Value)} (T : Tab w h a es) (k : ∀ o, h.get? a = some o → h'.get? a = some o) : Tab w h' a es := by
  obtain ⟨o, arr, ep, t, ho, r⟩ := T
  exact ⟨o, arr, ep, t, k o ho, r⟩
def txK (e : Int × Value) : Str := match e.2 with | .str k _ => k | _ => ""
def TxE (P : Program) (w : World) (e : Int × Value) : Prop := ∃ k tk, e.2 = .str k tk ∧ e.1 = (PySem.strKind P w).hash k
section
variable {P : Program} {w : World} {A : Around} {E : Value → Shared → Prop} {s : Shared} {a : Addr}
theorem txE_elems {l : List (Int × Value)} (g : ∀ e ∈ l, TxE P w e) : ElemsOf (PySem.strKind P w) l := fun e he => by
  obtain ⟨k, tk, q1, q2⟩ := g e he
  exact ⟨⟨k, by rw [q1]; exact strKind_is _ _ _ _, q2⟩, by rw [q1]; rfl⟩
theorem txE_is {e : Int × Value} (g : TxE P w e) (k : Str) : (PySem.strKind P w).is k e.2 = true ↔ txK e = k := by
  obtain ⟨k0, tk, q1, _⟩ := g
  unfold txK
  rw [q1]
  show (k0 == k) = true ↔ k0 = k
  exact beq_iff_eq
theorem tab_put {arr arr' : Array (Int × Value)} {ep : Nat} {t t' : SetTable} {o : Obj} {es : List (Int × Value)} {h : Heap} (ho : h.get? a = some o) (hx : o.ExactSet) (hd : o.data = .set arr ep t)
    (p : arr'.toList.Perm es) (hb : arr'.size < scanBound) (hf : t'.fits arr'.size = true) (hr : Ris t'.place.toList) (hl : w.params.followText "set-order" = true ∨ t'.led = true) : Tab w (h.update a (Obj.putSet arr' t')) a es :=
  ⟨_, arr', _, t', store_at ho hd, hx, rfl, p, hb, hf, hr, hl⟩
theorem tab_tail {g : Bool → Sem Unit} (hg : ∀ (b : Bool) (s₁ : Shared) (Q' : Unit → Shared → Prop), Q' () s₁ → wpAny (model P w) A (g b) Q' E s₁) {o : Obj} {arr arr1 : Array (Int × Value)} {ep : Nat} {t t2 : SetTable} {es : List (Int × Value)} {dm : Bool} {R : Option Bool → Shared → Prop}
    (ho : s.heap.get? a = some o) (hx : o.ExactSet) (hd : o.data = .set arr ep t) (p : arr1.toList.Perm es) (hb : arr1.size < scanBound) (hf : t2.fits arr1.size = true) (hr : Ris t2.place.toList) (hl : w.params.followText "set-order" = true ∨ t2.led = true)
    (hR : ∀ h', Heap.SameBut a s.heap h' → Tab w h' a es → R (some true) { s with heap := h' }) :
    wpAny (model P w) A (do
        storeSet a arr1 t2
        if (!dm && t2.tooFull) = true then do
            g (relayAll t2 arr1 (SetTable.grown arr1.size)).2.2
            storeSet a (relayAll t2 arr1 (SetTable.grown arr1.size)).1 (relayAll t2 arr1 (SetTable.grown arr1.size)).2.1
            pure (some true)
          else pure (some true)) R E s := by
  refine wpAny_bind (wpAny_storeSet_of ho hd ?_ (fits_of_scanBound hb))
  have sb1 := Heap.SameBut.update s.heap a (Obj.putSet arr1 t2)
  by_cases hfull : (!dm && t2.tooFull) = true
  · rw [if_pos hfull]
    have q1 := relayAll_perm t2 arr1 (SetTable.grown arr1.size)
    have q2 := relayAll_fits t2 arr1 (SetTable.grown arr1.size)
    have q3 := relayAll_ris t2 arr1 (SetTable.grown arr1.size)
    have q4 := relayAll_led t2 arr1 (SetTable.grown arr1.size)
    generalize relayAll t2 arr1 (SetTable.grown arr1.size) = Z at q1 q2 q3 q4 ⊢
    obtain ⟨arr2, t3, gv⟩ := Z
    have hz : arr2.size = arr1.size := by rw [← Array.length_toList, List.Perm.length_eq q1, Array.length_toList]
    refine wpAny_bind (hg _ _ _ ?_)
    have ho1 := store_at (es' := arr1) (t' := t2) ho hd
    refine wpAny_bind (wpAny_storeSet_of ho1 rfl ?_ (fits_of_scanBound (by rw [hz]; exact hb)))
    exact wpAny_pure (hR _ (sb1.trans (Heap.SameBut.update _ a _)) (tab_put ho1 hx rfl (List.Perm.trans q1 p) (by rw [hz]; exact hb) q2 q3 (hl.imp id fun z => q4.trans z)))
  · rw [if_neg hfull]
    exact wpAny_pure (hR _ sb1 (tab_put ho hx hd p hb hf hr hl))
theorem tab_add {k : Str} {tk : Tok} {es : List (Int × Value)} {Q : Bool → Shared → Prop} (T : Tab w s.heap a es) (g : ∀ e ∈ es, TxE P w e) (room : es.length + 1 < scanBound)
    (hQ : ∀ h', Heap.SameBut a s.heap h' → Tab w h' a (if k ∈ es.map txK then es else ((PySem.strKind P w).hash k, .str k tk) :: es) → Q (!decide (k ∈ es.map txK)) { s with heap := h' }) :
    wpAny (model P w) A (setAddHashed a (.str k tk) ((PySem.strKind P w).hash k)) Q E s := by
  obtain ⟨o, arr, ep, t, ho, hx, hd, hp, hb, hf, hr, hl⟩ := T
  have ga : ∀ e ∈ arr.toList, TxE P w e := fun e he => g e (hp.mem_iff.mp he)
  have hel := txE_elems ga
  have hsc : (Value.str k tk).scannable = true := rfl
  unfold setAddHashed setAddHashedIn
  refine wpAny_holding (wpAny_bind (wpAny_setState_of ho hd hf ?_))
  dsimp only
  rw [byScan_of hsc hb hel]
  simp only [↓reduceIte]
  unfold setAddByScan
  refine wpAny_bind (wpAny_bind (wpAny_rule (wpAny_bind (wpAny_setScan_of (strKind_is _ _ k tk) ho hd hf hel ?_))))
  cases hfi : List.findIdx? (fun e => (PySem.strKind P w).is k e.2) arr.toList with
  | some j =>
    obtain ⟨hj, pj, _⟩ := List.findIdx?_eq_some_iff_getElem.mp hfi
    have hk : k ∈ es.map txK := (hp.map txK).mem_iff.mp (List.mem_map.mpr ⟨arr.toList[j], List.getElem_mem hj, (txE_is (ga _ (List.getElem_mem hj)) k).mp pj⟩)
    have q := hQ s.heap (Heap.SameBut.refl a s.heap)
    rw [if_pos hk, decide_eq_true hk] at q
    exact wpAny_pure (wpAny_pure (q ⟨o, arr, ep, t, ho, hx, hd, hp, hb, hf, hr, hl⟩))
  | none =>
    have hk : k ∉ es.map txK := fun z => by
      obtain ⟨e, he, e2⟩ := List.mem_map.mp ((hp.map txK).mem_iff.mpr z)
      have c := List.findIdx?_eq_none_iff.mp hfi e he
      rw [(txE_is (ga e he) k).mpr e2] at c
      cases c
    have q := hQ
    rw [if_neg hk, decide_eq_false hk] at q
    have q1 := layNew_perm t arr ((PySem.strKind P w).hash k) (.str k tk)
    have q2 := layNew_fits t arr ((PySem.strKind P w).hash k) (.str k tk)
    have q3 := layNew_ris t arr ((PySem.strKind P w).hash k) (.str k tk) hr
    have q4 := layNew_led t arr ((PySem.strKind P w).hash k) (.str k tk)
    dsimp only
    generalize layNew t arr ((PySem.strKind P w).hash k) (.str k tk) = Z at q1 q2 q3 q4 ⊢
    obtain ⟨arr1, t1, dm, gv⟩ := Z
    dsimp only at q1 q2 q3 q4 ⊢
    rw [Array.toList_push] at q1
    have pc : arr1.toList.Perm (((PySem.strKind P w).hash k, .str k tk) :: es) := (List.Perm.trans q1 (List.perm_append_singleton _ _)).trans (hp.cons _)
    have hz : arr1.size < scanBound := by rw [← Array.length_toList, pc.length_eq]; exact room
    have hld : w.params.followText "set-order" = true ∨ t1.led = true := hl.imp id fun z => q4.trans z
    have rl : ∀ (b : Bool) (s₁ : Shared) (Q' : Unit → Shared → Prop), Q' () s₁ → wpAny (model P w) A (match b with | true => rule "set.scan.the-table-gave-way" | false => pure ()) Q' E s₁ :=
      fun b s₁ Q' z => by cases b <;> first | exact wpAny_pure z | exact wpAny_rule z
    refine wpAny_bind (rl _ _ _ ?_)
    split
    · refine wpAny_bind ?_
      rw [hashByValue_scannable 8 hsc]
      refine wpAny_pure (tab_tail ?_ ho hx hd pc hz ?_ ?_ ?_ ?_)
      · intro b s₁ Q' z; cases b <;> first | exact wpAny_pure z | exact wpAny_rule z
      · first | (split <;> first | exact q2 | exact SetTable.fits_plain_off q2) | exact q2
      · first | (split <;> exact q3) | exact q3
      · first | (split <;> exact hld) | exact hld
      · exact fun h' sb r => wpAny_pure (q h' sb r)
    · refine wpAny_bind (wpAny_pure ?_)
      simp only [↓reduceIte]
      refine tab_tail ?_ ho hx hd pc hz q2 q3 hld fun h' sb r => wpAny_pure (q h' sb r)
      intro b s₁ Q' z; cases b <;> first | exact wpAny_pure z | exact wpAny_rule z
/-- a set being filled: its entries are texts, unlike, those of ks -/
structure Fill (P : Program) (w : World) (h : Heap) (S : Addr) (es : List (Int × Value)) (ks : List Str) : Prop where
  tab : Tab w h S es
  txt : ∀ e ∈ es, TxE P w e
  uni : (es.map txK).Nodup
  mem : ∀ k, k ∈ es.map txK ↔ k ∈ ks
theorem Fill.moved {h h' : Heap} {S : Addr} {es : List (Int × Value)} {ks : List Str} (F : Fill P w h S es ks) (k : ∀ o, h.get? S = some o → h'.get? S = some o) : Fill P w h' S es ks := ⟨F.tab.at k, F.txt, F.uni, F.mem⟩
theorem Fill.more {h : Heap} {S : Addr} {es : List (Int × Value)} {ks : List Str} {x : Str} {t : Tok} {h' : Heap} (F : Fill P w h S es ks) (T : Tab w h' S (if x ∈ es.map txK then es else ((PySem.strKind P w).hash x, .str x t) :: es)) :
    ∃ es', Fill P w h' S es' (ks ++ [x]) ∧ es'.length = (if x ∈ ks then es.length else es.length + 1) := by
  by_cases hx : x ∈ es.map txK
  · rw [if_pos hx] at T
    refine ⟨es, ⟨T, F.txt, F.uni, fun k => ?_⟩, by rw [if_pos ((F.mem x).mp hx)]⟩
    rw [F.mem k, List.mem_append, List.mem_singleton]
    exact ⟨.inl, fun q => q.elim id fun q => by rw [q]; exact (F.mem x).mp hx⟩
  · rw [if_neg hx] at T
    refine ⟨_, ⟨T, fun e he => ?_, List.nodup_cons.mpr ⟨hx, F.uni⟩, fun k => ?_⟩, by rw [if_neg fun q => hx ((F.mem x).mpr q)]; rfl⟩
    · rcases List.mem_cons.mp he with q | q
      · rw [q]; exact ⟨x, t, rfl, rfl⟩
      · exact F.txt e q
    · rw [List.map_cons, List.mem_cons, F.mem k, List.mem_append, List.mem_singleton]
      exact Or.comm
end
section
variable {P : Program} {w : World} {A : Around} {R : Result → Shared → Prop} {I : Addr} {fp wr : List Addr} {G : Array GenState → Array GenState → Prop} {n : Nat} {Pv : Nat → Value → Prop} {St : Nat → Shared → Prop}
theorem fill_loop (W : WalksS P w A.in1 I fp wr G n Pv St) {S : Addr} (off : S ∉ fp) {xs : List Str} (len : xs.length = n) (few : n ≤ 4000) (isx : ∀ i v, Pv i v → ∃ x t, xs[i]? = some x ∧ v = .str x t) :
    ∀ (r : List Str) (i : Nat) (s : Shared) (es : List (Int × Value)), xs.drop i = r → i ≤ n → St i s → Fill P w s.heap S es (xs.take i) → es.length ≤ i →
      (∀ s' es', Moved (S :: wr) G s s' → Fill P w s'.heap S es' xs → es'.length = dcs (xs.take i) r es.length → R (.ok (.ret .none)) s') → codeAny (model P w) A (.builtin "set.update.loop" ⟨[.ref S, .ref I], []⟩) R s
  | [], i, s, es, hd, hi, st, F, hl, fin => by
    have ei : i = n := by
      have := congrArg List.length hd
      rw [List.length_drop, List.length_nil] at this
      omega
    subst ei
    have et : xs.take i = xs := by rw [← len, List.take_length]
    refine codeAny_builtin PyProof.Rows.F.entry_set_update_loop ?_
    rw [Around.under_plainId PyProof.Rows.F.plain_set_update_loop]
    refine wpAny_bind (W.done s _ _ st fun s' mv => wpAny_pure (fin s' es ⟨fun b o nb e => mv.heap b o (fun z => nb (List.mem_cons_of_mem _ z)) e, mv.gens, mv.drawn, mv.os, mv.toks⟩ ?_ rfl))
    have := F.moved fun o e => mv.heap S o (fun z => off (W.sub S z)) e
    rw [et] at this
    exact this
  | x :: r, i, s, es, hd, hi, st, F, hl, fin => by
    have lt : i < n := by
      have := congrArg List.length hd
      rw [List.length_drop, List.length_cons] at this
      omega
    have hx : xs[i]? = some x := by
      have := congrArg List.head? hd
      rw [List.head?_drop] at this
      exact this
    have hd' : xs.drop (i + 1) = r := by
      have := congrArg List.tail hd
      rw [List.tail_drop] at this
      exact this
    have et : xs.take (i + 1) = xs.take i ++ [x] := by rw [List.take_add_one, hx]; rfl
    refine codeAny_builtin PyProof.Rows.F.entry_set_update_loop ?_
    rw [Around.under_plainId PyProof.Rows.F.plain_set_update_loop]
    refine wpAny_bind (W.item i s _ _ lt st fun v s1 pv st1 mv => ?_)
    obtain ⟨x', t, hx', rfl⟩ := isx i v pv
    rw [hx] at hx'
    obtain rfl : x = x' := Option.some.inj hx'
    have F1 := F.moved fun o e => mv.heap S o (fun z => off (W.sub S z)) e
    show wpAny _ A.in1 (holding [Value.str x t] (setAdd S (.str x t)) >>= _) _ _ s1
    unfold setAdd
    refine wpAny_bind (wpAny_holding (wpAny_holding (wpAny_bind ((PySem.strKind P w).pyHash (k := x) (strKind_is _ _ _ _) ?_))))
    refine tab_add (s := { s1 with toks := s1.toks + 1 }) F1.tab F1.txt (by unfold scanBound; omega) fun h2 sb T => ?_
    obtain ⟨es2, F2, l2⟩ := F1.more T
    rw [← et] at F2
    have keep : ∀ b, b ≠ S → ∀ o, s1.heap.get? b = some o → h2.get? b = some o := fun b nb o e => (sb.2 b nb).trans e
    refine wpAny_pure ⟨plainId_quiet PyProof.Rows.F.plain_set_update_loop _, fill_loop W off len few isx r (i + 1) _ es2 hd' lt (W.frame _ s1 _ _ st1 (Nat.le_succ _) fun b hb o e => keep b (fun z => off (z ▸ hb)) o e) F2 (by rw [l2]; split <;> omega) fun s3 es3 mv3 F3 l3 => fin s3 es3 ⟨fun b o nb e => ?_, ?_, ?_, ?_, ?_⟩ F3 ?_⟩
    · exact mv3.heap b o nb (keep b (fun z => nb (by rw [z]; exact List.mem_cons_self)) o (mv.heap b o (fun z => nb (List.mem_cons_of_mem _ z)) e))
    · exact W.gtrans _ _ _ mv.gens mv3.gens
    · exact mv3.drawn.trans mv.drawn
    · exact mv3.os.trans mv.os
    · exact Nat.le_trans mv.toks (Nat.le_trans (Nat.le_succ _) mv3.toks)
    · rw [l3, l2, et]
      rfl
end
section
variable {P : Program} {w : World} {A : Around} {E : Value → Shared → Prop} {s : Shared}
abbrev setNew (w : World) (h : Heap) : Heap := h.push { cls := .type "set", dict := none, data := .set #[] 0 (.fresh 0 0 (!w.params.followText "set-order")) }
/-- set(v): the new set, then __init__ -/
theorem set_call {v : Value} {Q : Value → Shared → Prop}
    (init : codeAny (model P w) A.in1 (.call (.builtin "set.__init__") ⟨[.ref s.heap.objs.size, v], []⟩) (wants (fun r s₂ => r = .none ∧ Q (.ref s.heap.objs.size) s₂) E) { s with heap := setNew w s.heap }) :
    wpAny (model P w) A (call (.type "set") [v]) Q E s := by
  have ft := PySem.F.called_set
  obtain ⟨c0, tl0, m0⟩ := ft.mro
  have m1 := ft.made; have m2 := ft.sub; have m3 := ft.notType; have m4 := ft.canCreate; have m5 := PySem.F.typeCall_set_1 v
  refine wpAny_call (codeAny_of_tree (show wpAny _ _ (callAny (.type "set") _) _ _ _ from wpAny_pure ⟨Code.quiet_builtin _ (by decide +kernel), codeAny_builtin PySem.F.entry_type_call ?_⟩))
  rw [Around.under_plain (weight_type_call_type "set" [v] []) rfl]
  repeat (any_goals (first | assumption | wp_step))
  refine codeAny_mono (code_set_led1 v (E := E) (Q₁ := fun x s₁ => x = .ref s.heap.objs.size ∧ s₁ = { s with heap := setNew w s.heap }) ⟨rfl, rfl⟩) fun r1 s1 h1 => ?_
  match r1, h1 with
  | .error _, h1 => exact h1
  | .ok (.ret x), h1 =>
    obtain ⟨ex, es⟩ := h1
    subst ex; subst es
    have n1 := ft.init.lookup; have n2 := ft.init.bind (.ref s.heap.objs.size)
    have n3 : Shared.TypeIs { s with heap := setNew w s.heap } (.ref s.heap.objs.size) "set" := ⟨_, Heap.get?_push_size _ rfl, rfl⟩
    repeat (any_goals (first | assumption | wp_step))
    refine codeAny_mono init fun r2 s2 h2 => ?_
    match r2, h2 with
    | .error _, h2 => exact h2
    | .ok (.ret y), h2 =>
      obtain ⟨ey, hq⟩ := h2
      subst ey
      repeat (any_goals (first | assumption | wp_step))
    | .ok .next, h2 => exact h2.elim
    | .ok .brk, h2 => exact h2.elim
    | .ok .cont, h2 => exact h2.elim
  | .ok .next, h1 => exact h1.elim
  | .ok .brk, h1 => exact h1.elim
  | .ok .cont, h1 => exact h1.elim
set_option maxHeartbeats 3200000 in
/-- set(xs), xs a list or a tuple of texts -/
theorem set_texts {l : Addr} {items : Array Value} {xs : List Str} {Q : Value → Shared → Prop} (hh : A.handled = none) (hl : s.heap.IsTuple l items ∨ s.heap.IsList l items) (tx : StrsAre items.toList xs) (few : xs.length ≤ 4000)
    (fin : ∀ h' tk es, Fill P w h' s.heap.objs.size es xs → es.length = dcs [] xs 0 → (∀ b o, s.heap.get? b = some o → h'.get? b = some o) → Q (.ref s.heap.objs.size) { s with heap := h', toks := tk }) :
    wpAny (model P w) A (call (.type "set") [.ref l]) Q E s := by
  refine set_call ?_
  have new : SetR w (setNew w s.heap) s.heap.objs.size (fun _ => false) 0 := setR_fresh w
  generalize hH : setNew w s.heap = H1 at new ⊢
  have up : ∀ b o, s.heap.get? b = some o → H1.get? b = some o := fun b o e => by rw [← hH]; exact Heap.get?_push_of_some _ e
  have big : H1.objs.size = s.heap.objs.size + 1 := by rw [← hH, Heap.size_push]
  obtain ⟨o, es, ep, t, ho, hx, hd, gE, _, _, hb, hf, hn, hr, hld⟩ := new
  have es0 : es.toList = [] := List.length_eq_zero_iff.mp (by rw [Array.length_toList]; exact hn)
  have F0 : Fill P w H1 s.heap.objs.size [] (xs.take 0) := ⟨⟨o, es, ep, t, ho, hx, hd, by rw [es0], hb, hf, hr, hld⟩, (fun _ h => nomatch h), List.nodup_nil, (fun k => by simp)⟩
  have hT : Shared.TypeIs { s with heap := H1 } (.ref s.heap.objs.size) "set" := ⟨o, ho, hx.1⟩
  have lt : l < s.heap.objs.size := hl.elim (fun ⟨_, q, _⟩ => Heap.lt_size q) (fun ⟨_, q, _⟩ => Heap.lt_size q)
  have nl : l ≠ H1.objs.size := by rw [big]; exact Nat.ne_of_lt (Nat.lt_succ_of_lt lt)
  have off : s.heap.objs.size ∉ [H1.objs.size, l] := by
    rw [big]
    intro h
    rcases List.mem_cons.mp h with q | q
    · exact absurd q (Nat.ne_of_lt (Nat.lt_succ_self _))
    · exact absurd (List.mem_singleton.mp q) (Nat.ne_of_gt lt)
  have len : xs.length = items.size := by rw [← StrsAre.len_eq tx, Array.length_toList]
  have isx : ∀ (i : Nat) (v : Value), items[i]? = some v → ∃ (x : Str) (t : Tok), xs[i]? = some x ∧ v = Value.str x t := fun i v hv => by
    obtain ⟨t, e⟩ := SS.strs_at tx i v (by rw [Array.getElem?_toList]; exact hv)
    have hi : i < xs.length := by rw [len]; exact (Array.getElem?_eq_some_iff.mp hv).1
    exact ⟨_, t, by rw [List.getD_eq_getElem?_getD, List.getElem?_eq_getElem hi]; rfl, e⟩
  refine codeAny_call_builtin PySem.F.called_set.init.plain PySem.F.entry_set_init (check_set_init_1 hT ?_)
  have last : ∀ (St : Nat → Heap → Prop) (H2 : Heap), (∀ b o, H1.get? b = some o → H2.get? b = some o) → Walks P w A.in1.in1.in1 H1.objs.size [H1.objs.size, l] [H1.objs.size] items.size (fun i v => items[i]? = some v) St → St 0 H2 →
      codeAny (model P w) A.in1.in1 (.builtin "set.update.loop" ⟨[.ref s.heap.objs.size, .ref H1.objs.size], []⟩) (fun r s' => r = .ok (.ret .none) ∧ ∃ h' tk, s' = { s with heap := h', toks := tk } ∧ Q (.ref s.heap.objs.size) s') { s with heap := H2 } := fun St H2 kp W st => by
    refine fill_loop W.toS off len (by omega) isx (xs.drop 0) 0 _ [] rfl (Nat.zero_le _) st (F0.moved fun o e => kp _ o e) (Nat.le_refl _) fun s' es' mv F' el => ?_
    obtain ⟨h', g', d', tk', os'⟩ := s'
    obtain rfl : g' = s.gens := mv.gens
    obtain rfl : d' = s.drawn := mv.drawn
    obtain rfl : os' = s.os := mv.os
    refine ⟨rfl, h', tk', rfl, fin h' tk' es' F' (by rw [el]; rfl) fun b o e => mv.heap b o (fun z => ?_) (kp b o (up b o e))⟩
    have hb : b < s.heap.objs.size := Heap.lt_size e
    rcases List.mem_cons.mp z with q | q
    · exact Nat.ne_of_lt hb q
    · rw [List.mem_singleton.mp q, big] at hb
      exact absurd hb (Nat.not_lt.mpr (Nat.le_succ _))
  have hget : H1.get? s.heap.objs.size = some { cls := .type "set", dict := none, data := .set #[] 0 (.fresh 0 0 (!w.params.followText "set-order")) } := by rw [← hH]; exact Heap.get?_push_size _ rfl
  generalize (!w.params.followText "set-order") = led at hget
  have h3 : A.in1.in1.in1.handled = none := by simp [hh]
  rcases hl with hl | hl
  · obtain ⟨ol, hol, hcl, nn, hdl⟩ := hl
    have hol1 := up _ _ hol
    obtain ⟨c1, c2, c3, c4⟩ := ol
    simp only at hcl hdl
    subst hcl; subst hdl
    have g1 := PySem.F.sub_tuple_set; have g2 := PySem.F.sub_tuple_frozenset
    have g3 : (Value.type "tuple" == Value.type "dict") = false := by decide
    have it1 : H1.IsTuple l items := ⟨_, hol1, rfl, nn, rfl⟩
    unfold Builtin.«set.__init__» noKeywords Builtin.Frozenset.updateFrom
    generalize hPI : pyIter = PI
    wp_walk
    subst hPI
    refine wpAny_pyIter_tuple it1 (wpAny_bind (wpAny_runValue ?_))
    refine codeAny_mono (last _ _ (fun b o e => Heap.get?_push_of_some _ e) (Walks.tuple h3 _ l nl items) ⟨⟨_, Heap.get?_push_size _ rfl, rfl, rfl⟩, it1.push _⟩) fun r s' hq => ?_
    obtain ⟨rfl, h', tk, rfl, q⟩ := hq
    exact wpAny_pure (wpAny_pure ⟨rfl, q⟩)
  · obtain ⟨ol, hol, hcl, nn, hdl⟩ := hl
    have hol1 := up _ _ hol
    obtain ⟨c1, c2, c3, c4⟩ := ol
    simp only at hcl hdl
    subst hcl; subst hdl
    have g1 := PySem.F.sub_list_set; have g2 := PySem.F.sub_list_frozenset
    have g3 : (Value.type "list" == Value.type "dict") = false := by decide
    have it1 : H1.IsList l items := ⟨_, hol1, rfl, nn, rfl⟩
    unfold Builtin.«set.__init__» noKeywords Builtin.Frozenset.updateFrom
    generalize hPI : pyIter = PI
    wp_walk
    subst hPI
    refine wpAny_pyIter_list it1 (wpAny_bind (wpAny_runValue ?_))
    refine codeAny_mono (last _ _ (fun b o e => Heap.get?_push_of_some _ e) (Walks.list h3 _ l nl items) ⟨⟨_, Heap.get?_push_size _ rfl, rfl, rfl⟩, it1.push _⟩) fun r s' hq => ?_
    obtain ⟨rfl, h', tk, rfl, q⟩ := hq
    exact wpAny_pure (wpAny_pure ⟨rfl, q⟩)
end
end Kn
namespace Kn
open PySem PySem.Spec PyProof.Rows L2
section
variable {P : Program} {w : World} {A : Around} {E : Value → Shared → Prop} {s : Shared}
theorem txs_of : ∀ (l : List Value), (∀ v ∈ l, ∃ k tk, v = Value.str k tk) → ∃ ks : List Str, StrsAre l ks ∧ ks = l.map fun v => match v with | .str k _ => k | _ => ""
  | [], _ => ⟨[], .nil, rfl⟩
  | v :: l, h => by
    obtain ⟨ks, q1, q2⟩ := txs_of l fun u hu => h u (List.mem_cons_of_mem _ hu)
    obtain ⟨k, tk, rfl⟩ := h v List.mem_cons_self
    exact ⟨k :: ks, .cons k tk q1, by rw [q2]; rfl⟩
/-- sorted(s), s a set of texts, fewer than 64 -/
theorem sorted_fill {a : Addr} {es : List (Int × Value)} {ks : List Str} {Q : Value → Shared → Prop} (hh : A.handled = none) (F : Fill P w s.heap a es ks) (h64 : es.length < 64)
    (fin : ∀ (s' : Shared) (p : Addr) (out : Array Value) (c : Nat) (zs : List Str), (∀ b o, s.heap.get? b = some o → s'.heap.get? b = some o) → s'.gens = s.gens → s'.os = s.os → s.heap.objs.size ≤ p →
      s'.heap.get? p = some (seqObj "list" out c) → StrsAre out.toList zs → sortedS zs = true → zs.Nodup → (∀ k, k ∈ zs ↔ k ∈ ks) → Q (.ref p) s') :
    wpAny (model P w) A (call (.builtin "sorted") [.ref a]) Q E s := by
  obtain ⟨o, arr, ep, t, ho, hx, hd, hp, hb, hf, hr, hl⟩ := F.tab
  refine Calls.call_function_entry kind_sorted plain_sorted entry_sorted (args_sorted1 _) ?_
  unfold Builtin.«sorted»
  refine wpAny_bind (m := checkCount "sorted" 1 1 _) (wpAny_pure (wpAny_bind (collect_set (A := A.in1) hh ⟨o, ho, hx.1, hd⟩ hf hb hr hl fun s1 vs k1 hz g1 o1 pm => ?_)))
  have pe : vs.Perm (es.map (·.2)) := pm.trans (hp.map _)
  have lv : vs.length = es.length := by rw [pe.length_eq, List.length_map]
  obtain ⟨ws, tw, ew⟩ := txs_of vs fun v hv => by
    obtain ⟨e, he, q⟩ := List.mem_map.mp (pe.mem_iff.mp hv)
    obtain ⟨k, tk, q1, _⟩ := F.txt e he
    exact ⟨k, tk, by rw [← q]; exact q1⟩
  have pw : ws.Perm (es.map txK) := by
    rw [ew]
    have := pe.map fun v => match v with | Value.str k _ => k | _ => ""
    rw [List.map_map] at this
    exact this
  refine wpAny_bind (wpAny_newList ?_ (by rw [lv, sizeLine_eq]; omega))
  have hoL : (s1.heap.push (seqObj "list" vs.toArray 0)).get? s1.heap.objs.size = some (seqObj "list" vs.toArray 0) := Heap.get?_push_size _ rfl
  refine wpAny_bind (wpAny_holding (wpAny_call_entry slot_list_sort ⟨_, hoL, rfl⟩ entry_list_sort (list_sort_treeK strKind_oneLt hoL tw.keysOf (fun v₁ v₂ rest e => keyKind_strs (by rw [← e]; exact tw)) (by rw [lv]; exact h64) fun st' a1 a2 => ⟨_, rfl, ?_⟩) (args_list_sort _)))
  obtain ⟨zs, z1, z2, z3⟩ := sorted_out_str tw a1 a2
  obtain ⟨c, hc⟩ := sortedHeap_at (vs := vs) (out := (arrOf st').map (·.2)) hoL
  have pz : zs.Perm (es.map txK) := z2.trans pw
  refine wpAny_pure ⟨_, rfl, fin _ s1.heap.objs.size _ c zs (fun b u e => ?_) g1 o1 hz hc z1 z3 (pz.nodup_iff.mpr F.uni) fun k => by rw [pz.mem_iff, F.mem k]⟩
  have q := k1 b u e
  have lt := Heap.lt_size q
  show (sortedHeap (s1.heap.push (seqObj "list" vs.toArray 0)) s1.heap.objs.size vs _).get? b = some u
  rw [sortedHeap_old (Nat.ne_of_lt lt) (by rw [size_push']; exact Nat.lt_succ_of_lt lt)]
  exact Heap.get?_push_of_some _ q
end
section
variable {X : Cx}
/-- len(set(t)) -/
def tLenS (K : PySem.W.Frag) (ta : TE) : TE := fun σ H Q => ta σ H fun x H1 => ∃ (l : Addr) (xs : List Str), x = .ref l ∧ SqT K H1 l (xs.map V.str) ∧ xs.length ≤ 4000 ∧ Q (.int ((dcs [] xs 0 : Nat) : Int)) H1
theorem pe_lenS {a : Expr} {ta : TE} {p p2 q pos : Pos} (hc : X.calm = true) (hg : Gl X "len") (hm : X.mg "len" = none) (hg2 : Gl X "set") (hm2 : X.mg "set" = none) (ha : PE X a ta)
    (na : starEach [a] X.env = (false, eval a X.env) :: starEach [] X.env := by rfl) : PE X (.Call (.Name "len" p) [.Call (.Name "set" p2) [a] [] q] [] pos) (tLenS X.K ta) := by
  refine ⟨fun pins s σ H Q I h => Call_ (ld_blt I hg hm boot_len (PyProof.Rows.callWith_builtin1 (PyProof.Rows.args_cons ?_ rfl) rfl rfl))⟩
  refine Call_ (ld_blt I hg2 hm2 boot_set (PyProof.Rows.callWith_type1 (PyProof.Rows.args_cons (thn (ha.run pins s σ H _ I h) fun v s1 ⟨x, H1, I1, r1, q1⟩ => PyProof.Rows.args_nil ?_) na) na rfl))
  obtain ⟨l, xs, rfl, hq, few, q1⟩ := q1
  cases r1
  obtain ⟨its, r, pl, hz⟩ := I1.tuple hq
  refine set_texts (I1.ok.hd hc) (.inl pl) (by simpa using strsAre_of r) few fun h' tk es F el up => PyProof.Rows.args_nil ?_
  obtain ⟨o, arr, ep, t, ho, hx, hd, hp, hb, hf, _, _⟩ := F.tab
  have ea : arr.size = dcs [] xs 0 := by rw [← el, ← hp.length_eq, Array.length_toList]
  have I2 : Inv X pins σ H1 { s1 with heap := h', toks := tk } := I1.kept up
  have := dcs_le xs [] 0
  exact call_len_set ho hx hd hf (by rw [ea]; omega) ⟨.int ((dcs [] xs 0 : Nat) : Int), H1, I2.tok _, ⟨_, by rw [ea]⟩, q1⟩
/-- sorted(set(l)), l a list of texts, fewer than 64 -/
def tSortS (K : PySem.W.Frag) (ta : TE) : TE := fun σ H Q => ta σ H fun x H1 => ∃ (l : Addr) (xs : List Str), x = .ref l ∧ SqL K H1 l (xs.map V.str) ∧ xs.length < 64 ∧
  ∀ (zs : List Str) (p : Addr), sortedS zs = true → zs.Nodup → (∀ k, k ∈ zs ↔ k ∈ xs) → H1 p = none → Q (.ref p) (upd H1 p (.lst (zs.map V.str)))
theorem pe_sortS {a : Expr} {ta : TE} {p p2 q pos : Pos} (hc : X.calm = true) (hg : Gl X "sorted") (hm : X.mg "sorted" = none) (hg2 : Gl X "set") (hm2 : X.mg "set" = none) (ha : PE X a ta)
    (na : starEach [a] X.env = (false, eval a X.env) :: starEach [] X.env := by rfl) : PE X (.Call (.Name "sorted" p) [.Call (.Name "set" p2) [a] [] q] [] pos) (tSortS X.K ta) := by
  refine ⟨fun pins s σ H Q I h => Call_ (ld_blt I hg hm (show bootBuiltins "sorted" = some (.builtin "sorted") by decide +kernel) (PyProof.Rows.callWith_builtin1 (PyProof.Rows.args_cons ?_ rfl) rfl rfl))⟩
  refine Call_ (ld_blt I hg2 hm2 boot_set (PyProof.Rows.callWith_type1 (PyProof.Rows.args_cons (thn (ha.run pins s σ H _ I h) fun v s1 ⟨x, H1, I1, r1, q1⟩ => PyProof.Rows.args_nil ?_) na) na rfl))
  obtain ⟨l, xs, rfl, hq, few, q1⟩ := q1
  cases r1
  obtain ⟨its, r, pl, hz⟩ := I1.list hq
  refine set_texts (I1.ok.hd hc) (.inr pl.isList) (by simpa using strsAre_of r) (by omega) fun h' tk es F el up => PyProof.Rows.args_nil ?_
  have I2 : Inv X pins σ H1 { s1 with heap := h', toks := tk } := I1.kept up
  have := dcs_le xs [] 0
  refine sorted_fill (I1.ok.hd hc) F (by omega) fun s' p out c zs k g os hp hg' ht hs hu hm' => ?_
  have hn : H1 p = none := I2.hok.fresh hp
  have hlen : (zs.map V.str).length ≤ sizeLine := by
    have l1 : zs.length ≤ 64 := by
      have e1 : zs.length ≤ es.length := by
        have pz : zs.Perm (es.map txK) := (List.perm_ext_iff_of_nodup hu F.uni).mpr fun k => by rw [hm' k, F.mem k]
        rw [pz.length_eq, List.length_map]
        exact Nat.le_refl _
      omega
    rw [List.length_map, sizeLine_eq]
    omega
  generalize hS2 : ({ s1 with heap := h', toks := tk } : Shared) = s2 at I2 k g os hp
  have J : Inv X pins σ (upd H1 p (.lst (zs.map V.str))) { s2 with heap := s'.heap, gens := s'.gens, drawn := s'.drawn, toks := s'.toks } :=
    I2.call (ch := []) (Un.laid k hp hn) (I2.hok.laid k hp ⟨hlen, out.toList, c, vals_of_strs ht, hg'⟩) (by rw [g]; exact I2.bare) (fun _ z => nomatch z)
  have e : s' = { s2 with heap := s'.heap, gens := s'.gens, drawn := s'.drawn, toks := s'.toks } := by
    show s' = { heap := s'.heap, gens := s'.gens, drawn := s'.drawn, toks := s'.toks, os := s2.os }
    rw [← os]
  rw [e]
  exact ⟨.ref p, _, J, rfl, q1 zs p hs hu hm' hn⟩
end
end Kn
namespace Kn
open PySem PySem.Spec PyProof.Rows L2
section
variable {X : Cx}
/-! a displayed tuple, t + u: known not to have a dict -/
def tTupD (t : TA) : TE := fun σ H Q => t σ H fun xs H1 => xs.length ≤ sizeLine ∧ ∀ p o, H1 p = none → o.cls = .type "tuple" → o.dict = none → Q (.ref p) (upd H1 p (.frz o (.tup xs)))
theorem pe_tupD {es : List Expr} {t : TA} {pos : Pos} {x1} (h : PA X es t) : PE X (.Tuple es x1 pos) (tTupD t) := by
  refine ⟨fun pins s σ H Q I hq => ?_⟩
  refine wpAny_Tuple_spliced (thn (h.run pos pins s σ H _ I hq) fun us s1 ⟨xs, H1, I1, r, z, q⟩ => ⟨by rw [← r.length]; exact z, ?_⟩)
  have hf : H1 s1.heap.objs.size = none := I1.hok.fresh (Nat.le_refl _)
  refine ⟨.ref s1.heap.objs.size, _, I1.laid (t' := s1.toks) (o := .frz { cls := .type "tuple", data := .seq us.toArray } (.tup xs)) (fun b u e => Heap.get?_push_of_some _ e) (Nat.le_refl _) ?_, rfl, q _ _ hf rfl rfl⟩
  exact ⟨Heap.get?_push_size _ rfl, z, us, r, ⟨_, Heap.get?_push_size _ rfl, rfl, _, rfl⟩⟩
def rCatD (K : PySem.W.Frag) : R2 := fun x y H Q => ∃ a b xs ys, x = .ref a ∧ y = .ref b ∧ SqT K H a xs ∧ SqT K H b ys ∧ xs ≠ [] ∧ ys ≠ [] ∧ xs.length + ys.length ≤ sizeLine ∧
  ∀ p o, H p = none → o.cls = .type "tuple" → o.dict = none → Q (.ref p) (upd H p (.frz o (.tup (xs ++ ys))))
theorem op_catD : OpR X (binaryOp .Add) (rCatD X.K) := by
  intro pins s σ H x y v u Q I rx ry h
  obtain ⟨a, b, xs, ys, rfl, rfl, ha, hb, hx, hy, hz, q⟩ := h
  cases rx
  cases ry
  obtain ⟨its, r1, p1, _⟩ := I.tuple ha
  obtain ⟨its2, r2, p2, _⟩ := I.tuple hb
  refine HT.cat_tup p1 p2 (fun z => hx (r1.nil_iff.mp z)) (fun z => absurd (r2.nil_iff.mp z) hy) (fun z => ?_) (by rw [← r1.length, ← r2.length]; exact hz)
  refine ⟨.ref s.heap.objs.size, _, I.laid (t' := s.toks) (o := .frz { cls := .type "tuple", data := .seq (its ++ its2).toArray } (.tup (xs ++ ys))) (fun b ob q => Heap.get?_push_of_some _ q) (Nat.le_refl _) ?_, rfl, q _ _ (I.hok.fresh (Nat.le_refl _)) rfl rfl⟩
  exact ⟨Heap.get?_push_size _ rfl, by rw [List.length_append]; exact hz, _, r1.append r2, IsTup.new _ _⟩
/-! t.count(z), texts -/
def rTC (K : PySem.W.Frag) : V → List V → Hp → VK → Prop := fun x xs H Q => ∃ p, ∃ ys : List Str, ∃ z, x = .ref p ∧ xs = [.str z] ∧ SqT K H p (ys.map V.str) ∧ Q (.int ((ys.count z : Nat) : Int)) H
theorem mt_tcount : MtR X "tuple.count" (rTC X.K) := by
  intro pins s σ H x xs v us Q I rx rs h
  obtain ⟨p, ys, z, rfl, rfl, hq, q⟩ := h
  cases rx
  obtain ⟨u, rfl, t, rfl⟩ := vals1 rs
  obtain ⟨its, r, pl, hz⟩ := I.tuple hq
  obtain ⟨⟨cls, dd, dt, sl⟩, ho, hc, n, hd⟩ := pl
  simp only at hc hd
  subst hc
  subst hd
  have fl : (ys.map V.str).all flatV = true := by
    rw [List.all_map, List.all_eq_true]
    intro _ _
    rfl
  have ec : ∀ (l : List Str) (w : List Value), Vals (l.map V.str) w → w.countP (eqU (.str z)) = l.count z := by
    intro l
    induction l with
    | nil =>
      intro w hw
      cases hw
      rfl
    | cons y l ih =>
      intro w hw
      cases hw with
      | cons r1 r2 =>
        obtain ⟨t1, rfl⟩ := r1
        rw [List.countP_cons, ih _ r2, List.count_cons]
        rfl
  refine call_meets PySem.F.slot_tuple_count ⟨_, ho, rfl⟩ PySem.F.entry_tuple_count (PySem.F.args_tuple_count_2 _ _) (SeqAt.tuple_countAt p its.toArray n dd sl (.str z t) (eqU (.str z)))
    ⟨ho, fun w hw => mem_eqAt (x := .str z) ⟨t, rfl⟩ rfl r fl w (by simpa using hw), ?_⟩
  refine ⟨.int ((ys.count z : Nat) : Int), H, I.tok _, ⟨s.toks, ?_⟩, q⟩
  show Value.int ((its.toArray.toList.countP (eqU (.str z)) : Nat) : Int) s.toks = _
  rw [List.toList_toArray, ec ys its r]
/-! z[::-1] of a text -/
/-- as many signs, all of them the text's -/
theorem rev_str : RevR X (fun x H Q => ∃ z : Str, x = .str z ∧ z.length ≤ sizeLine ∧ ∀ z' : Str, z'.length = z.length → (∀ c ∈ z'.cps.toList, c ∈ z.cps.toList) → Q (.str z') H) := by
  intro pins s σ H x v sl lo up st Q J rx hs h1 h2 h3 want
  obtain ⟨z, rfl, zl, q⟩ := want
  obtain ⟨tz, rfl⟩ := rx
  cases h1; cases h2
  match h3 with
  | .int _ ti =>
    refine ⟨"str", _, F.slot_str_getitem.lookup, typeIs_str _ _ _, wpAny_getItem_str_slice (l := none) (u := none) (st := some (-1, ti)) hs rfl ?_⟩
    have len := step_rev_len z ti
    have all := step_rev_list z ti
    unfold Txt.sliceBy at len all
    unfold sliceMade
    have no : ¬ (((some ((-1 : Int), ti)).map (·.1)).getD 1 == 1 && (slicePicked z none none (some (-1, ti))).length == z.length) = true := by
      rw [show (((some ((-1 : Int), ti)).map (·.1)).getD 1 == 1) = false from rfl]
      exact Bool.false_ne_true
    rw [if_neg no] at len all ⊢
    refine ⟨by rw [len]; exact zl, .str _, H, J.tok _, ⟨_, rfl⟩, q _ len fun c hc => ?_⟩
    rw [all] at hc
    obtain ⟨i, hi, rfl⟩ := List.mem_map.mp hc
    have lt : z.length - 1 - i < z.cps.size := (by have := List.mem_range.mp hi; omega : z.length - 1 - i < z.length)
    rw [Array.getD_eq_getD_getElem?, Array.getElem?_eq_getElem lt]
    simp
abbrev tRevS (te : TE) : TE := tRev (fun x H Q => ∃ z : Str, x = .str z ∧ z.length ≤ sizeLine ∧ ∀ z' : Str, z'.length = z.length → (∀ c ∈ z'.cps.toList, c ∈ z.cps.toList) → Q (.str z') H) te
theorem pe_revS {e : Expr} {te : TE} {k : Nat} {p1 p2 p3 pos : Pos} (he : PE X e te) : PE X (.Subscript e (.Slice none none (some (.UnaryOp .USub (.Constant (.int 1) k p1) p2)) p3) pos) (tRevS te) := pe_rev rev_str he
end
end Kn
namespace Kn
open PySem PySem.Spec PyProof.Rows L2
/-! plain texts: signs below 128 -/
def Asc (z : Str) : Prop := ∀ c ∈ z.cps.toList, c < 128
theorem asc_app {a b : Str} (ha : Asc a) (hb : Asc b) : Asc (a ++ b) := fun c hc => by
  have : c ∈ a.cps.toList ++ b.cps.toList := by
    have e : (a ++ b).cps = a.cps ++ b.cps := rfl
    rw [e, Array.toList_append] at hc
    exact hc
  rcases List.mem_append.mp this with h | h
  · exact ha c h
  · exact hb c h
theorem asc_cut {z : Str} (h : Asc z) (lo hi : Option Int) : Asc (cutS z lo hi) := fun c hc => by
  unfold cutS at hc
  have hc : c ∈ (z.cps.toList.drop (HT.sIx z.length 0 lo)).take (HT.sIx z.length z.length hi - HT.sIx z.length 0 lo) := by simpa using hc
  exact h c (List.mem_of_mem_drop (List.mem_of_mem_take hc))
theorem asc_int (i : Int) : Asc (Str.ofString (toString i)) := fun c hc => by
  by_cases h : c < 128
  · exact h
  · exact absurd hc (int_text_free' c ⟨by omega, by omega⟩ i)
theorem up_one : ∀ c : Fin 128, ∃ x, x < 128 ∧ Unicode.upperOf c.val = [x] := by
  have h : ∀ c : Fin 128, (match Unicode.upperOf c.val with | [x] => decide (x < 128) | _ => false) = true := by decide +kernel
  intro c
  have := h c
  split at this
  · exact ⟨_, of_decide_eq_true this, by assumption⟩
  · cases this
theorem up_list : ∀ l : List Nat, (∀ c ∈ l, c < 128) → (l.flatMap Unicode.upperOf).length = l.length ∧ ∀ x ∈ l.flatMap Unicode.upperOf, x < 128
  | [], _ => ⟨rfl, fun x hx => by cases hx⟩
  | c :: l, h => by
    obtain ⟨x, hx, e⟩ := up_one ⟨c, h c List.mem_cons_self⟩
    obtain ⟨h1, h2⟩ := up_list l fun d hd => h d (List.mem_cons_of_mem _ hd)
    rw [List.flatMap_cons]
    have e' : Unicode.upperOf c = [x] := e
    rw [e']
    refine ⟨by rw [List.length_append, h1, List.length_cons]; simp; omega, fun y hy => ?_⟩
    rcases List.mem_append.mp hy with z | z
    · rw [List.mem_singleton] at z
      omega
    · exact h2 y z
theorem up_cps (z : Str) : (Txt.upper z).cps.toList = z.cps.toList.flatMap Unicode.upperOf := by
  show ((z.cps.mapIdx fun i c => (Unicode.upperOf c).toArray).flatten).toList = _
  rw [Array.toList_flatten, Array.toList_mapIdx]
  have e : z.cps.toList.mapIdx (fun i c => (Unicode.upperOf c).toArray) = z.cps.toList.map fun c => (Unicode.upperOf c).toArray := by
    rw [List.mapIdx_eq_zipIdx_map]
    conv => rhs; rw [← List.zipIdx_map_fst 0 z.cps.toList, List.map_map]
    rfl
  rw [e, List.map_map, List.flatMap_def]
  rfl
theorem up_ok {z : Str} (h : Asc z) : Asc (Txt.upper z) ∧ (Txt.upper z).length = z.length := by
  obtain ⟨h1, h2⟩ := up_list _ h
  refine ⟨fun c hc => h2 c (by rw [← up_cps]; exact hc), ?_⟩
  have e : (Txt.upper z).length = (Txt.upper z).cps.toList.length := by simp [Str.length]
  rw [e, up_cps, h1]
  simp [Str.length]
/-! how much there is of it -/
mutual
def wt : PyData → Nat
  | .none => 1
  | .bool _ => 1
  | .int i => 1 + i.natAbs
  | .str z => 1 + z.length
  | .list ds => 1 + wtA ds
  | .tuple ds => 1 + wtA ds
  | .dict _ => 1
def wtA : List PyData → Nat
  | [] => 0
  | d :: ds => wt d + wtA ds
end
mutual
def Nic : PyData → Prop
  | .none => True
  | .bool _ => True
  | .int _ => True
  | .str z => Asc z
  | .list ds => NicA ds
  | .tuple ds => NicA ds
  | .dict _ => False
def NicA : List PyData → Prop
  | [] => True
  | d :: ds => Nic d ∧ NicA ds
end
theorem wt_pos (d : PyData) : 1 ≤ wt d := by cases d <;> simp [wt]
theorem wtA_app : ∀ a b : List PyData, wtA (a ++ b) = wtA a + wtA b
  | [], b => by simp [wtA]
  | d :: a, b => by
    rw [List.cons_append, wtA, wtA, wtA_app a b]
    omega
theorem nicA_iff : ∀ ds : List PyData, NicA ds ↔ ∀ d ∈ ds, Nic d
  | [] => by simp [NicA]
  | d :: ds => by
    rw [NicA, nicA_iff ds]
    simp
theorem wtA_mem : ∀ {ds : List PyData} {d : PyData}, d ∈ ds → wt d ≤ wtA ds
  | [], _, h => by cases h
  | e :: ds, d, h => by
    rw [wtA]
    rcases List.mem_cons.mp h with z | z
    · rw [z]; omega
    · have := wtA_mem z
      omega
theorem wtA_len : ∀ ds : List PyData, ds.length ≤ wtA ds
  | [] => Nat.le_refl _
  | d :: ds => by
    have := wtA_len ds
    have := wt_pos d
    rw [wtA, List.length_cons]
    omega
theorem depthA_iff {n : Nat} : ∀ ds : List PyData, PyData.depthAll ds ≤ n ↔ ∀ d ∈ ds, d.depth ≤ n
  | [] => by simp [PyData.depthAll]
  | d :: ds => by
    rw [PyData.depthAll]
    have ih := depthA_iff (n := n) ds
    constructor
    · intro h e he
      rcases List.mem_cons.mp he with z | z
      · rw [z]; omega
      · exact ih.mp (by omega) e z
    · intro h
      have h1 := h d List.mem_cons_self
      have h2 := ih.mpr fun e he => h e (List.mem_cons_of_mem _ he)
      omega
/-- of at most n levels, w in all -/
def Gd (n w : Nat) (d : PyData) : Prop := d.depth ≤ n ∧ Nic d ∧ wt d ≤ w
theorem Gd.mono {n m w v : Nat} {d : PyData} (h : Gd n w d) (hn : n ≤ m) (hw : w ≤ v) : Gd m v d := ⟨Nat.le_trans h.1 hn, h.2.1, Nat.le_trans h.2.2 hw⟩
theorem gd_list {n w : Nat} {ds : List PyData} : Gd (n + 1) (w + 1) (.list ds) ↔ (∀ d ∈ ds, d.depth ≤ n ∧ Nic d) ∧ wtA ds ≤ w := by
  unfold Gd
  rw [PyData.depth, Nic, wt, nicA_iff]
  have := depthA_iff (n := n) ds
  constructor
  · rintro ⟨h1, h2, h3⟩
    exact ⟨fun d hd => ⟨this.mp (by omega) d hd, h2 d hd⟩, by omega⟩
  · rintro ⟨h1, h2⟩
    exact ⟨by have := this.mpr fun d hd => (h1 d hd).1; omega, fun d hd => (h1 d hd).2, by omega⟩
theorem gd_tup {n w : Nat} {ds : List PyData} : Gd (n + 1) (w + 1) (.tuple ds) ↔ (∀ d ∈ ds, d.depth ≤ n ∧ Nic d) ∧ wtA ds ≤ w := by
  unfold Gd
  rw [PyData.depth, Nic, wt, nicA_iff]
  have := depthA_iff (n := n) ds
  constructor
  · rintro ⟨h1, h2, h3⟩
    exact ⟨fun d hd => ⟨this.mp (by omega) d hd, h2 d hd⟩, by omega⟩
  · rintro ⟨h1, h2⟩
    exact ⟨by have := this.mpr fun d hd => (h1 d hd).1; omega, fun d hd => (h1 d hd).2, by omega⟩
/-! how long its text is -/
theorem textFrom_le : ∀ (ts : List Str) (k : Nat) (acc : Str), (textFrom k acc ts).length ≤ acc.length + piled ts
  | [], _, acc => by
    show acc.length ≤ acc.length + piled []
    omega
  | t :: ts, k, acc => by
    have h := textFrom_le ts (k + 1) (acc ++ (if k > 0 then ", " else "" : String) ++ t)
    have e : (acc ++ (if k > 0 then ", " else "" : String) ++ t).length ≤ acc.length + 2 + t.length := by
      rw [strLen_append, strLen_append]
      have h2 : (((if k > 0 then ", " else "" : String) : Str)).length ≤ 2 := by split <;> decide
      omega
    rw [piled_cons]
    show (textFrom (k + 1) _ ts).length ≤ _
    omega
theorem listText_le (ts : List Str) : (listText ts).length ≤ piled ts + 2 := by
  unfold listText
  rw [strLen_append]
  have h := textFrom_le ts 0 "["
  have h1 : ("[" : Str).length = 1 := rfl
  have h2 : ("]" : Str).length = 1 := rfl
  omega
mutual
theorem shown_le : ∀ d : PyData, Nic d → d.shown.length + 4 ≤ 16 * wt d
  | .none, _ => by rw [PyData.shown, wt]; decide
  | .bool b, _ => by rw [PyData.shown, wt]; cases b <;> decide
  | .int i, _ => by
    rw [PyData.shown, wt]
    have := len_str_of_int i
    show (Str.ofString (toString i)).length + 4 ≤ _
    omega
  | .str z, h => by
    rw [PyData.shown, wt]
    have := StrLaws.reprText_len z fun c hc => Nat.lt_trans ((show Asc z from by rw [Nic] at h; exact h) c hc) (by decide)
    omega
  | .list ds, h => by
    rw [PyData.shown, wt]
    have h1 := listText_le (PyData.shownAll ds)
    have h2 := shownA_le ds (by rw [Nic] at h; exact h)
    omega
  | .tuple ds, h => by
    rw [PyData.shown, wt]
    have h1 := fmt_text (PyData.shownAll ds)
    have h2 := shownA_le ds (by rw [Nic] at h; exact h)
    omega
  | .dict _, h => by rw [Nic] at h; exact h.elim
theorem shownA_le : ∀ ds : List PyData, NicA ds → piled (PyData.shownAll ds) ≤ 16 * wtA ds
  | [], _ => by rw [PyData.shownAll, wtA]; exact Nat.le_refl _
  | d :: ds, h => by
    rw [PyData.shownAll, wtA, piled_cons]
    rw [NicA] at h
    have h1 := shown_le d h.1
    have h2 := shownA_le ds h.2
    have := wt_pos d
    omega
end
mutual
theorem nic_show : ∀ d : PyData, Nic d → wt d ≤ 100000 → d.showable = true
  | .none, _, _ => by simp [PyData.showable]
  | .bool _, _, _ => by simp [PyData.showable]
  | .str _, _, _ => by simp [PyData.showable]
  | .int i, _, hw => by
    rw [wt] at hw
    rw [PyData.showable]
    refine decide_eq_true ?_
    have h1 : i.natAbs.log2 ≤ i.natAbs := Nat.log2_le_self _
    by_cases h0 : i.natAbs = 0
    · rw [h0]; decide
    · have := (Nat.log2_lt h0).mpr (show i.natAbs < 2 ^ 1900 from Nat.lt_of_lt_of_le (show i.natAbs < 2 ^ 17 by omega) (Nat.pow_le_pow_right (by decide) (by decide)))
      omega
  | .list ds, h, hw => by
    rw [wt] at hw
    rw [Nic] at h
    rw [PyData.showable]
    exact nic_showA ds h (by omega)
  | .tuple ds, h, hw => by
    rw [wt] at hw
    rw [Nic] at h
    rw [PyData.showable]
    exact nic_showA ds h (by omega)
  | .dict _, h, _ => by rw [Nic] at h; exact h.elim
theorem nic_showA : ∀ ds : List PyData, NicA ds → wtA ds ≤ 100000 → PyData.showableAll ds = true
  | [], _, _ => by simp [PyData.showableAll]
  | d :: ds, h, hw => by
    rw [wtA] at hw
    rw [NicA] at h
    rw [PyData.showableAll, nic_show d h.1 (by omega), nic_showA ds h.2 (by omega)]
    rfl
end
mutual
theorem nic_noDict : ∀ d : PyData, Nic d → d.hasDict = false
  | .none, _ => by simp [PyData.hasDict]
  | .bool _, _ => by simp [PyData.hasDict]
  | .str _, _ => by simp [PyData.hasDict]
  | .int i, _ => by simp [PyData.hasDict]
  | .list ds, h => by
    rw [Nic] at h
    rw [PyData.hasDict]
    exact nic_noDictA ds h
  | .tuple ds, h => by
    rw [Nic] at h
    rw [PyData.hasDict]
    exact nic_noDictA ds h
  | .dict _, h => by rw [Nic] at h; exact h.elim
theorem nic_noDictA : ∀ ds : List PyData, NicA ds → PyData.hasDictAll ds = false
  | [], _ => by simp [PyData.hasDictAll]
  | d :: ds, h => by
    rw [NicA] at h
    rw [PyData.hasDictAll, nic_noDict d h.1, nic_noDictA ds h.2]
    rfl
end
/-! lists of things beside lists of data -/
section
variable {K : PySem.W.Frag} {H : Hp}
theorem dpA_app : ∀ {xs ys : List V} {ds es : List PyData}, DpAll K H xs ds → DpAll K H ys es → DpAll K H (xs ++ ys) (ds ++ es)
  | _, _, _, _, .nil, h => h
  | _, _, _, _, .cons h hs, h2 => .cons h (dpA_app hs h2)
theorem dpA_take : ∀ (i : Nat) {xs : List V} {ds : List PyData}, DpAll K H xs ds → DpAll K H (xs.take i) (ds.take i)
  | 0, _, _, _ => by simp only [List.take_zero]; exact .nil
  | _ + 1, _, _, .nil => .nil
  | i + 1, _, _, .cons h hs => .cons h (dpA_take i hs)
theorem dpA_drop : ∀ (i : Nat) {xs : List V} {ds : List PyData}, DpAll K H xs ds → DpAll K H (xs.drop i) (ds.drop i)
  | 0, _, _, h => h
  | _ + 1, _, _, .nil => .nil
  | i + 1, _, _, .cons h hs => dpA_drop i hs
theorem dpA_rev : ∀ {xs : List V} {ds : List PyData}, DpAll K H xs ds → DpAll K H xs.reverse ds.reverse
  | _, _, .nil => .nil
  | _, _, .cons h hs => by
    rw [List.reverse_cons, List.reverse_cons]
    exact dpA_app (dpA_rev hs) (.cons h .nil)
theorem dpA_set : ∀ (i : Nat) {xs : List V} {ds : List PyData} {v : V} {d : PyData}, DpAll K H xs ds → Dp K H v d → DpAll K H (xs.set i v) (ds.set i d)
  | _, _, _, _, _, .nil, _ => by simp only [List.set_nil]; exact .nil
  | 0, _, _, _, _, .cons h hs, e => .cons e hs
  | i + 1, _, _, _, _, .cons h hs, e => .cons h (dpA_set i hs e)
theorem dpA_erase : ∀ (i : Nat) {xs : List V} {ds : List PyData}, DpAll K H xs ds → DpAll K H (xs.eraseIdx i) (ds.eraseIdx i)
  | _, _, _, .nil => by simp only [List.eraseIdx_nil]; exact .nil
  | 0, _, _, .cons h hs => hs
  | i + 1, _, _, .cons h hs => .cons h (dpA_erase i hs)
end
theorem wtA_rev : ∀ ds : List PyData, wtA ds.reverse = wtA ds
  | [] => rfl
  | d :: ds => by
    rw [List.reverse_cons, wtA_app, wtA_rev ds, wtA, wtA, wtA]
    omega
theorem wtA_set : ∀ (ds : List PyData) (i : Nat) (d e : PyData), ds[i]? = some d → wtA (ds.set i e) + wt d = wtA ds + wt e
  | [], _, _, _, h => by simp at h
  | x :: ds, 0, d, e, h => by
    cases (show some x = some d from h)
    rw [List.set_cons_zero, wtA, wtA]
    omega
  | x :: ds, i + 1, d, e, h => by
    have := wtA_set ds i d e (by simpa using h)
    rw [List.set_cons_succ, wtA, wtA]
    omega
theorem wtA_take_drop (ds : List PyData) (i : Nat) : wtA (ds.take i) + wtA (ds.drop i) = wtA ds := by rw [← wtA_app, List.take_append_drop]
theorem wtA_erase : ∀ (ds : List PyData) (i : Nat), wtA (ds.eraseIdx i) ≤ wtA ds
  | [], _ => by simp [wtA]
  | x :: ds, 0 => by
    rw [List.eraseIdx_cons_zero, wtA]
    omega
  | x :: ds, i + 1 => by
    have := wtA_erase ds i
    rw [List.eraseIdx_cons_succ, wtA, wtA]
    omega
/-! the heap without some of its objects -/
def wos (S : Addr → Bool) (H : Hp) : Hp := fun c => if S c = true then none else H c
theorem wos_ne {S : Addr → Bool} {c : Addr} {H : Hp} (h : S c = false) : wos S H c = H c := by
  unfold wos
  rw [h, if_neg Bool.false_ne_true]
theorem wos_some {S : Addr → Bool} {c : Addr} {H : Hp} {o : HO} (h : wos S H c = some o) : S c = false ∧ H c = some o := by
  unfold wos at h
  cases e : S c with
  | true =>
    rw [e, if_pos rfl] at h
    cases h
  | false =>
    rw [e, if_neg Bool.false_ne_true] at h
    exact ⟨rfl, h⟩
theorem wos_same {S : Addr → Bool} {b : Addr} {H H' : Hp} (hb : S b = true) (h : Off b H H') : Same (wos S H) (wos S H') := fun c o e => by
  obtain ⟨h1, h2⟩ := wos_some e
  rw [wos_ne h1]
  exact h c o h2 fun z => by rw [z, hb] at h1; cases h1
theorem wos_in {S : Addr → Bool} {H : Hp} : Same (wos S H) H := fun c o e => (wos_some e).2
end Kn
namespace Kn
open PySem PySem.Spec PyProof.Rows L2
theorem tyes {σ : L2.St} {H : Hp} {A B : Hp → Prop} (h : A H) : tYes σ H fun b H3 => if b = true then A H3 else B H3 := (show (if true = true then A H else B H) from iteT h)
abbrev sOdd : Stmt := topS 16
abbrev sOth : Stmt := topS 17
theorem scOdd : FnScope ["_law_box_here", "_law_some"] ["_law_box_here"] (defScope sOdd) := ⟨rfl, rfl, rfl, by decide +kernel, rfl, by decide +kernel, by decide +kernel⟩
theorem scOth : FnScope ["_law_box_here", "_law_matter", "_law_at", "_law_turn", "_law_some"] ["_law_box_here", "_law_matter"] (defScope sOth) := ⟨rfl, rfl, rfl, by decide +kernel, rfl, by decide +kernel, by decide +kernel⟩
/-- how long it is at the top -/
def tl : PyData → Nat
  | .list ds => ds.length
  | .tuple ds => ds.length
  | _ => 0
theorem tl_flat {w : Nat} {d : PyData} (h : Gd 0 w d) : tl d ≤ 2 := by
  have h1 := h.1
  cases d with
  | list ds => rw [PyData.depth] at h1; omega
  | tuple ds => rw [PyData.depth] at h1; omega
  | _ => exact Nat.zero_le _
/-- data off some objects, a tuple at the top known not to have a dict -/
def Dq (K : PySem.W.Frag) (S : Addr → Bool) (H : Hp) (x : V) (d : PyData) : Prop := Dp K (wos S H) x d ∧ ∀ ds, d = .tuple ds → ∃ a xs, x = .ref a ∧ TupD (wos S H) a xs
theorem Dq.off {K : PySem.W.Frag} {S : Addr → Bool} {b : Addr} {H H' : Hp} {x : V} {d : PyData} (hb : S b = true) (e : Off b H H') (h : Dq K S H x d) : Dq K S H' x d := ⟨dp_same (wos_same hb e) h.1, fun ds hd => let ⟨a, xs, h1, h2⟩ := h.2 ds hd; ⟨a, xs, h1, h2.same (wos_same hb e)⟩⟩
theorem Dq.dp {K : PySem.W.Frag} {S : Addr → Bool} {H : Hp} {x : V} {d : PyData} (h : Dq K S H x d) : Dp K H x d := dp_same wos_in h.1
section
variable {P : Program} {w : World} {K : PySem.W.Frag} {mg : Str → Option Value} {base : Heap}
def spOdd (K : PySem.W.Frag) : Sp := fun vs H Q _ => ∃ (b : Addr) (o : HO) (n : Nat) (S : Addr → Bool), vs = [.ref b] ∧ H b = some o ∧ Bx n o ∧ n < 900000000 ∧ S b = true ∧ (∀ c, S c = true → H c ≠ none) ∧
  ∀ H' y d o', Dq K S H' y d → Gd 2 20 d → tl d ≤ 2 → H' b = some o' → Bx (n + 1) o' → Off b H H' → Q y H'
set_option maxHeartbeats 8000000 in
theorem ok_odd {f fT : Addr} {fd dT : FuncData} {k : Nat} (F : Fun K "_law_odd" "_law_odd" sOdd f fd) (B : Bn mg) (FT : Fun K "_law_take" "_law_take" sTake fT dT) (gT : mg "_law_take" = some (.ref fT)) (bT : Binds K dT ["_law_box_here", "_law_bound"] []) : FnOk P w K mg base CX0 (k + 2) f fd ["_law_box_here"] (spOdd K) := by
  have GT : FnOk P w K mg base CX0 (k + 1) fT dT ["_law_box_here", "_law_bound"] spTake := ok_take FT
  refine F.ok scOdd (fun vs H Q E h => ?_) (fun cdv A outer s H vs Q E hr h => ?_)
  · obtain ⟨b, o, n, S, rfl, _⟩ := h
    rfl
  · obtain ⟨b, o, n, S, rfl, hb, hB, hn, hSb, hS, q⟩ := h
    refine ⟨_, (pss_cons (ps_set (i := 1) scOdd.nd rfl (.inl rfl) (pe_lst (pa_cons pe_non (pa_cons pe_bl (pa_cons pe_int (pa_cons pe_int (pa_cons (pe_un un_neg pe_int) (pa_cons pe_str (pa_cons pe_str (pa_cons pe_str (pa_cons pe_str (pa_cons pe_str (pa_cons pe_str (pa_cons (pe_tupD pa_nil) (pa_cons (pe_lst pa_nil) (pa_cons (pe_tupD (pa_cons pe_str pa_nil)) (pa_cons (pe_lst (pa_cons pe_str pa_nil)) (pa_cons (pe_tupD (pa_cons pe_str (pa_cons pe_str pa_nil))) (pa_cons (pe_tupD (pa_cons pe_str (pa_cons pe_str pa_nil))) pa_nil)))))))))))))))))))
      (pss_one (ps_ret (pe_ix ix_list (pe_op op_cat (pv 1) (pe_lst (pa_cons (pe_tupD (pa_cons (pe_tup (pa_cons pe_str (pa_cons pe_str pa_nil))) pa_nil)) (pa_cons (pe_lst (pa_cons (pe_tup (pa_cons pe_str (pa_cons pe_str pa_nil))) pa_nil)) (pa_cons (pe_tupD (pa_cons (pe_tup (pa_cons pe_str (pa_cons pe_str pa_nil))) pa_nil)) (pa_cons (pe_tupD (pa_cons (pe_tup pa_nil) pa_nil)) pa_nil)))))) (pe_call GT hr (by rfl) gT FT.kp bT .nil pass0 (pa_cons (pv 0) (pa_cons pe_int pa_nil))) (fun _ _ => rfl))))), ?_⟩
    refine ⟨1, rfl, (by show 0 ≤ sizeLine; decide), fun t1 o_t1 n_t1 c_t1 d_t1 => ?_⟩
    have s1 : Same H (upd H t1 (.frz o_t1 (.tup []))) := same_new n_t1
    have e_t1 : (upd H t1 (.frz o_t1 (.tup []))) t1 = some (.frz o_t1 (.tup [])) := upd_same
    generalize upd H t1 (.frz o_t1 (.tup [])) = H1 at s1 e_t1 ⊢
    have f_t1 : H t1 = none := n_t1
    refine ⟨(by show 0 ≤ sizeLine; decide), fun t2 n_t2 => ?_⟩
    have s2 : Same H1 (upd H1 t2 (.lst [])) := same_new n_t2
    have e_t2 : (upd H1 t2 (.lst [])) t2 = some (.lst []) := upd_same
    generalize upd H1 t2 (.lst []) = H2 at s2 e_t2 ⊢
    have f_t2 : H t2 = none := s1.free n_t2
    refine ⟨(by show 1 ≤ sizeLine; decide), fun t3 o_t3 n_t3 c_t3 d_t3 => ?_⟩
    have s3 : Same H2 (upd H2 t3 (.frz o_t3 (.tup [.str "a"]))) := same_new n_t3
    have e_t3 : (upd H2 t3 (.frz o_t3 (.tup [.str "a"]))) t3 = some (.frz o_t3 (.tup [.str "a"])) := upd_same
    generalize upd H2 t3 (.frz o_t3 (.tup [.str "a"])) = H3 at s3 e_t3 ⊢
    have f_t3 : H t3 = none := (s1.trans s2).free n_t3
    refine ⟨(by show 1 ≤ sizeLine; decide), fun t4 n_t4 => ?_⟩
    have s4 : Same H3 (upd H3 t4 (.lst [.str "a"])) := same_new n_t4
    have e_t4 : (upd H3 t4 (.lst [.str "a"])) t4 = some (.lst [.str "a"]) := upd_same
    generalize upd H3 t4 (.lst [.str "a"]) = H4 at s4 e_t4 ⊢
    have f_t4 : H t4 = none := ((s1.trans s2).trans s3).free n_t4
    refine ⟨(by show 2 ≤ sizeLine; decide), fun t5 o_t5 n_t5 c_t5 d_t5 => ?_⟩
    have s5 : Same H4 (upd H4 t5 (.frz o_t5 (.tup [.str "a", .str "a"]))) := same_new n_t5
    have e_t5 : (upd H4 t5 (.frz o_t5 (.tup [.str "a", .str "a"]))) t5 = some (.frz o_t5 (.tup [.str "a", .str "a"])) := upd_same
    generalize upd H4 t5 (.frz o_t5 (.tup [.str "a", .str "a"])) = H5 at s5 e_t5 ⊢
    have f_t5 : H t5 = none := (((s1.trans s2).trans s3).trans s4).free n_t5
    refine ⟨(by show 2 ≤ sizeLine; decide), fun t6 o_t6 n_t6 c_t6 d_t6 => ?_⟩
    have s6 : Same H5 (upd H5 t6 (.frz o_t6 (.tup [.str "a", .str "b"]))) := same_new n_t6
    have e_t6 : (upd H5 t6 (.frz o_t6 (.tup [.str "a", .str "b"]))) t6 = some (.frz o_t6 (.tup [.str "a", .str "b"])) := upd_same
    generalize upd H5 t6 (.frz o_t6 (.tup [.str "a", .str "b"])) = H6 at s6 e_t6 ⊢
    have f_t6 : H t6 = none := ((((s1.trans s2).trans s3).trans s4).trans s5).free n_t6
    refine ⟨(by show 17 ≤ sizeLine; decide), fun l1 n_l1 => ?_⟩
    have s7 : Same H6 (upd H6 l1 (.lst [.non, .bl true, .int 0, .int 1, .int (-1), .str "", .str "a", .str "A", .str "a b", .str "abcdefg", .str "a1", .ref t1, .ref t2, .ref t3, .ref t4, .ref t5, .ref t6])) := same_new n_l1
    have e_l1 : (upd H6 l1 (.lst [.non, .bl true, .int 0, .int 1, .int (-1), .str "", .str "a", .str "A", .str "a b", .str "abcdefg", .str "a1", .ref t1, .ref t2, .ref t3, .ref t4, .ref t5, .ref t6])) l1 = some (.lst [.non, .bl true, .int 0, .int 1, .int (-1), .str "", .str "a", .str "A", .str "a b", .str "abcdefg", .str "a1", .ref t1, .ref t2, .ref t3, .ref t4, .ref t5, .ref t6]) := upd_same
    generalize upd H6 l1 (.lst [.non, .bl true, .int 0, .int 1, .int (-1), .str "", .str "a", .str "A", .str "a b", .str "abcdefg", .str "a1", .ref t1, .ref t2, .ref t3, .ref t4, .ref t5, .ref t6]) = H7 at s7 e_l1 ⊢
    have f_l1 : H l1 = none := (((((s1.trans s2).trans s3).trans s4).trans s5).trans s6).free n_l1
    refine ⟨_, rfl, (by show 2 ≤ sizeLine; decide), fun a1 n_a1 => ?_⟩
    have s8 : Same H7 (upd H7 a1 (.tup [.str "a", .str "a"])) := same_new n_a1
    have e_a1 : (upd H7 a1 (.tup [.str "a", .str "a"])) a1 = some (.tup [.str "a", .str "a"]) := upd_same
    generalize upd H7 a1 (.tup [.str "a", .str "a"]) = H8 at s8 e_a1 ⊢
    have f_a1 : H a1 = none := ((((((s1.trans s2).trans s3).trans s4).trans s5).trans s6).trans s7).free n_a1
    refine ⟨(by show 1 ≤ sizeLine; decide), fun t7 o_t7 n_t7 c_t7 d_t7 => ?_⟩
    have s9 : Same H8 (upd H8 t7 (.frz o_t7 (.tup [.ref a1]))) := same_new n_t7
    have e_t7 : (upd H8 t7 (.frz o_t7 (.tup [.ref a1]))) t7 = some (.frz o_t7 (.tup [.ref a1])) := upd_same
    generalize upd H8 t7 (.frz o_t7 (.tup [.ref a1])) = H9 at s9 e_t7 ⊢
    have f_t7 : H t7 = none := (((((((s1.trans s2).trans s3).trans s4).trans s5).trans s6).trans s7).trans s8).free n_t7
    refine ⟨(by show 2 ≤ sizeLine; decide), fun a2 n_a2 => ?_⟩
    have s10 : Same H9 (upd H9 a2 (.tup [.str "a", .str "a"])) := same_new n_a2
    have e_a2 : (upd H9 a2 (.tup [.str "a", .str "a"])) a2 = some (.tup [.str "a", .str "a"]) := upd_same
    generalize upd H9 a2 (.tup [.str "a", .str "a"]) = H10 at s10 e_a2 ⊢
    have f_a2 : H a2 = none := ((((((((s1.trans s2).trans s3).trans s4).trans s5).trans s6).trans s7).trans s8).trans s9).free n_a2
    refine ⟨(by show 1 ≤ sizeLine; decide), fun t8 n_t8 => ?_⟩
    have s11 : Same H10 (upd H10 t8 (.lst [.ref a2])) := same_new n_t8
    have e_t8 : (upd H10 t8 (.lst [.ref a2])) t8 = some (.lst [.ref a2]) := upd_same
    generalize upd H10 t8 (.lst [.ref a2]) = H11 at s11 e_t8 ⊢
    have f_t8 : H t8 = none := (((((((((s1.trans s2).trans s3).trans s4).trans s5).trans s6).trans s7).trans s8).trans s9).trans s10).free n_t8
    refine ⟨(by show 2 ≤ sizeLine; decide), fun a3 n_a3 => ?_⟩
    have s12 : Same H11 (upd H11 a3 (.tup [.str "a", .str "b"])) := same_new n_a3
    have e_a3 : (upd H11 a3 (.tup [.str "a", .str "b"])) a3 = some (.tup [.str "a", .str "b"]) := upd_same
    generalize upd H11 a3 (.tup [.str "a", .str "b"]) = H12 at s12 e_a3 ⊢
    have f_a3 : H a3 = none := ((((((((((s1.trans s2).trans s3).trans s4).trans s5).trans s6).trans s7).trans s8).trans s9).trans s10).trans s11).free n_a3
    refine ⟨(by show 1 ≤ sizeLine; decide), fun t9 o_t9 n_t9 c_t9 d_t9 => ?_⟩
    have s13 : Same H12 (upd H12 t9 (.frz o_t9 (.tup [.ref a3]))) := same_new n_t9
    have e_t9 : (upd H12 t9 (.frz o_t9 (.tup [.ref a3]))) t9 = some (.frz o_t9 (.tup [.ref a3])) := upd_same
    generalize upd H12 t9 (.frz o_t9 (.tup [.ref a3])) = H13 at s13 e_t9 ⊢
    have f_t9 : H t9 = none := (((((((((((s1.trans s2).trans s3).trans s4).trans s5).trans s6).trans s7).trans s8).trans s9).trans s10).trans s11).trans s12).free n_t9
    refine ⟨(by show 0 ≤ sizeLine; decide), fun a4 n_a4 => ?_⟩
    have s14 : Same H13 (upd H13 a4 (.tup [])) := same_new n_a4
    have e_a4 : (upd H13 a4 (.tup [])) a4 = some (.tup []) := upd_same
    generalize upd H13 a4 (.tup []) = H14 at s14 e_a4 ⊢
    have f_a4 : H a4 = none := ((((((((((((s1.trans s2).trans s3).trans s4).trans s5).trans s6).trans s7).trans s8).trans s9).trans s10).trans s11).trans s12).trans s13).free n_a4
    refine ⟨(by show 1 ≤ sizeLine; decide), fun t10 o_t10 n_t10 c_t10 d_t10 => ?_⟩
    have s15 : Same H14 (upd H14 t10 (.frz o_t10 (.tup [.ref a4]))) := same_new n_t10
    have e_t10 : (upd H14 t10 (.frz o_t10 (.tup [.ref a4]))) t10 = some (.frz o_t10 (.tup [.ref a4])) := upd_same
    generalize upd H14 t10 (.frz o_t10 (.tup [.ref a4])) = H15 at s15 e_t10 ⊢
    have f_t10 : H t10 = none := (((((((((((((s1.trans s2).trans s3).trans s4).trans s5).trans s6).trans s7).trans s8).trans s9).trans s10).trans s11).trans s12).trans s13).trans s14).free n_t10
    refine ⟨(by show 4 ≤ sizeLine; decide), fun l2 n_l2 => ?_⟩
    have s16 : Same H15 (upd H15 l2 (.lst [.ref t7, .ref t8, .ref t9, .ref t10])) := same_new n_l2
    have e_l2 : (upd H15 l2 (.lst [.ref t7, .ref t8, .ref t9, .ref t10])) l2 = some (.lst [.ref t7, .ref t8, .ref t9, .ref t10]) := upd_same
    generalize upd H15 l2 (.lst [.ref t7, .ref t8, .ref t9, .ref t10]) = H16 at s16 e_l2 ⊢
    have f_l2 : H l2 = none := ((((((((((((((s1.trans s2).trans s3).trans s4).trans s5).trans s6).trans s7).trans s8).trans s9).trans s10).trans s11).trans s12).trans s13).trans s14).trans s15).free n_l2
    refine ⟨l1, l2, _, _, rfl, rfl, (((((((((s8.trans s9).trans s10).trans s11).trans s12).trans s13).trans s14).trans s15).trans s16) _ _ e_l1), e_l2, (by show 21 ≤ sizeLine; decide), fun l3 n_l3 => ?_⟩
    have s17 : Same H16 (upd H16 l3 (.lst ([.non, .bl true, .int 0, .int 1, .int (-1), .str "", .str "a", .str "A", .str "a b", .str "abcdefg", .str "a1", .ref t1, .ref t2, .ref t3, .ref t4, .ref t5, .ref t6] ++ [.ref t7, .ref t8, .ref t9, .ref t10]))) := same_new n_l3
    have e_l3 : (upd H16 l3 (.lst ([.non, .bl true, .int 0, .int 1, .int (-1), .str "", .str "a", .str "A", .str "a b", .str "abcdefg", .str "a1", .ref t1, .ref t2, .ref t3, .ref t4, .ref t5, .ref t6] ++ [.ref t7, .ref t8, .ref t9, .ref t10]))) l3 = some (.lst ([.non, .bl true, .int 0, .int 1, .int (-1), .str "", .str "a", .str "A", .str "a b", .str "abcdefg", .str "a1", .ref t1, .ref t2, .ref t3, .ref t4, .ref t5, .ref t6] ++ [.ref t7, .ref t8, .ref t9, .ref t10])) := upd_same
    generalize upd H16 l3 (.lst ([.non, .bl true, .int 0, .int 1, .int (-1), .str "", .str "a", .str "A", .str "a b", .str "abcdefg", .str "a1", .ref t1, .ref t2, .ref t3, .ref t4, .ref t5, .ref t6] ++ [.ref t7, .ref t8, .ref t9, .ref t10])) = H17 at s17 e_l3 ⊢
    have f_l3 : H l3 = none := (((((((((((((((s1.trans s2).trans s3).trans s4).trans s5).trans s6).trans s7).trans s8).trans s9).trans s10).trans s11).trans s12).trans s13).trans s14).trans s15).trans s16).free n_l3
    have sA : Same H H17 := ((((((((((((((((s1.trans s2).trans s3).trans s4).trans s5).trans s6).trans s7).trans s8).trans s9).trans s10).trans s11).trans s12).trans s13).trans s14).trans s15).trans s16).trans s17)
    refine ⟨.ref b, rfl, b, o, n, 21, rfl, sA _ _ hb, hB, by omega, by decide, by decide, fun r o' r0 r1 hB' => ?_⟩
    have offA : Off b H (upd H17 b o') := (Same.off sA).trans (Off.at b H17 o')
    have nS : ∀ c, H c = none → S c = false := fun c hc => by cases e : S c with | false => rfl | true => exact absurd hc (hS c e)
    have kp : ∀ (c : Addr) (u : HO), H17 c = some u → H c = none → wos S (upd H17 b o') c = some u := fun c u e hc => by rw [wos_ne (nS c hc), upd_ne (fun z => by rw [z, hb] at hc; cases hc)]; exact e
    have hbN : H17 b = some o := sA _ _ hb
    obtain ⟨xb, yb, zb, eb, _⟩ := id hB
    have w_t1 := kp t1 _ ((((((((((((((((s2.trans s3).trans s4).trans s5).trans s6).trans s7).trans s8).trans s9).trans s10).trans s11).trans s12).trans s13).trans s14).trans s15).trans s16).trans s17) _ _ e_t1) f_t1
    have w_t2 := kp t2 _ (((((((((((((((s3.trans s4).trans s5).trans s6).trans s7).trans s8).trans s9).trans s10).trans s11).trans s12).trans s13).trans s14).trans s15).trans s16).trans s17) _ _ e_t2) f_t2
    have w_t3 := kp t3 _ ((((((((((((((s4.trans s5).trans s6).trans s7).trans s8).trans s9).trans s10).trans s11).trans s12).trans s13).trans s14).trans s15).trans s16).trans s17) _ _ e_t3) f_t3
    have w_t4 := kp t4 _ (((((((((((((s5.trans s6).trans s7).trans s8).trans s9).trans s10).trans s11).trans s12).trans s13).trans s14).trans s15).trans s16).trans s17) _ _ e_t4) f_t4
    have w_t5 := kp t5 _ ((((((((((((s6.trans s7).trans s8).trans s9).trans s10).trans s11).trans s12).trans s13).trans s14).trans s15).trans s16).trans s17) _ _ e_t5) f_t5
    have w_t6 := kp t6 _ (((((((((((s7.trans s8).trans s9).trans s10).trans s11).trans s12).trans s13).trans s14).trans s15).trans s16).trans s17) _ _ e_t6) f_t6
    have w_a1 := kp a1 _ (((((((((s9.trans s10).trans s11).trans s12).trans s13).trans s14).trans s15).trans s16).trans s17) _ _ e_a1) f_a1
    have w_t7 := kp t7 _ ((((((((s10.trans s11).trans s12).trans s13).trans s14).trans s15).trans s16).trans s17) _ _ e_t7) f_t7
    have w_a2 := kp a2 _ (((((((s11.trans s12).trans s13).trans s14).trans s15).trans s16).trans s17) _ _ e_a2) f_a2
    have w_t8 := kp t8 _ ((((((s12.trans s13).trans s14).trans s15).trans s16).trans s17) _ _ e_t8) f_t8
    have w_a3 := kp a3 _ (((((s13.trans s14).trans s15).trans s16).trans s17) _ _ e_a3) f_a3
    have w_t9 := kp t9 _ ((((s14.trans s15).trans s16).trans s17) _ _ e_t9) f_t9
    have w_a4 := kp a4 _ (((s15.trans s16).trans s17) _ _ e_a4) f_a4
    have w_t10 := kp t10 _ ((s16.trans s17) _ _ e_t10) f_t10
    have w_l3 : (upd H17 b o') l3 = some (.lst ([.non, .bl true, .int 0, .int 1, .int (-1), .str "", .str "a", .str "A", .str "a b", .str "abcdefg", .str "a1", .ref t1, .ref t2, .ref t3, .ref t4, .ref t5, .ref t6] ++ [.ref t7, .ref t8, .ref t9, .ref t10])) := by rw [upd_ne (fun e => by have z := e_l3; rw [e, hbN, eb] at z; cases z)]; exact e_l3
    have pick : ∀ v ∈ ([.non, .bl true, .int 0, .int 1, .int (-1), .str "", .str "a", .str "A", .str "a b", .str "abcdefg", .str "a1", .ref t1, .ref t2, .ref t3, .ref t4, .ref t5, .ref t6] ++ [.ref t7, .ref t8, .ref t9, .ref t10] : List V), ∃ d, Dq K S (upd H17 b o') v d ∧ tl d ≤ 2 ∧ Gd 2 20 d := by
      intro v hv
      simp only [List.cons_append, List.nil_append, List.mem_cons, List.not_mem_nil, or_false] at hv
      rcases hv with rfl | rfl | rfl | rfl | rfl | rfl | rfl | rfl | rfl | rfl | rfl | rfl | rfl | rfl | rfl | rfl | rfl | rfl | rfl | rfl | rfl
      · exact ⟨.none, ⟨.non, fun ds h => nomatch h⟩, by decide, by refine ⟨?_, ?_, ?_⟩ <;> first | decide | (simp [PyData.depth, PyData.depthAll]; done) | (simp [Nic, NicA]; done) | (simp only [Nic, NicA, Asc]; decide) | (simp only [wt, wtA]; decide)⟩
      · exact ⟨.bool true, ⟨.bl _, fun ds h => nomatch h⟩, by decide, by refine ⟨?_, ?_, ?_⟩ <;> first | decide | (simp [PyData.depth, PyData.depthAll]; done) | (simp [Nic, NicA]; done) | (simp only [Nic, NicA, Asc]; decide) | (simp only [wt, wtA]; decide)⟩
      · exact ⟨.int 0, ⟨.int _, fun ds h => nomatch h⟩, by decide, by refine ⟨?_, ?_, ?_⟩ <;> first | decide | (simp [PyData.depth, PyData.depthAll]; done) | (simp [Nic, NicA]; done) | (simp only [Nic, NicA, Asc]; decide) | (simp only [wt, wtA]; decide)⟩
      · exact ⟨.int 1, ⟨.int _, fun ds h => nomatch h⟩, by decide, by refine ⟨?_, ?_, ?_⟩ <;> first | decide | (simp [PyData.depth, PyData.depthAll]; done) | (simp [Nic, NicA]; done) | (simp only [Nic, NicA, Asc]; decide) | (simp only [wt, wtA]; decide)⟩
      · exact ⟨.int (-1), ⟨.int _, fun ds h => nomatch h⟩, by decide, by refine ⟨?_, ?_, ?_⟩ <;> first | decide | (simp [PyData.depth, PyData.depthAll]; done) | (simp [Nic, NicA]; done) | (simp only [Nic, NicA, Asc]; decide) | (simp only [wt, wtA]; decide)⟩
      · exact ⟨.str "", ⟨.str _, fun ds h => nomatch h⟩, by decide, by refine ⟨?_, ?_, ?_⟩ <;> first | decide | (simp [PyData.depth, PyData.depthAll]; done) | (simp [Nic, NicA]; done) | (simp only [Nic, NicA, Asc]; decide) | (simp only [wt, wtA]; decide)⟩
      · exact ⟨.str "a", ⟨.str _, fun ds h => nomatch h⟩, by decide, by refine ⟨?_, ?_, ?_⟩ <;> first | decide | (simp [PyData.depth, PyData.depthAll]; done) | (simp [Nic, NicA]; done) | (simp only [Nic, NicA, Asc]; decide) | (simp only [wt, wtA]; decide)⟩
      · exact ⟨.str "A", ⟨.str _, fun ds h => nomatch h⟩, by decide, by refine ⟨?_, ?_, ?_⟩ <;> first | decide | (simp [PyData.depth, PyData.depthAll]; done) | (simp [Nic, NicA]; done) | (simp only [Nic, NicA, Asc]; decide) | (simp only [wt, wtA]; decide)⟩
      · exact ⟨.str "a b", ⟨.str _, fun ds h => nomatch h⟩, by decide, by refine ⟨?_, ?_, ?_⟩ <;> first | decide | (simp [PyData.depth, PyData.depthAll]; done) | (simp [Nic, NicA]; done) | (simp only [Nic, NicA, Asc]; decide) | (simp only [wt, wtA]; decide)⟩
      · exact ⟨.str "abcdefg", ⟨.str _, fun ds h => nomatch h⟩, by decide, by refine ⟨?_, ?_, ?_⟩ <;> first | decide | (simp [PyData.depth, PyData.depthAll]; done) | (simp [Nic, NicA]; done) | (simp only [Nic, NicA, Asc]; decide) | (simp only [wt, wtA]; decide)⟩
      · exact ⟨.str "a1", ⟨.str _, fun ds h => nomatch h⟩, by decide, by refine ⟨?_, ?_, ?_⟩ <;> first | decide | (simp [PyData.depth, PyData.depthAll]; done) | (simp [Nic, NicA]; done) | (simp only [Nic, NicA, Asc]; decide) | (simp only [wt, wtA]; decide)⟩
      · exact ⟨.tuple [], ⟨.tup (.inl (.inr ⟨_, w_t1⟩)) .nil, fun ds h => ⟨t1, _, rfl, _, w_t1, c_t1, d_t1⟩⟩, by decide, by refine ⟨?_, ?_, ?_⟩ <;> first | decide | (simp [PyData.depth, PyData.depthAll]; done) | (simp [Nic, NicA]; done) | (simp only [Nic, NicA, Asc]; decide) | (simp only [wt, wtA]; decide)⟩
      · exact ⟨.list [], ⟨.lst (.inl (.inl w_t2)) .nil, fun ds h => nomatch h⟩, by decide, by refine ⟨?_, ?_, ?_⟩ <;> first | decide | (simp [PyData.depth, PyData.depthAll]; done) | (simp [Nic, NicA]; done) | (simp only [Nic, NicA, Asc]; decide) | (simp only [wt, wtA]; decide)⟩
      · exact ⟨.tuple [.str "a"], ⟨.tup (.inl (.inr ⟨_, w_t3⟩)) (.cons (.str _) .nil), fun ds h => ⟨t3, _, rfl, _, w_t3, c_t3, d_t3⟩⟩, by decide, by refine ⟨?_, ?_, ?_⟩ <;> first | decide | (simp [PyData.depth, PyData.depthAll]; done) | (simp [Nic, NicA]; done) | (simp only [Nic, NicA, Asc]; decide) | (simp only [wt, wtA]; decide)⟩
      · exact ⟨.list [.str "a"], ⟨.lst (.inl (.inl w_t4)) (.cons (.str _) .nil), fun ds h => nomatch h⟩, by decide, by refine ⟨?_, ?_, ?_⟩ <;> first | decide | (simp [PyData.depth, PyData.depthAll]; done) | (simp [Nic, NicA]; done) | (simp only [Nic, NicA, Asc]; decide) | (simp only [wt, wtA]; decide)⟩
      · exact ⟨.tuple [.str "a", .str "a"], ⟨.tup (.inl (.inr ⟨_, w_t5⟩)) (.cons (.str _) (.cons (.str _) .nil)), fun ds h => ⟨t5, _, rfl, _, w_t5, c_t5, d_t5⟩⟩, by decide, by refine ⟨?_, ?_, ?_⟩ <;> first | decide | (simp [PyData.depth, PyData.depthAll]; done) | (simp [Nic, NicA]; done) | (simp only [Nic, NicA, Asc]; decide) | (simp only [wt, wtA]; decide)⟩
      · exact ⟨.tuple [.str "a", .str "b"], ⟨.tup (.inl (.inr ⟨_, w_t6⟩)) (.cons (.str _) (.cons (.str _) .nil)), fun ds h => ⟨t6, _, rfl, _, w_t6, c_t6, d_t6⟩⟩, by decide, by refine ⟨?_, ?_, ?_⟩ <;> first | decide | (simp [PyData.depth, PyData.depthAll]; done) | (simp [Nic, NicA]; done) | (simp only [Nic, NicA, Asc]; decide) | (simp only [wt, wtA]; decide)⟩
      · exact ⟨.tuple [.tuple [.str "a", .str "a"]], ⟨.tup (.inl (.inr ⟨_, w_t7⟩)) (.cons (.tup (.inl (.inl w_a1)) (.cons (.str _) (.cons (.str _) .nil))) .nil), fun ds h => ⟨t7, _, rfl, _, w_t7, c_t7, d_t7⟩⟩, by decide, by refine ⟨?_, ?_, ?_⟩ <;> first | decide | (simp [PyData.depth, PyData.depthAll]; done) | (simp [Nic, NicA]; done) | (simp only [Nic, NicA, Asc]; decide) | (simp only [wt, wtA]; decide)⟩
      · exact ⟨.list [.tuple [.str "a", .str "a"]], ⟨.lst (.inl (.inl w_t8)) (.cons (.tup (.inl (.inl w_a2)) (.cons (.str _) (.cons (.str _) .nil))) .nil), fun ds h => nomatch h⟩, by decide, by refine ⟨?_, ?_, ?_⟩ <;> first | decide | (simp [PyData.depth, PyData.depthAll]; done) | (simp [Nic, NicA]; done) | (simp only [Nic, NicA, Asc]; decide) | (simp only [wt, wtA]; decide)⟩
      · exact ⟨.tuple [.tuple [.str "a", .str "b"]], ⟨.tup (.inl (.inr ⟨_, w_t9⟩)) (.cons (.tup (.inl (.inl w_a3)) (.cons (.str _) (.cons (.str _) .nil))) .nil), fun ds h => ⟨t9, _, rfl, _, w_t9, c_t9, d_t9⟩⟩, by decide, by refine ⟨?_, ?_, ?_⟩ <;> first | decide | (simp [PyData.depth, PyData.depthAll]; done) | (simp [Nic, NicA]; done) | (simp only [Nic, NicA, Asc]; decide) | (simp only [wt, wtA]; decide)⟩
      · exact ⟨.tuple [.tuple []], ⟨.tup (.inl (.inr ⟨_, w_t10⟩)) (.cons (.tup (.inl (.inl w_a4)) .nil) .nil), fun ds h => ⟨t10, _, rfl, _, w_t10, c_t10, d_t10⟩⟩, by decide, by refine ⟨?_, ?_, ?_⟩ <;> first | decide | (simp [PyData.depth, PyData.depthAll]; done) | (simp [Nic, NicA]; done) | (simp only [Nic, NicA, Asc]; decide) | (simp only [wt, wtA]; decide)⟩
    obtain ⟨rN, rfl⟩ := Int.eq_ofNat_of_zero_le r0
    have hrl : rN < ([.non, .bl true, .int 0, .int 1, .int (-1), .str "", .str "a", .str "A", .str "a b", .str "abcdefg", .str "a1", .ref t1, .ref t2, .ref t3, .ref t4, .ref t5, .ref t6] ++ [.ref t7, .ref t8, .ref t9, .ref t10] : List V).length := by show rN < 21; omega
    obtain ⟨d, hd, htl, hgd⟩ := pick _ (List.getElem_mem hrl)
    refine ⟨l3, _, _, _, rfl, rfl, .inl (.inl w_l3), atI_nat (List.getElem?_eq_getElem hrl), ?_⟩
    exact q _ _ d o' hd hgd htl upd_same hB' offA
end
end Kn
namespace Kn
open PySem PySem.Spec PyProof.Rows L2
section
variable {P : Program} {w : World} {K : PySem.W.Frag} {mg : Str → Option Value} {base : Heap}
def spOth (K : PySem.W.Frag) (lv : Nat) : Sp := fun vs H Q _ => ∃ (b : Addr) (o : HO) (n w : Nat) (S : Addr → Bool) (x : V) (d : PyData), vs = [.ref b, x] ∧ H b = some o ∧ Bx n o ∧ n + 10 * (lv + 1) < 800000000 ∧ S b = true ∧ (∀ c, S c = true → H c ≠ none) ∧ Dp K (wos S H) x d ∧ Gd lv w d ∧ w ≤ 10000 ∧
  ∀ H' y d' o', Dq K S H' y d' → Gd (lv + 2) (2 * w + 30) d' → tl d' ≤ tl d + 2 → H' b = some o' → Bx (n + 10 * (lv + 1)) o' → Off b H H' → Q y H'
set_option maxHeartbeats 8000000 in
theorem oth_step {f fT fD : Addr} {fd dT dD : FuncData} {lv k : Nat} {sp0 : Sp} (F : Fun K "_law_otherwise" "_law_otherwise" sOth f fd) (B : Bn mg) (FT : Fun K "_law_take" "_law_take" sTake fT dT) (gT : mg "_law_take" = some (.ref fT)) (bT : Binds K dT ["_law_box_here", "_law_bound"] [])
    (FD : Fun K "_law_odd" "_law_odd" sOdd fD dD) (gD : mg "_law_odd" = some (.ref fD)) (bD : Binds K dD ["_law_box_here"] []) (FO : Fun K "_law_otherwise" "_law_otherwise" sOth f fd) (gO : mg "_law_otherwise" = some (.ref f)) (bO : Binds K fd ["_law_box_here", "_law_matter"] [])
    (GO : FnOk P w K mg base CX0 (k + 2) f fd ["_law_box_here", "_law_matter"] sp0) (hrec : ∀ m, lv = m + 1 → ∀ vs H Q E, spOth K m vs H Q E → sp0 vs H Q E) : FnOk P w K mg base CX0 (k + 3) f fd ["_law_box_here", "_law_matter"] (spOth K lv) := by
  have GT : FnOk P w K mg base CX0 1 fT dT ["_law_box_here", "_law_bound"] spTake := ok_take FT
  have GD : FnOk P w K mg base CX0 2 fD dD ["_law_box_here"] (spOdd K) := ok_odd FD B FT gT bT
  refine F.ok scOth (fun vs H Q E h => ?_) (fun cdv A outer s H vs Q E hr h => ?_)
  · obtain ⟨b, o, n, w, S, x, d, rfl, _⟩ := h
    rfl
  · obtain ⟨b, o, n, w, S, x, d, rfl, hb, hB, hn, hSb, hS, hx, hg, hw, q⟩ := h
    have hr1 : Room 1 _ := hr.mono (by omega)
    have hr2 : Room 2 _ := hr.mono (by omega)
    refine ⟨_, (C8.pss_cut (ps_if (PW.pt (pw_and (pt_val (pe_callB call_isiT (by rfl) B.isi (by decide +kernel) (pa_cons (pv 1) (pa_cons (pe_tup (pa_cons (pe_bltn (v := .ty "list") (by rfl) B.list (by decide +kernel) rfl) (pa_cons (pe_bltn (v := .ty "tuple") (by rfl) B.tuple (by decide +kernel) rfl) pa_nil))) pa_nil)))) (pw_and (pt_cmpR op_gt (pe_callB call_len_seq (by rfl) B.len PySem.boot_len (pa_cons (pv 1) pa_nil)) pe_int (nomark _)) (pw_and1 (pt_cmpR op_gt (pe_call GT hr1 (by rfl) gT FT.kp bT .nil pass0 (pa_cons (pv 0) (pa_cons pe_int pa_nil))) pe_int (nomark _)))))) (pss_cons (ps_par3 (i := 2) (j := 3) (l := 4) rfl scOth.nd rfl rfl rfl (by decide) (by decide) (by decide) rfl rfl rfl (pa_cons (pe_call GT hr1 (by rfl) gT FT.kp bT .nil pass0 (pa_cons (pv 0) (pa_cons (pe_callB call_len_seq (by rfl) B.len PySem.boot_len (pa_cons (pv 1) pa_nil)) pa_nil))) (pa_cons (pe_call GT hr1 (by rfl) gT FT.kp bT .nil pass0 (pa_cons (pv 0) (pa_cons pe_int pa_nil))) (pa_cons (pe_callTy call_list_of (by rfl) B.list (by decide +kernel) (pa_cons (pv 1) pa_nil)) pa_nil))) rfl)
      (C8.pss_cut (ps_if (pt_cmpR op_lt (pv 3) pe_int (nomark _)) (pss_one (ps_asg (pe_call GO hr (by rfl) gO FO.kp bO .nil pass0 (pa_cons (pv 0) (pa_cons (pe_ix ix_seq (pv 1) (pv 2) (fun _ _ => rfl)) pa_nil))) (pg_sub (pv 4) (pv 2) set_list))) (pss_one (ps_if (pt_cmpR op_eq (pv 3) pe_int (nomark _)) (pss_one (ps_expr (pe_bm PySem.F.plainAttrs_list PySem.F.slot_list_pop PySem.F.type_list_pop mt_popAt (pv 4) (pa_cons (pv 2) pa_nil)))) (pss_one (ps_if (pt_cmpR op_eq (pv 3) pe_int (nomark _)) (pss_one (ps_expr (pe_bm PySem.F.plainAttrs_list PySem.F.slot_list_insert PySem.F.type_list_insert mt_insert (pv 4) (pa_cons (pv 2) (pa_cons (pe_ix ix_seq (pv 1) (pv 2) (fun _ _ => rfl)) pa_nil))))) (pss_one (ps_if (pt_cmpR op_eq (pv 3) pe_int (nomark _)) (pss_one (ps_expr (pe_bm0 PySem.F.plainAttrs_list PySem.F.slot_list_reverse PySem.F.type_list_reverse mt_reverse (pv 4)))) (pss_one (ps_ret (pe_ifExp (pt_val (pe_callB call_isi (by rfl) B.isi (by decide +kernel) (pa_cons (pv 1) (pa_cons (pe_bltn (v := .ty "tuple") (by rfl) B.tuple (by decide +kernel) rfl) pa_nil)))) (pv 4) (pe_callTy cr_tupD (by rfl) B.tuple (by decide +kernel) (pa_cons (pv 4) pa_nil))))))))))))
      (pss_one (ps_ret (pe_ifExp (pt_val (pe_callB call_isi (by rfl) B.isi (by decide +kernel) (pa_cons (pv 1) (pa_cons (pe_bltn (v := .ty "list") (by rfl) B.list (by decide +kernel) rfl) pa_nil)))) (pv 4) (pe_callTy cr_tupD (by rfl) B.tuple (by decide +kernel) (pa_cons (pv 4) pa_nil))))))) pss_nil)
      (C8.pss_cut (ps_if (PW.pt (pw_and (pt_val (pe_callB call_isi (by rfl) B.isi (by decide +kernel) (pa_cons (pv 1) (pa_cons (pe_bltn (v := .ty "int") (by rfl) B.int (by decide +kernel) rfl) pa_nil)))) (pw_and (pt_not (pt_val (pe_callB call_isi (by rfl) B.isi (by decide +kernel) (pa_cons (pv 1) (pa_cons (pe_bltn (v := .ty "bool") (by rfl) B.bool (by decide +kernel) rfl) pa_nil))))) (pw_and1 (pt_cmpR op_gt (pe_call GT hr1 (by rfl) gT FT.kp bT .nil pass0 (pa_cons (pv 0) (pa_cons pe_int pa_nil))) pe_int (nomark _)))))) (pss_one (ps_ret (pe_ix ix_list (pe_lst (pa_cons (pe_op op_add (pv 1) pe_int) (pa_cons (pe_op op_sub (pv 1) pe_int) (pa_cons pe_int (pa_cons (pe_un un_neg (pv 1)) (pa_cons (pe_cmpR op_eq (pv 1) pe_int (nomark _)) (pa_cons (pe_callTy call_str_int (by rfl) B.str (by decide +kernel) (pa_cons (pv 1) pa_nil)) (pa_cons pe_non pa_nil)))))))) (pe_call GT hr1 (by rfl) gT FT.kp bT .nil pass0 (pa_cons (pv 0) (pa_cons pe_int pa_nil))) (fun _ _ => rfl)))) pss_nil)
      (C8.pss_cut (ps_if (PW.pt (pw_and (pt_val (pe_callB call_isi (by rfl) B.isi (by decide +kernel) (pa_cons (pv 1) (pa_cons (pe_bltn (v := .ty "str") (by rfl) B.str (by decide +kernel) rfl) pa_nil)))) (pw_and1 (pt_cmpR op_gt (pe_call GT hr1 (by rfl) gT FT.kp bT .nil pass0 (pa_cons (pv 0) (pa_cons pe_int pa_nil))) pe_int (nomark _))))) (pss_one (ps_ret (pe_ix ix_list (pe_lst (pa_cons (pe_op op_add_str (pv 1) pe_str) (pa_cons (pe_slice sl_str (pv 1) (po_some pe_int) po_none) (pa_cons (pe_upper (pv 1)) (pa_cons (pe_op op_add_str (pv 1) pe_str) (pa_cons (pe_tupD (pa_cons (pv 1) pa_nil)) (pa_cons (pe_revS (pv 1)) pa_nil))))))) (pe_call GT hr1 (by rfl) gT FT.kp bT .nil pass0 (pa_cons (pv 0) (pa_cons pe_int pa_nil))) (fun _ _ => rfl)))) pss_nil)
      (pss_one (ps_ret (pe_call GD hr2 (by rfl) gD FD.kp bD .nil pass0 (pa_cons (pv 0) pa_nil))))))), ?_⟩
    obtain ⟨xb, yb, zb, eb, _⟩ := id hB
    have hnb : ∀ (H' : Hp) (o' : HO) (c : Addr), H' b = some o' → H' c = none → c ≠ b := fun H' o' c h1 h2 e => by rw [e, h1] at h2; cases h2
    have nS : ∀ (G : Hp) (o' : HO) (c : Addr), Off b H G → G b = some o' → G c = none → S c = false := fun G o' c h1 h2 h3 => by
      cases e : S c with
      | false => rfl
      | true =>
        cases e2 : H c with
        | none => exact absurd e2 (hS c e)
        | some u =>
          have hcb : c ≠ b := hnb _ _ _ h2 h3
          rw [h1 c u e2 hcb] at h3
          cases h3
    have fin : ∀ (H' : Hp) (y : V) (d' : PyData) (o' : HO) (j : Nat), Dq K S H' y d' → Gd (lv + 2) (2 * w + 30) d' → tl d' ≤ 2 → H' b = some o' → Bx (n + j) o' → j ≤ 10 * (lv + 1) → Off b H H' → Q y H' := fun H' y d' o' j h1 h2 ht h3 h4 h5 h6 => q H' y d' o' h1 h2 (Nat.le_trans ht (Nat.le_add_left _ _)) h3 (h4.mono (by omega)) h6
    have hmono : ∀ {j k : Nat} {σ' : L2.St} {H' : Hp}, j ≤ k → (∃ o', σ' = [some (.ref b), some x, none, none, none] ∧ H' b = some o' ∧ Bx (n + j) o' ∧ Off b H H') → ∃ o', σ' = [some (.ref b), some x, none, none, none] ∧ H' b = some o' ∧ Bx (n + k) o' ∧ Off b H H' := fun hjk ⟨o', h1, h2, h3, h4⟩ => ⟨o', h1, h2, h3.mono (by omega), h4⟩
    refine ⟨(fun σ' H' => ∃ o', σ' = [some (.ref b), some x, none, none, none] ∧ H' b = some o' ∧ Bx (n + 1) o' ∧ Off b H H'), ?_, fun σ1 H1 h1 => ⟨(fun σ' H' => ∃ o', σ' = [some (.ref b), some x, none, none, none] ∧ H' b = some o' ∧ Bx (n + 2) o' ∧ Off b H H'), ?_, fun σ2 H2 h2 => ⟨(fun σ' H' => ∃ o', σ' = [some (.ref b), some x, none, none, none] ∧ H' b = some o' ∧ Bx (n + 3) o' ∧ Off b H H'), ?_, fun σ3 H3 h3 => ?_⟩⟩⟩
    · have go : ∀ (tp : Addr), H tp = none → Off b H (upd H tp (.tup [.ty "list", .ty "tuple"])) := fun tp np => Same.off (same_new np)
      have at0 : ∀ (H' : Hp) (o' : HO) (j : Nat), H' b = some o' → Bx (n + j) o' → Off b H H' → j ≤ 1 → ∃ o', ([some (.ref b), some x, none, none, none] : L2.St) = [some (.ref b), some x, none, none, none] ∧ H' b = some o' ∧ Bx (n + 1) o' ∧ Off b H H' := fun H' o' j h1 h2 h3 h4 => ⟨o', rfl, h1, h2.mono (by omega), h3⟩
      cases d with
      | dict kvs => cases hx
      | none =>
        refine ⟨_, rfl, (by show 2 ≤ sizeLine; decide), fun tp np => ⟨_, tp, _, _, [.type "list", .type "tuple"], false || false, rfl, upd_same, .cons (.ty _) (.cons (.ty _) .nil), dp_ty (dp_same (same_new np) (dp_same wos_in hx)), kit2 (by show kitB "NoneType" "list" = _; decide +kernel) (by show kitB "NoneType" "tuple" = _; decide +kernel), false, rfl, iteF (iteF ?_)⟩⟩
        exact at0 _ o 0 (same_new np _ _ hb) hB (go tp np) (by decide)
      | bool z =>
        refine ⟨_, rfl, (by show 2 ≤ sizeLine; decide), fun tp np => ⟨_, tp, _, _, [.type "list", .type "tuple"], false || false, rfl, upd_same, .cons (.ty _) (.cons (.ty _) .nil), dp_ty (dp_same (same_new np) (dp_same wos_in hx)), kit2 (by show kitB "bool" "list" = _; decide +kernel) (by show kitB "bool" "tuple" = _; decide +kernel), false, rfl, iteF (iteF ?_)⟩⟩
        exact at0 _ o 0 (same_new np _ _ hb) hB (go tp np) (by decide)
      | int z =>
        refine ⟨_, rfl, (by show 2 ≤ sizeLine; decide), fun tp np => ⟨_, tp, _, _, [.type "list", .type "tuple"], false || false, rfl, upd_same, .cons (.ty _) (.cons (.ty _) .nil), dp_ty (dp_same (same_new np) (dp_same wos_in hx)), kit2 (by show kitB "int" "list" = _; decide +kernel) (by show kitB "int" "tuple" = _; decide +kernel), false, rfl, iteF (iteF ?_)⟩⟩
        exact at0 _ o 0 (same_new np _ _ hb) hB (go tp np) (by decide)
      | str z =>
        refine ⟨_, rfl, (by show 2 ≤ sizeLine; decide), fun tp np => ⟨_, tp, _, _, [.type "list", .type "tuple"], false || false, rfl, upd_same, .cons (.ty _) (.cons (.ty _) .nil), dp_ty (dp_same (same_new np) (dp_same wos_in hx)), kit2 (by show kitB "str" "list" = _; decide +kernel) (by show kitB "str" "tuple" = _; decide +kernel), false, rfl, iteF (iteF ?_)⟩⟩
        exact at0 _ o 0 (same_new np _ _ hb) hB (go tp np) (by decide)
      | list ds =>
        cases hx with
        | @lst ax xs _ qx ex =>
        have lx := dpA_len ex
        obtain ⟨m, rfl⟩ : ∃ m, lv = m + 1 := ⟨lv - 1, by have := hg.1; rw [PyData.depth] at this; omega⟩
        obtain ⟨w', rfl⟩ : ∃ w', w = w' + 1 := ⟨w - 1, by have := hg.2.2; rw [wt] at this; omega⟩
        obtain ⟨hel, hwt⟩ := gd_list.mp hg
        have hlw := wtA_len ds
        refine ⟨_, rfl, (by show 2 ≤ sizeLine; decide), fun tp np => ⟨_, tp, _, _, [.type "list", .type "tuple"], true || false, rfl, upd_same, .cons (.ty _) (.cons (.ty _) .nil), dp_ty (dp_same (same_new np) (dp_same wos_in (.lst qx ex))), kit2 (by show kitB "list" "list" = _; decide +kernel) (by show kitB "list" "tuple" = _; decide +kernel), true, rfl, iteT ?_⟩⟩
        have hb1 : (upd H tp (.tup [.ty "list", .ty "tuple"])) b = some o := same_new np _ _ hb
        have of1 := go tp np
        generalize upd H tp (.tup [.ty "list", .ty "tuple"]) = G1 at hb1 of1 ⊢
        have sq : ∀ G, Off b H G → SqL K G ax xs := fun G h => Same.seq wos_in (Same.seq (wos_same hSb h) qx)
        have dpx : ∀ G, Off b H G → DpAll K (wos S G) xs ds := fun G h => dpA_same (wos_same hSb h) ex
        refine ⟨_, rfl, ax, xs, rfl, .inl (sq _ of1), _, 0, rfl, rfl, _, rfl, ite2 (fun hpos => ?_) (fun hpos => ?_)⟩
        · have hlen : 0 < xs.length := by have : (0 : Int) < (xs.length : Int) := of_decide_eq_true hpos; omega
          refine ⟨.ref b, rfl, b, o, n, 6, rfl, hb1, hB, by omega, by decide, by decide, fun r1 o1 r10 r11 hB1 => ?_⟩
          refine ⟨_, 0, rfl, rfl, _, rfl, ite2 (fun hp1 => ?_) (fun hp1 => ?_)⟩
          · have of2 : Off b H (upd G1 b o1) := of1.trans (Off.at b G1 o1)
            have hb2 : (upd G1 b o1) b = some o1 := upd_same
            generalize upd G1 b o1 = G2 at of2 hb2 ⊢
            refine ⟨.ref b, rfl, .ref ax, rfl, ax, xs, rfl, .inl (sq _ of2), b, o1, n + 1, _, rfl, hb2, hB1, by omega, by omega, by omega, fun ra o2 ra0 ra1 hB2 => ?_⟩
            have of3 : Off b H (upd G2 b o2) := of2.trans (Off.at b G2 o2)
            have hb3 : (upd G2 b o2) b = some o2 := upd_same
            generalize upd G2 b o2 = G3 at of3 hb3 ⊢
            refine ⟨.ref b, rfl, b, o2, n + 1 + 1, 10, rfl, hb3, hB2, by omega, by decide, by decide, fun rt o3 rt0 rt1 hB3 => ?_⟩
            have of4 : Off b H (upd G3 b o3) := of3.trans (Off.at b G3 o3)
            have hb4 : (upd G3 b o3) b = some o3 := upd_same
            generalize upd G3 b o3 = G4 at of4 hb4 ⊢
            refine ⟨_, rfl, ax, xs, rfl, .inl (sq _ of4), fun L nL => ⟨_, _, _, rfl, ?_⟩⟩
            have nLb : L ≠ b := hnb _ _ _ hb4 nL
            have of5 : Off b H (upd G4 L (.lst xs)) := of4.trans (Same.off (same_new nL))
            have hb5 : (upd G4 L (.lst xs)) b = some o3 := by rw [upd_ne nLb.symm]; exact hb4
            have hL5 : (upd G4 L (.lst xs)) L = some (.lst xs) := upd_same
            have fr5 : ∀ c u, H c = some u → c ≠ L := fun c u e z => by
              by_cases hcb : c = b
              · exact nLb (z.symm.trans hcb)
              · rw [z] at e hcb
                rw [of4 _ _ e hcb] at nL
                cases nL
            generalize upd G4 L (.lst xs) = G5 at of5 hb5 hL5 ⊢
            have upOff : ∀ (G : Hp) (ys : List V), Off b H G → Off b H (upd G L (.lst ys)) := fun G ys h c u e hc => by rw [upd_ne (fr5 c u e)]; exact h c u e hc
            have resL : ∀ (G : Hp) (ys : List V) (es : List PyData) (o' : HO), G L = some (.lst ys) → DpAll K (wos S G) ys es → (∀ e ∈ es, e.depth ≤ m + 2 ∧ Nic e) → (wtA es ≤ 2 * w' + 30 ∧ es.length ≤ ds.length + 2) → G b = some o' → Bx (n + 10 * (m + 1 + 1)) o' → Off b H G → Q (.ref L) G := fun G ys es o' h1 h2 h3 h4 h5 h6 h7 => q G _ (.list es) o' ⟨.lst (.inl (.inl (by rw [wos_ne (nS _ _ _ of4 hb4 nL)]; exact h1))) h2, fun _ z => nomatch z⟩ ((gd_list (n := m + 2) (w := 2 * w' + 30)).mpr ⟨h3, h4.1⟩ |>.mono (by omega) (by omega)) h4.2 h5 h6 h7
            have resT : ∀ (G : Hp) (ys : List V) (es : List PyData) (o' : HO) (t : Addr) (ot : Obj), G t = none → ot.cls = .type "tuple" → ot.dict = none → DpAll K (wos S G) ys es → (∀ e ∈ es, e.depth ≤ m + 2 ∧ Nic e) → (wtA es ≤ 2 * w' + 30 ∧ es.length ≤ ds.length + 2) → G b = some o' → Bx (n + 10 * (m + 1 + 1)) o' → Off b H G → Q (.ref t) (upd G t (.frz ot (.tup ys))) := fun G ys es o' t ot h0 hc hd h2 h3 h4 h5 h6 h7 => by
              have ntb : t ≠ b := hnb _ _ _ h5 h0
              have of6 : Off b G (upd G t (.frz ot (.tup ys))) := Same.off (same_new h0)
              have ht : (wos S (upd G t (.frz ot (.tup ys)))) t = some (.frz ot (.tup ys)) := by rw [wos_ne (nS _ _ _ h7 h5 h0)]; exact upd_same
              exact q _ _ (.tuple es) o' ⟨.tup (.inl (.inr ⟨_, ht⟩)) (dpA_same (wos_same hSb of6) h2), fun _ _ => ⟨t, _, rfl, _, ht, hc, hd⟩⟩ ((gd_tup (n := m + 2) (w := 2 * w' + 30)).mpr ⟨h3, h4.1⟩ |>.mono (by omega) (by omega)) h4.2 (by rw [upd_ne ntb.symm]; exact h5) h6 (h7.trans of6)
            obtain ⟨aN, rfl⟩ := Int.eq_ofNat_of_zero_le ra0
            have haN : aN < xs.length := by omega
            have hxa : xs[aN]? = some xs[aN] := List.getElem?_eq_getElem haN
            obtain ⟨da, hda, _⟩ := dpA_get ex hxa
            have hdm : da ∈ ds := List.mem_of_getElem? hda
            have hwa := wtA_mem hdm
            have hel2 : ∀ e ∈ ds, e.depth ≤ m + 2 ∧ Nic e := fun e he => ⟨Nat.le_trans (hel e he).1 (by omega), (hel e he).2⟩
            have hB3' : Bx (n + 10 * (m + 1 + 1)) o3 := hB3.mono (by omega)
            refine ⟨fun σ' G => ∃ ys es o', σ' = [some (.ref b), some (.ref ax), some (.int (aN : Int)), some (.int rt), some (.ref L)] ∧ G L = some (.lst ys) ∧ DpAll K (wos S G) ys es ∧ (∀ e ∈ es, e.depth ≤ m + 2 ∧ Nic e) ∧ (wtA es ≤ 2 * w' + 30 ∧ es.length ≤ ds.length + 2) ∧ G b = some o' ∧ Bx (n + 10 * (m + 1 + 1)) o' ∧ Off b H G, ?_, fun σ' G hM => ?_⟩
            · have upDp : ∀ (G : Hp) (zs ys : List V) (es : List PyData), G L = some (.lst zs) → Off b H G → DpAll K (wos S G) ys es → (∀ (c : Addr), c = L → True) → True := fun _ _ _ _ _ _ _ _ => trivial
              have dpL : ∀ (G : Hp) (ys : List V), Off b H G → DpAll K (wos S (upd G L (.lst ys))) xs ds := fun G ys h => dpx _ (upOff G ys h)
              refine ⟨_, rfl, rt, 6, rfl, rfl, _, rfl, ite2 (fun _ => ?_) (fun _ => ?_)⟩
              · refine ⟨_, rfl, _, rfl, _, rfl, .inl ⟨ax, xs, _, _, rfl, rfl, sq _ of5, atI_nat hxa, hrec m rfl _ _ _ _ ⟨b, o3, n + 1 + 1 + 1, wt da, (fun c => S c || decide (c = L)), xs[aN], da, rfl, hb5, hB3, by omega, by show (S b || decide (b = L)) = true; rw [hSb]; rfl, ?_, ?_, ⟨(hel da hdm).1, (hel da hdm).2, Nat.le_refl _⟩, by omega, fun G6 y e o4 hDq hGd _ hb6 hB4 of6 => ?_⟩⟩⟩
                · intro c hc z
                  rcases (Bool.or_eq_true _ _).mp hc with e | e
                  · cases e2 : H c with
                    | none => exact hS c e e2
                    | some u =>
                      by_cases hcb : c = b
                      · rw [hcb, hb5] at z; cases z
                      · rw [of5 c u e2 hcb] at z; cases z
                  · rw [of_decide_eq_true e, hL5] at z; cases z
                · obtain ⟨d2, h2, k2⟩ := dpA_get ex hxa
                  obtain rfl : da = d2 := Option.some.inj (hda.symm.trans h2)
                  refine dp_same (fun c u e => ?_) k2
                  obtain ⟨h3, h4⟩ := wos_some e
                  have hS2 : (S c || decide (c = L)) = false := by rw [h3, decide_eq_false (fr5 c u h4)]; rfl
                  rw [wos_ne (S := fun c => S c || decide (c = L)) hS2]
                  exact of5 c u h4 fun z => by rw [z, hSb] at h3; cases h3
                · have hL6 := of6 _ _ hL5 nLb
                  have of7 := of5.trans of6
                  refine ⟨_, rfl, _, rfl, L, xs, _, aN, rfl, rfl, hL6, ?_, ?_⟩
                  · unfold ixN
                    rw [if_pos (by omega), if_pos (by omega)]
                    rfl
                  · have sL : Same (wos S G6) (wos S (upd G6 L (.lst (xs.set aN y)))) → True := fun _ => trivial
                    refine ⟨xs.set aN y, ds.set aN e, o4, rfl, upd_same, ?_, fun e' he' => ?_, ?_, by rw [upd_ne nLb.symm]; exact hb6, hB4.mono (by omega), upOff _ _ of7⟩
                    · exact dpA_set aN (dpL _ _ of7) (dp_same (fun c u e' => by obtain ⟨h3, h4⟩ := wos_some e'; obtain ⟨h5, h6⟩ := (Bool.or_eq_false_iff.mp h3); rw [wos_ne h5, upd_ne (of_decide_eq_false h6)]; exact h4) hDq.1)
                    · rcases List.mem_or_eq_of_mem_set he' with z | z
                      · exact hel2 e' z
                      · rw [z]; exact ⟨hGd.1, hGd.2.1⟩
                    · have h1 := wtA_set ds aN da e hda
                      have h2 := hGd.2.2
                      exact ⟨by omega, by rw [List.length_set]; omega⟩
              refine ⟨_, rfl, rfl, _, rfl, ite2 (fun _ => ?_) (fun _ => ?_)⟩
              · refine ⟨_, rfl, .inl ⟨rfl, _, .inl (.inl hL5)⟩, _, rfl, L, xs, _, aN, xs[aN], rfl, rfl, hL5, by omega, by omega, ?_, hxa, ?_⟩
                · unfold seqIndex?
                  simp
                  omega
                · exact ⟨xs.eraseIdx aN, ds.eraseIdx aN, o3, rfl, upd_same, dpA_erase aN (dpL _ _ of5), fun e' he' => hel2 e' (List.mem_of_mem_eraseIdx he'), ⟨by have := wtA_erase ds aN; omega, Nat.le_trans (List.length_eraseIdx_le ..) (Nat.le_add_right _ _)⟩, by rw [upd_ne nLb.symm]; exact hb5, hB3', upOff _ _ of5⟩
              refine ⟨_, rfl, rfl, _, rfl, ite2 (fun _ => ?_) (fun _ => ?_)⟩
              · refine ⟨_, rfl, .inl ⟨rfl, _, .inl (.inl hL5)⟩, _, rfl, _, rfl, _, rfl, .inl ⟨ax, xs, _, _, rfl, rfl, sq _ of5, atI_nat hxa, L, xs, _, xs[aN], rfl, rfl, hL5, Nat.lt_of_le_of_lt (by omega : xs.length ≤ 100000) (by decide), by omega, by omega, ?_⟩⟩
                obtain ⟨d2, h2, k2⟩ := dpA_get (dpL G5 (xs.take aN ++ [xs[aN]] ++ xs.drop aN) of5) hxa
                obtain rfl : da = d2 := Option.some.inj (hda.symm.trans h2)
                refine ⟨_, ds.take aN ++ [da] ++ ds.drop aN, o3, rfl, upd_same, dpA_app (dpA_app (dpA_take aN (dpL _ _ of5)) (.cons k2 .nil)) (dpA_drop aN (dpL _ _ of5)), fun e' he' => ?_, ?_, by rw [upd_ne nLb.symm]; exact hb5, hB3', upOff _ _ of5⟩
                · rcases List.mem_append.mp he' with z | z
                  · rcases List.mem_append.mp z with z | z
                    · exact hel2 e' (List.mem_of_mem_take z)
                    · rw [List.mem_singleton.mp z]; exact hel2 da hdm
                  · exact hel2 e' (List.mem_of_mem_drop z)
                · have h1 := wtA_take_drop ds aN
                  refine ⟨?_, ?_⟩
                  · rw [wtA_app, wtA_app, wtA, wtA]
                    omega
                  · rw [List.length_append, List.length_append, List.length_take, List.length_drop]
                    show min aN ds.length + 1 + (ds.length - aN) ≤ ds.length + 2
                    omega
              refine ⟨_, rfl, rfl, _, rfl, ite2 (fun _ => ?_) (fun _ => ?_)⟩
              · refine ⟨_, rfl, .inl ⟨rfl, _, .inl (.inl hL5)⟩, L, xs, rfl, rfl, hL5, ?_⟩
                exact ⟨xs.reverse, ds.reverse, o3, rfl, upd_same, dpA_rev (dpL _ _ of5), fun e' he' => hel2 e' (List.mem_reverse.mp he'), ⟨by rw [wtA_rev]; omega, by rw [List.length_reverse]; omega⟩, by rw [upd_ne nLb.symm]; exact hb5, hB3', upOff _ _ of5⟩
              · refine ⟨_, rfl, ⟨_, .ty "tuple", _, _, false, rfl, .ty _, dp_ty (dp_same wos_in (.lst (Same.seq (wos_same hSb of5) qx) (dpx _ of5))), kit_ty (by show kitB "list" "tuple" = _; decide +kernel), false, rfl, iteF ⟨_, rfl, L, _, rfl, .inl (.inl hL5), fun t ot nt hc hd => ?_⟩⟩⟩
                exact resT G5 xs ds o3 t ot nt hc hd (dpx _ of5) hel2 ⟨by omega, by omega⟩ hb5 hB3' of5
            · obtain ⟨ys, es, o', rfl, h1, h2, h3, h4, h5, h6, h7⟩ := hM
              refine ⟨_, rfl, ⟨_, .ty "list", _, _, true, rfl, .ty _, dp_ty (dp_same wos_in (.lst (Same.seq (wos_same hSb h7) qx) (dpx _ h7))), kit_ty (by show kitB "list" "list" = _; decide +kernel), true, rfl, iteT ⟨_, rfl, ?_⟩⟩⟩
              exact resL G ys es o' h1 h2 h3 h4 h5 h6 h7
          · exact at0 _ o1 1 upd_same hB1 (of1.trans (Off.at b G1 o1)) (by decide)
        · exact at0 _ o 0 hb1 hB of1 (by decide)
      | tuple ds =>
        cases hx with
        | @tup ax xs _ qx ex =>
        have lx := dpA_len ex
        obtain ⟨m, rfl⟩ : ∃ m, lv = m + 1 := ⟨lv - 1, by have := hg.1; rw [PyData.depth] at this; omega⟩
        obtain ⟨w', rfl⟩ : ∃ w', w = w' + 1 := ⟨w - 1, by have := hg.2.2; rw [wt] at this; omega⟩
        obtain ⟨hel, hwt⟩ := gd_tup.mp hg
        have hlw := wtA_len ds
        refine ⟨_, rfl, (by show 2 ≤ sizeLine; decide), fun tp np => ⟨_, tp, _, _, [.type "list", .type "tuple"], false || true, rfl, upd_same, .cons (.ty _) (.cons (.ty _) .nil), dp_ty (dp_same (same_new np) (dp_same wos_in (.tup qx ex))), kit2 (by show kitB "tuple" "list" = _; decide +kernel) (by show kitB "tuple" "tuple" = _; decide +kernel), true, rfl, iteT ?_⟩⟩
        have hb1 : (upd H tp (.tup [.ty "list", .ty "tuple"])) b = some o := same_new np _ _ hb
        have of1 := go tp np
        generalize upd H tp (.tup [.ty "list", .ty "tuple"]) = G1 at hb1 of1 ⊢
        have sq : ∀ G, Off b H G → SqT K G ax xs := fun G h => sqT_same wos_in (sqT_same (wos_same hSb h) qx)
        have dpx : ∀ G, Off b H G → DpAll K (wos S G) xs ds := fun G h => dpA_same (wos_same hSb h) ex
        refine ⟨_, rfl, ax, xs, rfl, .inr (sq _ of1), _, 0, rfl, rfl, _, rfl, ite2 (fun hpos => ?_) (fun hpos => ?_)⟩
        · have hlen : 0 < xs.length := by have : (0 : Int) < (xs.length : Int) := of_decide_eq_true hpos; omega
          refine ⟨.ref b, rfl, b, o, n, 6, rfl, hb1, hB, by omega, by decide, by decide, fun r1 o1 r10 r11 hB1 => ?_⟩
          refine ⟨_, 0, rfl, rfl, _, rfl, ite2 (fun hp1 => ?_) (fun hp1 => ?_)⟩
          · have of2 : Off b H (upd G1 b o1) := of1.trans (Off.at b G1 o1)
            have hb2 : (upd G1 b o1) b = some o1 := upd_same
            generalize upd G1 b o1 = G2 at of2 hb2 ⊢
            refine ⟨.ref b, rfl, .ref ax, rfl, ax, xs, rfl, .inr (sq _ of2), b, o1, n + 1, _, rfl, hb2, hB1, by omega, by omega, by omega, fun ra o2 ra0 ra1 hB2 => ?_⟩
            have of3 : Off b H (upd G2 b o2) := of2.trans (Off.at b G2 o2)
            have hb3 : (upd G2 b o2) b = some o2 := upd_same
            generalize upd G2 b o2 = G3 at of3 hb3 ⊢
            refine ⟨.ref b, rfl, b, o2, n + 1 + 1, 10, rfl, hb3, hB2, by omega, by decide, by decide, fun rt o3 rt0 rt1 hB3 => ?_⟩
            have of4 : Off b H (upd G3 b o3) := of3.trans (Off.at b G3 o3)
            have hb4 : (upd G3 b o3) b = some o3 := upd_same
            generalize upd G3 b o3 = G4 at of4 hb4 ⊢
            refine ⟨_, rfl, ax, xs, rfl, .inr (sq _ of4), fun L nL => ⟨_, _, _, rfl, ?_⟩⟩
            have nLb : L ≠ b := hnb _ _ _ hb4 nL
            have of5 : Off b H (upd G4 L (.lst xs)) := of4.trans (Same.off (same_new nL))
            have hb5 : (upd G4 L (.lst xs)) b = some o3 := by rw [upd_ne nLb.symm]; exact hb4
            have hL5 : (upd G4 L (.lst xs)) L = some (.lst xs) := upd_same
            have fr5 : ∀ c u, H c = some u → c ≠ L := fun c u e z => by
              by_cases hcb : c = b
              · exact nLb (z.symm.trans hcb)
              · rw [z] at e hcb
                rw [of4 _ _ e hcb] at nL
                cases nL
            generalize upd G4 L (.lst xs) = G5 at of5 hb5 hL5 ⊢
            have upOff : ∀ (G : Hp) (ys : List V), Off b H G → Off b H (upd G L (.lst ys)) := fun G ys h c u e hc => by rw [upd_ne (fr5 c u e)]; exact h c u e hc
            have resL : ∀ (G : Hp) (ys : List V) (es : List PyData) (o' : HO), G L = some (.lst ys) → DpAll K (wos S G) ys es → (∀ e ∈ es, e.depth ≤ m + 2 ∧ Nic e) → (wtA es ≤ 2 * w' + 30 ∧ es.length ≤ ds.length + 2) → G b = some o' → Bx (n + 10 * (m + 1 + 1)) o' → Off b H G → Q (.ref L) G := fun G ys es o' h1 h2 h3 h4 h5 h6 h7 => q G _ (.list es) o' ⟨.lst (.inl (.inl (by rw [wos_ne (nS _ _ _ of4 hb4 nL)]; exact h1))) h2, fun _ z => nomatch z⟩ ((gd_list (n := m + 2) (w := 2 * w' + 30)).mpr ⟨h3, h4.1⟩ |>.mono (by omega) (by omega)) h4.2 h5 h6 h7
            have resT : ∀ (G : Hp) (ys : List V) (es : List PyData) (o' : HO) (t : Addr) (ot : Obj), G t = none → ot.cls = .type "tuple" → ot.dict = none → DpAll K (wos S G) ys es → (∀ e ∈ es, e.depth ≤ m + 2 ∧ Nic e) → (wtA es ≤ 2 * w' + 30 ∧ es.length ≤ ds.length + 2) → G b = some o' → Bx (n + 10 * (m + 1 + 1)) o' → Off b H G → Q (.ref t) (upd G t (.frz ot (.tup ys))) := fun G ys es o' t ot h0 hc hd h2 h3 h4 h5 h6 h7 => by
              have ntb : t ≠ b := hnb _ _ _ h5 h0
              have of6 : Off b G (upd G t (.frz ot (.tup ys))) := Same.off (same_new h0)
              have ht : (wos S (upd G t (.frz ot (.tup ys)))) t = some (.frz ot (.tup ys)) := by rw [wos_ne (nS _ _ _ h7 h5 h0)]; exact upd_same
              exact q _ _ (.tuple es) o' ⟨.tup (.inl (.inr ⟨_, ht⟩)) (dpA_same (wos_same hSb of6) h2), fun _ _ => ⟨t, _, rfl, _, ht, hc, hd⟩⟩ ((gd_tup (n := m + 2) (w := 2 * w' + 30)).mpr ⟨h3, h4.1⟩ |>.mono (by omega) (by omega)) h4.2 (by rw [upd_ne ntb.symm]; exact h5) h6 (h7.trans of6)
            obtain ⟨aN, rfl⟩ := Int.eq_ofNat_of_zero_le ra0
            have haN : aN < xs.length := by omega
            have hxa : xs[aN]? = some xs[aN] := List.getElem?_eq_getElem haN
            obtain ⟨da, hda, _⟩ := dpA_get ex hxa
            have hdm : da ∈ ds := List.mem_of_getElem? hda
            have hwa := wtA_mem hdm
            have hel2 : ∀ e ∈ ds, e.depth ≤ m + 2 ∧ Nic e := fun e he => ⟨Nat.le_trans (hel e he).1 (by omega), (hel e he).2⟩
            have hB3' : Bx (n + 10 * (m + 1 + 1)) o3 := hB3.mono (by omega)
            refine ⟨fun σ' G => ∃ ys es o', σ' = [some (.ref b), some (.ref ax), some (.int (aN : Int)), some (.int rt), some (.ref L)] ∧ G L = some (.lst ys) ∧ DpAll K (wos S G) ys es ∧ (∀ e ∈ es, e.depth ≤ m + 2 ∧ Nic e) ∧ (wtA es ≤ 2 * w' + 30 ∧ es.length ≤ ds.length + 2) ∧ G b = some o' ∧ Bx (n + 10 * (m + 1 + 1)) o' ∧ Off b H G, ?_, fun σ' G hM => ?_⟩
            · have upDp : ∀ (G : Hp) (zs ys : List V) (es : List PyData), G L = some (.lst zs) → Off b H G → DpAll K (wos S G) ys es → (∀ (c : Addr), c = L → True) → True := fun _ _ _ _ _ _ _ _ => trivial
              have dpL : ∀ (G : Hp) (ys : List V), Off b H G → DpAll K (wos S (upd G L (.lst ys))) xs ds := fun G ys h => dpx _ (upOff G ys h)
              refine ⟨_, rfl, rt, 6, rfl, rfl, _, rfl, ite2 (fun _ => ?_) (fun _ => ?_)⟩
              · refine ⟨_, rfl, _, rfl, _, rfl, .inr (.inl ⟨ax, xs, _, _, rfl, rfl, sq _ of5, atI_nat hxa, hrec m rfl _ _ _ _ ⟨b, o3, n + 1 + 1 + 1, wt da, (fun c => S c || decide (c = L)), xs[aN], da, rfl, hb5, hB3, by omega, by show (S b || decide (b = L)) = true; rw [hSb]; rfl, ?_, ?_, ⟨(hel da hdm).1, (hel da hdm).2, Nat.le_refl _⟩, by omega, fun G6 y e o4 hDq hGd _ hb6 hB4 of6 => ?_⟩⟩)⟩
                · intro c hc z
                  rcases (Bool.or_eq_true _ _).mp hc with e | e
                  · cases e2 : H c with
                    | none => exact hS c e e2
                    | some u =>
                      by_cases hcb : c = b
                      · rw [hcb, hb5] at z; cases z
                      · rw [of5 c u e2 hcb] at z; cases z
                  · rw [of_decide_eq_true e, hL5] at z; cases z
                · obtain ⟨d2, h2, k2⟩ := dpA_get ex hxa
                  obtain rfl : da = d2 := Option.some.inj (hda.symm.trans h2)
                  refine dp_same (fun c u e => ?_) k2
                  obtain ⟨h3, h4⟩ := wos_some e
                  have hS2 : (S c || decide (c = L)) = false := by rw [h3, decide_eq_false (fr5 c u h4)]; rfl
                  rw [wos_ne (S := fun c => S c || decide (c = L)) hS2]
                  exact of5 c u h4 fun z => by rw [z, hSb] at h3; cases h3
                · have hL6 := of6 _ _ hL5 nLb
                  have of7 := of5.trans of6
                  refine ⟨_, rfl, _, rfl, L, xs, _, aN, rfl, rfl, hL6, ?_, ?_⟩
                  · unfold ixN
                    rw [if_pos (by omega), if_pos (by omega)]
                    rfl
                  · have sL : Same (wos S G6) (wos S (upd G6 L (.lst (xs.set aN y)))) → True := fun _ => trivial
                    refine ⟨xs.set aN y, ds.set aN e, o4, rfl, upd_same, ?_, fun e' he' => ?_, ?_, by rw [upd_ne nLb.symm]; exact hb6, hB4.mono (by omega), upOff _ _ of7⟩
                    · exact dpA_set aN (dpL _ _ of7) (dp_same (fun c u e' => by obtain ⟨h3, h4⟩ := wos_some e'; obtain ⟨h5, h6⟩ := (Bool.or_eq_false_iff.mp h3); rw [wos_ne h5, upd_ne (of_decide_eq_false h6)]; exact h4) hDq.1)
                    · rcases List.mem_or_eq_of_mem_set he' with z | z
                      · exact hel2 e' z
                      · rw [z]; exact ⟨hGd.1, hGd.2.1⟩
                    · have h1 := wtA_set ds aN da e hda
                      have h2 := hGd.2.2
                      exact ⟨by omega, by rw [List.length_set]; omega⟩
              refine ⟨_, rfl, rfl, _, rfl, ite2 (fun _ => ?_) (fun _ => ?_)⟩
              · refine ⟨_, rfl, .inl ⟨rfl, _, .inl (.inl hL5)⟩, _, rfl, L, xs, _, aN, xs[aN], rfl, rfl, hL5, by omega, by omega, ?_, hxa, ?_⟩
                · unfold seqIndex?
                  simp
                  omega
                · exact ⟨xs.eraseIdx aN, ds.eraseIdx aN, o3, rfl, upd_same, dpA_erase aN (dpL _ _ of5), fun e' he' => hel2 e' (List.mem_of_mem_eraseIdx he'), ⟨by have := wtA_erase ds aN; omega, Nat.le_trans (List.length_eraseIdx_le ..) (Nat.le_add_right _ _)⟩, by rw [upd_ne nLb.symm]; exact hb5, hB3', upOff _ _ of5⟩
              refine ⟨_, rfl, rfl, _, rfl, ite2 (fun _ => ?_) (fun _ => ?_)⟩
              · refine ⟨_, rfl, .inl ⟨rfl, _, .inl (.inl hL5)⟩, _, rfl, _, rfl, _, rfl, .inr (.inl ⟨ax, xs, _, _, rfl, rfl, sq _ of5, atI_nat hxa, L, xs, _, xs[aN], rfl, rfl, hL5, Nat.lt_of_le_of_lt (by omega : xs.length ≤ 100000) (by decide), by omega, by omega, ?_⟩)⟩
                obtain ⟨d2, h2, k2⟩ := dpA_get (dpL G5 (xs.take aN ++ [xs[aN]] ++ xs.drop aN) of5) hxa
                obtain rfl : da = d2 := Option.some.inj (hda.symm.trans h2)
                refine ⟨_, ds.take aN ++ [da] ++ ds.drop aN, o3, rfl, upd_same, dpA_app (dpA_app (dpA_take aN (dpL _ _ of5)) (.cons k2 .nil)) (dpA_drop aN (dpL _ _ of5)), fun e' he' => ?_, ?_, by rw [upd_ne nLb.symm]; exact hb5, hB3', upOff _ _ of5⟩
                · rcases List.mem_append.mp he' with z | z
                  · rcases List.mem_append.mp z with z | z
                    · exact hel2 e' (List.mem_of_mem_take z)
                    · rw [List.mem_singleton.mp z]; exact hel2 da hdm
                  · exact hel2 e' (List.mem_of_mem_drop z)
                · have h1 := wtA_take_drop ds aN
                  refine ⟨?_, ?_⟩
                  · rw [wtA_app, wtA_app, wtA, wtA]
                    omega
                  · rw [List.length_append, List.length_append, List.length_take, List.length_drop]
                    show min aN ds.length + 1 + (ds.length - aN) ≤ ds.length + 2
                    omega
              refine ⟨_, rfl, rfl, _, rfl, ite2 (fun _ => ?_) (fun _ => ?_)⟩
              · refine ⟨_, rfl, .inl ⟨rfl, _, .inl (.inl hL5)⟩, L, xs, rfl, rfl, hL5, ?_⟩
                exact ⟨xs.reverse, ds.reverse, o3, rfl, upd_same, dpA_rev (dpL _ _ of5), fun e' he' => hel2 e' (List.mem_reverse.mp he'), ⟨by rw [wtA_rev]; omega, by rw [List.length_reverse]; omega⟩, by rw [upd_ne nLb.symm]; exact hb5, hB3', upOff _ _ of5⟩
              · refine ⟨_, rfl, ⟨_, .ty "tuple", _, _, true, rfl, .ty _, dp_ty (dp_same wos_in (.tup (sqT_same (wos_same hSb of5) qx) (dpx _ of5))), kit_ty (by show kitB "tuple" "tuple" = _; decide +kernel), true, rfl, iteT ⟨_, rfl, ?_⟩⟩⟩
                exact resL G5 xs ds o3 hL5 (dpx _ of5) hel2 ⟨by omega, by omega⟩ hb5 hB3' of5
            · obtain ⟨ys, es, o', rfl, h1, h2, h3, h4, h5, h6, h7⟩ := hM
              refine ⟨_, rfl, ⟨_, .ty "list", _, _, false, rfl, .ty _, dp_ty (dp_same wos_in (.tup (sqT_same (wos_same hSb h7) qx) (dpx _ h7))), kit_ty (by show kitB "tuple" "list" = _; decide +kernel), false, rfl, iteF ⟨_, rfl, L, _, rfl, .inl (.inl h1), fun t ot nt hc hd => ?_⟩⟩⟩
              exact resT G ys es o' t ot nt hc hd h2 h3 h4 h5 h6 h7
          · exact at0 _ o1 1 upd_same hB1 (of1.trans (Off.at b G1 o1)) (by decide)
        · exact at0 _ o 0 hb1 hB of1 (by decide)
    · obtain ⟨o1, rfl, hb1, hB1, of1⟩ := h1
      have hx1 := dp_same (wos_same hSb of1) hx
      have hxH := dp_same wos_in hx1
      have at0 : ∀ (H' : Hp) (o' : HO) (j : Nat), H' b = some o' → Bx (n + j) o' → Off b H H' → j ≤ 2 → ∃ o', ([some (.ref b), some x, none, none, none] : L2.St) = [some (.ref b), some x, none, none, none] ∧ H' b = some o' ∧ Bx (n + 2) o' ∧ Off b H H' := fun H' o' j h1 h2 h3 h4 => ⟨o', rfl, h1, h2.mono (by omega), h3⟩
      cases d with
      | dict kvs => cases hx
      | none =>
        refine ⟨_, rfl, ⟨_, .ty "int", _, _, false, rfl, .ty _, dp_ty (hxH), kit_ty (by show kitB "NoneType" "int" = _; decide +kernel), false, rfl, iteF (iteF ?_)⟩⟩
        exact at0 _ o1 1 hb1 hB1 of1 (by decide)
      | str z =>
        refine ⟨_, rfl, ⟨_, .ty "int", _, _, false, rfl, .ty _, dp_ty (hxH), kit_ty (by show kitB "str" "int" = _; decide +kernel), false, rfl, iteF (iteF ?_)⟩⟩
        exact at0 _ o1 1 hb1 hB1 of1 (by decide)
      | list ds =>
        refine ⟨_, rfl, ⟨_, .ty "int", _, _, false, rfl, .ty _, dp_ty (hxH), kit_ty (by show kitB "list" "int" = _; decide +kernel), false, rfl, iteF (iteF ?_)⟩⟩
        exact at0 _ o1 1 hb1 hB1 of1 (by decide)
      | tuple ds =>
        refine ⟨_, rfl, ⟨_, .ty "int", _, _, false, rfl, .ty _, dp_ty (hxH), kit_ty (by show kitB "tuple" "int" = _; decide +kernel), false, rfl, iteF (iteF ?_)⟩⟩
        exact at0 _ o1 1 hb1 hB1 of1 (by decide)
      | bool z =>
        refine ⟨_, rfl, ⟨_, .ty "int", _, _, true, rfl, .ty _, dp_ty (hxH), kit_ty (by show kitB "bool" "int" = _; decide +kernel), true, rfl, iteT ?_⟩⟩
        refine ⟨_, rfl, ⟨_, .ty "bool", _, _, true, rfl, .ty _, dp_ty (hxH), kit_ty (by show kitB "bool" "bool" = _; decide +kernel), true, rfl, iteF (iteF ?_)⟩⟩
        exact at0 _ o1 1 hb1 hB1 of1 (by decide)
      | int z =>
        cases hx
        refine ⟨_, rfl, ⟨_, .ty "int", _, _, true, rfl, .ty _, dp_ty (hxH), kit_ty (by show kitB "int" "int" = _; decide +kernel), true, rfl, iteT ?_⟩⟩
        refine ⟨_, rfl, ⟨_, .ty "bool", _, _, false, rfl, .ty _, dp_ty (hxH), kit_ty (by show kitB "int" "bool" = _; decide +kernel), false, rfl, iteT ?_⟩⟩
        refine ⟨.ref b, rfl, b, o1, n + 1, 4, rfl, hb1, hB1, by omega, by decide, by decide, fun r1 o2 r10 r11 hB2 => ?_⟩
        refine ⟨_, 0, rfl, rfl, _, rfl, ite2 (fun hp1 => ?_) (fun hp1 => ?_)⟩
        · have of2 : Off b H (upd H1 b o2) := of1.trans (Off.at b H1 o2)
          have hb2 : (upd H1 b o2) b = some o2 := upd_same
          generalize upd H1 b o2 = G2 at of2 hb2 ⊢
          have hz : z.natAbs ≤ w := by have := hg.2.2; rw [wt] at this; omega
          have hlg : z.natAbs.log2 < 1920 := of_decide_eq_true (by have := nic_show (.int z) (by rw [Nic]; trivial) (by rw [wt]; omega); rw [PyData.showable] at this; exact this)
          refine ⟨_, rfl, z, 1, rfl, rfl, _, rfl, z, 1, rfl, rfl, _, rfl, z, rfl, _, rfl, rfl, _, rfl, z, rfl, hlg, (by show 7 ≤ sizeLine; decide), fun L nL => ?_⟩
          have nLb : L ≠ b := hnb _ _ _ hb2 nL
          generalize hl : [V.int (z + 1), V.int (z - 1), V.int 0, V.int (-z), V.bl (decide (V.int z = V.int 1)), V.str (Str.ofString (toString z)), V.non] = l7
          have hL3 : (upd G2 L (.lst l7)) L = some (.lst l7) := upd_same
          have hb3 : (upd G2 L (.lst l7)) b = some o2 := by rw [upd_ne nLb.symm]; exact hb2
          have of3 : Off b H (upd G2 L (.lst l7)) := of2.trans (Same.off (same_new nL))
          show _
          refine ⟨.ref b, rfl, b, o2, n + 1 + 1, 7, rfl, ?_, hB2, by omega, by decide, by decide, fun r o3 r0 r1' hB3 => ?_⟩
          · exact hb3
          have pick : ∀ v ∈ l7, ∃ d, Dq K S (upd (upd G2 L (.lst l7)) b o3) v d ∧ Gd 0 (2 * w + 30) d := by
            intro v hv
            rw [← hl] at hv
            simp only [List.mem_cons, List.not_mem_nil, or_false] at hv
            have ga : ∀ i : Int, i.natAbs ≤ w + 1 → Gd 0 (2 * w + 30) (.int i) := fun i hi => ⟨by rw [PyData.depth]; exact Nat.le_refl _, by rw [Nic]; trivial, by rw [wt]; omega⟩
            rcases hv with rfl | rfl | rfl | rfl | rfl | rfl | rfl
            · exact ⟨.int (z + 1), ⟨.int _, fun _ h => nomatch h⟩, ga _ (by omega)⟩
            · exact ⟨.int (z - 1), ⟨.int _, fun _ h => nomatch h⟩, ga _ (by omega)⟩
            · exact ⟨.int (0), ⟨.int _, fun _ h => nomatch h⟩, ga _ (by omega)⟩
            · exact ⟨.int (-z), ⟨.int _, fun _ h => nomatch h⟩, ga _ (by omega)⟩
            · exact ⟨.bool _, ⟨.bl _, fun _ h => nomatch h⟩, by rw [PyData.depth]; exact Nat.le_refl _, by rw [Nic]; trivial, by rw [wt]; omega⟩
            · exact ⟨.str _, ⟨.str _, fun _ h => nomatch h⟩, by rw [PyData.depth]; exact Nat.le_refl _, by rw [Nic]; exact asc_int z, by have := len_str_of_int z; rw [wt]; omega⟩
            · exact ⟨.none, ⟨.non, fun _ h => nomatch h⟩, by rw [PyData.depth]; exact Nat.le_refl _, by rw [Nic]; trivial, by rw [wt]; omega⟩
          obtain ⟨rN, rfl⟩ := Int.eq_ofNat_of_zero_le r0
          have hrl : rN < l7.length := by rw [← hl]; show rN < 7; omega
          obtain ⟨d, hd, hgd⟩ := pick _ (List.getElem_mem hrl)
          refine ⟨L, l7, _, _, rfl, rfl, .inl (.inl (by rw [upd_ne nLb]; exact hL3)), atI_nat (List.getElem?_eq_getElem hrl), ?_⟩
          exact fin _ _ d o3 3 hd (hgd.mono (by omega) (Nat.le_refl _)) (tl_flat hgd) upd_same hB3 (by omega) (of3.trans (Off.at b _ o3))
        · exact at0 _ o2 2 upd_same hB2 (of1.trans (Off.at b H1 o2)) (by decide)
    · obtain ⟨o1, rfl, hb1, hB1, of1⟩ := h2
      have hx1 := dp_same (wos_same hSb of1) hx
      have hxH := dp_same wos_in hx1
      have at0 : ∀ (H' : Hp) (o' : HO) (j : Nat), H' b = some o' → Bx (n + j) o' → Off b H H' → j ≤ 3 → ∃ o', ([some (.ref b), some x, none, none, none] : L2.St) = [some (.ref b), some x, none, none, none] ∧ H' b = some o' ∧ Bx (n + 3) o' ∧ Off b H H' := fun H' o' j h1 h2 h3 h4 => ⟨o', rfl, h1, h2.mono (by omega), h3⟩
      cases d with
      | dict kvs => cases hx
      | none =>
        refine ⟨_, rfl, ⟨_, .ty "str", _, _, false, rfl, .ty _, dp_ty (hxH), kit_ty (by show kitB "NoneType" "str" = _; decide +kernel), false, rfl, iteF (iteF ?_)⟩⟩
        exact at0 _ o1 2 hb1 hB1 of1 (by decide)
      | bool z =>
        refine ⟨_, rfl, ⟨_, .ty "str", _, _, false, rfl, .ty _, dp_ty (hxH), kit_ty (by show kitB "bool" "str" = _; decide +kernel), false, rfl, iteF (iteF ?_)⟩⟩
        exact at0 _ o1 2 hb1 hB1 of1 (by decide)
      | int z =>
        refine ⟨_, rfl, ⟨_, .ty "str", _, _, false, rfl, .ty _, dp_ty (hxH), kit_ty (by show kitB "int" "str" = _; decide +kernel), false, rfl, iteF (iteF ?_)⟩⟩
        exact at0 _ o1 2 hb1 hB1 of1 (by decide)
      | list ds =>
        refine ⟨_, rfl, ⟨_, .ty "str", _, _, false, rfl, .ty _, dp_ty (hxH), kit_ty (by show kitB "list" "str" = _; decide +kernel), false, rfl, iteF (iteF ?_)⟩⟩
        exact at0 _ o1 2 hb1 hB1 of1 (by decide)
      | tuple ds =>
        refine ⟨_, rfl, ⟨_, .ty "str", _, _, false, rfl, .ty _, dp_ty (hxH), kit_ty (by show kitB "tuple" "str" = _; decide +kernel), false, rfl, iteF (iteF ?_)⟩⟩
        exact at0 _ o1 2 hb1 hB1 of1 (by decide)
      | str z =>
        cases hx
        refine ⟨_, rfl, ⟨_, .ty "str", _, _, true, rfl, .ty _, dp_ty (hxH), kit_ty (by show kitB "str" "str" = _; decide +kernel), true, rfl, iteT ?_⟩⟩
        refine ⟨.ref b, rfl, b, o1, n + 2, 4, rfl, hb1, hB1, by omega, by decide, by decide, fun r1 o2 r10 r11 hB2 => ?_⟩
        refine ⟨_, 0, rfl, rfl, _, rfl, ite2 (fun hp1 => ?_) (fun hp1 => ?_)⟩
        · have of2 : Off b H (upd H2 b o2) := of1.trans (Off.at b H2 o2)
          have hb2 : (upd H2 b o2) b = some o2 := upd_same
          generalize upd H2 b o2 = G2 at of2 hb2 ⊢
          have hz : 1 + z.length ≤ w := by have := hg.2.2; rw [wt] at this; exact this
          have hzA : Asc z := by have := hg.2.1; rw [Nic] at this; exact this
          have hzl : z.length + 1 ≤ sizeLine := Nat.le_trans (by omega : z.length + 1 ≤ 100000) (by decide)
          have hu := up_ok hzA
          refine ⟨_, rfl, z, "s", rfl, rfl, hzl, _, rfl, 1, rfl, z, rfl, by omega, _, rfl, ⟨z, rfl⟩, z, rfl, rfl, by omega, _, rfl, z, " ", rfl, rfl, hzl, _, rfl, (by show 1 ≤ sizeLine; decide), fun t ot nt hc hd => ?_⟩
          have ntb : t ≠ b := hnb _ _ _ hb2 nt
          have ht3 : (upd G2 t (.frz ot (.tup [.str z]))) t = some (.frz ot (.tup [.str z])) := upd_same
          have hb3 : (upd G2 t (.frz ot (.tup [.str z]))) b = some o2 := by rw [upd_ne ntb.symm]; exact hb2
          have of3 : Off b H (upd G2 t (.frz ot (.tup [.str z]))) := of2.trans (Same.off (same_new nt))
          generalize upd G2 t (.frz ot (.tup [.str z])) = G3 at ht3 hb3 of3 ⊢
          refine ⟨_, rfl, z, rfl, by omega, fun zr hrl hrc => ⟨(by show 6 ≤ sizeLine; decide), fun L nL => ?_⟩⟩
          have nLb : L ≠ b := hnb _ _ _ hb3 nL
          have nLt : t ≠ L := ne_of_none ht3 nL
          generalize hl : [V.str (z ++ "s"), V.str (cutS z (some 1) none), V.str (Txt.upper z), V.str (z ++ " "), V.ref t, V.str zr] = l6
          have hL3 : (upd G3 L (.lst l6)) L = some (.lst l6) := upd_same
          have hb4 : (upd G3 L (.lst l6)) b = some o2 := by rw [upd_ne nLb.symm]; exact hb3
          have of4 : Off b H (upd G3 L (.lst l6)) := of3.trans (Same.off (same_new nL))
          refine ⟨.ref b, rfl, b, o2, n + 2 + 1, 6, rfl, ?_, hB2, by omega, by decide, by decide, fun r o3 r0 r1' hB3 => ?_⟩
          · exact hb4
          have ht5 : (wos S (upd (upd G3 L (.lst l6)) b o3)) t = some (.frz ot (.tup [.str z])) := by rw [wos_ne (nS _ _ _ of2 hb2 nt), upd_ne ntb, upd_ne nLt]; exact ht3
          have gs : ∀ y : Str, Asc y → y.length ≤ z.length + 1 → ∃ d, Dq K S (upd (upd G3 L (.lst l6)) b o3) (.str y) d ∧ tl d ≤ 2 ∧ Gd 1 (2 * w + 30) d := fun y h1 h2 => ⟨.str y, ⟨.str _, fun _ h => nomatch h⟩, Nat.zero_le _, by rw [PyData.depth]; omega, by rw [Nic]; exact h1, by rw [wt]; omega⟩
          have a1 : Asc "s" := by unfold Asc; decide
          have a2 : Asc " " := by unfold Asc; decide
          have pick : ∀ v ∈ l6, ∃ d, Dq K S (upd (upd G3 L (.lst l6)) b o3) v d ∧ tl d ≤ 2 ∧ Gd 1 (2 * w + 30) d := by
            intro v hv
            rw [← hl] at hv
            simp only [List.mem_cons, List.not_mem_nil, or_false] at hv
            rcases hv with rfl | rfl | rfl | rfl | rfl | rfl
            · exact gs _ (asc_app hzA a1) (by rw [strLen_append]; exact Nat.le_refl _)
            · exact gs _ (asc_cut hzA _ _) (Nat.le_succ_of_le (cutS_length _ _ _))
            · exact gs _ hu.1 (by omega)
            · exact gs _ (asc_app hzA a2) (by rw [strLen_append]; exact Nat.le_refl _)
            · refine ⟨.tuple [.str z], ⟨.tup (.inl (.inr ⟨_, ht5⟩)) (.cons (.str _) .nil), fun _ _ => ⟨t, _, rfl, _, ht5, hc, hd⟩⟩, by show 1 ≤ 2; decide, ?_, ?_, ?_⟩
              · simp [PyData.depth, PyData.depthAll]
              · simp only [Nic, NicA]; exact ⟨hzA, trivial⟩
              · simp only [wt, wtA]; omega
            · exact gs _ (fun c hc => hzA c (hrc c hc)) (by omega)
          obtain ⟨rN, rfl⟩ := Int.eq_ofNat_of_zero_le r0
          have hrl2 : rN < l6.length := by rw [← hl]; show rN < 6; omega
          obtain ⟨d, hd', htl, hgd⟩ := pick _ (List.getElem_mem hrl2)
          refine ⟨L, l6, _, _, rfl, rfl, .inl (.inl (by rw [upd_ne nLb]; exact hL3)), atI_nat (List.getElem?_eq_getElem hrl2), ?_⟩
          exact fin _ _ d o3 4 hd' (hgd.mono (by omega) (Nat.le_refl _)) htl upd_same hB3 (by omega) (of4.trans (Off.at b _ o3))
        · exact at0 _ o2 3 upd_same hB2 (of1.trans (Off.at b H2 o2)) (by decide)
    · obtain ⟨o1, rfl, hb1, hB1, of1⟩ := h3
      have hS1 : ∀ c, S c = true → H3 c ≠ none := fun c hc z => by
        cases e2 : H c with
        | none => exact hS c hc e2
        | some u =>
          by_cases hcb : c = b
          · rw [hcb, hb1] at z; cases z
          · rw [of1 c u e2 hcb] at z; cases z
      refine ⟨_, rfl, b, o1, n + 3, S, rfl, hb1, hB1, by omega, hSb, hS1, fun H' y d' o' hD hG htl hb' hB' of' => ?_⟩
      exact fin H' y d' o' 4 hD (hG.mono (by omega) (by omega)) htl hb' hB' (by omega) (of1.trans of')
end
end Kn
namespace Kn
open PySem PySem.Spec PyProof.Rows L2
section
variable {P : Program} {w : World} {K : PySem.W.Frag} {mg : Str → Option Value} {base : Heap}
theorem ok_oth {f fT fD : Addr} {fd dT dD : FuncData} (F : Fun K "_law_otherwise" "_law_otherwise" sOth f fd) (B : Bn mg) (FT : Fun K "_law_take" "_law_take" sTake fT dT) (gT : mg "_law_take" = some (.ref fT)) (bT : Binds K dT ["_law_box_here", "_law_bound"] [])
    (FD : Fun K "_law_odd" "_law_odd" sOdd fD dD) (gD : mg "_law_odd" = some (.ref fD)) (bD : Binds K dD ["_law_box_here"] []) (gO : mg "_law_otherwise" = some (.ref f)) (bO : Binds K fd ["_law_box_here", "_law_matter"] []) :
    ∀ lv, FnOk P w K mg base CX0 (lv + 3) f fd ["_law_box_here", "_law_matter"] (spOth K lv)
  | 0 => oth_step (k := 0) F B FT gT bT FD gD bD F gO bO (sp0 := fun _ _ _ _ => False) ⟨fun _ _ _ _ h => h.elim, fun _ _ _ _ _ _ _ _ _ _ _ _ _ h => h.elim⟩ (fun _ e => nomatch e)
  | lv + 1 => oth_step (k := lv + 1) F B FT gT bT FD gD bD F gO bO (ok_oth F B FT gT bT FD gD bD gO bO lv) (fun m e vs H Q E h => by cases e; exact h)
end
/-! names -/
def isLet (c : Nat) : Bool := decide (97 ≤ c) && decide (c ≤ 122)
abbrev LET : Str := "abcdefghijklmnopqrstuvwxyz"
theorem let_list : LET.cps.toList = List.range' 97 26 := by decide +kernel
theorem let_mem (c : Nat) : decide (c ∈ LET.cps.toList) = isLet c := by
  rw [let_list]
  unfold isLet
  rw [← Bool.decide_and, decide_eq_decide, List.mem_range'_1]
  omega
theorem let_cont (c : Nat) : LET.cps.contains c = isLet c := by
  rw [← let_mem, ← Array.contains_toList]
  simp
def nameB : PyData → Bool
  | .str z => decide (1 ≤ z.length) && decide (z.length ≤ 6) && z.cps.toList.all isLet
  | _ => false
theorem nameB_str (z : Str) : nameB (.str z) = (decide (1 ≤ z.length) && decide (z.length ≤ 6) && z.cps.toList.all isLet) := rfl
def strOf1 : PyData → Str
  | .str z => z
  | _ => ""
def rowB : PyData → Bool
  | .tuple ds => !ds.isEmpty && (ds.all nameB && decide (ds.map strOf1).Nodup)
  | _ => false
theorem rowB_tup (ds : List PyData) : rowB (.tuple ds) = (!ds.isEmpty && (ds.all nameB && decide (ds.map strOf1).Nodup)) := rfl
theorem strOf_map (zs : List Str) : (zs.map PyData.str).map strOf1 = zs := by
  rw [List.map_map]
  exact (List.map_congr_left fun z _ => rfl).trans (List.map_id zs)
theorem names_of : ∀ {ds : List PyData}, ds.all nameB = true → ∃ zs : List Str, ds = zs.map PyData.str ∧ ∀ z ∈ zs, nameB (.str z) = true
  | [], _ => ⟨[], rfl, fun z h => by cases h⟩
  | d :: ds, h => by
    rw [List.all_cons, Bool.and_eq_true] at h
    obtain ⟨zs, e, hz⟩ := names_of h.2
    cases d with
    | str z => exact ⟨z :: zs, by rw [e]; rfl, fun y hy => by rcases List.mem_cons.mp hy with q | q; · rw [q]; exact h.1
                                                              · exact hz y q⟩
    | none => cases h.1
    | bool _ => cases h.1
    | int _ => cases h.1
    | list _ => cases h.1
    | tuple _ => cases h.1
    | dict _ => cases h.1
theorem dpA_strs {K : PySem.W.Frag} {H : Hp} : ∀ {zs : List Str} {xs : List V}, DpAll K H xs (zs.map PyData.str) → xs = zs.map V.str
  | [], _, h => by cases h; rfl
  | z :: zs, _, h => by
    cases h with
    | cons h1 h2 =>
      cases h1
      rw [dpA_strs h2]
      rfl
theorem tw_all {α : Type} (p : α → Bool) : ∀ l : List α, (l.takeWhile p).length = l.length ↔ l.all p = true
  | [] => by simp
  | x :: l => by
    rw [List.takeWhile_cons, List.all_cons]
    cases e : p x with
    | true =>
      have ih := tw_all p l
      simp only [if_true, List.length_cons, Bool.true_and]
      rw [← ih]
      omega
    | false => simp
theorem tw_le {α : Type} (p : α → Bool) : ∀ l : List α, (l.takeWhile p).length ≤ l.length
  | [] => Nat.le_refl _
  | x :: l => by
    rw [List.takeWhile_cons]
    cases p x with
    | true =>
      have := tw_le p l
      simp only [if_true, List.length_cons]
      omega
    | false => simp
theorem tw_drop {α : Type} (p : α → Bool) : ∀ l : List α, (l.drop (l.takeWhile p).length).all p = true → l.all p = true
  | [], _ => rfl
  | x :: l, h => by
    rw [List.takeWhile_cons] at h
    cases e : p x with
    | true =>
      rw [e] at h
      simp only [if_true, List.length_cons, List.drop_succ_cons] at h
      rw [List.all_cons, e, tw_drop p l h]
      rfl
    | false =>
      rw [e] at h
      simpa using h
theorem strip_len (z : Str) : (Txt.stripChars z LET).length = 0 ↔ z.cps.toList.all isLet = true := by
  have hg : (LET.cps.contains : Nat → Bool) = isLet := funext let_cont
  have hlen : z.length = z.cps.toList.length := by simp [Str.length]
  unfold Txt.stripChars
  rw [hg, stripBy_eq]
  have hhi : stripHi isLet true z (stripLo isLet true z) ≤ z.length := by
    unfold stripHi
    rw [if_pos rfl]
    omega
  rw [PySem.size_strSub _ _ _ hhi]
  unfold stripHi stripLo
  rw [if_pos rfl, if_pos rfl]
  generalize hl : z.cps.toList = l at hlen ⊢
  have h1 := tw_le isLet l
  have h2 := tw_le isLet (l.drop (l.takeWhile isLet).length).reverse
  rw [List.length_reverse, List.length_drop] at h2
  constructor
  · intro h
    by_cases hall : l.all isLet = true
    · exact hall
    · exfalso
      have h3 : ¬ ((l.drop (l.takeWhile isLet).length).reverse.takeWhile isLet).length = (l.drop (l.takeWhile isLet).length).reverse.length := fun e => by
        have e2 := (tw_all isLet _).mp e
        rw [List.all_reverse] at e2
        exact hall (tw_drop isLet l e2)
      have h4 : ¬ (l.takeWhile isLet).length = l.length := fun e => hall ((tw_all isLet l).mp e)
      rw [List.length_reverse, List.length_drop] at h3
      omega
  · intro h
    have h3 := (tw_all isLet l).mpr h
    omega
theorem strip_b (z : Str) : decide (V.str (Txt.stripChars z LET) = V.str "") = z.cps.toList.all isLet := by
  have h := strip_len z
  cases e : z.cps.toList.all isLet with
  | true =>
    refine decide_eq_true (congrArg V.str ?_)
    have h2 : (Txt.stripChars z LET).cps.size = 0 := h.mpr e
    cases hz : Txt.stripChars z LET with
    | mk a =>
      rw [hz] at h2
      have h3 : a = #[] := Array.eq_empty_of_size_eq_zero h2
      rw [h3]
      rfl
  | false =>
    refine decide_eq_false fun e2 => ?_
    have : (Txt.stripChars z LET).length = 0 := by rw [V.str.inj e2]; rfl
    rw [h.mp this] at e
    cases e
end Kn
namespace Kn
open PySem PySem.Spec PyProof.Rows L2
abbrev sName : Stmt := topS 3
theorem scName : FnScope ["thing", "letter"] ["thing"] (defScope sName) := ⟨rfl, rfl, rfl, by decide +kernel, rfl, by decide +kernel, by decide +kernel⟩
theorem rng_fm2 {α β : Type} (h : α → β) : ∀ l : List α, (List.range l.length).filterMap (fun i => l[i]?.map h) = l.map h
  | [] => rfl
  | x :: l => by
    rw [List.length_cons, List.range_succ_eq_map, List.filterMap_cons, List.filterMap_map, List.map_cons, ← rng_fm2 h l]
    rfl
section
variable {P : Program} {w : World} {K : PySem.W.Frag} {mg : Str → Option Value} {base : Heap}
def spName (K : PySem.W.Frag) : Sp := fun vs H Q _ => ∃ (x : V) (d : PyData), vs = [x] ∧ Dp K H x d ∧ wt d ≤ 100000 ∧ ∀ H', Same H H' → Q (.bl (nameB d)) H'
theorem ok_name {f : Addr} {fd : FuncData} {k : Nat} {t1 t2 : Tok} (F : Fun K "is_name" "is_name" sName f fd) (B : Bn mg) (gLong : mg "LONGEST" = some (.int 6 t1)) (gLet : mg "LETTERS" = some (.str LET t2)) : FnOk P w K mg base CX0 (k + 1) f fd ["thing"] (spName K) := by
  refine F.ok scName (fun vs H Q E h => ?_) (fun cdv A outer s H vs Q E hr h => ?_)
  · obtain ⟨x, d, rfl, _⟩ := h
    rfl
  · obtain ⟨x, d, rfl, hx, hw, q⟩ := h
    refine ⟨_, (pss_cons (ps_if (PW.pt (pw_or (pt_not (pt_val (pe_callB call_isi (by rfl) B.isi (by decide +kernel) (pa_cons (pv 0) (pa_cons (pe_bltn (v := .ty "str") (by rfl) B.str (by decide +kernel) rfl) pa_nil))))) (pw_or1 (pt_not (pt_chain op_le op_le pe_int (pe_callB call_len_str (by rfl) B.len PySem.boot_len (pa_cons (pv 0) pa_nil)) (pe_glob (v := .int 6) (by rfl) gLong ⟨_, rfl⟩)))))) (pss_one (ps_ret pe_bl)) pss_nil)
      (pss_one (ps_ret (pe_callB (cr_all rfl) (by rfl) B.all (by decide +kernel) (pa_cons (pe_lc (own := [("letter", 1)]) (g := gName 1) (tt := tYes) rfl scName.nd (pi_str (pv 0)) (blkOk_by (N := ["thing", "letter"]) (sc := defScope sName) (by decide +kernel)) (fun _ _ _ _ _ => pg_name (i := 1) scName.nd rfl (Or.inl rfl)) (fun _ _ _ _ _ => pts_nil) (fun _ _ _ _ _ => pe_cmpR op_in_sign (pv 1) (pe_glob (v := .str LET) (by rfl) gLet ⟨_, rfl⟩) rfl)) pa_nil))))), ?_⟩
    cases d with
    | dict kvs => cases hx
    | none =>
      refine ⟨_, rfl, ⟨_, .ty "str", _, _, false, rfl, .ty _, dp_ty (hx), kit_ty (by show kitB "NoneType" "str" = _; decide +kernel), false, rfl, iteT (iteT ?_)⟩⟩
      exact q H (Same.refl _)
    | bool z =>
      refine ⟨_, rfl, ⟨_, .ty "str", _, _, false, rfl, .ty _, dp_ty (hx), kit_ty (by show kitB "bool" "str" = _; decide +kernel), false, rfl, iteT (iteT ?_)⟩⟩
      exact q H (Same.refl _)
    | int z =>
      refine ⟨_, rfl, ⟨_, .ty "str", _, _, false, rfl, .ty _, dp_ty (hx), kit_ty (by show kitB "int" "str" = _; decide +kernel), false, rfl, iteT (iteT ?_)⟩⟩
      exact q H (Same.refl _)
    | list ds =>
      refine ⟨_, rfl, ⟨_, .ty "str", _, _, false, rfl, .ty _, dp_ty (hx), kit_ty (by show kitB "list" "str" = _; decide +kernel), false, rfl, iteT (iteT ?_)⟩⟩
      exact q H (Same.refl _)
    | tuple ds =>
      refine ⟨_, rfl, ⟨_, .ty "str", _, _, false, rfl, .ty _, dp_ty (hx), kit_ty (by show kitB "tuple" "str" = _; decide +kernel), false, rfl, iteT (iteT ?_)⟩⟩
      exact q H (Same.refl _)
    | str z =>
      cases hx
      have hzl : z.length ≤ sizeLine := Nat.le_trans (by rw [wt] at hw; omega : z.length ≤ 100000) (by decide)
      refine ⟨_, rfl, ⟨_, .ty "str", _, _, true, rfl, .ty _, dp_ty (.str z), kit_ty (by show kitB "str" "str" = _; decide +kernel), true, rfl, iteF ?_⟩⟩
      refine ⟨_, rfl, z, rfl, hzl, 1, _, rfl, rfl, _, rfl, ite2 (fun h1 => ?_) (fun h1 => ?_)⟩
      · have h1 : (1 : Int) ≤ (z.length : Int) := of_decide_eq_true h1
        refine ⟨_, 6, rfl, rfl, _, rfl, ?_⟩
        by_cases h2 : z.length ≤ 6
        · have e2 : decide ((z.length : Int) ≤ 6) = true := decide_eq_true (by omega)
          show if (!decide ((z.length : Int) ≤ 6)) = true then _ else _
          rw [e2]
          refine iteF ?_
          refine ⟨_, rfl, z, rfl, fun D nD => ?_⟩
          refine lc_fm walk_str (fun i => (z.cps.toList[i]?).map fun c => V.bl (decide (c ∈ LET.cps.toList))) nD (Nat.lt_of_le_of_lt (by show z.length ≤ 6; exact h2) (by decide)) (fun _ _ => trivial) (fun i v G1 G2 R hi sG hD hY hR => ?_) (fun G1 sG hD => ?_)
          · obtain ⟨rfl, c, hc, rfl⟩ := hY
            refine ⟨rfl, tyes ?_⟩
            refine ⟨_, rfl, c, LET, rfl, rfl, ?_⟩
            have hR' := hR _ (Same.refl _)
            rw [show z.cps.toList[i]? = some c by rw [Array.getElem?_toList]; exact hc] at hR'
            exact hR'
          · have e3 : z.cps.size = z.cps.toList.length := by simp
            rw [e3, rng_fm2] at hD
            refine ⟨D, z.cps.toList.map fun c => decide (c ∈ LET.cps.toList), rfl, .inl (.inl (by rw [hD, List.map_map]; rfl)), ?_⟩
            have e4 : (z.cps.toList.map fun c => decide (c ∈ LET.cps.toList)).all id = nameB (.str z) := by
              rw [List.all_map]
              rw [nameB_str, decide_eq_true (by omega : 1 ≤ z.length), decide_eq_true h2, Bool.true_and, Bool.true_and]
              congr 1
              funext c
              exact let_mem c
            rw [e4]
            exact q G1 sG
        · have e2 : decide ((z.length : Int) ≤ 6) = false := decide_eq_false (by omega)
          show if (!decide ((z.length : Int) ≤ 6)) = true then _ else _
          rw [e2]
          refine iteT ?_
          have e4 : nameB (.str z) = false := by
            rw [nameB_str, decide_eq_false h2, Bool.and_false, Bool.false_and]
          have := q H (Same.refl _)
          rw [e4] at this
          exact this
      · refine ⟨_, rfl, iteT ?_⟩
        have e4 : nameB (.str z) = false := by
          rw [nameB_str, decide_eq_false (fun z1 => h1 (decide_eq_true (by omega))), Bool.false_and, Bool.false_and]
        have := q H (Same.refl _)
        rw [e4] at this
        exact this
end
end Kn
namespace Kn
open PySem PySem.Spec PyProof.Rows L2
/-! zip of two texts -/
def ItzS (x y : Str) : It :=
  ⟨fun i _ => i < min x.cps.size y.cps.size, fun i H v H' => ∃ T c d, v = .ref T ∧ H T = none ∧ H' = upd H T (.tup [.str ⟨#[c]⟩, .str ⟨#[d]⟩]) ∧ x.cps[i]? = some c ∧ y.cps[i]? = some d, fun i _ => i = min x.cps.size y.cps.size⟩
theorem turn_zS {P : Program} {w : World} {K : PySem.W.Frag} {elts : List Expr} {kk : Nat} {tpos : Pos} {z TI TO i1 i2 : Addr} {x y : Str} {t u : Tok} (D : ZipSep2 z TI TO i1 i2 [i1] [i2]) :
    Turn P w K (.Tuple elts kk tpos) (ItzS x y) [z, TI, TO, i1, i2] z (fun i h => IsZip h z TI TO .none ∧ IsTupOf2 h TI (.ref i1) (.ref i2) ∧ (∃ a b, IsTupOf2 h TO a b) ∧ h.IsStrIter i1 (strIterType x) x t i ∧ h.IsStrIter i2 (strIterType y) y u i) where
  mem := by simp
  obj := fun i h st c hc => by
    obtain ⟨hz, hTI, ⟨a, b, hTO⟩, ⟨o1, e1, _, d1⟩, ⟨o2, e2, _, d2⟩⟩ := st
    rcases (show c = z ∨ c = TI ∨ c = TO ∨ c = i1 ∨ c = i2 by simpa using hc) with q | q | q | q | q
    · rw [q]; exact ⟨_, hz, fun v q => nomatch q⟩
    · rw [q]; exact ⟨_, hTI, fun v q => nomatch q⟩
    · rw [q]; exact ⟨_, hTO, fun v q => nomatch q⟩
    · rw [q]; exact ⟨o1, e1, fun v q => by rw [d1] at q; cases q⟩
    · rw [q]; exact ⟨o2, e2, fun v q => by rw [d2] at q; cases q⟩
  keep := fun i h h' st k => by
    obtain ⟨hz, hTI, ⟨a, b, hTO⟩, ⟨o1, e1, r1⟩, ⟨o2, e2, r2⟩⟩ := st
    exact ⟨k z (by simp) _ hz, k TI (by simp) _ hTI, ⟨a, b, k TO (by simp) _ hTO⟩, ⟨o1, k i1 (by simp) _ e1, r1⟩, ⟨o2, k i2 (by simp) _ e2, r2⟩⟩
  item := by
    intro X hP hw hK hc i pins s σ H E I hf st hg
    subst hP hw hK
    have hh : X.A.handled = none := I.ok.hd hc
    have W := WalksT.zipD2 (prog := X.prog) (w := X.w) (A := X.A) D (Draws.text (A := X.A.in1) hh i1 x t) (Draws.text (A := X.A.in1) hh i2 y u)
    refine W.item i s _ _ hg st fun T vals h' tk hv hT hTv hMid hk => ?_
    obtain ⟨x1, x2, ⟨c, tc, hc1, e1⟩, ⟨d, td, hd1, e2⟩, ev⟩ := hv
    subst ev e1 e2
    refine ⟨_, rfl, W.go elts kk tpos i T { s with heap := h', toks := tk } _ _ hMid fun h'' st'' hk'' => ?_⟩
    have hTw := W.apart i T h' hMid
    obtain ⟨oT, hoT, hcT, nT, hdT⟩ := id hTv
    have hT2 := hk'' T oT hTw hoT
    have fresh : H T = none := I.hok.fresh hT
    have new : ObjOk X.prog X.w (upd H T (.tup [.str ⟨#[c]⟩, .str ⟨#[d]⟩])) h'' T (.tup [.str ⟨#[c]⟩, .str ⟨#[d]⟩]) :=
      ⟨by show 2 ≤ sizeLine; decide, [.str ⟨#[c]⟩ tc, .str ⟨#[d]⟩ td], .cons ⟨_, rfl⟩ (.cons ⟨_, rfl⟩ .nil), ⟨oT, hT2, hcT, nT, hdT⟩⟩
    have I1 : Inv X pins σ (upd H T (.tup [.str ⟨#[c]⟩, .str ⟨#[d]⟩])) { s with heap := h'', toks := tk } :=
      I.turnedNew (ch := [z, TI, TO, i1, i2]) (fun b ob hb q => by
        have hbw : b ∉ [z, TO, i1, i2] := fun hm => hb (by
          simp only [List.mem_cons, List.not_mem_nil, or_false] at hm ⊢
          rcases hm with h | h | h | h
          · exact .inl h
          · exact .inr (.inr (.inl h))
          · exact .inr (.inr (.inr (.inl h)))
          · exact .inr (.inr (.inr (.inr h))))
        exact hk'' b ob hbw (hk b ob hbw q)) hf hT new
    refine ⟨.ref T, _, I1, rfl, ⟨T, c, d, rfl, fresh, rfl, hc1, hd1⟩, st'', fun b hb => ?_⟩
    have hbT : b ≠ T := fun e => by
      have hfb := hf b hb
      have hlt : b < s.heap.objs.size := by
        obtain ⟨hz, hTI, ⟨_, _, hTO⟩, ⟨o1, e1, _⟩, ⟨o2, e2, _⟩⟩ := st
        rcases (show b = z ∨ b = TI ∨ b = TO ∨ b = i1 ∨ b = i2 by simpa using hb) with q | q | q | q | q
        · rw [q]; exact Heap.lt_size hz
        · rw [q]; exact Heap.lt_size hTI
        · rw [q]; exact Heap.lt_size hTO
        · rw [q]; exact Heap.lt_size e1
        · rw [q]; exact Heap.lt_size e2
      rw [e] at hlt
      exact absurd hlt (Nat.not_lt.mpr hT)
    rw [upd_ne hbT]
    exact (hf b hb).1
  done := by
    intro X hP hw hK hc i pins s σ H E I hf st hg
    subst hP hw hK
    have hh : X.A.handled = none := I.ok.hd hc
    have W := WalksT.zipD2 (prog := X.prog) (w := X.w) (A := X.A) D (Draws.text (A := X.A.in1) hh i1 x t) (Draws.text (A := X.A.in1) hh i2 y u)
    obtain rfl : i = min x.cps.size y.cps.size := hg
    refine W.done s _ _ st fun h' tk hk => ⟨rfl, ?_⟩
    exact I.turnedL (ch := [z, TI, TO, i1, i2]) (fun b ob hb q => hk b ob (fun hm => hb (by
          simp only [List.mem_cons, List.not_mem_nil, or_false] at hm ⊢
          rcases hm with h | h | h | h
          · exact .inl h
          · exact .inr (.inr (.inl h))
          · exact .inr (.inr (.inr (.inl h)))
          · exact .inr (.inr (.inr (.inr h))))) q) hf
  self := fun A i s Q E st h => wpAny_pyIter_zip st.1 h
end Kn
namespace Kn
open PySem PySem.Spec PyProof.Rows L2
def iZipS (ta : TA) : TI := fun σ H R => ta σ H fun vs H1 => ∃ x y : Str, vs = [.str x, .str y] ∧ R (ItzS x y) H1
theorem pi_zipS {X : Cx} {e e2 : Expr} {ta : TA} {p pos tpos : Pos} {elts : List Expr} {kk : Nat} (hg : Gl X "zip") (hm : X.mg "zip" = none) (ha : PA X [e, e2] ta)
    (hs : starEach [e, e2] X.env = (false, eval e X.env) :: starEach [e2] X.env := by rfl) (hpl : (backTo pos (starEach [e2] X.env)).any (·.1) = false := by rfl) :
    PI X (.Tuple elts kk tpos) (.Call (.Name "zip" p) [e, e2] [] pos) (iZipS ta) := by
  refine ⟨fun pins s σ H R I h => ?_⟩
  refine Call_ (ld_blt I hg hm PyProof.Rows.boot_zip (PyProof.Rows.callWith_type1 (thn (ha.run pos pins s σ H _ I h) fun us s1 ⟨vs, H1, I1, r1, q1⟩ => ?_) hs hpl))
  obtain ⟨x, y, ex, q⟩ := q1
  subst ex
  cases r1 with
  | cons r rr =>
    cases rr with
    | cons r' rr =>
      cases rr
      obtain ⟨t, rfl⟩ := r
      obtain ⟨u, rfl⟩ := r'
      have fresh5 : ∀ c, c ∈ [s1.heap.objs.size + 4, s1.heap.objs.size + 2, s1.heap.objs.size + 3, s1.heap.objs.size, s1.heap.objs.size + 1] → FpOk X pins H1 c := fun c hcm => by
        have e' : c = s1.heap.objs.size + 4 ∨ c = s1.heap.objs.size + 2 ∨ c = s1.heap.objs.size + 3 ∨ c = s1.heap.objs.size ∨ c = s1.heap.objs.size + 1 := by simpa using hcm
        have hle : s1.heap.objs.size ≤ c := by
          rcases e' with z | z | z | z | z
          · rw [z]; exact Nat.le_add_right _ _
          · rw [z]; exact Nat.le_add_right _ _
          · rw [z]; exact Nat.le_add_right _ _
          · rw [z]; exact Nat.le_refl _
          · rw [z]; exact Nat.le_add_right _ _
        exact I1.fpOk hle (I1.hok.fresh hle)
      refine zip_begins2 (begins_text x t) (begins_text y u) trivial trivial fun h' hz hTI hTO h1 h2 hsz hk => wpAny_pyIter_zip hz ?_
      have I2 : Inv X pins σ H1 { s1 with heap := h' } := I1.kept (t' := s1.toks) hk
      exact ⟨s1.heap.objs.size + 4, [s1.heap.objs.size + 4, s1.heap.objs.size + 2, s1.heap.objs.size + 3, s1.heap.objs.size, s1.heap.objs.size + 1], _, _, H1, rfl, I2, turn_zS (t := t) (u := u) (zip_sep2 (fp1 := []) (fp2 := []) (fun _ h => nomatch h) (fun _ h => nomatch h)), ⟨hz, hTI, ⟨_, _, hTO⟩, ⟨_, h1, rfl, rfl⟩, ⟨_, h2, rfl, rfl⟩⟩, fresh5, q⟩
theorem walk_zS {x y : Str} {n : Nat} (hn : n = min x.cps.size y.cps.size) : Walk (ItzS x y) n (fun _ => True) (YPair (fun i => x.cps[i]?.map fun c => V.str ⟨#[c]⟩) (fun i => y.cps[i]?.map fun c => V.str ⟨#[c]⟩)) :=
  ⟨fun i H hi _ => (show i < min x.cps.size y.cps.size by omega), fun H _ => hn, fun i H v H' hi _ h => by
    obtain ⟨T, c, d, e1, e2, e3, e4, e5⟩ := h
    exact ⟨T, _, _, e1, e2, e3, by show Option.map _ x.cps[i]? = _; rw [e4]; rfl, by show Option.map _ y.cps[i]? = _; rw [e5]; rfl⟩⟩
section
variable {X : Cx}
def rMulS : R2 := fun x y H Q => ∃ (z : Str) (n : Nat), x = .str z ∧ y = .int (n : Int) ∧ 2 ≤ n ∧ n ≤ 1000 ∧ 1 ≤ z.length ∧ z.length ≤ 1000 ∧ (Str.mk ((List.replicate n z.cps).foldl (· ++ ·) #[])).length ≤ sizeLine ∧ Q (.str ⟨(List.replicate n z.cps).foldl (· ++ ·) #[]⟩) H
theorem op_mulS : OpR X (binaryOp .Mult) rMulS := by
  intro pins s σ H x y v u Q I rx ry h
  obtain ⟨z, n, rfl, rfl, h2, hn, hz1, hz, hl, q⟩ := h
  obtain ⟨t, rfl⟩ := rx
  obtain ⟨t', rfl⟩ := ry
  have hm : z.length * n ≤ 1000 * 1000 := Nat.mul_le_mul hz hn
  refine PySem.P.mul_str ?_ (fun _ _ h => ?_) (fun _ _ => ?_) ?_
  · rw [decide_eq_false (by omega), decide_eq_false (by omega)]; rfl
  · have h3 : (2 ^ 63 - 1 : Int) / 1000 ≤ (2 ^ 63 - 1) / (n : Int) := by
      rw [Int.le_ediv_iff_mul_le (by omega)]
      have : (2 ^ 63 - 1 : Int) / 1000 * (n : Int) ≤ (2 ^ 63 - 1 : Int) / 1000 * 1000 := Int.mul_le_mul_of_nonneg_left (by omega) (by decide)
      omega
    omega
  · rw [Int.toNat_natCast]
    exact decide_eq_false (Nat.not_lt.mpr (Nat.le_trans hm (by decide)))
  · rw [if_neg (by omega : ¬ ((n : Int) < 1)), if_neg (by
      intro e
      rcases Bool.or_eq_true_iff.mp e with e | e
      · have := of_decide_eq_true (show decide ((n : Int) = 1) = true from e); omega
      · have : z.length = 0 := eq_of_beq e
        omega)]
    rw [Int.toNat_natCast]
    exact ⟨hl, .str _, H, I.kept (t' := _) fun _ _ z => z, ⟨_, rfl⟩, q⟩
/-! repr of any data -/
theorem cr_reprA (hg : X.A.guards = some []) (hu : X.A.units + 64 < cLine) : CallR X (.builtin "repr") (fun vs H Q => ∃ (x : V) (d : PyData), vs = [x] ∧ Dp X.K H x d ∧ Gd 50 100000 d ∧ Q (.str d.shown) H) := by
  intro pins s σ H vs us Q I r h
  obtain ⟨x, d, rfl, hd, hG, q⟩ := h
  have hs : d.shown.length ≤ sizeLine := by
    have := shown_le d hG.2.1
    have := hG.2.2
    exact Nat.le_trans (by omega : d.shown.length ≤ 1600000) (by decide)
  have hsh := nic_show d hG.2.1 hG.2.2
  cases d with
  | dict kvs => cases hd
  | none =>
    cases hd
    obtain ⟨u, rfl, ru⟩ := vals1 r
    cases ru
    exact PySem.P.repr_of_none ⟨.str _, H, I.kept (t' := _) fun _ _ z => z, ⟨_, rfl⟩, q⟩
  | bool b =>
    cases hd
    obtain ⟨u, rfl, ru⟩ := vals1 r
    cases ru
    refine PySem.P.repr_of_bool ⟨.str _, H, I.kept (t' := _) fun _ _ z => z, ⟨_, rfl⟩, ?_⟩
    cases b <;> exact q
  | int i =>
    cases hd
    obtain ⟨u, rfl, ru⟩ := vals1 r
    obtain ⟨t, rfl⟩ := ru
    exact PySem.P.repr_of_int (of_decide_eq_true hsh) ⟨.str _, H, I.kept (t' := _) fun _ _ z => z, ⟨_, rfl⟩, q⟩
  | str z =>
    cases hd
    obtain ⟨u, rfl, ru⟩ := vals1 r
    obtain ⟨t, rfl⟩ := ru
    exact PySem.P.repr_of_str ⟨.str _, H, I.kept (t' := _) fun _ _ z => z, ⟨_, rfl⟩, q⟩ hs
  | list ds => exact cr_repr hg hu pins s σ H _ us Q I r ⟨_, _, rfl, hd, rfl, hsh, nic_noDict _ hG.2.1, Nat.le_trans hG.1 (by decide), hs, q⟩
  | tuple ds => exact cr_repr hg hu pins s σ H _ us Q I r ⟨_, _, rfl, hd, rfl, hsh, nic_noDict _ hG.2.1, Nat.le_trans hG.1 (by decide), hs, q⟩
end
end Kn
namespace Kn
open PySem PySem.Spec PyProof.Rows L2
theorem kn_app {α β : Type} {F : α → β → Prop} : ∀ {l1 : List α} {l2 : List β} {m1 : List α} {m2 : List β}, Paired F l1 l2 → Paired F m1 m2 → Paired F (l1 ++ m1) (l2 ++ m2)
  | _, _, _, _, .nil, h => h
  | _, _, _, _, .cons a t, h => .cons a (kn_app t h)
theorem kn_pin {α β : Type} {F : α → β → Prop} : ∀ {xs : List α} {ys : List β}, Paired F xs ys → ∀ {x : α}, x ∈ xs → ∃ y, F x y
  | _, _, .cons (b := y) h t, x, hx => by
    rcases List.mem_cons.mp hx with e | e
    · rw [e]
      exact ⟨y, h⟩
    · exact kn_pin t e
/-! dict of pairs, the pairs and what holds them lists or tuples -/
section
variable {X : Cx}
theorem kn_pairs {pins : List (Addr × Obj)} {σ : L2.St} {H : Hp} {s : Shared} (I : Inv X pins σ H s) : ∀ {ps : List Addr} {kvs : List (Key × V)}, Paired (fun p kv => SqT X.K H p [kV kv.1, kv.2] ∨ SqL X.K H p [kV kv.1, kv.2]) ps kvs →
    ∃ (vs : List (Value × Value)) (cs : List (Key × Value)), KV kvs cs ∧ vs.length = ps.length ∧ cs.length = ps.length ∧
      ∀ (j : Nat) (k v : Value), vs[j]? = some (k, v) → PairAt s.heap (ps.getD j 0) k v ∧ (ps.map Value.ref)[j]? = some (.ref (ps.getD j 0)) ∧ ∃ c, cs[j]? = some (c, v) ∧ (mixKind X.prog X.w).is c k = true
  | _, _, .nil => ⟨[], [], .nil, rfl, rfl, fun j k v e => by simp at e⟩
  | _, _, .cons (a := p) (b := kv) h t => by
    obtain ⟨vs, cs, r, l1, l2, hp⟩ := kn_pairs I t
    have two : ∃ u y, RelV (kV kv.1) u ∧ RelV kv.2 y ∧ PairAt s.heap p u y := by
      rcases h with h | h
      · obtain ⟨its, rv, ht, _⟩ := I.tuple h
        obtain ⟨u, y, ei, ru, ry⟩ := vals2 rv
        subst ei
        exact ⟨u, y, ru, ry, .inl ht⟩
      · obtain ⟨its, rv, ht, _⟩ := I.list h
        obtain ⟨u, y, ei, ru, ry⟩ := vals2 rv
        subst ei
        exact ⟨u, y, ru, ry, .inr ht.isList⟩
    obtain ⟨u, y, ru, ry, hpair⟩ := two
    refine ⟨(u, y) :: vs, (kv.1, y) :: cs, .cons ⟨rfl, ry⟩ r, by simp [l1], by simp [l2], fun j k v e => ?_⟩
    cases j with
    | zero =>
      have e' : (u, y) = (k, v) := Option.some.inj e
      cases e'
      exact ⟨hpair, rfl, kv.1, rfl, kV_is ru⟩
    | succ j =>
      obtain ⟨a1, a2, a3⟩ := hp j k v (by simpa using e)
      exact ⟨by simpa using a1, by simpa using a2, by simpa using a3⟩
def rDictA (K : PySem.W.Frag) : List V → Hp → VK → Prop := fun xs H Q => ∃ (a : Addr) (ps : List Addr) (kvs : List (Key × V)), xs = [.ref a] ∧ (((∃ ys, TupD H a ys) ∧ SqT K H a (ps.map V.ref)) ∨ SqL K H a (ps.map V.ref)) ∧ Paired (fun p kv => SqT K H p [kV kv.1, kv.2] ∨ SqL K H p [kV kv.1, kv.2]) ps kvs ∧
    ∀ p, H p = none → Q (.ref p) (upd H p (.dK (mergeK [] kvs)))
theorem cr_dictA (hcalm : X.calm = true) : CallR X (.type "dict") (rDictA X.K) := by
  intro pins s σ H xs us Q I r q
  obtain ⟨a, ps, kvs, rfl, hq, hp, q⟩ := q
  obtain ⟨u, rfl, rx⟩ := vals1 r
  cases rx
  obtain ⟨vs, cs, rel, l1, l2, hpr⟩ := kn_pairs I hp
  have items : ∀ its : List Value, its = ps.map Value.ref → PairItems s.heap its.toArray (fun j => ps.getD j 0) vs := fun its e => by
    subst e
    exact ⟨by simp [l1], fun j k v hj => ⟨by have := (hpr j k v hj).2.1; simpa using this, (hpr j k v hj).1⟩⟩
  have have1 : PairsHave (mixKind X.prog X.w) vs.length (PairRel vs) cs := ⟨by rw [l1, l2], fun i key v hr => (hpr i key v hr).2.2⟩
  have fin : ps.length ≤ sizeLine → ∀ h' tk, h'.DictOf (mixKind X.prog X.w) s.heap.objs.size (merged [] cs) → (∀ b o, b ∉ ([] : List Addr) → s.heap.get? b = some o → h'.get? b = some o) → EP X pins σ Q (.ref s.heap.objs.size) { s with heap := h', toks := tk } := fun hz h' tk hd' k => by
    have hm : (s.heap.objs.size == sysModules) = false := beq_eq_false_iff_ne.mpr (Nat.ne_of_gt I.big)
    have hlen : (mergeK [] kvs).length ≤ sizeLine := by
      refine Nat.le_trans (length_mergeK kvs []) ?_
      rw [List.length_nil, Nat.zero_add, rel.length, l2]
      exact hz
    exact ⟨.ref s.heap.objs.size, upd H s.heap.objs.size (.dK (mergeK [] kvs)), I.laid (t' := tk) (fun b o e => k b o (fun z => nomatch z) e) (Nat.le_refl _) (show ObjOk X.prog X.w _ _ _ (.dK (mergeK [] kvs)) from ⟨hlen, hm, merged [] cs, KV.merge rel .nil, hd'⟩), rfl, q _ (I.hok.fresh (Nat.le_refl _))⟩
  rcases hq with ⟨⟨ys, ob, hob, hc, hd⟩, sq⟩ | hq
  · obtain ⟨hget, _⟩ := I.hok a _ hob
    obtain ⟨its, rv, ⟨o2, ho2, _, nn, hdat⟩, hz⟩ := I.tuple sq
    have ei := refs_at rv
    rw [hget] at ho2
    cases ho2
    have hz : ps.length ≤ sizeLine := by simpa using hz
    exact PySem.call_dict_pairs (knd := mixKind X.prog X.w) (PairArg.tuple a its.toArray (fun j => ps.getD j 0) vs) (I.ok.hd hcalm) ⟨⟨ob, nn, hget, hc, hd, hdat⟩, items its ei⟩ have1 (by rw [l1]; exact hz) (fin hz)
  · obtain ⟨its, rv, pl, hz⟩ := I.list hq
    have ei := refs_at rv
    obtain ⟨o, n, ho, hc, hd, hdat⟩ := pl
    have hz : ps.length ≤ sizeLine := by simpa using hz
    exact PySem.call_dict_pairs (knd := mixKind X.prog X.w) (PairArg.list a its.toArray (fun j => ps.getD j 0) vs) (I.ok.hd hcalm) ⟨⟨o, n, ho, hc, hd, hdat⟩, items its ei⟩ have1 (by rw [l1]; exact hz) (fin hz)
end
end Kn
namespace Kn
open PySem PySem.Spec PyProof.Rows L2
section
variable {X : Cx}
theorem cutV_whole {xs : List V} {lo hi : Option Int} (h : HT.sIx xs.length 0 lo = 0 ∧ HT.sIx xs.length xs.length hi = xs.length) : cutV xs lo hi = xs := by
  unfold cutV
  rw [h.1, h.2]
  simp
/-- t[lo:hi], as a tuple wherever it is -/
def rSlB (K : PySem.W.Frag) : V → Option Int → Option Int → Hp → VK → Prop := fun x lo hi H Q => ∃ a xs, x = .ref a ∧ SqT K H a xs ∧ ∀ H' p, Same H H' → SqT K H' p (cutV xs lo hi) → Q (.ref p) H'
theorem sl_tupB : SlR X (rSlB X.K) := by
  intro pins s σ H x v vl vu lo hi sl Q I rx hs pl pu h
  obtain ⟨a, xs, rfl, hx, q⟩ := h
  refine sl_tupA pins s σ H _ v vl vu lo hi sl Q I rx hs pl pu ⟨a, xs, rfl, hx, fun hw => ?_, fun _ p np => ?_⟩
  · exact q H a (Same.refl _) (by rw [cutV_whole hw]; exact hx)
  · exact q _ p (same_new np) (.inl (.inl upd_same))
end
def Txt2 (m : Nat) (zs : List Str) : Prop := ∀ z ∈ zs, Asc z ∧ z.length ≤ m
theorem wtA_strs {m : Nat} : ∀ {zs : List Str}, Txt2 m zs → wtA (zs.map PyData.str) ≤ zs.length * (m + 1)
  | [], _ => by simp [wtA]
  | z :: zs, h => by
    have ih := wtA_strs (zs := zs) fun y hy => h y (List.mem_cons_of_mem _ hy)
    have h1 := (h z (List.mem_cons_self ..)).2
    rw [List.map_cons, wtA, wt, List.length_cons, Nat.add_mul, Nat.one_mul]
    omega
theorem el_strs {m : Nat} {zs : List Str} (h : Txt2 m zs) : ∀ d ∈ zs.map PyData.str, d.depth ≤ 0 ∧ Nic d := fun d hd => by
  obtain ⟨z, hz, rfl⟩ := List.mem_map.mp hd
  exact ⟨Nat.le_of_eq (by rw [PyData.depth]), (h z hz).1⟩
theorem gd_tupS {m w : Nat} {zs : List Str} (h : Txt2 m zs) (hw : zs.length * (m + 1) ≤ w) : Gd 1 (w + 1) (.tuple (zs.map PyData.str)) :=
  gd_tup.mpr ⟨el_strs h, Nat.le_trans (wtA_strs h) hw⟩
theorem gd_lstS {m w : Nat} {zs : List Str} (h : Txt2 m zs) (hw : zs.length * (m + 1) ≤ w) : Gd 1 (w + 1) (.list (zs.map PyData.str)) :=
  gd_list.mpr ⟨el_strs h, Nat.le_trans (wtA_strs h) hw⟩
theorem txt_app {m : Nat} {ys : List Str} {z : Str} (h : Txt2 m ys) (h1 : Asc z) (h2 : z.length ≤ m) : Txt2 m (ys ++ [z]) := fun y hy => by
  rcases List.mem_append.mp hy with q | q
  · exact h y q
  · rw [List.mem_singleton.mp q]
    exact ⟨h1, h2⟩
theorem nm_txt {ys : List Str} (h : ∀ z ∈ ys, Nm z) : Txt2 3 ys := fun z hz => ⟨fun c hc => by have := ((h z hz).2.2 c hc).2; omega, (h z hz).2.1⟩
theorem dpA_strsOf {K : PySem.W.Frag} {H : Hp} (zs : List Str) : DpAll K H (zs.map V.str) (zs.map PyData.str) := dpA_map V.str PyData.str (fun z => .str z) zs
/-- a thing: data that is not too great -/
def Th (K : PySem.W.Frag) (S : Addr → Bool) (H : Hp) (x : V) : Prop := ∃ d, Dq K S H x d ∧ Gd 50 4000 d
theorem Th.off {K : PySem.W.Frag} {S : Addr → Bool} {b : Addr} {H H' : Hp} {x : V} (hb : S b = true) (e : Off b H H') (h : Th K S H x) : Th K S H' x := let ⟨d, h1, h2⟩ := h; ⟨d, h1.off hb e, h2⟩
theorem th_tup {K : PySem.W.Frag} {S : Addr → Bool} {H : Hp} {a : Addr} {xs : List V} {ds : List PyData} (h : TupD (wos S H) a xs) (hd : DpAll K (wos S H) xs ds) (g : Gd 50 4000 (.tuple ds)) : Th K S H (.ref a) :=
  ⟨.tuple ds, ⟨.tup h.sq hd, fun _ _ => ⟨a, xs, rfl, h⟩⟩, g⟩
theorem th_lst {K : PySem.W.Frag} {S : Addr → Bool} {H : Hp} {a : Addr} {xs : List V} {ds : List PyData} (h : (wos S H) a = some (.lst xs)) (hd : DpAll K (wos S H) xs ds) (g : Gd 50 4000 (.list ds)) : Th K S H (.ref a) :=
  ⟨.list ds, ⟨.lst (.inl (.inl h)) hd, fun _ e => nomatch e⟩, g⟩
def S2 (b D : Addr) : Addr → Bool := fun c => decide (c = b) || decide (c = D)
theorem s2b (b D : Addr) : S2 b D b = true := by show (decide (b = b) || decide (b = D)) = true; rw [decide_eq_true rfl]; rfl
theorem s2D (b D : Addr) : S2 b D D = true := by show (decide (D = b) || decide (D = D)) = true; rw [decide_eq_true (rfl : D = D), Bool.or_true]
theorem s2n {b D c : Addr} (h1 : c ≠ b) (h2 : c ≠ D) : S2 b D c = false := by show (decide (c = b) || decide (c = D)) = false; rw [decide_eq_false h1, decide_eq_false h2]; rfl
theorem s2c {b D : Addr} {G : Hp} {u v : HO} (h1 : G b = some u) (h2 : G D = some v) (c : Addr) (hc : S2 b D c = true) : G c ≠ none := fun z => by
  rcases (Bool.or_eq_true _ _).mp hc with e | e
  · rw [of_decide_eq_true e, h1] at z; cases z
  · rw [of_decide_eq_true e, h2] at z; cases z
theorem Th.same {K : PySem.W.Frag} {S : Addr → Bool} {G G' : Hp} {v : V} (h1 : Same (wos S G) (wos S G')) (h2 : Th K S G v) : Th K S G' v := by
  obtain ⟨d, ⟨h3, h4⟩, h5⟩ := h2
  exact ⟨d, ⟨dp_same h1 h3, fun ds e => by obtain ⟨a, zs, e1, e2⟩ := h4 ds e; exact ⟨a, zs, e1, e2.same h1⟩⟩, h5⟩
/-- the box, the things, the folk -/
structure St0 (K : PySem.W.Frag) (H : Hp) (b t D : Addr) (ys : List Str) (m k : Nat) (F : Hp) : Prop where
  bx : ∃ o', F b = some o' ∧ Bx m o'
  th : ∃ xs, F D = some (.lst xs) ∧ xs.length = k ∧ ∀ v ∈ xs, Th K (S2 b D) F v
  off : Off b H F
  fk : TupD (wos (S2 b D) F) t (ys.map V.str)
  nDb : D ≠ b
  nD : H D = none
theorem St0.push {K : PySem.W.Frag} {H F F' : Hp} {b t D : Addr} {ys : List Str} {m m' k : Nat} {o' : HO} {y : V} (h : St0 K H b t D ys m k F) (hs : Off b F F') (ho : F' b = some o') (hB : Bx m' o') (hy : Th K (S2 b D) F' y) :
    ∃ xs, F' D = some (.lst xs) ∧ xs.length = k ∧ St0 K H b t D ys m' (k + 1) (upd F' D (.lst (xs ++ [y]))) := by
  obtain ⟨xs, hD, hl, hx⟩ := h.th
  have hD' := hs _ _ hD h.nDb
  have w1 : Same (wos (S2 b D) F) (wos (S2 b D) F') := wos_same (s2b b D) hs
  have w2 : ∀ o, Same (wos (S2 b D) F') (wos (S2 b D) (upd F' D o)) := fun o => wos_same (s2D b D) (Off.at D F' o)
  refine ⟨xs, hD', hl, ⟨⟨o', by rw [upd_ne h.nDb.symm]; exact ho, hB⟩, ⟨_, upd_same, by rw [List.length_append, hl]; rfl, fun v hv => ?_⟩, fun c u e hc => ?_, (h.fk.same w1).same (w2 _), h.nDb, h.nD⟩⟩
  · rcases List.mem_append.mp hv with q | q
    · exact ((hx v q).same w1).same (w2 _)
    · rw [List.mem_singleton.mp q]
      exact hy.same (w2 _)
  · rw [upd_ne (ne_of_none e h.nD)]
    exact hs _ _ (h.off _ _ e hc) hc
abbrev T20 : Str := "abcdefghijklmnopqrst"
def T40 : Str := ⟨(List.replicate 2 T20.cps).foldl (· ++ ·) #[]⟩
def UV : Str := Str.mk ((List.replicate 20 (Str.ofString "u").cps).foldl (· ++ ·) #[]) ++ Str.mk ((List.replicate 20 (Str.ofString "v").cps).foldl (· ++ ·) #[])
theorem t40_size : T40.cps.size = 40 := by decide +kernel
theorem uv_size : UV.cps.size = 40 := by decide +kernel
theorem t40_asc : ∀ c ∈ T40.cps.toList, c < 128 := by decide +kernel
theorem uv_asc : ∀ c ∈ UV.cps.toList, c < 128 := by decide +kernel
theorem t40_at {i : Nat} (h : i < 40) : T40.cps[i]! < 128 := by
  have h2 : i < T40.cps.size := by rw [t40_size]; exact h
  rw [getElem!_pos T40.cps i h2]
  exact t40_asc _ (by simp)
theorem uv_at {i : Nat} (h : i < 40) : UV.cps[i]! < 128 := by
  have h2 : i < UV.cps.size := by rw [uv_size]; exact h
  rw [getElem!_pos UV.cps i h2]
  exact uv_asc _ (by simp)
theorem str_len_app (a b : Str) : (a ++ b).length = a.length + b.length := by
  show (a.cps ++ b.cps).size = _
  rw [Array.size_append]
  rfl
theorem asc_one {c : Nat} (h : c < 128) : Asc ⟨#[c]⟩ := fun x hx => by
  rw [show x = c by simpa using hx]
  exact h
theorem push40 {K : PySem.W.Frag} {H F G : Hp} {b t D a : Addr} {ys ws : List Str} {m k : Nat} {o : HO} {u : Obj} (h : St0 K H b t D ys m k F) (hb : F b = some o) (hB : Bx m o) (s : Same F G) (na : G a = none) (hc : u.cls = .type "tuple") (hd : u.dict = none) (hw : Txt2 3 ws) (hl : ws.length = 40) :
    ∃ xs, (upd G a (.frz u (.tup (ws.map V.str)))) D = some (.lst xs) ∧ xs.length = k ∧ St0 K H b t D ys m (k + 1) (upd (upd G a (.frz u (.tup (ws.map V.str)))) D (.lst (xs ++ [.ref a]))) := by
  have s2 : Same F (upd G a (.frz u (.tup (ws.map V.str)))) := s.trans (same_new na)
  have nb : a ≠ b := fun e => by rw [e, s _ _ hb] at na; cases na
  have nD : a ≠ D := fun e => by obtain ⟨xs, hD, _⟩ := h.th; rw [e, s _ _ hD] at na; cases na
  have ha : (wos (S2 b D) (upd G a (.frz u (.tup (ws.map V.str))))) a = some (.frz u (.tup (ws.map V.str))) := by rw [wos_ne (s2n nb nD)]; exact upd_same
  exact h.push (Same.off s2) (s2 _ _ hb) hB (th_tup ⟨_, ha, hc, hd⟩ (dpA_strsOf ws) ((gd_tupS (w := 160) hw (by omega)).mono (by decide) (by decide)))
theorem rng_fm3 {α : Type} (f : Nat → Option α) (g : Nat → α) : ∀ n : Nat, (∀ i, i < n → f i = some (g i)) → (List.range n).filterMap f = (List.range n).map g
  | n, h => by
    rw [← List.filterMap_eq_map]
    refine HT.fm_congr _ fun i hi => ?_
    exact h i (List.mem_range.mp hi)
end Kn

namespace Kn
open PySem PySem.Spec PyProof.Rows L2
abbrev sOf : Stmt := topS 12
abbrev sAsk : Stmt := topS 15
theorem scOf : FnScope ["_law_box_here", "_law_some"] ["_law_box_here", "_law_some"] (defScope sOf) := ⟨rfl, rfl, rfl, by decide +kernel, rfl, by decide +kernel, by decide +kernel⟩
theorem scAsk : FnScope ["_law_box_here", "_law_crew_here", "_law_folk", "_law_sort", "_law_some", "_law_swap", "_law_found", "_law_at", "_law_mate", "_law_any_one", "_law_near", "_law_seldom"] ["_law_box_here", "_law_crew_here"] (defScope sAsk) := ⟨rfl, rfl, rfl, by decide +kernel, rfl, by decide +kernel, by decide +kernel⟩
section
variable {P : Program} {w : World} {K : PySem.W.Frag} {mg : Str → Option Value} {base : Heap}
def spOf (K : PySem.W.Frag) : Sp := fun vs H Q _ => ∃ (b a : Addr) (o : HO) (n : Nat) (xs : List V), vs = [.ref b, .ref a] ∧ H b = some o ∧ Bx n o ∧ n < 1000000000 ∧ a ≠ b ∧ SqL K H a xs ∧ 1 ≤ xs.length ∧ xs.length ≤ 1000 ∧ ∀ (i : Nat) (v : V) (o' : HO), xs[i]? = some v → Bx (n + 1) o' → Q v (upd H b o')
theorem ok_of {f fT : Addr} {fd dT : FuncData} {k : Nat} (F : Fun K "_law_of" "_law_of" sOf f fd) (B : Bn mg) (FT : Fun K "_law_take" "_law_take" sTake fT dT) (gT : mg "_law_take" = some (.ref fT)) (bT : Binds K dT ["_law_box_here", "_law_bound"] []) : FnOk P w K mg base CX0 (k + 2) f fd ["_law_box_here", "_law_some"] (spOf K) := by
  have GT : FnOk P w K mg base CX0 (k + 1) fT dT ["_law_box_here", "_law_bound"] spTake := ok_take FT
  refine F.ok scOf (fun vs H Q E h => ?_) (fun cdv A outer s H vs Q E hr h => ?_)
  · obtain ⟨b, a, o, n, xs, rfl, _⟩ := h
    rfl
  · obtain ⟨b, a, o, n, xs, rfl, hb, hB, hn, hab, hS, h1, h2, q⟩ := h
    refine ⟨_, (pss_one (ps_ret (pe_ix ix_list (pv 1) (pe_call GT hr (by rfl) gT FT.kp bT .nil pass0 (pa_cons (pv 0) (pa_cons (pe_callB call_len_seq (by rfl) B.len PySem.boot_len (pa_cons (pv 1) pa_nil)) pa_nil))) (fun _ _ => rfl)))), ?_⟩
    refine ⟨.ref a, rfl, .ref b, rfl, .ref a, rfl, a, xs, rfl, .inl hS, b, o, n, _, rfl, hb, hB, hn, by omega, by omega, fun r o' r0 r1 hB' => ?_⟩
    obtain ⟨rN, rfl⟩ := Int.eq_ofNat_of_zero_le r0
    have hr2 : rN < xs.length := by omega
    exact ⟨a, xs, _, _, rfl, rfl, sqL_off (Off.at b H o') hab hS, atI_nat (List.getElem?_eq_getElem hr2), q rN _ o' (List.getElem?_eq_getElem hr2) hB'⟩
/-- a call: the pairs at ps are kvs -/
def Prs (H : Hp) (ps : List Addr) (kvs : List (Str × Str)) : Prop := Paired (fun (p : Addr) (kv : Str × Str) => TupD H p [.str kv.1, .str kv.2]) ps kvs
def spAsk (K : PySem.W.Frag) : Sp := fun vs H Q _ => ∃ (b a : Addr) (o : HO) (n : Nat) (ys : List Str), vs = [.ref b, .ref a] ∧ H b = some o ∧ Bx n o ∧ n < 900000000 ∧ a ≠ b ∧ SqL K H a (ys.map V.str) ∧ 1 ≤ ys.length ∧ ys.length ≤ 24 ∧
  ∀ (H' : Hp) (t : Addr) (ps : List Addr) (kvs : List (Str × Str)) (zs : List Str) (o' : HO), TupD H' t (ps.map V.ref) → Prs H' ps kvs → kvs.map Prod.fst = zs → zs.Perm ys → sortedS zs = true → (∀ kv ∈ kvs, kv.2 ∈ ys) → H t = none → (∀ p ∈ ps, H p = none) → t ∉ ps → H' b = some o' → Bx (n + 200) o' → Off b H H' → Q (.ref t) H'
set_option maxHeartbeats 8000000 in
theorem ok_ask {f fT fW fV : Addr} {fd dT dW dV : FuncData} {k : Nat} (F : Fun K "_law_ask" "_law_ask" sAsk f fd) (B : Bn mg) (FT : Fun K "_law_take" "_law_take" sTake fT dT) (gT : mg "_law_take" = some (.ref fT)) (bT : Binds K dT ["_law_box_here", "_law_bound"] [])
    (FW : Fun K "_law_strewn" "_law_strewn" sStrewn fW dW) (gW : mg "_law_strewn" = some (.ref fW)) (bW : Binds K dW ["_law_box_here", "_law_some"] []) (FV : Fun K "_law_of" "_law_of" sOf fV dV) (gV : mg "_law_of" = some (.ref fV)) (bV : Binds K dV ["_law_box_here", "_law_some"] []) : FnOk P w K mg base CX0 (k + 3) f fd ["_law_box_here", "_law_crew_here"] (spAsk K) := by
  have GT : FnOk P w K mg base CX0 1 fT dT ["_law_box_here", "_law_bound"] spTake := ok_take FT
  have GW : FnOk P w K mg base CX0 (k + 2) fW dW ["_law_box_here", "_law_some"] (spStrewn K) := ok_strewn FW B FT gT bT
  have GV : FnOk P w K mg base CX0 (k + 2) fV dV ["_law_box_here", "_law_some"] (spOf K) := ok_of FV B FT gT bT
  refine F.ok scAsk (fun vs H Q E h => ?_) (fun cdv A outer s H vs Q E hr h => ?_)
  · obtain ⟨b, a, o, n, ys, rfl, _⟩ := h
    rfl
  · obtain ⟨b, a, o, n, ys, rfl, hb, hB, hn, hab, hS, hy1, hy2, q⟩ := h
    have hr1 : Room 1 _ := hr.mono (by omega)
    refine ⟨_, (pss_cons (ps_par (i := 2) (j := 3) rfl scAsk.nd rfl rfl (by decide) rfl rfl (pa_cons (pe_callB cr_sortT2 (by rfl) B.sorted (by decide +kernel) (pa_cons (pv 1) pa_nil)) (pa_cons (pe_call GT hr1 (by rfl) gT FT.kp bT .nil pass0 (pa_cons (pv 0) (pa_cons pe_int pa_nil))) pa_nil)) rfl)
      (pss_cons (ps_par (i := 4) (j := 5) rfl scAsk.nd rfl rfl (by decide) rfl rfl (pa_cons (pe_slice sl_list (pe_call GW hr (by rfl) gW FW.kp bW .nil pass0 (pa_cons (pv 0) (pa_cons (pv 2) pa_nil))) po_none (po_some (pe_op op_add pe_int (pe_call GT hr1 (by rfl) gT FT.kp bT .nil pass0 (pa_cons (pv 0) (pa_cons pe_int pa_nil)))))) (pa_cons (pe_call GW hr (by rfl) gW FW.kp bW .nil pass0 (pa_cons (pv 0) (pa_cons (pv 2) pa_nil))) pa_nil)) rfl)
      (pss_cons (ps_set (i := 6) scAsk.nd rfl (.inl rfl) (pe_lst pa_nil))
      (pss_cons (ps_for PassesOwn.never rfl (pi_enum (by rfl) B.enum (pa_cons (pv 2) pa_nil)) (pg_tup rfl (pgs_cons (pg_name (i := 7) scAsk.nd rfl (Or.inl rfl)) (pgs_cons (pg_name (i := 8) scAsk.nd rfl (Or.inl rfl)) pgs_nil)))
      (pss_cons (ps_par (i := 9) (j := 10) rfl scAsk.nd rfl rfl (by decide) rfl rfl (pa_cons (pe_call GV hr (by rfl) gV FV.kp bV .nil pass0 (pa_cons (pv 0) (pa_cons (pv 2) pa_nil))) (pa_cons (pe_call GV hr (by rfl) gV FV.kp bV .nil pass0 (pa_cons (pv 0) (pa_cons (pv 4) pa_nil))) pa_nil)) rfl)
      (C8.pss_cut (ps_set (i := 11) scAsk.nd rfl (.inl rfl) (pe_ifExp (pt_cmpR op_eq (pe_call GT hr1 (by rfl) gT FT.kp bT .nil pass0 (pa_cons (pv 0) (pa_cons pe_int pa_nil))) pe_int (nomark _)) (pv 9) (pv 8)))
      (pss_one (ps_expr (pe_bm PySem.F.plainAttrs_list PySem.F.slot_list_append PySem.F.type_list_append mt_append (pv 6) (pa_cons (pe_tupD (pa_cons (pv 8) (pa_cons (pe_ix ix_list (pe_lst (pa_cons (pv 9) (pa_cons (pv 9) (pa_cons (pv 10) (pa_cons (pv 11) (pa_cons (pe_ix ix_list (pv 5) (pv 7) (fun _ _ => rfl)) (pa_cons (pv 10) pa_nil))))))) (pv 3) (fun _ _ => rfl)) pa_nil))) pa_nil)))))))
      (pss_one (ps_ret (pe_callTy cr_tupD (by rfl) B.tuple (by decide +kernel) (pa_cons (pv 6) pa_nil)))))))), ?_⟩
    refine ⟨.ref a, rfl, a, ys, rfl, .inl hS, by omega, fun zs p hperm hsort np => ?_⟩
    have hbp : b ≠ p := fun e => by rw [← e, hb] at np; cases np
    have hzl : zs.length = ys.length := hperm.length_eq
    have hmem : ∀ z ∈ zs, z ∈ ys := fun z hz => hperm.mem_iff.mp hz
    have hb0 : (upd H p (.lst (zs.map V.str))) b = some o := by rw [upd_ne hbp]; exact hb
    have hp0 : (upd H p (.lst (zs.map V.str))) p = some (.lst (zs.map V.str)) := upd_same
    have off0 : Off b H (upd H p (.lst (zs.map V.str))) := Same.off (same_new np)
    generalize upd H p (.lst (zs.map V.str)) = H0 at hb0 hp0 off0 ⊢
    refine ⟨.ref b, rfl, b, o, n, 6, rfl, hb0, hB, by omega, by decide, by decide, fun r o1 r0 r1 hB1 => ⟨_, _, rfl, ?_⟩⟩
    have hb1 : (upd H0 b o1) b = some o1 := upd_same
    have hp1 : (upd H0 b o1) p = some (.lst (zs.map V.str)) := by rw [upd_ne hbp.symm]; exact hp0
    have off1 : Off b H (upd H0 b o1) := off0.trans (Off.at b H0 o1)
    generalize upd H0 b o1 = H1 at hb1 hp1 off1 ⊢
    have hzm : (zs.map V.str).length = ys.length := by rw [List.length_map, hzl]
    refine ⟨.ref b, rfl, .ref p, rfl, b, p, o1, n + 1, zs.map V.str, rfl, hb1, hB1, by omega, hbp.symm, .inl (.inl (.inl hp1)), by omega, fun H2 p2 w2 o2 np2 hp2 hperm2 hb2 hB2 off2 => ?_⟩
    have hbp2 : b ≠ p2 := fun e => by rw [← e, hb1] at np2; cases np2
    refine ⟨.ref b, rfl, b, o2, _, 3, rfl, hb2, hB2, by omega, by decide, by decide, fun r2 o3 r20 r21 hB3 => ?_⟩
    refine ⟨1, r2, rfl, rfl, _, rfl, p2, w2, rfl, .inl (.inl (by rw [upd_ne hbp2.symm]; exact hp2)), fun p3 np3 => ?_⟩
    have hw2l : w2.length = ys.length := by rw [hperm2.length_eq, hzm]
    have hcut : ∀ x ∈ cutV w2 none (some (1 + r2)), ∃ z ∈ ys, x = .str z := fun x hx => by
      have h1 : x ∈ w2 := List.mem_of_mem_drop (List.mem_of_mem_take hx)
      obtain ⟨z, hz, e⟩ := List.mem_map.mp (hperm2.mem_iff.mp h1)
      exact ⟨z, hmem z hz, e.symm⟩
    have hcl : 1 ≤ (cutV w2 none (some (1 + r2))).length ∧ (cutV w2 none (some (1 + r2))).length ≤ 1000 := by
      refine ⟨?_, Nat.le_trans (cutV_length _ _ _) (by omega)⟩
      unfold cutV
      rw [HT.sIx_none, List.drop_zero, List.length_take]
      have : 1 ≤ HT.sIx w2.length w2.length (some (1 + r2)) := by
        show 1 ≤ (if 1 + r2 < 0 then (1 + r2 + (w2.length : Int)).toNat else min (1 + r2).toNat w2.length)
        rw [if_neg (by omega)]
        omega
      omega
    have hbp3 : b ≠ p3 := fun e => by rw [← e, upd_same] at np3; cases np3
    have hb3 : (upd (upd H2 b o3) p3 (.lst (cutV w2 none (some (1 + r2))))) b = some o3 := by rw [upd_ne hbp3, upd_same]
    have hp3' : (upd (upd H2 b o3) p3 (.lst (cutV w2 none (some (1 + r2))))) p3 = some (.lst (cutV w2 none (some (1 + r2)))) := upd_same
    have s3 : Off b H2 (upd (upd H2 b o3) p3 (.lst (cutV w2 none (some (1 + r2))))) := (Off.at b H2 o3).trans (Same.off (same_new np3))
    have hp3 := s3 _ _ (off2 _ _ hp1 hbp.symm) hbp.symm
    have off3 : Off b H _ := (off1.trans off2).trans s3
    generalize cutV w2 none (some (1 + r2)) = cs at hcut hcl hb3 hp3' s3 hp3 off3 ⊢
    generalize upd (upd H2 b o3) p3 (.lst cs) = H3 at hb3 hp3' s3 hp3 off3 ⊢
    refine ⟨.ref b, rfl, .ref p, rfl, b, p, o3, _, zs.map V.str, rfl, hb3, hB3, by omega, hbp.symm, .inl (.inl (.inl hp3)), by omega, fun H4 p4 w4 o4 np4 hp4 hperm4 hb4 hB4 off4 => ⟨_, _, rfl, ?_⟩⟩
    have hw4l : w4.length = ys.length := by rw [hperm4.length_eq, hzm]
    have hw4 : ∀ x ∈ w4, ∃ z ∈ ys, x = .str z := fun x hx => by
      obtain ⟨z, hz, e⟩ := List.mem_map.mp (hperm4.mem_iff.mp hx)
      exact ⟨z, hmem z hz, e.symm⟩
    have hbp4 : b ≠ p4 := fun e => by rw [← e, hb3] at np4; cases np4
    have hpp := off4 _ _ hp3 hbp.symm
    have hpc := off4 _ _ hp3' hbp3.symm
    have offH4 := off3.trans off4
    refine ⟨(by show 0 ≤ sizeLine; decide), fun D nD => ?_⟩
    have nDH : H D = none := by
      cases e : H D with
      | none => rfl
      | some u =>
        by_cases hDb : D = b
        · rw [hDb, hb4] at nD; cases nD
        · rw [offH4 _ _ e hDb] at nD; cases nD
    have hDb : D ≠ b := fun e => by rw [e, hb] at nDH; cases nDH
    have hpD : p ≠ D := fun e => by rw [e, nD] at hpp; cases hpp
    have hcD : p3 ≠ D := fun e => by rw [e, nD] at hpc; cases hpc
    have h4D : p4 ≠ D := fun e => by rw [e, nD] at hp4; cases hp4
    have hB4' : Bx (n + 60) o4 := hB4.mono (by omega)
    refine ⟨.ref p, rfl, p, _, rfl, .inl (.inl (same_new nD _ _ hpp)), ?_⟩
    refine for_it (walk_enum (xs := zs.map V.str)) (fun i σ G => ∃ u7 u8 u9 u10 u11 o' ps kvs, σ = [some (.ref b), some (.ref a), some (.ref p), some (.int r), some (.ref p3), some (.ref p4), some (.ref D), u7, u8, u9, u10, u11] ∧ G b = some o' ∧ Bx (n + 60 + 3 * i) o' ∧ G p = some (.lst (zs.map V.str)) ∧ G p3 = some (.lst cs) ∧ G p4 = some (.lst w4) ∧ G D = some (.lst (ps.map V.ref)) ∧ Prs (wos (S2 b D) G) ps kvs ∧ kvs.map Prod.fst = zs.take i ∧ (∀ kv ∈ kvs, kv.2 ∈ ys) ∧ (∀ c ∈ ps, H c = none) ∧ D ∉ ps ∧ Off b H G)
      ⟨none, none, none, none, none, o4, [], [], rfl, by rw [upd_ne hDb.symm]; exact hb4, hB4', same_new nD _ _ hpp, same_new nD _ _ hpc, same_new nD _ _ hp4, upd_same, .nil, rfl, (fun _ h => nomatch h), (fun _ h => nomatch h), (fun h => nomatch h), offH4.trans (Same.off (same_new nD))⟩ (fun i σ G _ h => ?_) (fun i x σ G G' hi hP hY => ?_) (fun σ G hP => ?_)
    · obtain ⟨_, _, _, _, _, _, _, _, _, _, _, h, _⟩ := h
      exact .inl (.inl h)
    · rw [List.length_map] at hi
      obtain ⟨u7, u8, u9, u10, u11, o5, ps, kvs, rfl, hb5, hB5, hp5, hc5, hw5, hD5, hprs, hks, hvs, hfr, hDp, off5⟩ := hP
      obtain ⟨T1, v1, v2, rfl, nT1, rfl, g1, g2⟩ := hY
      cases g1
      have hx : zs[i]? = some zs[i] := List.getElem?_eq_getElem hi
      obtain rfl : v2 = .str zs[i] := by
        have g2' : (zs.map V.str)[i]? = some v2 := g2
        rw [List.getElem?_map, hx] at g2'
        exact (Option.some.inj g2').symm
      refine ⟨T1, _, rfl, .inl (.inl upd_same), rfl, _, _, rfl, _, _, rfl, rfl, ?_⟩
      have s6 : Same G (upd G T1 (.tup [.int (i : Nat), .str zs[i]])) := same_new nT1
      generalize upd G T1 (.tup [.int (i : Nat), .str zs[i]]) = G1 at s6 ⊢
      have hzx : ∀ (j : Nat) (x : V), (zs.map V.str)[j]? = some x → ∃ z ∈ ys, x = .str z := fun j x e => by
        obtain ⟨z, hz, e2⟩ := List.mem_map.mp (List.mem_of_getElem? e)
        exact ⟨z, hmem z hz, e2.symm⟩
      refine ⟨.ref b, rfl, .ref p, rfl, b, p, o5, _, zs.map V.str, rfl, s6 _ _ hb5, hB5, by omega, hbp.symm, .inl (.inl (s6 _ _ hp5)), by omega, by omega, fun i1 x1 o6 hx1 hB6 => ?_⟩
      obtain ⟨z9, hz9, rfl⟩ := hzx _ _ hx1
      have of7 : Off b G (upd G1 b o6) := (Same.off s6).trans (Off.at b G1 o6)
      have hb7 : (upd G1 b o6) b = some o6 := upd_same
      generalize upd G1 b o6 = G2 at of7 hb7 ⊢
      refine ⟨.ref b, rfl, .ref p3, rfl, b, p3, o6, _, cs, rfl, hb7, hB6, by omega, hbp3.symm, .inl (.inl (of7 _ _ hc5 hbp3.symm)), hcl.1, hcl.2, fun i2 x2 o7 hx2 hB7 => ⟨_, _, rfl, ?_⟩⟩
      obtain ⟨z10, hz10, rfl⟩ := hcut _ (List.mem_of_getElem? hx2)
      have of8 : Off b G (upd G2 b o7) := of7.trans (Off.at b G2 o7)
      have hb8 : (upd G2 b o7) b = some o7 := upd_same
      generalize upd G2 b o7 = G3 at of8 hb8 ⊢
      refine ⟨fun σ' G' => ∃ z11 o8, σ' = [some (.ref b), some (.ref a), some (.ref p), some (.int r), some (.ref p3), some (.ref p4), some (.ref D), some (.int (i : Nat)), some (.str zs[i]), some (.str z9), some (.str z10), some (.str z11)] ∧ z11 ∈ ys ∧ G' b = some o8 ∧ Bx (n + 60 + 3 * (i + 1)) o8 ∧ Off b G G', ?_, fun σ2 G4 hM => ?_⟩
      · refine ⟨.ref b, rfl, b, o7, _, 4, rfl, hb8, hB7, by omega, by decide, by decide, fun r4 o8 r40 r41 hB8 => ?_⟩
        refine ⟨rfl, _, rfl, ite2 (fun _ => ?_) (fun _ => ?_)⟩
        · exact ⟨_, rfl, z9, o8, rfl, hz9, upd_same, hB8.mono (by omega), of8.trans (Off.at b G3 o8)⟩
        · exact ⟨_, rfl, zs[i], o8, rfl, hmem _ (List.getElem_mem hi), upd_same, hB8.mono (by omega), of8.trans (Off.at b G3 o8)⟩
      · obtain ⟨z11, o8, rfl, hz11, hb9, hB9, of9⟩ := hM
        have hi4 : i < w4.length := by omega
        have hD9 := of9 _ _ hD5 hDb
        refine ⟨_, rfl, .inl ⟨rfl, _, .inl (.inl hD9)⟩, _, rfl, _, rfl, _, rfl, _, rfl, _, rfl, _, rfl, _, rfl, p4, w4, _, _, rfl, rfl, .inl (.inl (of9 _ _ hw5 hbp4.symm)), atI_nat (List.getElem?_eq_getElem hi4), _, rfl, (by show 6 ≤ sizeLine; decide), fun L nL => ?_⟩
        obtain ⟨z4, hz4, e4⟩ := hw4 _ (List.getElem_mem hi4)
        rw [e4]
        obtain ⟨rN, rfl⟩ := Int.eq_ofNat_of_zero_le r0
        have hrl : rN < ([.str z9, .str z9, .str z10, .str z11, .str z4, .str z10] : List V).length := by show rN < 6; omega
        obtain ⟨z, hz, ez⟩ : ∃ z ∈ ys, ([.str z9, .str z9, .str z10, .str z11, .str z4, .str z10] : List V)[rN] = .str z := by
          have hm := List.getElem_mem hrl
          simp only [List.mem_cons, List.not_mem_nil, or_false] at hm
          rcases hm with e | e | e | e | e | e
          · exact ⟨_, hz9, e⟩
          · exact ⟨_, hz9, e⟩
          · exact ⟨_, hz10, e⟩
          · exact ⟨_, hz11, e⟩
          · exact ⟨_, hz4, e⟩
          · exact ⟨_, hz10, e⟩
        refine ⟨_, rfl, L, _, _, _, rfl, rfl, .inl (.inl upd_same), atI_nat (List.getElem?_eq_getElem hrl), (by show 2 ≤ sizeLine; decide), fun T2 oT nT2 cT dT => ?_⟩
        rw [ez]
        have of10 : Off b G (upd (upd G4 L (.lst [.str z9, .str z9, .str z10, .str z11, .str z4, .str z10])) T2 (.frz oT (.tup [.str zs[i], .str z]))) := of9.trans (Same.off ((same_new nL).trans (same_new nT2)))
        have hb10 := (((same_new nL).trans (same_new (o := .frz oT (.tup [.str zs[i], .str z])) nT2)) _ _ hb9)
        have hT10 : (upd (upd G4 L (.lst [.str z9, .str z9, .str z10, .str z11, .str z4, .str z10])) T2 (.frz oT (.tup [.str zs[i], .str z]))) T2 = some (.frz oT (.tup [.str zs[i], .str z])) := upd_same
        have nTb : T2 ≠ b := fun e => by rw [e, same_new nL _ _ hb9] at nT2; cases nT2
        have nTD : T2 ≠ D := fun e => by rw [e, same_new nL _ _ hD9] at nT2; cases nT2
        have nTH : H T2 = none := by
          cases e : H T2 with
          | none => rfl
          | some u => rw [same_new nL _ _ (of9 _ _ (off5 _ _ e nTb) nTb)] at nT2; cases nT2
        generalize upd (upd G4 L (.lst [.str z9, .str z9, .str z10, .str z11, .str z4, .str z10])) T2 (.frz oT (.tup [.str zs[i], .str z])) = G5 at of10 hb10 hT10 ⊢
        have hpl : ps.length ≤ 24 := by
          have e1 := hprs.length
          have e2 : (kvs.map Prod.fst).length = (zs.take i).length := by rw [hks]
          rw [List.length_map, List.length_take] at e2
          omega
        have wS : Same (wos (S2 b D) G) (wos (S2 b D) (upd G5 D (.lst (ps.map V.ref ++ [.ref T2])))) := (wos_same (s2b b D) of10).trans (wos_same (s2D b D) (Off.at D G5 _))
        have ofD : ∀ c u, G c = some u → c ≠ b → c ≠ D → (upd G5 D (.lst (ps.map V.ref ++ [.ref T2]))) c = some u := fun c u e h1 h2 => by rw [upd_ne h2]; exact of10 _ _ e h1
        refine ⟨D, ps.map V.ref, _, rfl, rfl, of10 _ _ hD5 hDb, by rw [List.length_map]; exact Nat.lt_of_le_of_lt hpl (by decide), _, _, _, _, _, o8, ps ++ [T2], kvs ++ [(zs[i], z)], rfl, by rw [upd_ne hDb.symm]; exact hb10, hB9, ofD _ _ hp5 hbp.symm hpD, ofD _ _ hc5 hbp3.symm hcD, ofD _ _ hw5 hbp4.symm h4D, by rw [upd_same, List.map_append]; rfl, kn_app (L2.Paired.mapP hprs fun q kv e => e.same wS) (.cons ⟨oT, by rw [wos_ne (s2n nTb nTD), upd_ne nTD]; exact hT10, cT, dT⟩ .nil), ?_, fun kv hkv => ?_, fun c hc => ?_, fun hm => ?_, fun c u e hc => ?_⟩
        · rw [List.map_append, hks, List.take_add_one, hx]
          rfl
        · rcases List.mem_append.mp hkv with e | e
          · exact hvs kv e
          · rw [List.mem_singleton.mp e]; exact hz
        · rcases List.mem_append.mp hc with e | e
          · exact hfr c e
          · rw [List.mem_singleton.mp e]; exact nTH
        · rcases List.mem_append.mp hm with e | e
          · exact hDp e
          · exact nTD (List.mem_singleton.mp e).symm
        · rw [upd_ne (ne_of_none e nDH)]
          exact of10 _ _ (off5 _ _ e hc) hc
    · obtain ⟨u7, u8, u9, u10, u11, o5, ps, kvs, rfl, hb5, hB5, hp5, hc5, hw5, hD5, hprs, hks, hvs, hfr, hDp, off5⟩ := hP
      rw [List.length_map, List.take_length] at hks
      refine ⟨_, rfl, D, _, rfl, .inl (.inl hD5), fun t ot nt ct dt => ?_⟩
      have ntb : t ≠ b := fun e => by rw [e, hb5] at nt; cases nt
      have ntH : H t = none := by
        cases e : H t with
        | none => rfl
        | some u => rw [off5 _ _ e ntb] at nt; cases nt
      refine q _ t ps kvs zs o5 ⟨ot, upd_same, ct, dt⟩ (L2.Paired.mapP hprs fun q kv e => (e.same wos_in).same (same_new nt)) hks hperm hsort hvs ntH hfr (fun hm => ?_) (by rw [upd_ne ntb.symm]; exact hb5) (hB5.mono (by rw [List.length_map]; omega)) (off5.trans (Same.off (same_new nt)))
      obtain ⟨kv, e⟩ := kn_pin hprs hm
      obtain ⟨o6, e6, _⟩ := e.same wos_in
      rw [nt] at e6
      cases e6
end
end Kn
namespace Kn
open PySem L2 PySem.Spec PyProof.Rows
/-! calls -/
def pairB : PyData → Bool
  | .tuple [a, b] => nameB a && nameB b
  | _ => false
def fst1 : PyData → Str
  | .tuple (.str z :: _) => z
  | _ => ""
def snd1 : PyData → Str
  | .tuple [_, .str z] => z
  | _ => ""
def upB (zs : List Str) : Bool := sortedS zs && decide zs.Nodup
def callB : PyData → Bool
  | .tuple ds => !ds.isEmpty && (ds.all pairB && (upB (ds.map fst1) && ds.all fun d => decide (snd1 d ∈ ds.map fst1)))
  | _ => false
def prD (kv : Str × Str) : PyData := .tuple [.str kv.1, .str kv.2]
theorem name_str {d : PyData} (h : nameB d = true) : ∃ z, d = .str z := by
  cases d with
  | str z => exact ⟨z, rfl⟩
  | none => cases h
  | bool _ => cases h
  | int _ => cases h
  | list _ => cases h
  | tuple _ => cases h
  | dict _ => cases h
theorem pair_of {d : PyData} (h : pairB d = true) : ∃ kv : Str × Str, d = prD kv ∧ nameB (.str kv.1) = true ∧ nameB (.str kv.2) = true := by
  unfold pairB at h
  split at h
  · rename_i a b
    obtain ⟨h1, h2⟩ := (Bool.and_eq_true _ _).mp h
    obtain ⟨x, rfl⟩ := name_str h1
    obtain ⟨y, rfl⟩ := name_str h2
    exact ⟨(x, y), rfl, h1, h2⟩
  · cases h
theorem prs_of : ∀ {ds : List PyData}, ds.all pairB = true → ∃ kvs : List (Str × Str), ds = kvs.map prD ∧ ∀ kv ∈ kvs, nameB (.str kv.1) = true ∧ nameB (.str kv.2) = true
  | [], _ => ⟨[], rfl, fun _ h => nomatch h⟩
  | d :: ds, h => by
    rw [List.all_cons, Bool.and_eq_true] at h
    obtain ⟨kvs, e, hk⟩ := prs_of h.2
    obtain ⟨kv, e1, e2⟩ := pair_of h.1
    refine ⟨kv :: kvs, by rw [e, e1]; rfl, fun y hy => ?_⟩
    rcases List.mem_cons.mp hy with q | q
    · rw [q]; exact e2
    · exact hk y q
theorem fst_map (kvs : List (Str × Str)) : (kvs.map prD).map fst1 = kvs.map Prod.fst := by
  rw [List.map_map]
  rfl
theorem callB_of {kvs : List (Str × Str)} (hne : kvs ≠ []) (hk : ∀ kv ∈ kvs, nameB (.str kv.1) = true ∧ nameB (.str kv.2) = true) :
    callB (.tuple (kvs.map prD)) = (upB (kvs.map Prod.fst) && kvs.all fun kv => decide (kv.2 ∈ kvs.map Prod.fst)) := by
  have h1 : (kvs.map prD).isEmpty = false := by
    cases kvs with
    | nil => exact absurd rfl hne
    | cons _ _ => rfl
  have h2 : (kvs.map prD).all pairB = true := by
    rw [List.all_map, List.all_eq_true]
    intro kv hkv
    show (nameB (.str kv.1) && nameB (.str kv.2)) = true
    rw [(hk kv hkv).1, (hk kv hkv).2]
    rfl
  show (!(kvs.map prD).isEmpty && ((kvs.map prD).all pairB && (upB ((kvs.map prD).map fst1) && (kvs.map prD).all fun d => decide (snd1 d ∈ (kvs.map prD).map fst1)))) = _
  rw [h1, h2, fst_map, List.all_map]
  rfl
theorem dpA_pairs {K : PySem.W.Frag} {H : Hp} : ∀ {kvs : List (Str × Str)} {xs : List V}, DpAll K H xs (kvs.map prD) → ∃ ps : List Addr, xs = ps.map V.ref ∧ Paired (fun (p : Addr) (kv : Str × Str) => SqT K H p [.str kv.1, .str kv.2]) ps kvs
  | [], _, h => by
    cases h
    exact ⟨[], rfl, .nil⟩
  | kv :: kvs, _, h => by
    cases h with
    | cons h1 h2 =>
      obtain ⟨ps, e, hp⟩ := dpA_pairs h2
      cases h1 with
      | @tup a xs _ sq el =>
        cases el with
        | cons g1 g2 =>
          cases g2 with
          | cons g2 g3 =>
            cases g3
            cases g1
            cases g2
            exact ⟨a :: ps, by rw [e]; rfl, .cons sq hp⟩
theorem kn_pget {α β : Type} {F : α → β → Prop} : ∀ {xs : List α} {ys : List β}, Paired F xs ys → ∀ {i : Nat} {x : α}, xs[i]? = some x → ∃ y, ys[i]? = some y ∧ F x y
  | _, _, .cons (b := y) h _, 0, x, e => by
    obtain rfl := Option.some.inj e
    exact ⟨y, rfl, h⟩
  | _, _, .cons _ t, i + 1, x, e => kn_pget t e
/-- a list is its sorted members, each once, just where it rises -/
theorem up_iff {zs ys : List Str} (hs : sortedS ys = true) (hn : ys.Nodup) (hm : ∀ k, k ∈ ys ↔ k ∈ zs) : decide (zs = ys) = upB zs := by
  unfold upB
  by_cases h : zs = ys
  · rw [decide_eq_true h, h, hs, decide_eq_true hn]
    rfl
  · rw [decide_eq_false h]
    by_cases hz : zs.Nodup
    · rw [decide_eq_true hz]
      cases e : sortedS zs with
      | false => rfl
      | true => exact absurd (sorted_one ((List.perm_ext_iff_of_nodup hz hn).mpr fun k => (hm k).symm) e hs) h
    · rw [decide_eq_false hz, Bool.and_false]
theorem dp_strs {K : PySem.W.Frag} {H : Hp} {a : Addr} {l : List Str} (h : SqL K H a (l.map V.str)) : Dp K H (.ref a) (.list (l.map PyData.str)) := .lst h (dpA_map V.str PyData.str (fun z => .str z) l)
theorem lay_strs : ∀ l : List Str, (∀ z ∈ l, PyData.strOk z = true) → PyData.canLayAll0 (l.map PyData.str) = true
  | [], _ => by simp [PyData.canLayAll0]
  | z :: l, h => by
    rw [List.map_cons, PyData.canLayAll0, lay_strs l fun y hy => h y (List.mem_cons_of_mem _ hy)]
    simp [PyData.canLay0, h z List.mem_cons_self]
theorem dep_strs : ∀ l : List Str, PyData.depthAll (l.map PyData.str) = 0
  | [] => by unfold PyData.depthAll; rfl
  | z :: l => by
    rw [List.map_cons, PyData.depthAll, dep_strs l]
    simp [PyData.depth]
theorem lay_lstr (l : List Str) (h : ∀ z ∈ l, PyData.strOk z = true) : (PyData.list (l.map PyData.str)).canLay0 = true := by
  rw [PyData.canLay0]
  exact lay_strs l h
theorem shaped_strs (l : List Str) (h : ∀ z ∈ l, PyData.strOk z = true) : SeqAt.shaped (.list (l.map PyData.str)) = true := by
  unfold SeqAt.shaped
  rw [lay_lstr l h, PyData.depth, dep_strs]
  rfl
theorem name_ok {z : Str} (h : nameB (.str z) = true) : PyData.strOk z = true := by
  rw [nameB_str, Bool.and_eq_true] at h
  show z.cps.all (· < 0x110000) = true
  rw [← Array.all_toList, List.all_eq_true]
  intro c hc
  have h1 := List.all_eq_true.mp h.2 c hc
  unfold isLet at h1
  rw [Bool.and_eq_true] at h1
  have h2 : c ≤ 122 := of_decide_eq_true h1.2
  exact decide_eq_true (by omega)
theorem inV_strs (z : Str) (l : List Str) : inV (.str z) (l.map V.str) = decide (z ∈ l) := by
  unfold inV
  rw [List.any_map, Bool.eq_iff_iff, List.any_eq_true, decide_eq_true_iff]
  constructor
  · rintro ⟨y, hy, e⟩
    have e : (y == z) = true := e
    rw [← eq_of_beq e]
    exact hy
  · intro h
    exact ⟨z, h, show (z == z) = true from beq_self_eq_true z⟩
theorem flat_strs (l : List Str) : (l.map V.str).all flatV = true := by
  rw [List.all_map, List.all_eq_true]
  intro z _
  rfl
theorem eqv_strs : ∀ (us ws : List Str), PyData.eqvAll (us.map PyData.str) (ws.map PyData.str) = decide (us = ws)
  | [], [] => rfl
  | [], _ :: _ => rfl
  | _ :: _, [] => rfl
  | u :: us, w :: ws => by
    show ((u == w) && PyData.eqvAll (us.map PyData.str) (ws.map PyData.str)) = _
    rw [eqv_strs us ws]
    by_cases h1 : u = w
    · by_cases h2 : us = ws
      · rw [decide_eq_true h2, h1, h2]; simp
      · rw [decide_eq_false h2, Bool.and_false, decide_eq_false fun e => h2 (List.cons.inj e).2]
    · rw [show (u == w) = false from beq_false_of_ne h1, Bool.false_and, decide_eq_false fun e => h1 (List.cons.inj e).1]
end Kn
namespace Kn
open PySem L2 PySem.Spec PyProof.Rows
abbrev sOne : Stmt := topS 18
abbrev sPair : Stmt := topS 5
abbrev sPeople : Stmt := topS 7
theorem scOne : FnScope ["_law_part"] ["_law_part"] (defScope sOne) := ⟨rfl, rfl, rfl, by decide +kernel, rfl, by decide +kernel, by decide +kernel⟩
theorem scPair : FnScope ["thing"] ["thing"] (defScope sPair) := ⟨rfl, rfl, rfl, by decide +kernel, rfl, by decide +kernel, by decide +kernel⟩
theorem scPeople : FnScope ["call", "who", "name"] ["call"] (defScope sPeople) := ⟨rfl, rfl, rfl, by decide +kernel, rfl, by decide +kernel, by decide +kernel⟩
section
variable {P : Program} {w : World} {mg : Str → Option Value} {K : PySem.W.Frag} {base : Heap}
theorem ok_one {f : Addr} {fd : FuncData} {k : Nat} (F : Fun K "_law_is_one" "_law_is_one" sOne f fd) (B : Bn mg) : FnOk P w K mg base CX0 (k + 1) f fd ["_law_part"] (spName K) := by
  refine F.ok scOne (fun vs H Q E h => ?_) (fun cdv A outer s H vs Q E hr h => ?_)
  · obtain ⟨x, d, rfl, _⟩ := h
    rfl
  · obtain ⟨x, d, rfl, hx, hw, q⟩ := h
    refine ⟨_, (pss_cons (ps_if (PW.pt (pw_or (pt_not (pt_val (pe_callB call_isi (by rfl) B.isi (by decide +kernel) (pa_cons (pv 0) (pa_cons (pe_bltn (v := .ty "str") (by rfl) B.str (by decide +kernel) rfl) pa_nil))))) (pw_or1 (pt_not (pt_chain op_lt op_lt pe_int (pe_callB call_len_str (by rfl) B.len PySem.boot_len (pa_cons (pv 0) pa_nil)) pe_int))))) (pss_one (ps_ret pe_bl)) pss_nil)
      (pss_one (ps_ret (pe_cmpR op_eq (pe_bm PySem.F.plainAttrs_str PySem.F.slot_str_strip PySem.F.type_str_strip mt_stripChars (pv 0) (pa_cons pe_str pa_nil)) pe_str (nomark _))))), ?_⟩
    cases d with
    | dict kvs => cases hx
    | none =>
      refine ⟨_, rfl, ⟨_, .ty "str", _, _, false, rfl, .ty _, dp_ty (hx), kit_ty (by show kitB "NoneType" "str" = _; decide +kernel), false, rfl, iteT (iteT (q H (Same.refl _)))⟩⟩
    | bool z =>
      refine ⟨_, rfl, ⟨_, .ty "str", _, _, false, rfl, .ty _, dp_ty (hx), kit_ty (by show kitB "bool" "str" = _; decide +kernel), false, rfl, iteT (iteT (q H (Same.refl _)))⟩⟩
    | int z =>
      refine ⟨_, rfl, ⟨_, .ty "str", _, _, false, rfl, .ty _, dp_ty (hx), kit_ty (by show kitB "int" "str" = _; decide +kernel), false, rfl, iteT (iteT (q H (Same.refl _)))⟩⟩
    | list ds =>
      refine ⟨_, rfl, ⟨_, .ty "str", _, _, false, rfl, .ty _, dp_ty (hx), kit_ty (by show kitB "list" "str" = _; decide +kernel), false, rfl, iteT (iteT (q H (Same.refl _)))⟩⟩
    | tuple ds =>
      refine ⟨_, rfl, ⟨_, .ty "str", _, _, false, rfl, .ty _, dp_ty (hx), kit_ty (by show kitB "tuple" "str" = _; decide +kernel), false, rfl, iteT (iteT (q H (Same.refl _)))⟩⟩
    | str z =>
      cases hx
      have hzl : z.length ≤ sizeLine := Nat.le_trans (by rw [wt] at hw; omega : z.length ≤ 100000) (by decide)
      refine ⟨_, rfl, ⟨_, .ty "str", _, _, true, rfl, .ty _, dp_ty (.str z), kit_ty (by show kitB "str" "str" = _; decide +kernel), true, rfl, iteF ?_⟩⟩
      refine ⟨_, rfl, z, rfl, hzl, 0, _, rfl, rfl, _, rfl, ite2 (fun h1 => ?_) (fun h1 => ?_)⟩
      · have h1 : (0 : Int) < (z.length : Int) := of_decide_eq_true h1
        refine ⟨_, 7, rfl, rfl, _, rfl, ?_⟩
        by_cases h2 : z.length ≤ 6
        · have e2 : decide ((z.length : Int) < 7) = true := decide_eq_true (by omega)
          show if (!decide ((z.length : Int) < 7)) = true then _ else _
          rw [e2]
          refine iteF ?_
          refine ⟨_, rfl, rfl, z, LET, rfl, rfl, hzl, rfl, ?_⟩
          have e3 : decide (V.str (Txt.stripChars z LET) = V.str "") = nameB (.str z) := by
            rw [strip_b, nameB_str, decide_eq_true (by omega : 1 ≤ z.length), decide_eq_true h2, Bool.true_and, Bool.true_and]
          show Q (.bl (decide (V.str (Txt.stripChars z LET) = V.str ""))) H
          rw [e3]
          exact q H (Same.refl _)
        · have e2 : decide ((z.length : Int) < 7) = false := decide_eq_false (by omega)
          show if (!decide ((z.length : Int) < 7)) = true then _ else _
          rw [e2]
          refine iteT ?_
          have e4 : nameB (.str z) = false := by rw [nameB_str, decide_eq_false h2, Bool.and_false, Bool.false_and]
          have := q H (Same.refl _)
          rw [e4] at this
          exact this
      · refine ⟨_, rfl, iteT ?_⟩
        have e4 : nameB (.str z) = false := by rw [nameB_str, decide_eq_false (fun z1 => h1 (decide_eq_true (by omega))), Bool.false_and, Bool.false_and]
        have := q H (Same.refl _)
        rw [e4] at this
        exact this
theorem len_two {α : Type} {l : List α} (h : l.length = 2) : ∃ a b, l = [a, b] := by
  match l, h with
  | [a, b], _ => exact ⟨a, b, rfl⟩
def spPair (K : PySem.W.Frag) : Sp := fun vs H Q _ => ∃ (x : V) (d : PyData), vs = [x] ∧ Dp K H x d ∧ wt d ≤ 4000 ∧ ∀ H', Same H H' → Q (.bl (pairB d)) H'
set_option maxHeartbeats 2000000 in
theorem ok_pair {f fN : Addr} {fd dN : FuncData} {k : Nat} {t1 t2 : Tok} (F : Fun K "is_pair" "is_pair" sPair f fd) (B : Bn mg) (gLong : mg "LONGEST" = some (.int 6 t1)) (gLet : mg "LETTERS" = some (.str LET t2)) (FN : Fun K "is_name" "is_name" sName fN dN) (gN : mg "is_name" = some (.ref fN)) (bN : Binds K dN ["thing"] []) : FnOk P w K mg base CX0 (k + 2) f fd ["thing"] (spPair K) := by
  have GN : FnOk P w K mg base CX0 (k + 1) fN dN ["thing"] (spName K) := ok_name FN B gLong gLet
  refine F.ok scPair (fun vs H Q E h => ?_) (fun cdv A outer s H vs Q E hr h => ?_)
  · obtain ⟨x, d, rfl, _⟩ := h
    rfl
  · obtain ⟨x, d, rfl, hx, hw, q⟩ := h
    refine ⟨_, (pss_one (ps_ret (pe_and (pe_callB call_isi (by rfl) B.isi (by decide +kernel) (pa_cons (pv 0) (pa_cons (pe_bltn (v := .ty "tuple") (by rfl) B.tuple (by decide +kernel) rfl) pa_nil))) (pe_and (pe_cmpR op_eq (pe_callB call_len_seq (by rfl) B.len PySem.boot_len (pa_cons (pv 0) pa_nil)) pe_int (nomark _)) (pe_and (pe_call GN hr (by rfl) gN FN.kp bN .nil pass0 (pa_cons (pe_ix ix_tup (pv 0) pe_int (fun _ _ => rfl)) pa_nil)) (pe_one (pe_call GN hr (by rfl) gN FN.kp bN .nil pass0 (pa_cons (pe_ix ix_tup (pv 0) pe_int (fun _ _ => rfl)) pa_nil)))))))), ?_⟩
    cases d with
    | dict kvs => cases hx
    | none =>
      refine ⟨_, rfl, ⟨_, .ty "tuple", _, _, false, rfl, .ty _, dp_ty (hx), kit_ty (by show kitB "NoneType" "tuple" = _; decide +kernel), false, rfl, iteF (q H (Same.refl _))⟩⟩
    | bool z =>
      refine ⟨_, rfl, ⟨_, .ty "tuple", _, _, false, rfl, .ty _, dp_ty (hx), kit_ty (by show kitB "bool" "tuple" = _; decide +kernel), false, rfl, iteF (q H (Same.refl _))⟩⟩
    | int z =>
      refine ⟨_, rfl, ⟨_, .ty "tuple", _, _, false, rfl, .ty _, dp_ty (hx), kit_ty (by show kitB "int" "tuple" = _; decide +kernel), false, rfl, iteF (q H (Same.refl _))⟩⟩
    | list ds =>
      refine ⟨_, rfl, ⟨_, .ty "tuple", _, _, false, rfl, .ty _, dp_ty (hx), kit_ty (by show kitB "list" "tuple" = _; decide +kernel), false, rfl, iteF (q H (Same.refl _))⟩⟩
    | str z =>
      refine ⟨_, rfl, ⟨_, .ty "tuple", _, _, false, rfl, .ty _, dp_ty (hx), kit_ty (by show kitB "str" "tuple" = _; decide +kernel), false, rfl, iteF (q H (Same.refl _))⟩⟩
    | tuple ds =>
      refine ⟨_, rfl, ⟨_, .ty "tuple", _, _, true, rfl, .ty _, dp_ty (hx), kit_ty (by show kitB "tuple" "tuple" = _; decide +kernel), true, rfl, iteT ?_⟩⟩
      cases hx with
      | @tup ax xs _ qx ex =>
      have lx := dpA_len ex
      have hw2 : wtA ds ≤ 4000 := by rw [wt] at hw; omega
      refine ⟨_, rfl, ax, xs, rfl, .inr qx, rfl, _, rfl, ite2 (fun h2 => ?_) (fun h2 => ?_)⟩
      · have h2 : V.int (xs.length : Int) = V.int 2 := of_decide_eq_true h2
        have hl : xs.length = 2 := by have := V.int.inj h2; omega
        obtain ⟨x0, x1, rfl⟩ := len_two hl
        obtain ⟨d0, d1, rfl⟩ := len_two (show ds.length = 2 by rw [← lx]; rfl)
        have e0 : Dp K H x0 d0 := by cases ex with | cons e0 er => exact e0
        have e1 : Dp K H x1 d1 := by cases ex with | cons e0 er => cases er with | cons e1 _ => exact e1
        rw [wtA, wtA, wtA] at hw2
        refine ⟨_, rfl, ax, [x0, x1], 0, x0, rfl, rfl, qx, atI_nat rfl, x0, d0, rfl, e0, by omega, fun H1 s1 => ?_⟩
        refine ⟨_, rfl, ite2 (fun h3 => ?_) (fun h3 => ?_)⟩
        · refine ⟨_, rfl, ax, [x0, x1], 1, x1, rfl, rfl, sqT_same s1 qx, atI_nat rfl, x1, d1, rfl, dp_same s1 e1, by omega, fun H2 s2 => ?_⟩
          have e5 : pairB (.tuple [d0, d1]) = nameB d1 := by show (nameB d0 && nameB d1) = _; rw [h3, Bool.true_and]
          have := q H2 (s1.trans s2)
          rw [e5] at this
          exact this
        · have e5 : pairB (.tuple [d0, d1]) = false := by show (nameB d0 && nameB d1) = _; rw [Bool.not_eq_true] at h3; rw [h3, Bool.false_and]
          have := q H1 s1
          rw [e5] at this
          exact this
      · have hl : ds.length ≠ 2 := fun e => h2 (decide_eq_true (by rw [lx, e]; rfl))
        have e5 : pairB (.tuple ds) = false := by
          match ds, hl with
          | [], _ => rfl
          | [_], _ => rfl
          | [_, _], h => exact absurd rfl h
          | _ :: _ :: _ :: _, _ => rfl
        have := q H (Same.refl _)
        rw [e5] at this
        exact this
def spPeople (K : PySem.W.Frag) : Sp := fun vs H Q _ => ∃ (a : Addr) (ps : List Addr) (kvs : List (Str × Str)), vs = [.ref a] ∧ SqT K H a (ps.map V.ref) ∧ Paired (fun (p : Addr) (kv : Str × Str) => SqT K H p [.str kv.1, .str kv.2]) ps kvs ∧ ps.length ≤ 4000 ∧ ∀ (H' : Hp) (t : Addr), Same H H' → TupD H' t ((kvs.map Prod.fst).map V.str) → Q (.ref t) H'
set_option maxHeartbeats 2000000 in
theorem ok_people {f : Addr} {fd : FuncData} {k : Nat} (F : Fun K "people" "people" sPeople f fd) (B : Bn mg) : FnOk P w K mg base CX0 (k + 1) f fd ["call"] (spPeople K) := by
  refine F.ok scPeople (fun vs H Q E h => ?_) (fun cdv A outer s H vs Q E hr h => ?_)
  · obtain ⟨a, ps, kvs, rfl, _⟩ := h
    rfl
  · obtain ⟨a, ps, kvs, rfl, sq, hp, few, q⟩ := h
    refine ⟨_, (pss_one (ps_ret (pe_callTy cr_tupD (by rfl) B.tuple (by decide +kernel) (pa_cons (pe_lc (own := [("who", 1), ("name", 2)]) (g := gTup K 2 (gCons (gName 1) (gCons (gName 2) gNil))) (tt := tYes) rfl scPeople.nd (pi_tup (pv 0)) (blkOk_by (N := ["call", "who", "name"]) (sc := defScope sPeople) (by decide +kernel)) (fun _ _ _ _ _ => pg_tup rfl (pgs_cons (pg_name (i := 1) scPeople.nd rfl (Or.inl rfl)) (pgs_cons (pg_name (i := 2) scPeople.nd rfl (Or.inl rfl)) pgs_nil))) (fun _ _ _ _ _ => pts_nil) (fun _ _ _ _ _ => (pv 1))) pa_nil)))), ?_⟩
    have lk : kvs.length = ps.length := hp.length.symm
    refine ⟨_, rfl, a, rfl, ⟨_, sq⟩, fun D nD => ?_⟩
    refine lc_fm (walk_tup (xs := ps.map V.ref)) (fun i => (kvs[i]?).map fun kv => V.str kv.1) nD (Nat.lt_of_le_of_lt (by rw [List.length_map]; exact few : (ps.map V.ref).length ≤ 4000) (by decide)) (fun G s1 => sqT_same s1 sq) (fun i v G1 G2 R hi s1 hD hY hR => ?_) (fun G1 s1 hD => ?_)
    · obtain ⟨rfl, hv⟩ := hY
      rw [List.length_map] at hi
      have hpi : ps[i]? = some ps[i] := List.getElem?_eq_getElem hi
      obtain rfl : v = .ref ps[i] := by
        rw [List.getElem?_map, hpi] at hv
        exact (Option.some.inj hv).symm
      obtain ⟨kv, hkv, hpk⟩ := kn_pget hp hpi
      refine ⟨ps[i], _, rfl, sqT_same s1 hpk, rfl, _, _, rfl, _, _, rfl, rfl, rfl, tyes ?_⟩
      refine ⟨_, rfl, ?_⟩
      have hR' := hR _ (Same.refl _)
      rw [hkv] at hR'
      exact hR'
    · rw [List.length_map, ← lk, rng_fm2] at hD
      have e : kvs.map (fun kv => V.str kv.1) = (kvs.map Prod.fst).map V.str := by rw [List.map_map]; rfl
      rw [e] at hD
      exact ⟨D, _, rfl, .inl (.inl hD), fun t ot nt ct dt => q _ t (s1.trans (same_new nt)) ⟨ot, upd_same, ct, dt⟩⟩
end
end Kn
namespace Kn
open PySem L2 PySem.Spec PyProof.Rows
abbrev sIsAsk : Stmt := topS 19
theorem scIsAsk : FnScope ["_law_matter", "_law_part", "_law_sign", "_law_firsts"] ["_law_matter"] (defScope sIsAsk) := ⟨rfl, rfl, rfl, by decide +kernel, rfl, by decide +kernel, by decide +kernel⟩
section
variable {P : Program} {w : World} {mg : Str → Option Value} {K : PySem.W.Frag} {base : Heap}
def spIsAsk (K : PySem.W.Frag) : Sp := fun vs H Q _ => ∃ (x : V) (d : PyData), vs = [x] ∧ Dp K H x d ∧ wt d ≤ 4000 ∧ Nic d ∧ tl d < 64 ∧ ∀ H', Same H H' → Q (.bl (callB d)) H'
set_option maxHeartbeats 4000000 in
theorem ok_isask {f fZ : Addr} {fd dZ : FuncData} {k : Nat} (F : Fun K "_law_is_ask" "_law_is_ask" sIsAsk f fd) (B : Bn mg) (mset : mg "set" = none) (FZ : Fun K "_law_is_one" "_law_is_one" sOne fZ dZ) (gZ : mg "_law_is_one" = some (.ref fZ)) (bZ : Binds K dZ ["_law_part"] []) : FnOk P w K mg base CX0 (k + 2) f fd ["_law_matter"] (spIsAsk K) := by
  have GZ : FnOk P w K mg base CX0 (k + 1) fZ dZ ["_law_part"] (spName K) := ok_one FZ B
  refine F.ok scIsAsk (fun vs H Q E h => ?_) (fun cdv A outer s H vs Q E hr h => ?_)
  · obtain ⟨x, d, rfl, _⟩ := h
    rfl
  · obtain ⟨x, d, rfl, hx, hw, hnic, htl, q⟩ := h
    refine ⟨_, (pss_cons (ps_if (PW.pt (pw_or (pt_not (pt_val (pe_callB call_isi (by rfl) B.isi (by decide +kernel) (pa_cons (pv 0) (pa_cons (pe_bltn (v := .ty "tuple") (by rfl) B.tuple (by decide +kernel) rfl) pa_nil))))) (pw_or1 (pt_cmpR op_eq (pe_callB call_len_seq (by rfl) B.len PySem.boot_len (pa_cons (pv 0) pa_nil)) pe_int (nomark _))))) (pss_one (ps_ret pe_bl)) pss_nil)
      (pss_cons (ps_for PassesOwn.never rfl (pi_tup (pv 0)) (pg_name (i := 1) scIsAsk.nd rfl (Or.inl rfl))
      (pss_one (ps_if (PW.pt (pw_or (pt_not (pt_val (pe_callB call_isi (by rfl) B.isi (by decide +kernel) (pa_cons (pv 1) (pa_cons (pe_bltn (v := .ty "tuple") (by rfl) B.tuple (by decide +kernel) rfl) pa_nil))))) (pw_or (pt_cmpR op_ne (pe_callB call_len_seq (by rfl) B.len PySem.boot_len (pa_cons (pv 1) pa_nil)) pe_int (nomark _)) (pw_or1 (pt_not (pt_val (pe_callB (cr_all rfl) (by rfl) B.all (by decide +kernel) (pa_cons (pe_lc (own := [("_law_sign", 2)]) (g := gName 2) (tt := tYes) rfl scIsAsk.nd (pi_tup (pv 1)) (blkOk_by (N := ["_law_matter", "_law_part", "_law_sign", "_law_firsts"]) (sc := defScope sIsAsk) (by decide +kernel)) (fun _ _ _ _ _ => pg_name (i := 2) scIsAsk.nd rfl (Or.inl rfl)) (fun _ _ _ _ _ => pts_nil) (fun _ _ _ _ _ => (pe_call GZ hr (by rfl) gZ FZ.kp bZ .nil pass0 (pa_cons (pv 2) pa_nil)))) pa_nil)))))))) (pss_one (ps_ret pe_bl)) pss_nil)))
      (pss_cons (ps_set (i := 3) scIsAsk.nd rfl (.inr rfl) (pe_lc (own := [("_law_part", 1)]) (g := gName 1) (tt := tYes) (te := tOp (rIxT K) (tVar 1) (tC (.int 0))) rfl scIsAsk.nd (pi_tup (pv 0)) (blkOk_by (N := ["_law_matter", "_law_part", "_law_sign", "_law_firsts"]) (sc := defScope sIsAsk) (by decide +kernel)) (fun _ _ _ _ _ => pg_name (i := 1) scIsAsk.nd rfl (Or.inl rfl)) (fun _ _ _ _ _ => pts_nil) (fun _ _ _ _ _ => (pe_ix ix_tup (pv 1) pe_int (fun _ _ => rfl)))))
      (pss_one (ps_ret (pe_and (pe_cmpR (op_eqD hr.units) (pv 3) (pe_sortS rfl (by rfl) B.sorted (by rfl) mset (pv 3)) (nomark _)) (pe_one (pe_callB (cr_all rfl) (by rfl) B.all (by decide +kernel) (pa_cons (pe_lc (own := [("_law_part", 1)]) (g := gName 1) (tt := tYes) (te := tOp (rIn K false) (tOp (rIxT K) (tVar 1) (tC (.int 1))) (tVar 3)) rfl scIsAsk.nd (pi_tup (pv 0)) (blkOk_by (N := ["_law_matter", "_law_part", "_law_sign", "_law_firsts"]) (sc := defScope sIsAsk) (by decide +kernel)) (fun _ _ _ _ _ => pg_name (i := 1) scIsAsk.nd rfl (Or.inl rfl)) (fun _ _ _ _ _ => pts_nil) (fun _ _ _ _ _ => (pe_cmpR op_in_seq (pe_ix ix_tup (pv 1) pe_int (fun _ _ => rfl)) (pv 3) rfl))) pa_nil))))))))), ?_⟩
    have no : callB d = false → ∀ G, Same H G → Q (.bl false) G := fun e G s1 => by
      have := q G s1
      rw [e] at this
      exact this
    cases d with
    | dict kvs => cases hx
    | none =>
      refine ⟨_, rfl, ⟨_, .ty "tuple", _, _, false, rfl, .ty _, dp_ty (hx), kit_ty (by show kitB "NoneType" "tuple" = _; decide +kernel), false, rfl, iteT (iteT (no rfl H (Same.refl _)))⟩⟩
    | bool z =>
      refine ⟨_, rfl, ⟨_, .ty "tuple", _, _, false, rfl, .ty _, dp_ty (hx), kit_ty (by show kitB "bool" "tuple" = _; decide +kernel), false, rfl, iteT (iteT (no rfl H (Same.refl _)))⟩⟩
    | int z =>
      refine ⟨_, rfl, ⟨_, .ty "tuple", _, _, false, rfl, .ty _, dp_ty (hx), kit_ty (by show kitB "int" "tuple" = _; decide +kernel), false, rfl, iteT (iteT (no rfl H (Same.refl _)))⟩⟩
    | str z =>
      refine ⟨_, rfl, ⟨_, .ty "tuple", _, _, false, rfl, .ty _, dp_ty (hx), kit_ty (by show kitB "str" "tuple" = _; decide +kernel), false, rfl, iteT (iteT (no rfl H (Same.refl _)))⟩⟩
    | list ds =>
      refine ⟨_, rfl, ⟨_, .ty "tuple", _, _, false, rfl, .ty _, dp_ty (hx), kit_ty (by show kitB "list" "tuple" = _; decide +kernel), false, rfl, iteT (iteT (no rfl H (Same.refl _)))⟩⟩
    | tuple ds =>
      refine ⟨_, rfl, ⟨_, .ty "tuple", _, _, true, rfl, .ty _, dp_ty (hx), kit_ty (by show kitB "tuple" "tuple" = _; decide +kernel), true, rfl, iteF ?_⟩⟩
      cases hx with
      | @tup ax xs _ qx ex =>
      have lx := dpA_len ex
      have hw2 : wtA ds ≤ 4000 := by rw [wt] at hw; omega
      refine ⟨_, rfl, ax, xs, rfl, .inr qx, rfl, _, rfl, ite2 (fun h0 => ?_) (fun h0 => ?_)⟩
      · have h0 : V.int (xs.length : Int) = V.int 0 := of_decide_eq_true h0
        have e0 : ds = [] := List.length_eq_zero_iff.mp (by have := V.int.inj h0; omega)
        exact no (by rw [e0]; rfl) H (Same.refl _)
      have hne : ds ≠ [] := fun e => h0 (decide_eq_true (by rw [lx, e]; rfl))
      refine ⟨_, rfl, ax, rfl, ⟨_, qx⟩, for_it walk_tup (fun i σ G => (∃ v, σ = [some (.ref ax), v, none, none]) ∧ Same H G ∧ (ds.take i).all pairB = true) ⟨⟨none, rfl⟩, Same.refl _, rfl⟩ (fun i σ G _ h => sqT_same h.2.1 qx) (fun i v σ G G' hi hP hY => ?_) (fun σ G hP => ?_)⟩
      · obtain ⟨rfl, hv⟩ := hY
        obtain ⟨⟨v0, rfl⟩, sG, hall⟩ := hP
        obtain ⟨d, hd, kd0⟩ := dpA_get ex hv
        have kd := dp_same sG kd0
        have hwd := wtA_mem (List.mem_of_getElem? hd)
        have out : pairB d = false → ∀ G2, Same H G2 → Q (.bl false) G2 := fun e G2 s2 => by
          refine no ?_ G2 s2
          have : ds.all pairB = false := by
            cases e2 : ds.all pairB with
            | false => rfl
            | true => rw [List.all_eq_true.mp e2 d (List.mem_of_getElem? hd)] at e; cases e
          show (!ds.isEmpty && (ds.all pairB && _)) = false
          rw [this, Bool.false_and, Bool.and_false]
        have on : pairB d = true → ∀ G2, Same H G2 → (∃ v', [some (V.ref ax), some v, none, none] = [some (V.ref ax), v', none, none]) ∧ Same H G2 ∧ (ds.take (i + 1)).all pairB = true := fun e G2 s2 => by
          refine ⟨⟨_, rfl⟩, s2, ?_⟩
          rw [List.take_add_one, hd, List.all_append, hall]
          show (true && (pairB d && true)) = true
          rw [e]
          rfl
        cases d with
        | dict kvs => cases kd
        | none =>
          refine ⟨_, rfl, ⟨_, .ty "tuple", _, _, false, rfl, .ty _, dp_ty (kd), kit_ty (by show kitB "NoneType" "tuple" = _; decide +kernel), false, rfl, iteT (iteT (out rfl G' sG))⟩⟩
        | bool z =>
          refine ⟨_, rfl, ⟨_, .ty "tuple", _, _, false, rfl, .ty _, dp_ty (kd), kit_ty (by show kitB "bool" "tuple" = _; decide +kernel), false, rfl, iteT (iteT (out rfl G' sG))⟩⟩
        | int z =>
          refine ⟨_, rfl, ⟨_, .ty "tuple", _, _, false, rfl, .ty _, dp_ty (kd), kit_ty (by show kitB "int" "tuple" = _; decide +kernel), false, rfl, iteT (iteT (out rfl G' sG))⟩⟩
        | str z =>
          refine ⟨_, rfl, ⟨_, .ty "tuple", _, _, false, rfl, .ty _, dp_ty (kd), kit_ty (by show kitB "str" "tuple" = _; decide +kernel), false, rfl, iteT (iteT (out rfl G' sG))⟩⟩
        | list es =>
          refine ⟨_, rfl, ⟨_, .ty "tuple", _, _, false, rfl, .ty _, dp_ty (kd), kit_ty (by show kitB "list" "tuple" = _; decide +kernel), false, rfl, iteT (iteT (out rfl G' sG))⟩⟩
        | tuple es =>
          refine ⟨_, rfl, ⟨_, .ty "tuple", _, _, true, rfl, .ty _, dp_ty (kd), kit_ty (by show kitB "tuple" "tuple" = _; decide +kernel), true, rfl, iteF ?_⟩⟩
          have hwe : wtA es ≤ 4000 := by rw [wt] at hwd; omega
          cases kd with
          | @tup ap ys _ qp ep =>
          have ly := dpA_len ep
          refine ⟨_, rfl, ap, ys, rfl, .inr qp, rfl, _, rfl, ?_⟩
          show if (!decide (V.int (ys.length : Int) = V.int 2)) = true then _ else _
          by_cases hl : ys.length = 2
          · rw [decide_eq_true (by rw [hl]; rfl)]
            refine iteF ?_
            refine ⟨_, rfl, ap, rfl, ⟨_, qp⟩, fun D nD => ?_⟩
            refine lc_fm (walk_tup (xs := ys)) (fun i => (es[i]?).map fun e => V.bl (nameB e)) nD (Nat.lt_of_le_of_lt (by omega : ys.length ≤ 2) (by decide)) (fun G3 s3 => sqT_same s3 qp) (fun j y G3 G4 R hj s3 hD hY hR => ?_) (fun G3 s3 hD => ?_)
            · obtain ⟨rfl, hy⟩ := hY
              obtain ⟨e, he, ke⟩ := dpA_get ep hy
              have hwe1 := wtA_mem (List.mem_of_getElem? he)
              refine ⟨rfl, tyes ?_⟩
              refine ⟨_, rfl, y, e, rfl, dp_same s3 ke, by omega, fun G5 s5 => ?_⟩
              have hR' := hR G5 s5
              rw [he] at hR'
              exact hR'
            · rw [ly, rng_fm2] at hD
              obtain ⟨e0, e1, rfl⟩ := len_two (show es.length = 2 by rw [← ly]; exact hl)
              refine ⟨D, [nameB e0, nameB e1], rfl, .inl (.inl (by rw [hD]; rfl)), _, rfl, ?_⟩
              have e5 : ([nameB e0, nameB e1].all id) = pairB (.tuple [e0, e1]) := by show (nameB e0 && (nameB e1 && true)) = (nameB e0 && nameB e1); rw [Bool.and_true]
              show if (!([nameB e0, nameB e1].all id)) = true then _ else _
              rw [e5]
              cases e6 : pairB (.tuple [e0, e1]) with
              | true => exact iteF (on e6 G3 (sG.trans s3))
              | false => exact iteT (out e6 G3 (sG.trans s3))
          · rw [decide_eq_false (fun e => hl (by have := V.int.inj e; omega))]
            refine iteT (iteT (out ?_ G' sG))
            match es, (fun e => hl (ly.trans e) : es.length ≠ 2) with
            | [], _ => rfl
            | [_], _ => rfl
            | [_, _], h => exact absurd rfl h
            | _ :: _ :: _ :: _, _ => rfl
      · obtain ⟨⟨v0, rfl⟩, sG, hall⟩ := hP
        rw [lx, List.take_length] at hall
        obtain ⟨kvs, rfl, hk⟩ := prs_of hall
        obtain ⟨ps, rfl, hp⟩ := dpA_pairs ex
        have hkn : kvs ≠ [] := fun e => hne (by rw [e]; rfl)
        have hlk : ps.length = kvs.length := hp.length
        have h64 : kvs.length < 64 := by
          have : (kvs.map prD).length < 64 := htl
          rwa [List.length_map] at this
        have hF : ∀ z ∈ kvs.map Prod.fst, PyData.strOk z = true := fun z hz => by
          obtain ⟨kv, hkv, rfl⟩ := List.mem_map.mp hz
          exact name_ok (hk kv hkv).1
        refine ⟨_, rfl, ax, rfl, ⟨_, sqT_same sG qx⟩, fun D nD => ?_⟩
        refine lc_fm (walk_tup (xs := ps.map V.ref)) (fun i => (kvs[i]?).map fun kv => V.str kv.1) nD (Nat.lt_of_le_of_lt (by rw [List.length_map]; omega : (ps.map V.ref).length ≤ 64) (by decide)) (fun G3 s3 => sqT_same (sG.trans s3) qx) (fun i v G3 G4 R hi s3 hD hY hR => ?_) (fun G3 s3 hD => ?_)
        · obtain ⟨rfl, hv⟩ := hY
          rw [List.length_map] at hi
          have hpi : ps[i]? = some ps[i] := List.getElem?_eq_getElem hi
          obtain rfl : v = .ref ps[i] := by
            rw [List.getElem?_map, hpi] at hv
            exact (Option.some.inj hv).symm
          obtain ⟨kv, hkv, hpk⟩ := kn_pget hp hpi
          refine ⟨rfl, tyes ?_⟩
          refine ⟨_, rfl, ps[i], _, 0, .str kv.1, rfl, rfl, sqT_same (sG.trans s3) hpk, atI_nat rfl, ?_⟩
          have hR' := hR _ (Same.refl _)
          rw [hkv] at hR'
          exact hR'
        · rw [List.length_map, hlk, rng_fm2] at hD
          have e : kvs.map (fun kv => V.str kv.1) = (kvs.map Prod.fst).map V.str := by rw [List.map_map]; rfl
          rw [e] at hD
          have lf : (kvs.map Prod.fst).length < 64 := by rw [List.length_map]; exact h64
          refine ⟨_, rfl, _, rfl, D, kvs.map Prod.fst, rfl, .inl (.inl hD), lf, fun zs p hs hn hm np => ?_⟩
          have s4 : Same G3 (upd G3 p (.lst (zs.map V.str))) := same_new np
          have hZ : ∀ z ∈ zs, PyData.strOk z = true := fun z hz => hF z ((hm z).mp hz)
          refine ⟨.list ((kvs.map Prod.fst).map PyData.str), .list (zs.map PyData.str), dp_strs (.inl (.inl (s4 _ _ hD))), dp_strs (.inl (.inl upd_same)), shaped_strs _ hF, shaped_strs _ hZ, ?_⟩
          have ee : PyData.eqv (.list ((kvs.map Prod.fst).map PyData.str)) (.list (zs.map PyData.str)) = upB (kvs.map Prod.fst) := (eqv_strs _ _).trans (up_iff hs hn hm)
          show ∃ c, V.bl (PyData.eqv _ _) = V.bl c ∧ _
          rw [ee]
          have cb := callB_of hkn hk
          have s5 := (sG.trans s3).trans s4
          generalize upd G3 p (.lst (zs.map V.str)) = G5 at s4 s5 ⊢
          refine ⟨_, rfl, ite2 (fun h7 => ?_) (fun h7 => ?_)⟩
          · refine ⟨_, rfl, ax, rfl, ⟨_, sqT_same s5 qx⟩, fun D2 nD2 => ?_⟩
            refine lc_fm (walk_tup (xs := ps.map V.ref)) (fun i => (kvs[i]?).map fun kv => V.bl (decide (kv.2 ∈ kvs.map Prod.fst))) nD2 (Nat.lt_of_le_of_lt (by rw [List.length_map]; omega : (ps.map V.ref).length ≤ 64) (by decide)) (fun G6 s6 => sqT_same (s5.trans s6) qx) (fun i v G6 G7 R hi s6 hD6 hY hR => ?_) (fun G6 s6 hD6 => ?_)
            · obtain ⟨rfl, hv⟩ := hY
              rw [List.length_map] at hi
              have hpi : ps[i]? = some ps[i] := List.getElem?_eq_getElem hi
              obtain rfl : v = .ref ps[i] := by
                rw [List.getElem?_map, hpi] at hv
                exact (Option.some.inj hv).symm
              obtain ⟨kv, hkv, hpk⟩ := kn_pget hp hpi
              refine ⟨rfl, tyes ?_⟩
              refine ⟨_, rfl, ps[i], _, 1, .str kv.2, rfl, rfl, sqT_same (s5.trans s6) hpk, atI_nat rfl, _, rfl, D, _, rfl, .inl (.inl (.inl (s6 _ _ (s4 _ _ hD)))), rfl, flat_strs _, ?_⟩
              have hR' := hR _ (Same.refl _)
              rw [hkv] at hR'
              show R (some (V.bl (inV (.str kv.2) ((kvs.map Prod.fst).map V.str)))) _
              rw [inV_strs]
              exact hR'
            · rw [List.length_map, hlk, rng_fm2] at hD6
              refine ⟨D2, kvs.map fun kv => decide (kv.2 ∈ kvs.map Prod.fst), rfl, .inl (.inl (by rw [hD6, List.map_map]; rfl)), ?_⟩
              have := q G6 (s5.trans s6)
              rw [cb, h7, Bool.true_and] at this
              rw [List.all_map]
              exact this
          · have := q G5 s5
            rw [cb, Bool.not_eq_true _ |>.mp h7, Bool.false_and] at this
            exact this
end
end Kn
namespace Kn
open PySem L2 PySem.Spec PyProof.Rows
/-! the keys of a dict of pairs -/
def kvD (kv : Str × Str) : Key × V := (Sum.inr kv.1, V.str kv.2)
structure Keys (d : List (Key × V)) (ks : List Str) : Prop where
  keys : d.map Prod.fst = ks.map Sum.inr
  uni : ks.Nodup
theorem Keys.has {d : List (Key × V)} {ks : List Str} (h : Keys d ks) (z : Str) : (d.any fun p => decide (p.1 = (Sum.inr z : Key))) = decide (z ∈ ks) := by
  have e : (d.any fun p => decide (p.1 = (Sum.inr z : Key))) = ((d.map Prod.fst).any fun k => decide (k = (Sum.inr z : Key))) := by rw [List.any_map]; rfl
  rw [e, h.keys, List.any_map, Bool.eq_iff_iff, List.any_eq_true, decide_eq_true_iff]
  constructor
  · rintro ⟨y, hy, q⟩
    have : (Sum.inr y : Key) = Sum.inr z := of_decide_eq_true q
    rw [← Sum.inr.inj this]
    exact hy
  · intro hz
    exact ⟨z, hz, decide_eq_true rfl⟩
theorem Keys.put {d : List (Key × V)} {ks : List Str} (h : Keys d ks) (z : Str) (v : V) : Keys (putK d (Sum.inr z) v) (if z ∈ ks then ks else ks ++ [z]) := by
  unfold putK
  rw [h.has z]
  by_cases hz : z ∈ ks
  · rw [if_pos (decide_eq_true hz), if_pos hz]
    refine ⟨?_, h.uni⟩
    rw [List.map_map, ← h.keys]
    refine List.map_congr_left fun p _ => ?_
    show (if p.1 = (Sum.inr z : Key) then (p.1, v) else p).1 = p.1
    split <;> rfl
  · rw [if_neg (by rw [decide_eq_false hz]; exact Bool.false_ne_true), if_neg hz]
    refine ⟨by rw [List.map_append, List.map_append, h.keys]; rfl, ?_⟩
    rw [List.nodup_append]
    refine ⟨h.uni, (List.nodup_cons.mpr ⟨List.not_mem_nil, List.nodup_nil⟩), fun a ha b hb e => hz ?_⟩
    rw [← List.mem_singleton.mp hb, ← e]
    exact ha
theorem keys_merge : ∀ (kvs : List (Str × Str)) (d : List (Key × V)) (ks : List Str), Keys d ks → ∃ zs, Keys (mergeK d (kvs.map kvD)) zs ∧ (∀ k, k ∈ zs ↔ k ∈ ks ∨ k ∈ kvs.map Prod.fst) ∧ zs.length ≤ ks.length + kvs.length
  | [], d, ks, h => ⟨ks, h, fun k => by simp, Nat.le_refl _⟩
  | kv :: kvs, d, ks, h => by
    obtain ⟨zs, h1, h2, h3⟩ := keys_merge kvs _ _ (h.put kv.1 (V.str kv.2))
    refine ⟨zs, h1, fun k => ?_, ?_⟩
    · rw [h2 k, List.map_cons, List.mem_cons]
      by_cases hz : kv.1 ∈ ks
      · rw [if_pos hz]
        constructor
        · rintro (q | q)
          · exact .inl q
          · exact .inr (.inr q)
        · rintro (q | q | q)
          · exact .inl q
          · rw [q]; exact .inl hz
          · exact .inr q
      · rw [if_neg hz, List.mem_append, List.mem_singleton]
        constructor
        · rintro ((q | q) | q)
          · exact .inl q
          · exact .inr (.inl q)
          · exact .inr (.inr q)
        · rintro (q | q | q)
          · exact .inl (.inl q)
          · exact .inl (.inr q)
          · exact .inr q
    · have : (if kv.1 ∈ ks then ks else ks ++ [kv.1]).length ≤ ks.length + 1 := by
        split
        · omega
        · rw [List.length_append]; exact Nat.le_refl _
      rw [List.length_cons]
      omega
theorem Keys.val {d : List (Key × V)} {ks : List Str} (h : Keys d ks) (z : Str) : (valV d (Sum.inr z : Key)).isSome = decide (z ∈ ks) := by
  rw [← h.has z]
  unfold valV
  rw [Option.isSome_map, Bool.eq_iff_iff, List.find?_isSome, List.any_eq_true]
end Kn
namespace Kn
open PySem L2 PySem.Spec PyProof.Rows
abbrev sIsCall : Stmt := topS 6
theorem scIsCall : FnScope ["thing", "pair", "told", "who", "name"] ["thing"] (defScope sIsCall) := ⟨rfl, rfl, rfl, by decide +kernel, rfl, by decide +kernel, by decide +kernel⟩
theorem kn_pmap {F : Addr → Key × V → Prop} : ∀ {ps : List Addr} {kvs : List (Str × Str)}, Paired (fun p kv => F p (kvD kv)) ps kvs → Paired F ps (kvs.map kvD)
  | _, _, .nil => .nil
  | _, _, .cons h t => .cons h (kn_pmap t)
section
variable {P : Program} {w : World} {mg : Str → Option Value} {K : PySem.W.Frag} {base : Heap}
def spIsCall (K : PySem.W.Frag) : Sp := fun vs H Q _ => ∃ (x : V) (d : PyData), vs = [x] ∧ Dp K H x d ∧ (∀ ds, d = .tuple ds → ∃ a xs, x = .ref a ∧ TupD H a xs) ∧ wt d ≤ 4000 ∧ tl d < 64 ∧ ∀ H', Same H H' → Q (.bl (callB d)) H'
set_option maxHeartbeats 4000000 in
theorem ok_iscall {f fE fL fN : Addr} {fd dE dL dN : FuncData} {k : Nat} {t1 t2 : Tok} (F : Fun K "is_call" "is_call" sIsCall f fd) (B : Bn mg) (gLong : mg "LONGEST" = some (.int 6 t1)) (gLet : mg "LETTERS" = some (.str LET t2)) (FN : Fun K "is_name" "is_name" sName fN dN) (gN : mg "is_name" = some (.ref fN)) (bN : Binds K dN ["thing"] [])
    (FE : Fun K "is_pair" "is_pair" sPair fE dE) (gE : mg "is_pair" = some (.ref fE)) (bE : Binds K dE ["thing"] []) (FL : Fun K "people" "people" sPeople fL dL) (gL : mg "people" = some (.ref fL)) (bL : Binds K dL ["call"] []) : FnOk P w K mg base CX0 (k + 3) f fd ["thing"] (spIsCall K) := by
  have GE : FnOk P w K mg base CX0 (k + 2) fE dE ["thing"] (spPair K) := ok_pair FE B gLong gLet FN gN bN
  have GL : FnOk P w K mg base CX0 1 fL dL ["call"] (spPeople K) := ok_people FL B
  refine F.ok scIsCall (fun vs H Q E h => ?_) (fun cdv A outer s H vs Q E hr h => ?_)
  · obtain ⟨x, d, rfl, _⟩ := h
    rfl
  · obtain ⟨x, d, rfl, hx, hTD, hw, htl, q⟩ := h
    have hr1 : Room 1 _ := hr.mono (by omega)
    have hu := hu_of hr
    refine ⟨_, (pss_cons (ps_if (PW.pt (pw_or (pt_not (pt_val (pe_callB call_isi (by rfl) B.isi (by decide +kernel) (pa_cons (pv 0) (pa_cons (pe_bltn (v := .ty "tuple") (by rfl) B.tuple (by decide +kernel) rfl) pa_nil))))) (pw_or1 (pt_cmpR op_eq (pe_callB call_len_seq (by rfl) B.len PySem.boot_len (pa_cons (pv 0) pa_nil)) pe_int (nomark _))))) (pss_one (ps_ret pe_bl)) pss_nil)
      (pss_cons (ps_if (pt_not (pt_val (pe_callB (cr_all rfl) (by rfl) B.all (by decide +kernel) (pa_cons (pe_lc (own := [("pair", 1)]) (g := gName 1) (tt := tYes) rfl scIsCall.nd (pi_tup (pv 0)) (blkOk_by (N := ["thing", "pair", "told", "who", "name"]) (sc := defScope sIsCall) (by decide +kernel)) (fun _ _ _ _ _ => pg_name (i := 1) scIsCall.nd rfl (Or.inl rfl)) (fun _ _ _ _ _ => pts_nil) (fun _ _ _ _ _ => (pe_call GE hr (by rfl) gE FE.kp bE .nil pass0 (pa_cons (pv 1) pa_nil)))) pa_nil)))) (pss_one (ps_ret pe_bl)) pss_nil)
      (pss_cons (ps_set (i := 2) scIsCall.nd rfl (.inr rfl) (pe_callTy (cr_dictA rfl) (by rfl) B.dict (by decide +kernel) (pa_cons (pv 0) pa_nil)))
      (pss_cons (ps_if (pt_cmpR (op_neD hr.units) (pe_callTy call_list_of (by rfl) B.list (by decide +kernel) (pa_cons (pe_call GL hr1 (by rfl) gL FL.kp bL .nil pass0 (pa_cons (pv 0) pa_nil)) pa_nil)) (pe_callB (call_sortedD rfl) (by rfl) B.sorted (by decide +kernel) (pa_cons (pv 2) pa_nil)) (nomark _)) (pss_one (ps_ret pe_bl)) pss_nil)
      (pss_one (ps_ret (pe_callB (cr_all rfl) (by rfl) B.all (by decide +kernel) (pa_cons (pe_lc (own := [("who", 3), ("name", 4)]) (g := gTup K 2 (gCons (gName 3) (gCons (gName 4) gNil))) (tt := tYes) rfl scIsCall.nd (pi_tup (pv 0)) (blkOk_by (N := ["thing", "pair", "told", "who", "name"]) (sc := defScope sIsCall) (by decide +kernel)) (fun _ _ _ _ _ => pg_tup rfl (pgs_cons (pg_name (i := 3) scIsCall.nd rfl (Or.inl rfl)) (pgs_cons (pg_name (i := 4) scIsCall.nd rfl (Or.inl rfl)) pgs_nil))) (fun _ _ _ _ _ => pts_nil) (fun _ _ _ _ _ => (pe_cmp (pc_din hu (pv 4) (pv 2))))) pa_nil)))))))), ?_⟩
    have no : callB d = false → ∀ G, Same H G → Q (.bl false) G := fun e G s1 => by
      have := q G s1
      rw [e] at this
      exact this
    cases d with
    | dict kvs => cases hx
    | none =>
      refine ⟨_, rfl, ⟨_, .ty "tuple", _, _, false, rfl, .ty _, dp_ty (hx), kit_ty (by show kitB "NoneType" "tuple" = _; decide +kernel), false, rfl, iteT (iteT (no rfl H (Same.refl _)))⟩⟩
    | bool z =>
      refine ⟨_, rfl, ⟨_, .ty "tuple", _, _, false, rfl, .ty _, dp_ty (hx), kit_ty (by show kitB "bool" "tuple" = _; decide +kernel), false, rfl, iteT (iteT (no rfl H (Same.refl _)))⟩⟩
    | int z =>
      refine ⟨_, rfl, ⟨_, .ty "tuple", _, _, false, rfl, .ty _, dp_ty (hx), kit_ty (by show kitB "int" "tuple" = _; decide +kernel), false, rfl, iteT (iteT (no rfl H (Same.refl _)))⟩⟩
    | str z =>
      refine ⟨_, rfl, ⟨_, .ty "tuple", _, _, false, rfl, .ty _, dp_ty (hx), kit_ty (by show kitB "str" "tuple" = _; decide +kernel), false, rfl, iteT (iteT (no rfl H (Same.refl _)))⟩⟩
    | list ds =>
      refine ⟨_, rfl, ⟨_, .ty "tuple", _, _, false, rfl, .ty _, dp_ty (hx), kit_ty (by show kitB "list" "tuple" = _; decide +kernel), false, rfl, iteT (iteT (no rfl H (Same.refl _)))⟩⟩
    | tuple ds =>
      refine ⟨_, rfl, ⟨_, .ty "tuple", _, _, true, rfl, .ty _, dp_ty (hx), kit_ty (by show kitB "tuple" "tuple" = _; decide +kernel), true, rfl, iteF ?_⟩⟩
      obtain ⟨ad, xd, ead, hT2⟩ := hTD ds rfl
      clear hTD
      cases hx with
      | @tup ax xs _ qx ex =>
      rw [← V.ref.inj ead] at hT2
      have lx := dpA_len ex
      have hw2 : wtA ds ≤ 4000 := by rw [wt] at hw; omega
      refine ⟨_, rfl, ax, xs, rfl, .inr qx, rfl, _, rfl, ite2 (fun h0 => ?_) (fun h0 => ?_)⟩
      · have h0 : V.int (xs.length : Int) = V.int 0 := of_decide_eq_true h0
        have e0 : ds = [] := List.length_eq_zero_iff.mp (by have := V.int.inj h0; omega)
        exact no (by rw [e0]; rfl) H (Same.refl _)
      have hne : ds ≠ [] := fun e => h0 (decide_eq_true (by rw [lx, e]; rfl))
      have hdl : ds.length < 64 := htl
      refine ⟨_, rfl, ax, rfl, ⟨_, qx⟩, fun D nD => ?_⟩
      refine lc_fm (walk_tup (xs := xs)) (fun i => (ds[i]?).map fun e => V.bl (pairB e)) nD (Nat.lt_of_le_of_lt (by omega : xs.length ≤ 64) (by decide)) (fun G3 s3 => sqT_same s3 qx) (fun j y G3 G4 R hj s3 hD hY hR => ?_) (fun G3 s3 hD => ?_)
      · obtain ⟨rfl, hy⟩ := hY
        obtain ⟨e, he, ke⟩ := dpA_get ex hy
        have hwe := wtA_mem (List.mem_of_getElem? he)
        refine ⟨rfl, tyes ?_⟩
        refine ⟨_, rfl, y, e, rfl, dp_same s3 ke, by omega, fun G5 s5 => ?_⟩
        have hR' := hR G5 s5
        rw [he] at hR'
        exact hR'
      rw [lx, rng_fm2] at hD
      refine ⟨D, ds.map pairB, rfl, .inl (.inl (by rw [hD, List.map_map]; rfl)), _, rfl, ?_⟩
      show if (!((ds.map pairB).all id)) = true then _ else _
      rw [show (ds.map pairB).all id = ds.all pairB by rw [List.all_map]; rfl]
      cases hall : ds.all pairB with
      | false =>
        refine iteT (no ?_ G3 s3)
        show (!ds.isEmpty && (ds.all pairB && _)) = false
        rw [hall, Bool.false_and, Bool.and_false]
      | true =>
        refine iteF ?_
        obtain ⟨kvs, rfl, hk⟩ := prs_of hall
        obtain ⟨ps, rfl, hp⟩ := dpA_pairs ex
        have hkn : kvs ≠ [] := fun e => hne (by rw [e]; rfl)
        have hlk : ps.length = kvs.length := hp.length
        have h64 : kvs.length < 64 := by rwa [List.length_map] at hdl
        have cb := callB_of hkn hk
        have hF : ∀ z ∈ kvs.map Prod.fst, PyData.strOk z = true := fun z hz => by
          obtain ⟨kv, hkv, rfl⟩ := List.mem_map.mp hz
          exact name_ok (hk kv hkv).1
        refine ⟨_, rfl, ax, ps, kvs.map kvD, rfl, .inl ⟨⟨_, hT2.same s3⟩, sqT_same s3 qx⟩, ?_, fun td ntd => ?_⟩
        · exact kn_pmap (L2.Paired.mapP hp fun p kv e => .inl (sqT_same s3 e))
        obtain ⟨ks, hK, hmem, hkl⟩ := keys_merge kvs [] [] ⟨rfl, List.nodup_nil⟩
        have hmem : ∀ k, k ∈ ks ↔ k ∈ kvs.map Prod.fst := fun k => by rw [hmem k]; simp
        have s4 : Same G3 (upd G3 td (.dK (mergeK [] (kvs.map kvD)))) := same_new ntd
        have htd : (upd G3 td (.dK (mergeK [] (kvs.map kvD)))) td = some (.dK (mergeK [] (kvs.map kvD))) := upd_same
        generalize upd G3 td (.dK (mergeK [] (kvs.map kvD))) = G4 at s4 htd ⊢
        have s4' := s3.trans s4
        refine ⟨_, rfl, ax, ps, kvs, rfl, sqT_same s4' qx, L2.Paired.mapP hp fun p kv e => sqT_same s4' e, by omega, fun G5 t s5 hTt => ?_⟩
        refine ⟨t, _, rfl, .inr hTt.sq, fun L nL => ?_⟩
        have s6 : Same G5 (upd G5 L (.lst ((kvs.map Prod.fst).map V.str))) := same_new nL
        have hL6 : (upd G5 L (.lst ((kvs.map Prod.fst).map V.str))) L = some (.lst ((kvs.map Prod.fst).map V.str)) := upd_same
        generalize upd G5 L (.lst ((kvs.map Prod.fst).map V.str)) = G6 at s6 hL6 ⊢
        refine ⟨_, rfl, td, _, ks, rfl, .inl (s6 _ _ (s5 _ _ htd)), hK.keys, by rw [List.length_nil] at hkl; omega, fun zs p hpz hs np => ?_⟩
        have hn : zs.Nodup := hpz.nodup_iff.mpr hK.uni
        have hm : ∀ k, k ∈ zs ↔ k ∈ kvs.map Prod.fst := fun k => by rw [hpz.mem_iff, hmem k]
        have hZ : ∀ z ∈ zs, PyData.strOk z = true := fun z hz => hF z ((hm z).mp hz)
        have s7 : Same G6 (upd G6 p (.lst (zs.map V.str))) := same_new np
        refine ⟨.list ((kvs.map Prod.fst).map PyData.str), .list (zs.map PyData.str), dp_strs (.inl (.inl (s7 _ _ hL6))), dp_strs (.inl (.inl upd_same)), shaped_strs _ hF, shaped_strs _ hZ, _, rfl, ?_⟩
        have ee : PyData.eqv (.list ((kvs.map Prod.fst).map PyData.str)) (.list (zs.map PyData.str)) = upB (kvs.map Prod.fst) := (eqv_strs _ _).trans (up_iff hs hn hm)
        rw [ee]
        have s8 := ((s4'.trans s5).trans s6).trans s7
        generalize upd G6 p (.lst (zs.map V.str)) = G8 at s7 s8 ⊢
        cases hup : upB (kvs.map Prod.fst) with
        | false =>
          refine iteT (no ?_ G8 s8)
          rw [cb, hup, Bool.false_and]
        | true =>
          refine iteF ?_
          have htd8 := s7 _ _ (s6 _ _ (s5 _ _ htd))
          refine ⟨_, rfl, ax, rfl, ⟨_, sqT_same s8 qx⟩, fun D2 nD2 => ?_⟩
          refine lc_fm (walk_tup (xs := ps.map V.ref)) (fun i => (kvs[i]?).map fun kv => V.bl (decide (kv.2 ∈ kvs.map Prod.fst))) nD2 (Nat.lt_of_le_of_lt (by rw [List.length_map]; omega : (ps.map V.ref).length ≤ 64) (by decide)) (fun G9 s9 => sqT_same (s8.trans s9) qx) (fun i v G9 Gx R hi s9 hD9 hY hR => ?_) (fun G9 s9 hD9 => ?_)
          · obtain ⟨rfl, hv⟩ := hY
            rw [List.length_map] at hi
            have hpi : ps[i]? = some ps[i] := List.getElem?_eq_getElem hi
            obtain rfl : v = .ref ps[i] := by
              rw [List.getElem?_map, hpi] at hv
              exact (Option.some.inj hv).symm
            obtain ⟨kv, hkv, hpk⟩ := kn_pget hp hpi
            refine ⟨ps[i], _, rfl, sqT_same (s8.trans s9) hpk, rfl, _, _, rfl, _, _, rfl, rfl, rfl, tyes ?_⟩
            refine ⟨_, rfl, _, rfl, td, _, rfl, DGet.k (k := Sum.inr kv.2) (s9 _ _ htd8), ?_⟩
            have hR' := hR _ (Same.refl _)
            rw [hkv] at hR'
            rw [hK.val kv.2, show decide (kv.2 ∈ ks) = decide (kv.2 ∈ kvs.map Prod.fst) by rw [decide_eq_decide]; exact hmem _]
            exact hR'
          · rw [List.length_map, hlk, rng_fm2] at hD9
            refine ⟨D2, kvs.map fun kv => decide (kv.2 ∈ kvs.map Prod.fst), rfl, .inl (.inl (by rw [hD9, List.map_map]; rfl)), ?_⟩
            have := q G9 (s8.trans s9)
            rw [cb, hup, Bool.true_and] at this
            rw [List.all_map]
            exact this
end
end Kn
namespace Kn
open PySem PySem.Spec PyProof.Rows L2
/-! things told by readings, as data, apart from the box -/
def S1 (b : Addr) : Addr → Bool := fun c => decide (c = b)
theorem s1b (b : Addr) : S1 b b = true := decide_eq_true rfl
theorem s1n {b c : Addr} (h : c ≠ b) : S1 b c = false := decide_eq_false h
section
variable {X : Cx}
/-- t[lo:hi], not the whole: a new tuple without a dict -/
def rCutD (K : PySem.W.Frag) : V → Option Int → Option Int → Hp → VK → Prop := fun x lo hi H Q => ∃ a xs, x = .ref a ∧ SqT K H a xs ∧ ¬ (HT.sIx xs.length 0 lo = 0 ∧ HT.sIx xs.length xs.length hi = xs.length) ∧
  ∀ p o, H p = none → o.cls = .type "tuple" → o.dict = none → Q (.ref p) (upd H p (.frz o (.tup (cutV xs lo hi))))
theorem sl_cutD : SlR X (rCutD X.K) := by
  intro pins s σ H x v vl vu lo hi sl Q J rx hs h1 h2 want
  obtain ⟨a, xs, rfl, sq, hw, q⟩ := want
  obtain rfl : v = .ref a := rx
  obtain ⟨its, rv, ht, hz⟩ := J.tuple sq
  have el : its.toArray.size = xs.length := by rw [rv.length, List.size_toArray]
  refine ⟨"tuple", _, PyProof.Rows.slot_tuple_getitem.lookup, ht.typeIs, HT.getItem_tuple_cut ht hs h1 h2 (by rwa [el]) ?_ (by rwa [el])⟩
  rw [el]
  have r2 := (rv.drop (HT.sIx xs.length 0 lo)).take (HT.sIx xs.length xs.length hi - HT.sIx xs.length 0 lo)
  refine ⟨.ref _, _, J.laid (t' := s.toks) (o := .frz { cls := .type "tuple", data := .seq (((its.drop (HT.sIx xs.length 0 lo)).take (HT.sIx xs.length xs.length hi - HT.sIx xs.length 0 lo)).toArray) } (.tup (cutV xs lo hi))) (fun b o e => Heap.get?_push_of_some _ e) (Nat.le_refl _) ?_, rfl, q _ _ (J.hok.fresh (Nat.le_refl _)) rfl rfl⟩
  exact ⟨Heap.get?_push_size _ rfl, Nat.le_trans (cutV_length xs lo hi) hz, _, r2, IsTup.new _ _⟩
end
section
variable {K : PySem.W.Frag} {b : Addr} {σ : L2.St} {A : Hp → Prop}
def DqA (K : PySem.W.Frag) (b : Addr) (H : Hp) : List V → List PyData → Prop := Paired (fun v d => Dq K (S1 b) H v d)
theorem dq_up {G G' : Hp} {v : V} {d : PyData} (s : Same G G') (h : Dq K (S1 b) G v d) : Dq K (S1 b) G' v d := h.off (s1b b) (Same.off s)
theorem DqA.up {G G' : Hp} (s : Same G G') : ∀ {vs : List V} {ds : List PyData}, DqA K b G vs ds → DqA K b G' vs ds
  | _, _, .nil => .nil
  | _, _, .cons h t => .cons (dq_up s h) (DqA.up s t)
theorem DqA.dp {G : Hp} : ∀ {vs : List V} {ds : List PyData}, DqA K b G vs ds → DpAll K (wos (S1 b) G) vs ds
  | _, _, .nil => .nil
  | _, _, .cons h t => .cons h.1 (DqA.dp t)
theorem DqA.len {G : Hp} : ∀ {vs : List V} {ds : List PyData}, DqA K b G vs ds → vs.length = ds.length
  | _, _, .nil => rfl
  | _, _, .cons _ t => congrArg (· + 1) (DqA.len t)
def Tl (K : PySem.W.Frag) (b : Addr) (σ : L2.St) (A : Hp → Prop) (t : TE) (d : PyData) : Prop := ∀ (G : Hp) (Q : VK), A G → (∀ G' v, Same G G' → A G' → Dq K (S1 b) G' v d → Q v G') → t σ G Q
def TlA (K : PySem.W.Frag) (b : Addr) (σ : L2.St) (A : Hp → Prop) (t : TA) (ds : List PyData) : Prop := ∀ (G : Hp) (Q : List V → Hp → Prop), A G → (∀ G' vs, Same G G' → A G' → DqA K b G' vs ds → Q vs G') → t σ G Q
theorem tla_nil : TlA K b σ A tNil [] := fun G Q a k => k G [] (Same.refl _) a .nil
theorem tla_cons {t : TE} {ts : TA} {d : PyData} {ds : List PyData} (h : Tl K b σ A t d) (hs : TlA K b σ A ts ds) : TlA K b σ A (tCons t ts) (d :: ds) := fun G Q a k =>
  h G _ a fun G1 v s1 a1 hv => hs G1 _ a1 fun G2 vs s2 a2 hvs => k G2 (v :: vs) (s1.trans s2) a2 (.cons (dq_up s2 hv) hvs)
theorem tl_str {x : Str} : Tl K b σ A (tC (.str x)) (.str x) := fun G Q a k => k G _ (Same.refl _) a ⟨.str x, fun _ e => nomatch e⟩
theorem tl_non : Tl K b σ A (tC .non) .none := fun G Q a k => k G _ (Same.refl _) a ⟨.non, fun _ e => nomatch e⟩
/-- what stands stays, the box too -/
structure Mo (b : Addr) (A : Hp → Prop) : Prop where
  up : ∀ {G G' : Hp}, Same G G' → A G → A G'
  bx : ∀ {G : Hp}, A G → G b ≠ none
theorem dq_tup {G : Hp} {p : Addr} {o : Obj} {vs : List V} {ds : List PyData} (hp : G p = none) (hb : G b ≠ none) (hc : o.cls = .type "tuple") (hd : o.dict = none) (h : DpAll K (wos (S1 b) G) vs ds) : Dq K (S1 b) (upd G p (.frz o (.tup vs))) (.ref p) (.tuple ds) := by
  have ne : p ≠ b := fun e => hb (e ▸ hp)
  have e : wos (S1 b) (upd G p (.frz o (.tup vs))) p = some (.frz o (.tup vs)) := by rw [wos_ne (s1n ne)]; exact upd_same
  have sm : Same (wos (S1 b) G) (wos (S1 b) (upd G p (.frz o (.tup vs)))) := wos_same (s1b b) (Same.off (same_new hp))
  exact ⟨.tup (.inl (.inr ⟨o, e⟩)) (dpA_same sm h), fun _ _ => ⟨p, vs, rfl, o, e, hc, hd⟩⟩
theorem dq_lst {G : Hp} {p : Addr} {vs : List V} {ds : List PyData} (hp : G p = none) (hb : G b ≠ none) (h : DpAll K (wos (S1 b) G) vs ds) : Dq K (S1 b) (upd G p (.lst vs)) (.ref p) (.list ds) := by
  have ne : p ≠ b := fun e => hb (e ▸ hp)
  have e : wos (S1 b) (upd G p (.lst vs)) p = some (.lst vs) := by rw [wos_ne (s1n ne)]; exact upd_same
  have sm : Same (wos (S1 b) G) (wos (S1 b) (upd G p (.lst vs))) := wos_same (s1b b) (Same.off (same_new hp))
  exact ⟨.lst (.inl (.inl e)) (dpA_same sm h), fun _ z => nomatch z⟩
theorem tl_tup {t : TA} {ds : List PyData} (mo : Mo b A) (h : TlA K b σ A t ds) (hl : ds.length ≤ 100) : Tl K b σ A (tTupD t) (.tuple ds) := fun G Q a k =>
  h G _ a fun G1 vs s1 a1 hv => ⟨by rw [hv.len]; exact Nat.le_trans hl (by decide), fun p o np hc hd => k _ _ (s1.trans (same_new np)) (mo.up (same_new np) a1) (dq_tup np (mo.bx a1) hc hd hv.dp)⟩
theorem tl_lst {t : TA} {ds : List PyData} (mo : Mo b A) (h : TlA K b σ A t ds) (hl : ds.length ≤ 100) : Tl K b σ A (tLst t) (.list ds) := fun G Q a k =>
  h G _ a fun G1 vs s1 a1 hv => ⟨by rw [hv.len]; exact Nat.le_trans hl (by decide), fun p np => k _ _ (s1.trans (same_new np)) (mo.up (same_new np) a1) (dq_lst np (mo.bx a1) hv.dp)⟩
end
/-! the call that was drawn -/
structure AskAt (K : PySem.W.Frag) (b t : Addr) (o : HO) (kvs : List (Str × Str)) (G : Hp) : Prop where
  box : G b = some o
  tb : t ≠ b
  ps : ∃ ps : List Addr, TupD G t (ps.map V.ref) ∧ Prs G ps kvs ∧ ∀ p ∈ ps, p ≠ b
theorem prs_same {G G' : Hp} (s : Same G G') : ∀ {ps : List Addr} {kvs : List (Str × Str)}, Prs G ps kvs → Prs G' ps kvs
  | _, _, .nil => .nil
  | _, _, .cons h t => .cons (h.same s) (prs_same s t)
theorem ask_mo {K : PySem.W.Frag} {b t : Addr} {o : HO} {kvs : List (Str × Str)} : Mo b (AskAt K b t o kvs) :=
  ⟨fun s h => ⟨s _ _ h.box, h.tb, let ⟨ps, h1, h2, h3⟩ := h.ps; ⟨ps, h1.same s, prs_same s h2, h3⟩⟩, fun h e => by rw [h.box] at e; cases e⟩
theorem tupD_wos {G : Hp} {b a : Addr} {xs : List V} (n : a ≠ b) (h : TupD G a xs) : TupD (wos (S1 b) G) a xs := let ⟨o, e, r⟩ := h; ⟨o, by rw [wos_ne (s1n n)]; exact e, r⟩
theorem dq_pair {K : PySem.W.Frag} {G : Hp} {b p : Addr} {kv : Str × Str} (n : p ≠ b) (h : TupD G p [.str kv.1, .str kv.2]) : Dq K (S1 b) G (.ref p) (prD kv) :=
  ⟨.tup (tupD_wos n h).sq (.cons (.str _) (.cons (.str _) .nil)), fun _ _ => ⟨p, _, rfl, tupD_wos n h⟩⟩
theorem dqA_prs {K : PySem.W.Frag} {G : Hp} {b : Addr} : ∀ {ps : List Addr} {kvs : List (Str × Str)}, Prs G ps kvs → (∀ p ∈ ps, p ≠ b) → DqA K b G (ps.map V.ref) (kvs.map prD)
  | _, _, .nil, _ => .nil
  | _, _, .cons h t, n => .cons (dq_pair (n _ (List.mem_cons_self ..)) h) (dqA_prs t fun p hp => n p (List.mem_cons_of_mem _ hp))
theorem prs_len {G : Hp} : ∀ {ps : List Addr} {kvs : List (Str × Str)}, Prs G ps kvs → ps.length = kvs.length
  | _, _, .nil => rfl
  | _, _, .cons _ t => congrArg (· + 1) (prs_len t)
theorem prs_rev {G : Hp} : ∀ {ps : List Addr} {kvs : List (Str × Str)}, Prs G ps kvs → Prs G ps.reverse kvs.reverse
  | _, _, .nil => .nil
  | _, _, .cons h t => by
    rw [List.reverse_cons, List.reverse_cons]
    exact kn_app (prs_rev t) (.cons h .nil)
section
variable {K : PySem.W.Frag} {b t : Addr} {o : HO} {kvs : List (Str × Str)} {σ : L2.St}
theorem tl_ask (hσ : σ[1]? = some (some (.ref t))) : Tl K b σ (AskAt K b t o kvs) (tVar 1) (.tuple (kvs.map prD)) := fun G Q a k => by
  obtain ⟨ps, h1, h2, h3⟩ := a.ps
  exact ⟨_, hσ, k G _ (Same.refl _) a ⟨.tup (tupD_wos a.tb h1).sq (dqA_prs h2 h3).dp, fun _ _ => ⟨t, _, rfl, tupD_wos a.tb h1⟩⟩⟩
theorem tl_askL (hσ : σ[1]? = some (some (.ref t))) : Tl K b σ (AskAt K b t o kvs) (tCB (fun xs H Q => ∃ p ys, xs = [.ref p] ∧ (SqL K H p ys ∨ SqT K H p ys) ∧ ∀ l, H l = none → Q (.ref l) (upd H l (.lst ys))) (tCons (tVar 1) tNil)) (.list (kvs.map prD)) := fun G Q a k => by
  obtain ⟨ps, h1, h2, h3⟩ := a.ps
  exact ⟨_, hσ, t, _, rfl, .inr h1.sq, fun l hl => k _ _ (same_new hl) (ask_mo.up (same_new hl) a) (dq_lst hl (ask_mo.bx a) (dqA_prs h2 h3).dp)⟩
theorem tl_askR (hσ : σ[1]? = some (some (.ref t))) : Tl K b σ (AskAt K b t o kvs) (tRev (fun x H Q => ∃ a xs, x = .ref a ∧ SqT K H a xs ∧ ∀ p o, H p = none → o.cls = .type "tuple" → o.dict = none → Q (.ref p) (upd H p (.frz o (.tup xs.reverse)))) (tVar 1)) (.tuple (kvs.reverse.map prD)) := fun G Q a k => by
  obtain ⟨ps, h1, h2, h3⟩ := a.ps
  refine ⟨_, hσ, t, _, rfl, h1.sq, fun p o np hc hd => k _ _ (same_new np) (ask_mo.up (same_new np) a) (dq_tup np (ask_mo.bx a) hc hd ?_)⟩
  have hr : Prs G ps.reverse kvs.reverse := prs_rev h2
  rw [← List.map_reverse]
  exact (dqA_prs hr fun p hp => h3 p (List.mem_reverse.mp hp)).dp
theorem prs_drop {G : Hp} : ∀ (n : Nat) {ps : List Addr} {kvs : List (Str × Str)}, Prs G ps kvs → Prs G (ps.drop n) (kvs.drop n)
  | 0, _, _, h => h
  | _ + 1, _, _, .nil => .nil
  | n + 1, _, _, .cons _ t => prs_drop n t
theorem tl_askD (hσ : σ[1]? = some (some (.ref t))) (hk : kvs ≠ []) : Tl K b σ (AskAt K b t o kvs) (tSl (rCutD K) (tVar 1) (tPart (tC (.int 1))) tNoPart) (.tuple ((kvs.drop 1).map prD)) := fun G Q a k => by
  obtain ⟨ps, h1, h2, h3⟩ := a.ps
  have hl : 1 ≤ (ps.map V.ref).length := by
    rw [List.length_map, prs_len h2]
    exact List.length_pos_iff.mpr hk
  have e1 : HT.sIx (ps.map V.ref).length 0 (some 1) = 1 := by
    have := HT.sIx_nat (ps.map V.ref).length 0 1
    rw [show ((1 : Nat) : Int) = 1 from rfl] at this
    rw [this]
    exact Nat.min_eq_left hl
  refine ⟨_, hσ, 1, rfl, t, _, rfl, h1.sq, fun z => ?_, fun p o np hc hd => k _ _ (same_new np) (ask_mo.up (same_new np) a) (dq_tup np (ask_mo.bx a) hc hd ?_)⟩
  · rw [e1] at z
    exact absurd z.1 (by decide)
  · have e2 : cutV (ps.map V.ref) (some 1) none = (ps.drop 1).map V.ref := by
      unfold cutV
      rw [e1]
      simp only [HT.sIx]
      rw [List.map_drop, List.take_of_length_le (by rw [List.length_drop]; omega)]
    rw [e2]
    exact (dqA_prs (prs_drop 1 h2) fun p hp => h3 p (List.mem_of_mem_drop hp)).dp
theorem tl_ask0 {kv0 : Str × Str} {kvs' : List (Str × Str)} (hσ : σ[1]? = some (some (.ref t))) (e : kvs = kv0 :: kvs') : Tl K b σ (AskAt K b t o kvs) (tOp (rIxT K) (tVar 1) (tC (.int 0))) (prD kv0) := fun G Q a k => by
  obtain ⟨ps, h1, h2, h3⟩ := a.ps
  subst e
  cases h2 with
  | cons h t2 => exact ⟨_, hσ, t, _, _, _, rfl, rfl, h1.sq, atI_nat (j := 0) rfl, k G _ (Same.refl _) a (dq_pair (h3 _ (List.mem_cons_self ..)) h)⟩
end
end Kn
namespace Kn
open PySem PySem.Spec PyProof.Rows L2
/-! how great the drawn call is -/
def KvOk (kvs : List (Str × Str)) : Prop := ∀ kv ∈ kvs, (Asc kv.1 ∧ kv.1.length ≤ 3) ∧ Asc kv.2 ∧ kv.2.length ≤ 3
theorem gd_two {a c : Str} (h : (Asc a ∧ a.length ≤ 3) ∧ Asc c ∧ c.length ≤ 3) : Gd 1 9 (.tuple [.str a, .str c]) ∧ Gd 1 9 (.list [.str a, .str c]) := by
  have hT : Txt2 3 [a, c] := fun z hz => by
    simp only [List.mem_cons, List.not_mem_nil, or_false] at hz
    rcases hz with rfl | rfl
    · exact h.1
    · exact h.2
  exact ⟨gd_tupS (w := 8) hT (Nat.le_refl 8), gd_lstS (w := 8) hT (Nat.le_refl 8)⟩
theorem wtA_all {m : Nat} : ∀ {ds : List PyData}, (∀ d ∈ ds, wt d ≤ m) → wtA ds ≤ ds.length * m
  | [], _ => by simp [wtA]
  | d :: ds, h => by
    have ih := wtA_all (ds := ds) fun y hy => h y (List.mem_cons_of_mem _ hy)
    have h1 := h d (List.mem_cons_self ..)
    rw [wtA, List.length_cons, Nat.add_mul, Nat.one_mul]
    omega
theorem gd_row {ds : List PyData} {n m k : Nat} (h : ∀ d ∈ ds, Gd n m d) (hk : ds.length * m ≤ k) : Gd (n + 1) (k + 1) (.tuple ds) ∧ Gd (n + 1) (k + 1) (.list ds) := by
  have hw : wtA ds ≤ k := Nat.le_trans (wtA_all fun d hd => (h d hd).2.2) hk
  exact ⟨gd_tup.mpr ⟨fun d hd => ⟨(h d hd).1, (h d hd).2.1⟩, hw⟩, gd_list.mpr ⟨fun d hd => ⟨(h d hd).1, (h d hd).2.1⟩, hw⟩⟩
theorem gd_kvs {kvs : List (Str × Str)} (h : KvOk kvs) (hl : kvs.length ≤ 9) : Gd 2 82 (.tuple (kvs.map prD)) ∧ Gd 2 82 (.list (kvs.map prD)) :=
  gd_row (fun d hd => by obtain ⟨kv, hkv, rfl⟩ := List.mem_map.mp hd; exact (gd_two (h kv hkv)).1) (by rw [List.length_map]; omega)
def liD (kv : Str × Str) : PyData := .list [.str kv.1, .str kv.2]
theorem gd_kvL {kvs : List (Str × Str)} (h : KvOk kvs) (hl : kvs.length ≤ 9) : Gd 2 82 (.list (kvs.map liD)) :=
  (gd_row (fun d hd => by obtain ⟨kv, hkv, rfl⟩ := List.mem_map.mp hd; exact (gd_two (h kv hkv)).2) (by rw [List.length_map]; omega)).2
/-- a thing to be looked at -/
def Fit (d : PyData) : Prop := Gd 50 4000 d ∧ tl d < 64
theorem fit_tup {ds : List PyData} {n m : Nat} (h : Gd n m (.tuple ds)) (hn : n ≤ 50) (hm : m ≤ 4000) (hl : ds.length < 64) : Fit (.tuple ds) := ⟨h.mono hn hm, hl⟩
theorem fit_lst {ds : List PyData} {n m : Nat} (h : Gd n m (.list ds)) (hn : n ≤ 50) (hm : m ≤ 4000) (hl : ds.length < 64) : Fit (.list ds) := ⟨h.mono hn hm, hl⟩
section
variable {K : PySem.W.Frag} {b t : Addr} {o : HO} {kvs : List (Str × Str)}
abbrev sg0 (b t : Addr) (x y : Option V) : L2.St := [some (.ref b), some (.ref t), none, x, none, none, y, none, none, none, none, none]
/-- [list(part) for part in ask] -/
theorem tl_askLL (hl : kvs.length ≤ 100) : Tl K b (sg0 b t none none) (AskAt K b t o kvs) (tLc (iTup K (tVar 1)) (gName 2) tYes (tCB (fun xs H Q => ∃ p ys, xs = [.ref p] ∧ (SqL K H p ys ∨ SqT K H p ys) ∧ ∀ l, H l = none → Q (.ref l) (upd H l (.lst ys))) (tCons (tVar 2) tNil)) [2]) (.list (kvs.map liD)) := fun G Q a k => by
  obtain ⟨ps, h1, h2, h3⟩ := a.ps
  have pl := prs_len h2
  refine ⟨_, rfl, t, rfl, ⟨_, h1.sq⟩, fun D nD => ?_⟩
  have nDb : D ≠ b := fun e => by rw [e, a.box] at nD; cases nD
  refine lc_it walk_tup (fun i H => Same G H ∧ ∃ xs, H D = some (.lst xs) ∧ xs.length = i ∧ DpAll K (wos (S2 b D) H) xs ((kvs.take i).map liD)) ⟨same_new nD, [], upd_same, rfl, .nil⟩ (fun i H _ h => (h1.same h.1).sq) (fun i x H H' hi hP hY => ?_) (fun H hP => ?_)
  · obtain ⟨rfl, hx⟩ := hY
    obtain ⟨s, xs, hD, hxl, hd⟩ := hP
    rw [List.length_map] at hi
    have hp : ps[i]? = some ps[i] := List.getElem?_eq_getElem hi
    obtain rfl : x = .ref ps[i] := by
      rw [List.getElem?_map, hp] at hx
      exact (Option.some.inj hx).symm
    obtain ⟨kv, hkv, htd⟩ := kn_pget h2 hp
    refine ⟨rfl, tyes ?_⟩
    refine ⟨_, rfl, ps[i], _, rfl, .inr (htd.same s).sq, fun l nl => ?_⟩
    have nlD : l ≠ D := fun e => by rw [e, hD] at nl; cases nl
    have nlb : l ≠ b := fun e => by rw [e, s _ _ a.box] at nl; cases nl
    refine ⟨xs, by rw [upd_ne (Ne.symm nlD)]; exact hD, by rw [hxl]; exact Nat.lt_of_le_of_lt (by omega : i ≤ 100) (by decide), fun c u e => ?_, _, upd_same, by simp [hxl], ?_⟩
    · rw [upd_ne (ne_of_none e nD)]
      exact (same_new nl) _ _ (s _ _ e)
    · have ek : (kvs.take (i + 1)).map liD = (kvs.take i).map liD ++ [liD kv] := by rw [List.take_add_one, hkv]; simp
      rw [ek]
      have w1 : Same (wos (S2 b D) H') (wos (S2 b D) (upd (upd H' l (.lst [.str kv.1, .str kv.2])) D (.lst (xs ++ [.ref l])))) := fun c u e => by
        obtain ⟨e1, e2⟩ := wos_some e
        have nc : c ≠ D := fun z => by rw [z, s2D] at e1; cases e1
        rw [wos_ne e1, upd_ne nc, upd_ne (ne_of_none e2 nl)]
        exact e2
      refine dpA_app (dpA_same w1 hd) (.cons (.lst (.inl (.inl ?_)) (.cons (.str _) (.cons (.str _) .nil))) .nil)
      rw [wos_ne (s2n nlb nlD), upd_ne nlD]
      exact upd_same
  · obtain ⟨s, xs, hD, hxl, hd⟩ := hP
    rw [List.length_map, pl, List.take_length] at hd
    have w2 : Same (wos (S2 b D) H) (wos (S1 b) H) := fun c u e => by
      obtain ⟨e1, e2⟩ := wos_some e
      have nc : c ≠ b := fun z => by rw [z, s2b] at e1; cases e1
      rw [wos_ne (s1n nc)]
      exact e2
    refine k H (.ref D) s (ask_mo.up s a) ⟨.lst (.inl (.inl ?_)) (dpA_same w2 hd), fun _ z => nomatch z⟩
    rw [wos_ne (s1n nDb)]
    exact hD
/-- ask + ask[:1] -/
theorem tl_askC {kv0 : Str × Str} {kvs' : List (Str × Str)} {σ : L2.St} (hσ : σ[1]? = some (some (.ref t))) (e : kvs = kv0 :: kvs') (hl : kvs.length ≤ 100) : Tl K b σ (AskAt K b t o kvs) (tOp (rCatD K) (tVar 1) (tSl (rSlB K) (tVar 1) tNoPart (tPart (tC (.int 1))))) (.tuple ((kvs ++ [kv0]).map prD)) := fun G Q a k => by
  obtain ⟨ps, h1, h2, h3⟩ := a.ps
  have pl := prs_len h2
  obtain ⟨p0, ps', rfl⟩ : ∃ p0 ps', ps = p0 :: ps' := by
    cases ps with
    | nil => rw [e] at pl; cases pl
    | cons p0 ps' => exact ⟨_, _, rfl⟩
  have hp0 : TupD G p0 [.str kv0.1, .str kv0.2] := by
    subst e
    cases h2 with
    | cons h _ => exact h
  refine ⟨_, hσ, _, hσ, 1, rfl, t, _, rfl, h1.sq, fun J q1 sJ hq1 => ?_⟩
  have ec : cutV ((p0 :: ps').map V.ref) none (some 1) = [V.ref p0] := by unfold cutV; simp [HT.sIx]
  rw [ec] at hq1
  have a1 := ask_mo.up sJ a
  refine ⟨t, q1, _, _, rfl, rfl, (h1.same sJ).sq, hq1, List.cons_ne_nil _ _, List.cons_ne_nil _ _, ?_, fun p o np hc hd => k _ _ (sJ.trans (same_new np)) (ask_mo.up (same_new np) a1) (dq_tup np (ask_mo.bx a1) hc hd ?_)⟩
  · rw [List.length_map, pl]
    exact Nat.le_trans (by simp; omega : kvs.length + [V.ref p0].length ≤ 101) (by decide)
  · rw [List.map_append]
    exact dpA_app (dqA_prs (prs_same sJ h2) h3).dp (.cons (dq_pair (h3 _ (List.mem_cons_self ..)) (hp0.same sJ)).1 .nil)
end
/-! data off some objects -/
def DqS (K : PySem.W.Frag) (S : Addr → Bool) (H : Hp) : List V → List PyData → Prop := Paired (fun v d => Dq K S H v d)
theorem dq_fresh {K : PySem.W.Frag} {b D : Addr} {G : Hp} {u : HO} {v : V} {d : PyData} (hD : G D = none) (h : Dq K (S1 b) G v d) : Dq K (S2 b D) (upd G D u) v d := by
  have s : Same (wos (S1 b) G) (wos (S2 b D) (upd G D u)) := fun c w e => by
    obtain ⟨e1, e2⟩ := wos_some e
    have n1 : c ≠ b := fun z => by rw [z, s1b] at e1; cases e1
    have n2 : c ≠ D := ne_of_none e2 hD
    rw [wos_ne (s2n n1 n2), upd_ne n2]
    exact e2
  exact ⟨dp_same s h.1, fun ds e => let ⟨a, xs, e1, e2⟩ := h.2 ds e; ⟨a, xs, e1, e2.same s⟩⟩
theorem dqA_fresh {K : PySem.W.Frag} {b D : Addr} {G : Hp} {u : HO} (hD : G D = none) : ∀ {vs : List V} {ds : List PyData}, DqA K b G vs ds → DqS K (S2 b D) (upd G D u) vs ds
  | _, _, .nil => .nil
  | _, _, .cons h t => .cons (dq_fresh hD h) (dqA_fresh hD t)
theorem dq_less {K : PySem.W.Frag} {b D : Addr} {G : Hp} {v : V} {d : PyData} (h : Dq K (S2 b D) G v d) : Dq K (S1 b) G v d := by
  have s : Same (wos (S2 b D) G) (wos (S1 b) G) := fun c w e => by
    obtain ⟨e1, e2⟩ := wos_some e
    have n1 : c ≠ b := fun z => by rw [z, s2b] at e1; cases e1
    rw [wos_ne (s1n n1)]
    exact e2
  exact ⟨dp_same s h.1, fun ds e => let ⟨a, xs, e1, e2⟩ := h.2 ds e; ⟨a, xs, e1, e2.same s⟩⟩
theorem dqS_less {K : PySem.W.Frag} {b D : Addr} {G : Hp} : ∀ {vs : List V} {ds : List PyData}, DqS K (S2 b D) G vs ds → DqA K b G vs ds
  | _, _, .nil => .nil
  | _, _, .cons h t => .cons (dq_less h) (dqS_less t)
theorem DqS.len {K : PySem.W.Frag} {S : Addr → Bool} {G : Hp} : ∀ {vs : List V} {ds : List PyData}, DqS K S G vs ds → vs.length = ds.length
  | _, _, .nil => rfl
  | _, _, .cons _ t => congrArg (· + 1) (DqS.len t)
theorem DqS.mem {K : PySem.W.Frag} {S : Addr → Bool} {G : Hp} : ∀ {vs : List V} {ds : List PyData}, DqS K S G vs ds → ∀ v ∈ vs, ∃ d ∈ ds, Dq K S G v d
  | _, _, .nil, _, h => nomatch h
  | _, _, .cons h t, v, hv => by
    rcases List.mem_cons.mp hv with rfl | hv
    · exact ⟨_, List.mem_cons_self .., h⟩
    · obtain ⟨d, h1, h2⟩ := DqS.mem t v hv
      exact ⟨d, List.mem_cons_of_mem _ h1, h2⟩
/-- the box, the call, the things -/
structure St1 (K : PySem.W.Frag) (H : Hp) (b t D : Addr) (o : HO) (kvs : List (Str × Str)) (n k : Nat) (F : Hp) : Prop where
  ask : AskAt K b t o kvs F
  bx : Bx n o
  off : Off b H F
  th : ∃ xs ds, F D = some (.lst xs) ∧ DqS K (S2 b D) F (.ref t :: xs) (.tuple (kvs.map prD) :: ds) ∧ (∀ d ∈ ds, Fit d) ∧ ds.length = k
  nDb : D ≠ b
  nD : H D = none
theorem dqA_app {K : PySem.W.Frag} {b : Addr} {G : Hp} {xs ys : List V} {ds es : List PyData} (h : DqA K b G xs ds) (h2 : DqA K b G ys es) : DqA K b G (xs ++ ys) (ds ++ es) := kn_app h h2
theorem off_none {b c : Addr} {H F : Hp} (h : Off b H F) (hc : F c = none) (n : c ≠ b) : H c = none := by
  cases e : H c with
  | none => rfl
  | some u => rw [h _ _ e n] at hc; cases hc
theorem ask_dq {K : PySem.W.Frag} {b t : Addr} {o : HO} {kvs : List (Str × Str)} {G : Hp} (a : AskAt K b t o kvs G) : Dq K (S1 b) G (.ref t) (.tuple (kvs.map prD)) := by
  obtain ⟨ps, h1, h2, h3⟩ := a.ps
  exact ⟨.tup (tupD_wos a.tb h1).sq (dqA_prs h2 h3).dp, fun _ _ => ⟨t, _, rfl, tupD_wos a.tb h1⟩⟩
theorem St1.new {K : PySem.W.Frag} {H G : Hp} {b t D : Addr} {o : HO} {kvs : List (Str × Str)} {n : Nat} {vs : List V} {ds : List PyData} (a : AskAt K b t o kvs G) (hB : Bx n o) (off : Off b H G) (hv : DqA K b G vs ds) (hf : ∀ d ∈ ds, Fit d) (nD : G D = none) : St1 K H b t D o kvs n ds.length (upd G D (.lst vs)) := by
  have nb : D ≠ b := fun e => by rw [e, a.box] at nD; cases nD
  exact ⟨ask_mo.up (same_new nD) a, hB, off.trans (Same.off (same_new nD)), ⟨vs, ds, upd_same, dqA_fresh nD (.cons (ask_dq a) hv), hf, rfl⟩, nb, off_none off nD nb⟩
/-- things = things + [..] -/
theorem St1.add {K : PySem.W.Frag} {H F : Hp} {b t D : Addr} {o : HO} {kvs : List (Str × Str)} {n k : Nat} {σ : L2.St} {A : Hp → Prop} {ts : TA} {es : List PyData} {Q : VK} (h : St1 K H b t D o kvs n k F) (hσ : σ[3]? = some (some (.ref D))) (hA : A F) (ht : TlA K b σ A ts es) (hf : ∀ d ∈ es, Fit d) (hk : k + es.length ≤ 1000)
    (q : ∀ G D', Same F G → St1 K H b t D' o kvs n (k + es.length) G → Q (.ref D') G) : tOp rCat (tVar 3) (tLst ts) σ F Q := by
  obtain ⟨xs, ds, hD, hx, hfx, hl⟩ := h.th
  cases hx with
  | cons _ hx =>
  refine ⟨_, hσ, ht F _ hA fun G1 vs s1 a1 hv => ⟨by rw [hv.len]; exact Nat.le_trans (by omega : es.length ≤ 1000) (by decide), fun p np => ?_⟩⟩
  have hl2 := hv.len
  have hl3 := DqS.len hx
  refine ⟨D, p, xs, vs, rfl, rfl, (same_new np) _ _ (s1 _ _ hD), upd_same, by rw [hl2, hl3, hl]; exact Nat.le_trans hk (by decide), fun D' nD' => ?_⟩
  have s2 := s1.trans (same_new (o := .lst vs) np)
  have e := St1.new (ask_mo.up s2 h.ask) h.bx (h.off.trans (Same.off (b := b) s2)) (dqA_app ((dqS_less hx).up s2) (hv.up (same_new np))) (fun d hd => (List.mem_append.mp hd).elim (hfx d) (hf d)) nD'
  rw [List.length_append, hl] at e
  exact q _ _ (s2.trans (same_new nD')) e
/-- while the things grow -/
structure St2 (K : PySem.W.Frag) (H : Hp) (b t D : Addr) (kvs : List (Str × Str)) (m k : Nat) (F : Hp) : Prop where
  bx : ∃ o', F b = some o' ∧ Bx m o'
  th : ∃ xs, F D = some (.lst xs) ∧ xs.length = k ∧ ∀ v ∈ xs, ∃ d, Dq K (S2 b D) F v d ∧ Fit d
  off : Off b H F
  fk : Dq K (S2 b D) F (.ref t) (.tuple (kvs.map prD))
  nDb : D ≠ b
  nD : H D = none
theorem St1.two {K : PySem.W.Frag} {H F : Hp} {b t D : Addr} {o : HO} {kvs : List (Str × Str)} {n k : Nat} (h : St1 K H b t D o kvs n k F) : St2 K H b t D kvs n k F := by
  obtain ⟨xs, ds, hD, hx, hfx, hl⟩ := h.th
  cases hx with
  | cons h0 hx => exact ⟨⟨o, h.ask.box, h.bx⟩, ⟨xs, hD, by rw [DqS.len hx, hl], fun v hv => by obtain ⟨d, h1, h2⟩ := DqS.mem hx v hv; exact ⟨d, h2, hfx d h1⟩⟩, h.off, h0, h.nDb, h.nD⟩
theorem Dq.to {K : PySem.W.Frag} {S : Addr → Bool} {G G' : Hp} {v : V} {d : PyData} (s : Same (wos S G) (wos S G')) (h : Dq K S G v d) : Dq K S G' v d := ⟨dp_same s h.1, fun ds e => let ⟨a, xs, e1, e2⟩ := h.2 ds e; ⟨a, xs, e1, e2.same s⟩⟩
theorem St2.push {K : PySem.W.Frag} {H F F' : Hp} {b t D : Addr} {kvs : List (Str × Str)} {m m' k : Nat} {o' : HO} {y : V} {d : PyData} (h : St2 K H b t D kvs m k F) (hs : Off b F F') (ho : F' b = some o') (hB : Bx m' o') (hy : Dq K (S2 b D) F' y d) (hf : Fit d) :
    ∃ xs, F' D = some (.lst xs) ∧ xs.length = k ∧ St2 K H b t D kvs m' (k + 1) (upd F' D (.lst (xs ++ [y]))) := by
  obtain ⟨xs, hD, hl, hx⟩ := h.th
  have hD' := hs _ _ hD h.nDb
  have w1 : Same (wos (S2 b D) F) (wos (S2 b D) F') := wos_same (s2b b D) hs
  have w2 : ∀ o, Same (wos (S2 b D) F') (wos (S2 b D) (upd F' D o)) := fun o => wos_same (s2D b D) (Off.at D F' o)
  refine ⟨xs, hD', hl, ⟨o', by rw [upd_ne h.nDb.symm]; exact ho, hB⟩, ⟨_, upd_same, by rw [List.length_append, hl]; rfl, fun v hv => ?_⟩, fun c u e hc => ?_, (h.fk.to w1).to (w2 _), h.nDb, h.nD⟩
  · rcases List.mem_append.mp hv with q | q
    · obtain ⟨d', h1, h2⟩ := hx v q
      exact ⟨d', (h1.to w1).to (w2 _), h2⟩
    · rw [List.mem_singleton.mp q]
      exact ⟨d, hy.to (w2 _), hf⟩
  · rw [upd_ne (ne_of_none e h.nD)]
    exact hs _ _ (h.off _ _ e hc) hc
/-! forty pairs -/
def AskF (K : PySem.W.Frag) (b t : Addr) (o : HO) (kvs : List (Str × Str)) (E : Addr) (ws : List Str) (G : Hp) : Prop := AskAt K b t o kvs G ∧ G E = some (.lst (ws.map V.str))
theorem askF_mo {K : PySem.W.Frag} {b t E : Addr} {o : HO} {kvs : List (Str × Str)} {ws : List Str} : Mo b (AskF K b t o kvs E ws) := ⟨fun s h => ⟨ask_mo.up s h.1, s _ _ h.2⟩, fun h => ask_mo.bx h.1⟩
theorem tl_forty {K : PySem.W.Frag} {b t D E : Addr} {o : HO} {kvs : List (Str × Str)} {ws : List Str} {w0 : Str} {ws' : List Str} (e : ws = w0 :: ws') (hl : ws.length ≤ 100) : Tl K b (sg0 b t (some (.ref D)) (some (.ref E))) (AskF K b t o kvs E ws)
    (tCB (fun xs H Q => ∃ p ys, xs = [.ref p] ∧ SqL K H p ys ∧ ∀ l o, H l = none → o.cls = .type "tuple" → o.dict = none → Q (.ref l) (upd H l (.frz o (.tup ys)))) (tCons (tLc (iList K (tVar 6)) (gName 7) tYes (tTupD (tCons (tVar 7) (tCons (tOp (rIxL K) (tVar 6) (tC (.int 0))) tNil))) [7]) tNil)) (.tuple (ws.map fun z => prD (z, w0))) := fun G Q a k => by
  obtain ⟨a, hE⟩ := a
  refine ⟨_, rfl, E, rfl, ⟨_, .inl (.inl hE)⟩, fun L nL => ?_⟩
  have nLb : L ≠ b := fun e => by rw [e, a.box] at nL; cases nL
  refine lc_it walk_list (fun i H => Same G H ∧ ∃ xs, H L = some (.lst xs) ∧ xs.length = i ∧ DpAll K (wos (S2 b L) H) xs ((ws.take i).map fun z => prD (z, w0))) ⟨same_new nL, [], upd_same, rfl, .nil⟩ (fun i H _ h => .inl (.inl (h.1 _ _ hE))) (fun i x H H' hi hP hY => ?_) (fun H hP => ?_)
  · obtain ⟨rfl, hx⟩ := hY
    obtain ⟨s, xs, hD, hxl, hd⟩ := hP
    rw [List.length_map] at hi
    have hp : ws[i]? = some ws[i] := List.getElem?_eq_getElem hi
    obtain rfl : x = .str ws[i] := by
      rw [List.getElem?_map, hp] at hx
      exact (Option.some.inj hx).symm
    have h0 : atI (ws.map V.str) 0 = some (.str w0) := by rw [e]; exact atI_nat (j := 0) rfl
    refine ⟨rfl, tyes ?_⟩
    refine ⟨_, rfl, _, rfl, E, _, _, _, rfl, rfl, .inl (.inl (s _ _ hE)), h0, by show 2 ≤ sizeLine; decide, fun l u nl hc hd2 => ?_⟩
    have nlD : l ≠ L := fun e => by rw [e, hD] at nl; cases nl
    have nlb : l ≠ b := fun e => by rw [e, s _ _ a.box] at nl; cases nl
    refine ⟨xs, by rw [upd_ne (Ne.symm nlD)]; exact hD, by rw [hxl]; exact Nat.lt_of_le_of_lt (by omega : i ≤ 100) (by decide), fun c u e => ?_, _, upd_same, by simp [hxl], ?_⟩
    · rw [upd_ne (ne_of_none e nL)]
      exact (same_new nl) _ _ (s _ _ e)
    · have ek : (ws.take (i + 1)).map (fun z => prD (z, w0)) = (ws.take i).map (fun z => prD (z, w0)) ++ [prD (ws[i], w0)] := by rw [List.take_add_one, hp, List.map_append]; rfl
      rw [ek]
      have w1 : Same (wos (S2 b L) H') (wos (S2 b L) (upd (upd H' l (.frz u (.tup [.str ws[i], .str w0]))) L (.lst (xs ++ [.ref l])))) := fun c v e => by
        obtain ⟨e1, e2⟩ := wos_some e
        have nc : c ≠ L := fun z => by rw [z, s2D] at e1; cases e1
        rw [wos_ne e1, upd_ne nc, upd_ne (ne_of_none e2 nl)]
        exact e2
      refine dpA_app (dpA_same w1 hd) (.cons (.tup (.inl (.inr ⟨u, ?_⟩)) (.cons (.str _) (.cons (.str _) .nil))) .nil)
      rw [wos_ne (s2n nlb nlD), upd_ne nlD]
      exact upd_same
  · obtain ⟨s, xs, hD, hxl, hd⟩ := hP
    rw [List.length_map, List.take_length] at hd
    have w2 : Same (wos (S2 b L) H) (wos (S1 b) H) := fun c u e => by
      obtain ⟨e1, e2⟩ := wos_some e
      have nc : c ≠ b := fun z => by rw [z, s2b] at e1; cases e1
      rw [wos_ne (s1n nc)]
      exact e2
    have a2 := askF_mo.up s ⟨a, hE⟩
    refine ⟨L, xs, rfl, .inl (.inl hD), fun q u nq hc hd3 => k _ _ (s.trans (same_new nq)) (askF_mo.up (same_new nq) a2) (dq_tup nq (askF_mo.bx a2) hc hd3 (dpA_same w2 hd))⟩
theorem gd_forty {ws : List Str} {w0 : Str} (h : Txt2 3 ws) (h0 : Asc w0 ∧ w0.length ≤ 3) (hl : ws.length = 40) : Fit (.tuple (ws.map fun z => prD (z, w0))) :=
  fit_tup (n := 2) (m := 361) (gd_row (m := 9) (fun d hd => by obtain ⟨z, hz, rfl⟩ := List.mem_map.mp hd; exact (gd_two ⟨h z hz, h0⟩).1) (by rw [List.length_map, hl]; decide)).1 (by decide) (by decide) (by rw [List.length_map, hl]; decide)
end Kn
namespace Kn
open PySem PySem.Spec PyProof.Rows L2
abbrev sRight : Stmt := topS 20
abbrev sLaw : Stmt := topS 21
theorem scRight : FnScope ["_law_box_here", "_law_ask_here", "_law_part", "_law_things", "_law_first", "_law_last", "_law_forty", "_law_sign", "_law_again", "_law_item", "_law_kept", "_law_due"] ["_law_box_here"] (defScope sRight) := ⟨rfl, rfl, rfl, by decide +kernel, rfl, by decide +kernel, by decide +kernel⟩
theorem St1.up {K : PySem.W.Frag} {H F F' : Hp} {b t D : Addr} {o : HO} {kvs : List (Str × Str)} {n k : Nat} (h : St1 K H b t D o kvs n k F) (s : Same F F') : St1 K H b t D o kvs n k F' := by
  obtain ⟨xs, ds, hD, hx, hfx, hl⟩ := h.th
  have w : Same (wos (S2 b D) F) (wos (S2 b D) F') := wos_same (s2b b D) (Same.off s)
  have go : ∀ {vs : List V} {ds : List PyData}, DqS K (S2 b D) F vs ds → DqS K (S2 b D) F' vs ds := by
    intro vs ds h
    induction h with
    | nil => exact .nil
    | cons h _ ih => exact .cons (h.to w) ih
  exact ⟨ask_mo.up s h.ask, h.bx, h.off.trans (Same.off s), ⟨xs, ds, s _ _ hD, go hx, hfx, hl⟩, h.nDb, h.nD⟩
theorem St1.disp {K : PySem.W.Frag} {H F : Hp} {b t : Addr} {o : HO} {kvs : List (Str × Str)} {n : Nat} {σ : L2.St} {A : Hp → Prop} {ts : TA} {es : List PyData} {Q : VK} (a : AskAt K b t o kvs F) (hB : Bx n o) (off : Off b H F) (hA : A F) (ht : TlA K b σ A ts es) (hf : ∀ d ∈ es, Fit d) (hk : es.length ≤ 1000)
    (q : ∀ G D, St1 K H b t D o kvs n es.length G → Q (.ref D) G) : tLst ts σ F Q :=
  ht F _ hA fun G1 vs s1 _ hv => ⟨by rw [hv.len]; exact Nat.le_trans hk (by decide), fun D nD => q _ _ (St1.new (ask_mo.up s1 a) hB (off.trans (Same.off s1)) hv hf nD)⟩
/-- the defs of the text, as the top leaves them -/
structure Tx (K : PySem.W.Frag) (mg : Str → Option Value) where
  fC : Addr
  dC : FuncData
  FC : Fun K "_law_crew" "_law_crew" sCrew fC dC
  gC : mg "_law_crew" = some (.ref fC)
  bC : Binds K dC ["_law_box_here", "_law_most"] []
  fT : Addr
  dT : FuncData
  FT : Fun K "_law_take" "_law_take" sTake fT dT
  gT : mg "_law_take" = some (.ref fT)
  bT : Binds K dT ["_law_box_here", "_law_bound"] []
  fW : Addr
  dW : FuncData
  FW : Fun K "_law_strewn" "_law_strewn" sStrewn fW dW
  gW : mg "_law_strewn" = some (.ref fW)
  bW : Binds K dW ["_law_box_here", "_law_some"] []
  fV : Addr
  dV : FuncData
  FV : Fun K "_law_of" "_law_of" sOf fV dV
  gV : mg "_law_of" = some (.ref fV)
  bV : Binds K dV ["_law_box_here", "_law_some"] []
  fK : Addr
  dK : FuncData
  FK : Fun K "_law_ask" "_law_ask" sAsk fK dK
  gK : mg "_law_ask" = some (.ref fK)
  bK : Binds K dK ["_law_box_here", "_law_crew_here"] []
  fS : Addr
  dS : FuncData
  FS : Fun K "_law_same" "_law_same" sSame fS dS
  gS : mg "_law_same" = some (.ref fS)
  bS : Binds K dS ["_law_found", "_law_due"] []
  fD : Addr
  dD : FuncData
  FD : Fun K "_law_odd" "_law_odd" sOdd fD dD
  gD : mg "_law_odd" = some (.ref fD)
  bD : Binds K dD ["_law_box_here"] []
  fO : Addr
  dO : FuncData
  FO : Fun K "_law_otherwise" "_law_otherwise" sOth fO dO
  gO : mg "_law_otherwise" = some (.ref fO)
  bO : Binds K dO ["_law_box_here", "_law_matter"] []
  fZ : Addr
  dZ : FuncData
  FZ : Fun K "_law_is_one" "_law_is_one" sOne fZ dZ
  gZ : mg "_law_is_one" = some (.ref fZ)
  bZ : Binds K dZ ["_law_part"] []
  fY : Addr
  dY : FuncData
  FY : Fun K "_law_is_ask" "_law_is_ask" sIsAsk fY dY
  gY : mg "_law_is_ask" = some (.ref fY)
  bY : Binds K dY ["_law_matter"] []
  fN : Addr
  dN : FuncData
  FN : Fun K "is_name" "is_name" sName fN dN
  gN : mg "is_name" = some (.ref fN)
  bN : Binds K dN ["thing"] []
  fE : Addr
  dE : FuncData
  FE : Fun K "is_pair" "is_pair" sPair fE dE
  gE : mg "is_pair" = some (.ref fE)
  bE : Binds K dE ["thing"] []
  fL : Addr
  dL : FuncData
  FL : Fun K "people" "people" sPeople fL dL
  gL : mg "people" = some (.ref fL)
  bL : Binds K dL ["call"] []
  fR : Addr
  dR : FuncData
  FR : Fun K "is_call" "is_call" sIsCall fR dR
  gR : mg "is_call" = some (.ref fR)
  bR : Binds K dR ["thing"] []
  fB : Addr
  dB : FuncData
  FB : Fun K "_law_box" "_law_box" sBox fB dB
  gB : mg "_law_box" = some (.ref fB)
  bB : Binds K dB ["_law_script", "_law_k"] []
  kR : KBinds K dR ["thing"] ["thing"] (onlyK [0]) (onlyK [0])
  t1 : Tok
  t2 : Tok
  gLong : mg "LONGEST" = some (.int 6 t1)
  gLet : mg "LETTERS" = some (.str LET t2)
  mset : mg "set" = none
section
variable {P : Program} {w : World} {K : PySem.W.Frag} {mg : Str → Option Value} {base : Heap}
def spRight : Sp := fun vs H Q _ => ∃ (b : Addr) (o : HO) (n : Nat), vs = [.ref b] ∧ H b = some o ∧ Bx n o ∧ n < 700000000 ∧ ∀ H' o', H' b = some o' → Bx (n + 2000) o' → Off b H H' → Q (.bl true) H'
set_option maxHeartbeats 8000000 in
theorem ok_right {f : Addr} {fd : FuncData} (F : Fun K "_law_right" "_law_right" sRight f fd) (B : Bn mg) (T : Tx K mg) : FnG P w K mg base CX0 8 f fd ["_law_box_here"] spRight := by
  have GS : FnOk P w K mg base CX0 3 T.fS T.dS ["_law_found", "_law_due"] (spSame K 2) := ok_same T.FS B T.gS T.bS 2
  have GT : FnOk P w K mg base CX0 1 T.fT T.dT ["_law_box_here", "_law_bound"] spTake := ok_take T.FT
  have GC : FnOk P w K mg base CX0 3 T.fC T.dC ["_law_box_here", "_law_most"] spCrew := ok_crew T.FC B T.FT T.gT T.bT T.FW T.gW T.bW
  have GK : FnOk P w K mg base CX0 3 T.fK T.dK ["_law_box_here", "_law_crew_here"] (spAsk K) := ok_ask T.FK B T.FT T.gT T.bT T.FW T.gW T.bW T.FV T.gV T.bV
  have GO2 : FnOk P w K mg base CX0 5 T.fO T.dO ["_law_box_here", "_law_matter"] (spOth K 2) := ok_oth T.FO B T.FT T.gT T.bT T.FD T.gD T.bD T.gO T.bO 2
  have GO4 : FnOk P w K mg base CX0 7 T.fO T.dO ["_law_box_here", "_law_matter"] (spOth K 4) := ok_oth T.FO B T.FT T.gT T.bT T.FD T.gD T.bD T.gO T.bO 4
  have GY : FnOk P w K mg base CX0 2 T.fY T.dY ["_law_matter"] (spIsAsk K) := ok_isask T.FY B T.mset T.FZ T.gZ T.bZ
  have GR : FnOk P w K mg base CX0 3 T.fR T.dR ["thing"] (spIsCall K) := ok_iscall T.FR B T.gLong T.gLet T.FN T.gN T.bN T.FE T.gE T.bE T.FL T.gL T.bL
  refine okG F scRight (fun vs H Q E h => ?_) (fun cdv A outer s H vs Q E hg hr h => ?_)
  · obtain ⟨b, o, n, rfl, _⟩ := h
    rfl
  · obtain ⟨b, o, n, rfl, hb, hB, hn, q⟩ := h
    have hr1 : Room 1 _ := hr.mono (by decide)
    have hr2 : Room 2 _ := hr.mono (by decide)
    have hr3 : Room 3 _ := hr.mono (by decide)
    have hr5 : Room 5 _ := hr.mono (by decide)
    refine ⟨_, (pss_cons (ps_set (i := 1) scRight.nd rfl (by first | exact .inl rfl | exact .inr rfl) (pe_call GK hr3 (by rfl) T.gK T.FK.kp T.bK .nil pass0 (pa_cons (pv 0) (pa_cons (pe_call GC hr3 (by rfl) T.gC T.FC.kp T.bC .nil pass0 (pa_cons (pv 0) (pa_cons pe_int pa_nil))) pa_nil))))
      (C8.pss_cut (ps_set (i := 3) scRight.nd rfl (by first | exact .inl rfl | exact .inr rfl) (pe_lst (pa_cons (pv 1) (pa_cons (pe_callTy call_list_of (by rfl) B.list (by decide +kernel) (pa_cons (pv 1) pa_nil)) (pa_cons (pe_lc (own := [("_law_part", 2)]) (g := gName 2) (tt := tYes) (te := tCB (fun xs H Q => ∃ p ys, xs = [.ref p] ∧ (SqL K H p ys ∨ SqT K H p ys) ∧ ∀ l, H l = none → Q (.ref l) (upd H l (.lst ys))) (tCons (tVar 2) tNil)) rfl scRight.nd (pi_tup (pv 1)) (blkOk_by (N := ["_law_box_here", "_law_ask_here", "_law_part", "_law_things", "_law_first", "_law_last", "_law_forty", "_law_sign", "_law_again", "_law_item", "_law_kept", "_law_due"]) (sc := defScope sRight) (by decide +kernel)) (fun _ _ _ _ _ => pg_name (i := 2) scRight.nd rfl (Or.inl rfl)) (fun _ _ _ _ _ => pts_nil) (fun _ _ _ _ _ => (pe_callTy call_list_of (by rfl) B.list (by decide +kernel) (pa_cons (pv 2) pa_nil)))) (pa_cons (pe_tupD pa_nil) (pa_cons (pe_lst pa_nil) (pa_cons pe_non (pa_cons (pe_tupD (pa_cons (pe_tupD (pa_cons pe_str (pa_cons pe_str pa_nil))) pa_nil)) (pa_cons (pe_tupD (pa_cons (pe_tupD (pa_cons pe_str (pa_cons pe_str pa_nil))) pa_nil)) (pa_cons (pe_op op_catD (pv 1) (pe_slice sl_tupB (pv 1) po_none (po_some pe_int))) pa_nil)))))))))))
      (C8.pss_cut (ps_set (i := 3) scRight.nd rfl (by first | exact .inl rfl | exact .inr rfl) (pe_op op_cat (pv 3) (pe_lst (pa_cons (pe_rev rev_tupD (pv 1)) (pa_cons (pe_slice sl_cutD (pv 1) (po_some pe_int) po_none) (pa_cons (pe_tupD (pa_cons (pe_tupD (pa_cons pe_str (pa_cons pe_str pa_nil))) (pa_cons (pe_tupD (pa_cons pe_str (pa_cons pe_str pa_nil))) pa_nil))) (pa_cons (pe_tupD (pa_cons (pe_tupD (pa_cons pe_str (pa_cons pe_str pa_nil))) (pa_cons (pe_tupD (pa_cons pe_str (pa_cons pe_str pa_nil))) pa_nil))) (pa_cons (pe_tupD (pa_cons (pe_tupD (pa_cons pe_str pa_nil)) pa_nil)) (pa_cons (pe_tupD (pa_cons pe_str (pa_cons pe_str pa_nil))) pa_nil)))))))))
      (C8.pss_cut (ps_set (i := 3) scRight.nd rfl (by first | exact .inl rfl | exact .inr rfl) (pe_op op_cat (pv 3) (pe_lst (pa_cons (pe_tupD (pa_cons (pe_tupD (pa_cons pe_str (pa_cons pe_str pa_nil))) pa_nil)) (pa_cons (pe_tupD (pa_cons (pe_tupD (pa_cons pe_str (pa_cons pe_str pa_nil))) (pa_cons (pe_tupD (pa_cons pe_str (pa_cons pe_str pa_nil))) pa_nil))) (pa_cons (pe_tupD (pa_cons (pe_tupD (pa_cons pe_str (pa_cons pe_str pa_nil))) pa_nil)) (pa_cons (pe_tupD (pa_cons (pe_tupD (pa_cons (pe_tupD (pa_cons pe_str pa_nil)) (pa_cons pe_str pa_nil))) pa_nil)) (pa_cons (pe_ix ix_tup (pv 1) pe_int (fun _ _ => rfl)) pa_nil))))))))
      (C8.pss_cut (ps_set (i := 6) scRight.nd rfl (by first | exact .inl rfl | exact .inr rfl) (pe_callB cr_sortT2 (by rfl) B.sorted (by decide +kernel) (pa_cons (pe_lc (own := [("_law_first", 4), ("_law_last", 5)]) (g := gTup K 2 (gCons (gName 4) (gCons (gName 5) gNil))) (tt := tYes) rfl scRight.nd (pi_zipS (by rfl) B.zip (pa_cons (pe_op op_mulS pe_str pe_int) (pa_cons (pe_op op_add_str (pe_op op_mulS pe_str pe_int) (pe_op op_mulS pe_str pe_int)) pa_nil))) (blkOk_by (N := ["_law_box_here", "_law_ask_here", "_law_part", "_law_things", "_law_first", "_law_last", "_law_forty", "_law_sign", "_law_again", "_law_item", "_law_kept", "_law_due"]) (sc := defScope sRight) (by decide +kernel)) (fun _ _ _ _ _ => pg_tup rfl (pgs_cons (pg_name (i := 4) scRight.nd rfl (Or.inl rfl)) (pgs_cons (pg_name (i := 5) scRight.nd rfl (Or.inl rfl)) pgs_nil))) (fun _ _ _ _ _ => pts_nil) (fun _ _ _ _ _ => (pe_op op_add_str (pv 4) (pv 5)))) pa_nil)))
      (C8.pss_cut (ps_set (i := 3) scRight.nd rfl (by first | exact .inl rfl | exact .inr rfl) (pe_op op_cat (pv 3) (pe_lst (pa_cons (pe_callTy cr_tupD (by rfl) B.tuple (by decide +kernel) (pa_cons (pe_lc (own := [("_law_sign", 7)]) (g := gName 7) (tt := tYes) (te := tTupD (tCons (tVar 7) (tCons (tOp (rIxL K) (tVar 6) (tC (.int 0))) tNil))) rfl scRight.nd (pi_list (pv 6)) (blkOk_by (N := ["_law_box_here", "_law_ask_here", "_law_part", "_law_things", "_law_first", "_law_last", "_law_forty", "_law_sign", "_law_again", "_law_item", "_law_kept", "_law_due"]) (sc := defScope sRight) (by decide +kernel)) (fun _ _ _ _ _ => pg_name (i := 7) scRight.nd rfl (Or.inl rfl)) (fun _ _ _ _ _ => pts_nil) (fun _ _ _ _ _ => (pe_tupD (pa_cons (pv 7) (pa_cons (pe_ix ix_list (pv 6) pe_int (fun _ _ => rfl)) pa_nil))))) pa_nil)) pa_nil))))
      (C8.pss_cut (ps_for PassesOwn.never rfl (pi_range1 rfl B.range (pa_cons pe_int pa_nil)) (pg_name (i := 8) scRight.nd rfl (Or.inl rfl))
      (pss_cons (ps_set (i := 9) scRight.nd rfl (by first | exact .inl rfl | exact .inr rfl) (pe_call GO2 hr5 (by rfl) T.gO T.FO.kp T.bO .nil pass0 (pa_cons (pv 0) (pa_cons (pv 1) pa_nil))))
      (pss_one (ps_expr (pe_bm PySem.F.plainAttrs_list PySem.F.slot_list_append PySem.F.type_list_append mt_append (pv 3) (pa_cons (pe_ifExp (pt_cmpR op_eq (pe_call GT hr1 (by rfl) T.gT T.FT.kp T.bT .nil pass0 (pa_cons (pv 0) (pa_cons pe_int pa_nil))) pe_int (nomark _)) (pe_call GO4 hr (by rfl) T.gO T.FO.kp T.bO .nil pass0 (pa_cons (pv 0) (pa_cons (pv 9) pa_nil))) (pv 9)) pa_nil))))))
      (pss_cons (ps_for PassesOwn.never rfl (pi_list (pv 3)) (pg_name (i := 9) scRight.nd rfl (Or.inl rfl))
      (pss_cons (ps_par (i := 10) (j := 11) rfl scRight.nd rfl rfl (by decide) rfl rfl (pa_cons (pe_callB (cr_reprA hg hr.units) (by rfl) B.repr (by decide +kernel) (pa_cons (pv 9) pa_nil)) (pa_cons (pe_call GY hr2 (by rfl) T.gY T.FY.kp T.bY .nil pass0 (pa_cons (pv 9) pa_nil)) pa_nil)) rfl)
      (pss_one (ps_if (PW.pt (pw_or (pt_not (pt_val (pe_call GS hr3 (by rfl) T.gS T.FS.kp T.bS .nil pass0 (pa_cons (pe_lst (pa_cons (pe_call GR hr3 (by rfl) T.gR T.FR.kp T.bR .nil pass0 (pa_cons (pv 9) pa_nil)) (pa_cons (pe_callK0 GR hr3 (by rfl) T.gR T.FR.kp T.kR pass0 (pk_cons (pv 9) pk_nil)) pa_nil))) (pa_cons (pe_lst (pa_cons (pv 11) (pa_cons (pv 11) pa_nil))) pa_nil))))) (pw_or1 (pt_cmpR op_ne (pe_callB (cr_reprA hg hr.units) (by rfl) B.repr (by decide +kernel) (pa_cons (pv 9) pa_nil)) (pv 10) (nomark _))))) (pss_one (ps_ret pe_bl)) pss_nil))))
      (pss_one (ps_ret pe_bl)))))))))), ?_⟩
    -- the call
    refine ⟨.ref b, rfl, .ref b, rfl, b, o, n, 8, rfl, hb, hB, by omega, by omega, by omega, fun H1 p ys o1 np hp nd lo1 lo2 hnm hb1 hB1 off1 => ?_⟩
    have npb : p ≠ b := fun e => by rw [e, hb] at np; cases np
    refine ⟨b, p, o1, _, ys, rfl, hb1, hB1, by omega, npb, .inl (.inl hp), by omega, by omega, fun H2 t ps kvs zs o2 htd hprs hfst hperm hsort hsnd nt nps htps hb2 hB2 off2 => ?_⟩
    have hT : Txt2 3 ys := nm_txt hnm
    have hkl : kvs.length = ys.length := by rw [← List.length_map (f := Prod.fst) (as := kvs), hfst, hperm.length_eq]
    have hok : KvOk kvs := fun kv hkv => ⟨hT _ (hperm.mem_iff.mp (hfst ▸ List.mem_map_of_mem hkv)), hT _ (hsnd kv hkv)⟩
    have hk8 : kvs.length ≤ 8 := by omega
    obtain ⟨kv0, kvs', e0⟩ : ∃ kv0 kvs', kvs = kv0 :: kvs' := by
      cases kvs with
      | nil => exact absurd hkl (by simp; omega)
      | cons kv0 kvs' => exact ⟨_, _, rfl⟩
    have ask : AskAt K b t o2 kvs H2 := ⟨hb2, fun e => (by rw [e, hb1] at nt; cases nt), ps, htd, hprs, fun q hq e => (by have := nps q hq; rw [e, hb1] at this; cases this)⟩
    have off : Off b H H2 := off1.trans off2
    have hBn : Bx (n + 300) o2 := hB2.mono (by omega)
    clear hsnd nps nt htps htd hprs hfst hperm hsort hb2 hB2 off1 off2 hb1 hB1 np hp npb nd hnm hb hB
    have g1 := gd_kvs hok (by omega)
    have kv0ok : (Asc kv0.1 ∧ kv0.1.length ≤ 3) ∧ Asc kv0.2 ∧ kv0.2.length ≤ 3 := hok kv0 (by rw [e0]; exact List.mem_cons_self ..)
    have tl2 : ∀ {σ : L2.St} {x y : Str}, Tl K b σ (AskAt K b t o2 kvs) (tTupD (tCons (tC (.str x)) (tCons (tC (.str y)) tNil))) (.tuple [.str x, .str y]) := tl_tup ask_mo (tla_cons tl_str (tla_cons tl_str tla_nil)) (Nat.le_of_ble_eq_true rfl)
    -- things
    refine ⟨fun σ' F => ∃ D, σ' = sg0 b t (some (.ref D)) none ∧ St1 K H b t D o2 kvs (n + 300) 9 F, ?p1, fun σ3 F1 hM => ?_⟩
    case p1 =>
      refine St1.disp ask hBn off ask (tla_cons (tl_ask rfl) (tla_cons (tl_askL rfl) (tla_cons (tl_askLL (by omega)) (tla_cons (tl_tup ask_mo tla_nil (by decide)) (tla_cons (tl_lst ask_mo tla_nil (by decide)) (tla_cons tl_non (tla_cons (tl_tup ask_mo (tla_cons tl2 tla_nil) (by decide)) (tla_cons (tl_tup ask_mo (tla_cons tl2 tla_nil) (by decide)) (tla_cons (tl_askC rfl e0 (by omega)) tla_nil))))))))) (fun d hd => ?_) (Nat.le_of_ble_eq_true rfl) (fun G D h => ⟨D, rfl, h⟩)
      simp only [List.mem_cons, List.not_mem_nil, or_false] at hd
      rcases hd with rfl | rfl | rfl | rfl | rfl | rfl | rfl | rfl | rfl
      · exact fit_tup g1.1 (by decide) (by decide) (by rw [List.length_map]; omega)
      · exact fit_lst g1.2 (by decide) (by decide) (by rw [List.length_map]; omega)
      · exact fit_lst (gd_kvL hok (by omega)) (by decide) (by decide) (by rw [List.length_map]; omega)
      · exact (by refine ⟨⟨?_, ?_, ?_⟩, ?_⟩ <;> first | decide | (simp [PyData.depth, PyData.depthAll]; done) | (simp [Nic, NicA]; done) | (simp only [Nic, NicA, Asc]; decide) | (simp only [wt, wtA]; decide))
      · exact (by refine ⟨⟨?_, ?_, ?_⟩, ?_⟩ <;> first | decide | (simp [PyData.depth, PyData.depthAll]; done) | (simp [Nic, NicA]; done) | (simp only [Nic, NicA, Asc]; decide) | (simp only [wt, wtA]; decide))
      · exact (by refine ⟨⟨?_, ?_, ?_⟩, ?_⟩ <;> first | decide | (simp [PyData.depth, PyData.depthAll]; done) | (simp [Nic, NicA]; done) | (simp only [Nic, NicA, Asc]; decide) | (simp only [wt, wtA]; decide))
      · exact (by refine ⟨⟨?_, ?_, ?_⟩, ?_⟩ <;> first | decide | (simp [PyData.depth, PyData.depthAll]; done) | (simp [Nic, NicA]; done) | (simp only [Nic, NicA, Asc]; decide) | (simp only [wt, wtA]; decide))
      · exact (by refine ⟨⟨?_, ?_, ?_⟩, ?_⟩ <;> first | decide | (simp [PyData.depth, PyData.depthAll]; done) | (simp [Nic, NicA]; done) | (simp only [Nic, NicA, Asc]; decide) | (simp only [wt, wtA]; decide))
      · exact fit_tup (gd_kvs (kvs := kvs ++ [kv0]) (fun kv hkv => (List.mem_append.mp hkv).elim (hok kv) fun z => by rw [List.mem_singleton.mp z]; exact kv0ok) (by rw [List.length_append]; simp; omega)).1 (by decide) (by decide) (by rw [List.length_map, List.length_append]; simp; omega)
    obtain ⟨D, rfl, hS⟩ := hM
    refine ⟨fun σ' F => ∃ D, σ' = sg0 b t (some (.ref D)) none ∧ St1 K H b t D o2 kvs (n + 300) 15 F, ?p2, fun σ3 F2 hM => ?_⟩
    case p2 =>
      refine hS.add rfl hS.ask (tla_cons (tl_askR rfl) (tla_cons (tl_askD rfl (by rw [e0]; exact List.cons_ne_nil _ _)) (tla_cons (tl_tup ask_mo (tla_cons tl2 (tla_cons tl2 tla_nil)) (by decide)) (tla_cons (tl_tup ask_mo (tla_cons tl2 (tla_cons tl2 tla_nil)) (by decide)) (tla_cons (tl_tup ask_mo (tla_cons (tl_tup ask_mo (tla_cons tl_str tla_nil) (by decide)) tla_nil) (by decide)) (tla_cons tl2 tla_nil)))))) (fun d hd => ?_) (Nat.le_of_ble_eq_true rfl) (fun G D' _ h => ⟨D', rfl, h⟩)
      simp only [List.mem_cons, List.not_mem_nil, or_false] at hd
      rcases hd with rfl | rfl | rfl | rfl | rfl | rfl
      · exact fit_tup (gd_kvs (kvs := kvs.reverse) (fun kv hkv => hok kv (List.mem_reverse.mp hkv)) (by rw [List.length_reverse]; omega)).1 (by decide) (by decide) (by rw [List.length_map, List.length_reverse]; omega)
      · exact fit_tup (gd_kvs (kvs := kvs.drop 1) (fun kv hkv => hok kv (List.mem_of_mem_drop hkv)) (by rw [List.length_drop]; omega)).1 (by decide) (by decide) (by rw [List.length_map, List.length_drop]; omega)
      · exact (by refine ⟨⟨?_, ?_, ?_⟩, ?_⟩ <;> first | decide | (simp [PyData.depth, PyData.depthAll]; done) | (simp [Nic, NicA]; done) | (simp only [Nic, NicA, Asc]; decide) | (simp only [wt, wtA]; decide))
      · exact (by refine ⟨⟨?_, ?_, ?_⟩, ?_⟩ <;> first | decide | (simp [PyData.depth, PyData.depthAll]; done) | (simp [Nic, NicA]; done) | (simp only [Nic, NicA, Asc]; decide) | (simp only [wt, wtA]; decide))
      · exact (by refine ⟨⟨?_, ?_, ?_⟩, ?_⟩ <;> first | decide | (simp [PyData.depth, PyData.depthAll]; done) | (simp [Nic, NicA]; done) | (simp only [Nic, NicA, Asc]; decide) | (simp only [wt, wtA]; decide))
      · exact (by refine ⟨⟨?_, ?_, ?_⟩, ?_⟩ <;> first | decide | (simp [PyData.depth, PyData.depthAll]; done) | (simp [Nic, NicA]; done) | (simp only [Nic, NicA, Asc]; decide) | (simp only [wt, wtA]; decide))
    clear hS
    obtain ⟨D, rfl, hS⟩ := hM
    refine ⟨fun σ' F => ∃ D, σ' = sg0 b t (some (.ref D)) none ∧ St1 K H b t D o2 kvs (n + 300) 20 F, ?p3, fun σ3 F3 hM => ?_⟩
    case p3 =>
      refine hS.add rfl hS.ask (tla_cons (tl_tup ask_mo (tla_cons tl2 tla_nil) (by decide)) (tla_cons (tl_tup ask_mo (tla_cons tl2 (tla_cons tl2 tla_nil)) (by decide)) (tla_cons (tl_tup ask_mo (tla_cons tl2 tla_nil) (by decide)) (tla_cons (tl_tup ask_mo (tla_cons (tl_tup ask_mo (tla_cons (tl_tup ask_mo (tla_cons tl_str tla_nil) (by decide)) (tla_cons tl_str tla_nil)) (by decide)) tla_nil) (by decide)) (tla_cons (tl_ask0 rfl e0) tla_nil))))) (fun d hd => ?_) (Nat.le_of_ble_eq_true rfl) (fun G D' _ h => ⟨D', rfl, h⟩)
      simp only [List.mem_cons, List.not_mem_nil, or_false] at hd
      rcases hd with rfl | rfl | rfl | rfl | rfl
      · exact (by refine ⟨⟨?_, ?_, ?_⟩, ?_⟩ <;> first | decide | (simp [PyData.depth, PyData.depthAll]; done) | (simp [Nic, NicA]; done) | (simp only [Nic, NicA, Asc]; decide) | (simp only [wt, wtA]; decide))
      · exact (by refine ⟨⟨?_, ?_, ?_⟩, ?_⟩ <;> first | decide | (simp [PyData.depth, PyData.depthAll]; done) | (simp [Nic, NicA]; done) | (simp only [Nic, NicA, Asc]; decide) | (simp only [wt, wtA]; decide))
      · exact (by refine ⟨⟨?_, ?_, ?_⟩, ?_⟩ <;> first | decide | (simp [PyData.depth, PyData.depthAll]; done) | (simp [Nic, NicA]; done) | (simp only [Nic, NicA, Asc]; decide) | (simp only [wt, wtA]; decide))
      · exact (by refine ⟨⟨?_, ?_, ?_⟩, ?_⟩ <;> first | decide | (simp [PyData.depth, PyData.depthAll]; done) | (simp [Nic, NicA]; done) | (simp only [Nic, NicA, Asc]; decide) | (simp only [wt, wtA]; decide))
      · exact fit_tup (gd_two kv0ok).1 (by decide) (by decide) (show 2 < 64 by decide)
    clear hS
    obtain ⟨D, rfl, hS⟩ := hM
    -- forty
    refine ⟨fun σ' F => ∃ E ws, σ' = sg0 b t (some (.ref D)) (some (.ref E)) ∧ St1 K H b t D o2 kvs (n + 300) 20 F ∧ F E = some (.lst (ws.map V.str)) ∧ Txt2 3 ws ∧ ws.length = 40, ?p4, fun σ3 F4 hM => ?_⟩
    case p4 =>
      refine ⟨T20, 2, rfl, rfl, by decide, by decide, by decide, by decide, by decide +kernel, "u", 20, rfl, rfl, by decide, by decide, by decide, by decide, by decide +kernel, "v", 20, rfl, rfl, by decide, by decide, by decide, by decide, by decide +kernel, _, _, rfl, rfl, by decide +kernel, T40, UV, rfl, fun E1 nE1 => ?_⟩
      refine lc_fm (walk_zS (n := 40) (by rw [t40_size, uv_size]; rfl)) (fun i => some (V.str ((⟨#[T40.cps[i]!]⟩ : Str) ++ ⟨#[UV.cps[i]!]⟩))) nE1 (by decide) (fun _ _ => trivial) (fun i v G1 G2 R hi s1 hE hY hR => ?_) (fun G1 s1 hE1 => ?_)
      · obtain ⟨T1, u1, u2, rfl, nT1, rfl, g1, g2⟩ := hY
        have hi1 : i < T40.cps.size := by rw [t40_size]; exact hi
        have hi2 : i < UV.cps.size := by rw [uv_size]; exact hi
        obtain rfl : u1 = V.str ⟨#[T40.cps[i]!]⟩ := by
          have g1' : Option.map (fun c => V.str ⟨#[c]⟩) T40.cps[i]? = some u1 := g1
          rw [Array.getElem?_eq_getElem hi1, ← getElem!_pos T40.cps i hi1] at g1'
          exact (Option.some.inj g1').symm
        obtain rfl : u2 = V.str ⟨#[UV.cps[i]!]⟩ := by
          have g2' : Option.map (fun c => V.str ⟨#[c]⟩) UV.cps[i]? = some u2 := g2
          rw [Array.getElem?_eq_getElem hi2, ← getElem!_pos UV.cps i hi2] at g2'
          exact (Option.some.inj g2').symm
        refine ⟨T1, _, rfl, .inl (.inl upd_same), rfl, _, _, rfl, _, _, rfl, rfl, rfl, tyes ?_⟩
        refine ⟨_, rfl, _, rfl, _, _, rfl, rfl, (by show 1 + 1 ≤ sizeLine; decide), ?_⟩
        exact hR _ (same_new nT1)
      rw [List.filterMap_eq_map'] at hE1
      have e4 : (List.range 40).map (fun i => V.str ((⟨#[T40.cps[i]!]⟩ : Str) ++ ⟨#[UV.cps[i]!]⟩)) = ((List.range 40).map fun i => (⟨#[T40.cps[i]!]⟩ : Str) ++ ⟨#[UV.cps[i]!]⟩).map V.str := by rw [List.map_map]; rfl
      rw [e4] at hE1
      have hw : Txt2 3 ((List.range 40).map fun i => (⟨#[T40.cps[i]!]⟩ : Str) ++ ⟨#[UV.cps[i]!]⟩) := fun z hz => by
        obtain ⟨i, hi, rfl⟩ := List.mem_map.mp hz
        exact ⟨asc_app (asc_one (t40_at (List.mem_range.mp hi))) (asc_one (uv_at (List.mem_range.mp hi))), by rw [str_len_app]; exact (show 1 + 1 ≤ 3 by decide)⟩
      have hwl : ((List.range 40).map fun i => (⟨#[T40.cps[i]!]⟩ : Str) ++ ⟨#[UV.cps[i]!]⟩).length = 40 := by rw [List.length_map, List.length_range]
      generalize ((List.range 40).map fun i => (⟨#[T40.cps[i]!]⟩ : Str) ++ ⟨#[UV.cps[i]!]⟩) = ws at hE1 hw hwl
      refine ⟨E1, ws, rfl, .inl (.inl (.inl hE1)), by omega, fun vs q hp hs nq => ⟨q, vs, rfl, ?_, upd_same, fun z hz => hw z (hp.mem_iff.mp hz), by rw [hp.length_eq]; exact hwl⟩⟩
      exact hS.up (s1.trans (same_new nq))
    clear hS
    obtain ⟨E, ws, rfl, hS, hE, hw, hwl⟩ := hM
    obtain ⟨w0, ws', ew⟩ : ∃ w0 ws', ws = w0 :: ws' := by
      cases ws with
      | nil => cases hwl
      | cons w0 ws' => exact ⟨_, _, rfl⟩
    refine ⟨fun σ' F => ∃ D, σ' = sg0 b t (some (.ref D)) (some (.ref E)) ∧ St1 K H b t D o2 kvs (n + 300) 21 F, ?p5, fun σ3 F5 hM => ?_⟩
    case p5 =>
      refine hS.add (A := AskF K b t o2 kvs E ws) rfl ⟨hS.ask, hE⟩ (tla_cons (tl_forty ew (by omega)) tla_nil) (fun d hd => ?_) (Nat.le_of_ble_eq_true rfl) (fun G D' _ h => ⟨D', rfl, h⟩)
      rw [List.mem_singleton.mp hd]
      exact gd_forty hw (hw w0 (by rw [ew]; exact List.mem_cons_self ..)) hwl
    clear hS hE hw hwl ew
    obtain ⟨D, rfl, hS⟩ := hM
    have hM := hS.two
    clear hS
    -- twelve
    refine ⟨fun σ' F => ∃ v8 v9, σ' = [some (.ref b), some (.ref t), none, some (.ref D), none, none, some (.ref E), none, v8, v9, none, none] ∧ St2 K H b t D kvs (n + 300 + 81 * 12) 33 F, ?p6, fun σ5 F6 hM1 => ?_⟩
    case p6 =>
      refine ⟨12, rfl, by decide, by decide, ?_⟩
      refine for_it (n := 12) walk_range (fun i σ G => ∃ v8 v9, σ = [some (.ref b), some (.ref t), none, some (.ref D), none, none, some (.ref E), none, v8, v9, none, none] ∧ St2 K H b t D kvs (n + 300 + 81 * i) (21 + i) G) ⟨none, none, rfl, hM⟩ (fun _ _ _ _ _ => trivial) (fun i x σ G G' hi hP hY => ?_) (fun σ G hP => hP)
      obtain ⟨rfl, rfl⟩ := hY
      obtain ⟨v8, v9, rfl, hG⟩ := hP
      obtain ⟨o3, hb2, hB2⟩ := hG.bx
      obtain ⟨xs2, hD2, hl2, _⟩ := hG.th
      refine ⟨_, rfl, _, rfl, b, o3, n + 300 + 81 * i, 82, S2 b D, .ref t, .tuple (kvs.map prD), rfl, hb2, hB2, by omega, s2b b D, s2c hb2 hD2, hG.fk.1, g1.1, by decide, fun H4 y d o4 hq4 hg4 ht4 hb4 hB4 off4 => ?_⟩
      have ht4' : tl d ≤ 10 := Nat.le_trans ht4 (by show (kvs.map prD).length + 2 ≤ 10; rw [List.length_map]; omega)
      have hD4 := off4 _ _ hD2 hG.nDb
      refine ⟨_, rfl, .inl ⟨rfl, _, .inl (.inl hD4)⟩, .ref b, rfl, b, o4, _, 3, rfl, hb4, hB4, by omega, by decide, by decide, fun r o5 r0 r1 hB5 => ?_⟩
      have of5 : Off b G' (upd H4 b o5) := off4.trans (Off.at b H4 o5)
      have hb5 : (upd H4 b o5) b = some o5 := upd_same
      have hq5 : Dq K (S2 b D) (upd H4 b o5) y d := hq4.off (s2b b D) (Off.at b H4 o5)
      have hD5 := of5 _ _ hD2 hG.nDb
      generalize upd H4 b o5 = H5 at of5 hb5 hq5 hD5 ⊢
      refine ⟨rfl, _, rfl, ite2 (fun _ => ?_) (fun _ => ?_)⟩
      · refine ⟨_, rfl, _, rfl, b, o5, n + 300 + 81 * i + 10 * (2 + 1) + 1, 194, S2 b D, y, d, rfl, hb5, hB5, by omega, s2b b D, s2c hb5 hD5, hq5.1, hg4.mono (by decide) (by decide), by decide, fun H6 y6 d6 o6 hq6 hg6 ht6 hb6 hB6 off6 => ?_⟩
        obtain ⟨xs6, hD6, hl6, hM6⟩ := hG.push (m' := n + 300 + 81 * (i + 1)) (of5.trans off6) hb6 (hB6.mono (by omega)) hq6 ⟨hg6.mono (by decide) (by decide), by omega⟩
        exact ⟨D, xs6, _, rfl, rfl, hD6, by rw [hl6]; exact Nat.lt_of_le_of_lt (by omega : 21 + i ≤ 100) (by decide), _, _, rfl, hM6⟩
      · obtain ⟨xs6, hD6, hl6, hM6⟩ := hG.push (m' := n + 300 + 81 * (i + 1)) of5 hb5 (hB5.mono (by omega)) hq5 ⟨hg4.mono (by decide) (by decide), by omega⟩
        exact ⟨_, rfl, D, xs6, _, rfl, rfl, hD6, by rw [hl6]; exact Nat.lt_of_le_of_lt (by omega : 21 + i ≤ 100) (by decide), _, _, rfl, hM6⟩
    clear hM
    obtain ⟨v8, v9, rfl, hM⟩ := hM1
    obtain ⟨o3, hb3, hB3⟩ := hM.bx
    obtain ⟨xs, hD3, hl3, hx3⟩ := hM.th
    -- each
    refine ⟨_, rfl, D, rfl, ⟨_, .inl (.inl hD3)⟩, for_it walk_list (fun i σ G => Same F6 G ∧ ∃ v9 va vb, σ = [some (.ref b), some (.ref t), none, some (.ref D), none, none, some (.ref E), none, v8, v9, va, vb]) ⟨Same.refl _, _, _, _, rfl⟩ (fun i σ G _ h => .inl (.inl (h.1 _ _ hD3))) (fun i x σ G G' hi hP hY => ?_) (fun σ G hP => ?_)⟩
    · obtain ⟨rfl, hv⟩ := hY
      obtain ⟨sG, v9', va, vb, rfl⟩ := hP
      obtain ⟨d, hq, hgd, htl⟩ := hx3 x (List.mem_of_getElem? hv)
      have hdp : ∀ G, Same F6 G → Dp K G x d := fun G s => dp_same s hq.dp
      have htd : ∀ G, Same F6 G → ∀ ds, d = .tuple ds → ∃ a zs, x = .ref a ∧ TupD G a zs := fun G s ds e => by obtain ⟨a, zs, e1, e2⟩ := hq.2 ds e; exact ⟨a, zs, e1, (e2.same wos_in).same s⟩
      have hgd5 : Gd 50 100000 d := hgd.mono (by decide) (by decide)
      have hw := hgd.2.2
      refine ⟨_, rfl, _, d, rfl, hdp _ sG, hgd5, _, rfl, x, d, rfl, hdp _ sG, hw, hgd.2.1, htl, fun G1 s1 => ⟨_, _, rfl, ?_⟩⟩
      have t1 := sG.trans s1
      refine ⟨_, rfl, x, d, rfl, hdp _ t1, htd _ t1, hw, htl, fun G2 s2 => ⟨_, rfl, x, d, rfl, hdp _ (t1.trans s2), htd _ (t1.trans s2), hw, htl, fun G3 s3 => ⟨(by show 2 ≤ sizeLine; decide), fun p1 np1 => ⟨_, rfl, _, rfl, (by show 2 ≤ sizeLine; decide), fun p2 np2 => ?_⟩⟩⟩⟩
      have t5 := (((t1.trans s2).trans s3).trans (same_new np1)).trans (same_new (o := .lst [.bl (callB d), .bl (callB d)]) np2)
      refine ⟨_, _, .list [.bool (callB d), .bool (callB d)], rfl, .lst (.inl (.inl (same_new np2 _ _ upd_same))) (.cons (.bl _) (.cons (.bl _) .nil)), .lst (.inl (.inl upd_same)) (.cons (.bl _) (.cons (.bl _) .nil)), ?_, fun G6 s6 => ⟨true, rfl, iteF ?_⟩⟩
      · refine (show 2 ≤ 100000 ∧ ∀ e ∈ [PyData.bool (callB d), PyData.bool (callB d)], Sm 1 e from ⟨by decide, fun e he => ?_⟩)
        simp only [List.mem_cons, List.not_mem_nil, or_false, or_self] at he
        rw [he]
        exact trivial
      have t6 := t5.trans s6
      refine ⟨_, rfl, _, d, rfl, hdp _ t6, hgd5, _, rfl, rfl, _, rfl, ?_⟩
      show if (!decide (V.str d.shown = V.str d.shown)) = true then _ else _
      rw [decide_eq_true rfl]
      exact iteF ⟨t6, _, _, _, rfl⟩
    · exact q G o3 (hP.1 _ _ hb3) (hB3.mono (by omega)) (hM.off.trans (Same.off hP.1))
end
end Kn
namespace Kn
open PySem PySem.Spec PyProof.Rows L2
theorem scLaw : FnScope ["_law_script", "_law_k", "_law_box_here", "_law_turn"] ["_law_script"] (defScope sLaw) := ⟨rfl, rfl, rfl, by decide +kernel, rfl, by decide +kernel, by decide +kernel⟩
section
variable {P : Program} {w : World} {K : PySem.W.Frag} {mg : Str → Option Value} {base : Heap}
def spLaw (K : PySem.W.Frag) : Sp := fun vs H Q _ => ∃ (a : Addr) (ns : List Int), vs = [.ref a] ∧ SqL K H a (ns.map V.int) ∧ ns.length ≤ 63 ∧ ∀ H', Q (.bl true) H'
theorem ok_law {f fR : Addr} {fd dR : FuncData} (F : Fun K "law" "law" sLaw f fd) (B : Bn mg) (T : Tx K mg) (FR : Fun K "_law_right" "_law_right" sRight fR dR) (gR : mg "_law_right" = some (.ref fR)) (bR : Binds K dR ["_law_box_here"] []) : FnG P w K mg base CX0 9 f fd ["_law_script"] (spLaw K) := by
  have GR : FnG P w K mg base CX0 8 fR dR ["_law_box_here"] spRight := ok_right FR B T
  have GB : FnOk P w K mg base CX0 1 T.fB T.dB ["_law_script", "_law_k"] (spBox K) := ok_box T.FB B
  refine okG F scLaw (fun vs H Q E h => ?_) (fun cdv A outer s H vs Q E hg hr h => ?_)
  · obtain ⟨a, ns, rfl, _⟩ := h
    rfl
  · obtain ⟨a, ns, rfl, hS, hl, q⟩ := h
    have hr1 : Room 1 _ := hr.mono (by decide)
    refine ⟨_, pss_cons (ps_for PassesOwn.never rfl (pi_range1 rfl B.range (pa_cons (pe_callB (call_max2 rfl) (by rfl) B.max (by decide +kernel) (pa_cons pe_int (pa_cons (pe_callB (call_min2 rfl) (by rfl) B.min (by decide +kernel) (pa_cons pe_int (pa_cons (pe_callB call_len_seq (by rfl) B.len PySem.boot_len (pa_cons (pv 0) pa_nil)) pa_nil))) pa_nil))) pa_nil)) (pg_name (i := 1) scLaw.nd rfl (.inl rfl))
        (pss_cons (ps_set (i := 2) scLaw.nd rfl (.inr rfl) (pe_call GB hr1 (by rfl) T.gB T.FB.kp T.bB .nil pass0 (pa_cons (pv 0) (pa_cons (pv 1) pa_nil))))
        (pss_one (ps_if (pt_not (pt_val (pe_callB (cr_all rfl) (by rfl) B.all (by decide +kernel) (pa_cons (pe_lc (own := [("_law_turn", 3)]) (g := gName 3) (tt := tYes) rfl scLaw.nd (pi_range1 rfl B.range (pa_cons pe_int pa_nil)) (blkOk_by (N := ["_law_script", "_law_k", "_law_box_here", "_law_turn"]) (sc := defScope sLaw) (by decide +kernel))
          (fun _ _ _ _ _ => pg_name (i := 3) scLaw.nd rfl (Or.inl rfl)) (fun _ _ _ _ _ => pts_nil) (fun _ _ _ _ _ => pe_callG hg GR hr (by rfl) gR FR.kp bR pass0 (pa_cons (pv 2) pa_nil))) pa_nil)))) (pss_one (ps_ret pe_bl)) pss_nil))))
      (pss_one (ps_ret pe_bl)), ?_⟩
    refine ⟨_, rfl, a, _, rfl, .inl hS, 3, _, rfl, 1, _, rfl, _, rfl, ?_, ?_, ?_⟩
    · split <;> split <;> omega
    · split <;> split <;> omega
    generalize hm : (if (if (((ns.map V.int).length : Nat) : Int) < 3 then (((ns.map V.int).length : Nat) : Int) else 3) > 1 then (if (((ns.map V.int).length : Nat) : Int) < 3 then (((ns.map V.int).length : Nat) : Int) else 3) else 1).toNat = m
    have hm3 : m ≤ 3 := by
      rw [← hm]
      split <;> split <;> omega
    refine for_it walk_range (fun i σ G => Same H G ∧ ∃ v1 v2, σ = [some (.ref a), v1, v2, none]) ⟨Same.refl _, none, none, rfl⟩ (fun _ _ _ _ _ => trivial) (fun i x σ G G' hi hP hY => ?_) (fun σ G hP => ?_)
    · obtain ⟨rfl, rfl⟩ := hY
      obtain ⟨sG, v1, v2, rfl⟩ := hP
      refine ⟨_, rfl, _, rfl, a, ns, _, rfl, sG.seq hS, by omega, by omega, fun p o np hB => ?_⟩
      have s2 : Same G' (upd G' p o) := same_new np
      have hp2 : (upd G' p o) p = some o := upd_same
      have npH : H p = none := sG.free np
      generalize upd G' p o = H2 at s2 hp2 ⊢
      refine ⟨4, rfl, by decide, by decide, fun D nD => ?_⟩
      have nDp : D ≠ p := fun e => by
        rw [e, hp2] at nD
        cases nD
      refine lc_it walk_range (fun j G => (∃ o', G p = some o' ∧ Bx (2000 * j) o') ∧ Off p H2 G ∧ G D = some (.lst ((List.replicate j true).map V.bl))) ⟨⟨o, by rw [upd_ne nDp.symm]; exact hp2, hB⟩, Same.off (same_new nD), upd_same⟩ (fun _ _ _ _ => trivial) (fun j x G1 G2 hj hP hY => ?_) (fun G1 hP => ?_)
      · obtain ⟨rfl, rfl⟩ := hY
        obtain ⟨⟨o', hp', hB'⟩, off', hD⟩ := hP
        have hj4 : j < 4 := hj
        refine ⟨rfl, tyes ?_⟩
        refine ⟨_, rfl, p, o', 2000 * j, rfl, hp', hB', by omega, fun G3 o'' hp'' hB'' off'' => ?_⟩
        refine ⟨_, off'' _ _ hD nDp, by rw [List.length_map, List.length_replicate]; exact small1000 (by omega), ⟨o'', by rw [upd_ne nDp.symm]; exact hp'', hB''.mono (by omega)⟩, fun c u e hc => ?_, ?_⟩
        · rw [upd_ne (ne_of_none e nD)]
          exact off'' _ _ (off' _ _ e hc) hc
        · rw [upd_same, List.replicate_succ', List.map_append]
          rfl
      obtain ⟨_, off', hD⟩ := hP
      refine ⟨D, _, rfl, .inl (.inl hD), _, rfl, iteF ?_⟩
      exact ⟨fun c u e => off' _ _ (s2 _ _ (sG _ _ e)) (ne_of_none e npH), _, _, rfl⟩
    · exact q G
end
theorem all_mk {l : PySem.W.OpenLaw} {w : World} {K : PySem.W.Frag} {h : Heap} {mg : Str → Option Value} {fa : Addr} (X : K.In h) (G : h.Ns mainGlobals mg) (hfa : mg "law" = some (.ref fa))
    {fC : Addr} {odC anC : Option Addr} {slC : Array (Option Value)} {ocC kVC dcC pmC cdC ctC : Value}
    {fT : Addr} {odT anT : Option Addr} {slT : Array (Option Value)} {ocT kVT dcT pmT cdT ctT : Value}
    {fW : Addr} {odW anW : Option Addr} {slW : Array (Option Value)} {ocW kVW dcW pmW cdW ctW : Value}
    {fV : Addr} {odV anV : Option Addr} {slV : Array (Option Value)} {ocV kVV dcV pmV cdV ctV : Value}
    {fK : Addr} {odK anK : Option Addr} {slK : Array (Option Value)} {ocK kVK dcK pmK cdK ctK : Value}
    {fS : Addr} {odS anS : Option Addr} {slS : Array (Option Value)} {ocS kVS dcS pmS cdS ctS : Value}
    {fD : Addr} {odD anD : Option Addr} {slD : Array (Option Value)} {ocD kVD dcD pmD cdD ctD : Value}
    {fO : Addr} {odO anO : Option Addr} {slO : Array (Option Value)} {ocO kVO dcO pmO cdO ctO : Value}
    {fZ : Addr} {odZ anZ : Option Addr} {slZ : Array (Option Value)} {ocZ kVZ dcZ pmZ cdZ ctZ : Value}
    {fY : Addr} {odY anY : Option Addr} {slY : Array (Option Value)} {ocY kVY dcY pmY cdY ctY : Value}
    {fN : Addr} {odN anN : Option Addr} {slN : Array (Option Value)} {ocN kVN dcN pmN cdN ctN : Value}
    {fE : Addr} {odE anE : Option Addr} {slE : Array (Option Value)} {ocE kVE dcE pmE cdE ctE : Value}
    {fL : Addr} {odL anL : Option Addr} {slL : Array (Option Value)} {ocL kVL dcL pmL cdL ctL : Value}
    {fR : Addr} {odR anR : Option Addr} {slR : Array (Option Value)} {ocR kVR dcR pmR cdR ctR : Value}
    {fB : Addr} {odB anB : Option Addr} {slB : Array (Option Value)} {ocB kVB dcB pmB cdB ctB : Value}
    {fRR : Addr} {odRR anRR : Option Addr} {slRR : Array (Option Value)} {ocRR kVRR dcRR pmRR cdRR ctRR : Value}
    {fLW : Addr} {odLW anLW : Option Addr} {slLW : Array (Option Value)} {ocLW kVLW dcLW pmLW cdLW ctLW : Value}
    (aC : PySem.W.nsIn K mainGlobals "_law_crew" = some (some (.ref fC))) (lC : K.lookup fC = some ⟨ocC, odC, .func (PySem.W.fnOf "_law_crew" "_law_crew" (defArgs sCrew) (defBody sCrew) (defScope sCrew) .none kVC dcC pmC anC cdC ctC), slC⟩) (cC : PySem.W.codeIn K cdC "_law_crew" = true) (kC : PySem.W.keepIn K (.ref fC) = true)
    (aT : PySem.W.nsIn K mainGlobals "_law_take" = some (some (.ref fT))) (lT : K.lookup fT = some ⟨ocT, odT, .func (PySem.W.fnOf "_law_take" "_law_take" (defArgs sTake) (defBody sTake) (defScope sTake) .none kVT dcT pmT anT cdT ctT), slT⟩) (cT : PySem.W.codeIn K cdT "_law_take" = true) (kT : PySem.W.keepIn K (.ref fT) = true)
    (aW : PySem.W.nsIn K mainGlobals "_law_strewn" = some (some (.ref fW))) (lW : K.lookup fW = some ⟨ocW, odW, .func (PySem.W.fnOf "_law_strewn" "_law_strewn" (defArgs sStrewn) (defBody sStrewn) (defScope sStrewn) .none kVW dcW pmW anW cdW ctW), slW⟩) (cW : PySem.W.codeIn K cdW "_law_strewn" = true) (kW : PySem.W.keepIn K (.ref fW) = true)
    (aV : PySem.W.nsIn K mainGlobals "_law_of" = some (some (.ref fV))) (lV : K.lookup fV = some ⟨ocV, odV, .func (PySem.W.fnOf "_law_of" "_law_of" (defArgs sOf) (defBody sOf) (defScope sOf) .none kVV dcV pmV anV cdV ctV), slV⟩) (cV : PySem.W.codeIn K cdV "_law_of" = true) (kV : PySem.W.keepIn K (.ref fV) = true)
    (aK : PySem.W.nsIn K mainGlobals "_law_ask" = some (some (.ref fK))) (lK : K.lookup fK = some ⟨ocK, odK, .func (PySem.W.fnOf "_law_ask" "_law_ask" (defArgs sAsk) (defBody sAsk) (defScope sAsk) .none kVK dcK pmK anK cdK ctK), slK⟩) (cK : PySem.W.codeIn K cdK "_law_ask" = true) (kK : PySem.W.keepIn K (.ref fK) = true)
    (aS : PySem.W.nsIn K mainGlobals "_law_same" = some (some (.ref fS))) (lS : K.lookup fS = some ⟨ocS, odS, .func (PySem.W.fnOf "_law_same" "_law_same" (defArgs sSame) (defBody sSame) (defScope sSame) .none kVS dcS pmS anS cdS ctS), slS⟩) (cS : PySem.W.codeIn K cdS "_law_same" = true) (kS : PySem.W.keepIn K (.ref fS) = true)
    (aD : PySem.W.nsIn K mainGlobals "_law_odd" = some (some (.ref fD))) (lD : K.lookup fD = some ⟨ocD, odD, .func (PySem.W.fnOf "_law_odd" "_law_odd" (defArgs sOdd) (defBody sOdd) (defScope sOdd) .none kVD dcD pmD anD cdD ctD), slD⟩) (cD : PySem.W.codeIn K cdD "_law_odd" = true) (kD : PySem.W.keepIn K (.ref fD) = true)
    (aO : PySem.W.nsIn K mainGlobals "_law_otherwise" = some (some (.ref fO))) (lO : K.lookup fO = some ⟨ocO, odO, .func (PySem.W.fnOf "_law_otherwise" "_law_otherwise" (defArgs sOth) (defBody sOth) (defScope sOth) .none kVO dcO pmO anO cdO ctO), slO⟩) (cO : PySem.W.codeIn K cdO "_law_otherwise" = true) (kO : PySem.W.keepIn K (.ref fO) = true)
    (aZ : PySem.W.nsIn K mainGlobals "_law_is_one" = some (some (.ref fZ))) (lZ : K.lookup fZ = some ⟨ocZ, odZ, .func (PySem.W.fnOf "_law_is_one" "_law_is_one" (defArgs sOne) (defBody sOne) (defScope sOne) .none kVZ dcZ pmZ anZ cdZ ctZ), slZ⟩) (cZ : PySem.W.codeIn K cdZ "_law_is_one" = true) (kZ : PySem.W.keepIn K (.ref fZ) = true)
    (aY : PySem.W.nsIn K mainGlobals "_law_is_ask" = some (some (.ref fY))) (lY : K.lookup fY = some ⟨ocY, odY, .func (PySem.W.fnOf "_law_is_ask" "_law_is_ask" (defArgs sIsAsk) (defBody sIsAsk) (defScope sIsAsk) .none kVY dcY pmY anY cdY ctY), slY⟩) (cY : PySem.W.codeIn K cdY "_law_is_ask" = true) (kY : PySem.W.keepIn K (.ref fY) = true)
    (aN : PySem.W.nsIn K mainGlobals "is_name" = some (some (.ref fN))) (lN : K.lookup fN = some ⟨ocN, odN, .func (PySem.W.fnOf "is_name" "is_name" (defArgs sName) (defBody sName) (defScope sName) .none kVN dcN pmN anN cdN ctN), slN⟩) (cN : PySem.W.codeIn K cdN "is_name" = true) (kN : PySem.W.keepIn K (.ref fN) = true)
    (aE : PySem.W.nsIn K mainGlobals "is_pair" = some (some (.ref fE))) (lE : K.lookup fE = some ⟨ocE, odE, .func (PySem.W.fnOf "is_pair" "is_pair" (defArgs sPair) (defBody sPair) (defScope sPair) .none kVE dcE pmE anE cdE ctE), slE⟩) (cE : PySem.W.codeIn K cdE "is_pair" = true) (kE : PySem.W.keepIn K (.ref fE) = true)
    (aL : PySem.W.nsIn K mainGlobals "people" = some (some (.ref fL))) (lL : K.lookup fL = some ⟨ocL, odL, .func (PySem.W.fnOf "people" "people" (defArgs sPeople) (defBody sPeople) (defScope sPeople) .none kVL dcL pmL anL cdL ctL), slL⟩) (cL : PySem.W.codeIn K cdL "people" = true) (kL : PySem.W.keepIn K (.ref fL) = true)
    (aR : PySem.W.nsIn K mainGlobals "is_call" = some (some (.ref fR))) (lR : K.lookup fR = some ⟨ocR, odR, .func (PySem.W.fnOf "is_call" "is_call" (defArgs sIsCall) (defBody sIsCall) (defScope sIsCall) .none kVR dcR pmR anR cdR ctR), slR⟩) (cR : PySem.W.codeIn K cdR "is_call" = true) (kR : PySem.W.keepIn K (.ref fR) = true)
    (aB : PySem.W.nsIn K mainGlobals "_law_box" = some (some (.ref fB))) (lB : K.lookup fB = some ⟨ocB, odB, .func (PySem.W.fnOf "_law_box" "_law_box" (defArgs sBox) (defBody sBox) (defScope sBox) .none kVB dcB pmB anB cdB ctB), slB⟩) (cB : PySem.W.codeIn K cdB "_law_box" = true) (kB : PySem.W.keepIn K (.ref fB) = true)
    (aRR : PySem.W.nsIn K mainGlobals "_law_right" = some (some (.ref fRR))) (lRR : K.lookup fRR = some ⟨ocRR, odRR, .func (PySem.W.fnOf "_law_right" "_law_right" (defArgs sRight) (defBody sRight) (defScope sRight) .none kVRR dcRR pmRR anRR cdRR ctRR), slRR⟩) (cRR : PySem.W.codeIn K cdRR "_law_right" = true) (kRR : PySem.W.keepIn K (.ref fRR) = true)
    (aLW : PySem.W.nsIn K mainGlobals "law" = some (some (.ref fLW))) (lLW : K.lookup fLW = some ⟨ocLW, odLW, .func (PySem.W.fnOf "law" "law" (defArgs sLaw) (defBody sLaw) (defScope sLaw) .none kVLW dcLW pmLW anLW cdLW ctLW), slLW⟩) (cLW : PySem.W.codeIn K cdLW "law" = true) (kLW : PySem.W.keepIn K (.ref fLW) = true)
    (z_abs : PySem.W.nsIn K mainGlobals "abs" = some none)
    (z_int : PySem.W.nsIn K mainGlobals "int" = some none)
    (z_len : PySem.W.nsIn K mainGlobals "len" = some none)
    (z_range : PySem.W.nsIn K mainGlobals "range" = some none)
    (z_max : PySem.W.nsIn K mainGlobals "max" = some none)
    (z_min : PySem.W.nsIn K mainGlobals "min" = some none)
    (z_all : PySem.W.nsIn K mainGlobals "all" = some none)
    (z_isi : PySem.W.nsIn K mainGlobals "isinstance" = some none)
    (z_list : PySem.W.nsIn K mainGlobals "list" = some none)
    (z_tuple : PySem.W.nsIn K mainGlobals "tuple" = some none)
    (z_str : PySem.W.nsIn K mainGlobals "str" = some none)
    (z_bool : PySem.W.nsIn K mainGlobals "bool" = some none)
    (z_zip : PySem.W.nsIn K mainGlobals "zip" = some none)
    (z_sorted : PySem.W.nsIn K mainGlobals "sorted" = some none)
    (z_enum : PySem.W.nsIn K mainGlobals "enumerate" = some none)
    (z_dict : PySem.W.nsIn K mainGlobals "dict" = some none)
    (z_repr : PySem.W.nsIn K mainGlobals "repr" = some none)
    (z_set : PySem.W.nsIn K mainGlobals "set" = some none) {t1 t2 : Tok} (aLong : PySem.W.nsIn K mainGlobals "LONGEST" = some (some (.int 6 t1))) (aLet : PySem.W.nsIn K mainGlobals "LETTERS" = some (some (.str LET t2)))
    : ∃ fd : FuncData, (∀ (s : Shared) (v : Value), BindsTo s fd ⟨[v], []⟩ [("_law_script", v)]) ∧ ∀ base : Heap, K.In base → base.Ns mainGlobals mg → FnG l.prog w K mg base CX0 9 fa fd ["_law_script"] (spLaw K) := by
  have e := hfa.symm.trans (PySem.W.mg_of X G aLW)
  cases e
  have B : Bn mg := ⟨PySem.W.mg_none_of X G z_abs, PySem.W.mg_none_of X G z_int, PySem.W.mg_none_of X G z_len, PySem.W.mg_none_of X G z_range, PySem.W.mg_none_of X G z_max, PySem.W.mg_none_of X G z_min, PySem.W.mg_none_of X G z_all, PySem.W.mg_none_of X G z_isi, PySem.W.mg_none_of X G z_list, PySem.W.mg_none_of X G z_tuple, PySem.W.mg_none_of X G z_str, PySem.W.mg_none_of X G z_bool, PySem.W.mg_none_of X G z_zip, PySem.W.mg_none_of X G z_sorted, PySem.W.mg_none_of X G z_enum, PySem.W.mg_none_of X G z_dict, PySem.W.mg_none_of X G z_repr⟩
  have FC := fun_mk (st := sCrew) lC cC kC
  have bC := FC.binds (ps := ["_law_box_here", "_law_most"]) fun _ _ _ _ _ _ us hl => match us, hl with | [_, _], _ => rfl
  have FT := fun_mk (st := sTake) lT cT kT
  have bT := FT.binds (ps := ["_law_box_here", "_law_bound"]) fun _ _ _ _ _ _ us hl => match us, hl with | [_, _], _ => rfl
  have FW := fun_mk (st := sStrewn) lW cW kW
  have bW := FW.binds (ps := ["_law_box_here", "_law_some"]) fun _ _ _ _ _ _ us hl => match us, hl with | [_, _], _ => rfl
  have FV := fun_mk (st := sOf) lV cV kV
  have bV := FV.binds (ps := ["_law_box_here", "_law_some"]) fun _ _ _ _ _ _ us hl => match us, hl with | [_, _], _ => rfl
  have FK := fun_mk (st := sAsk) lK cK kK
  have bK := FK.binds (ps := ["_law_box_here", "_law_crew_here"]) fun _ _ _ _ _ _ us hl => match us, hl with | [_, _], _ => rfl
  have FS := fun_mk (st := sSame) lS cS kS
  have bS := FS.binds (ps := ["_law_found", "_law_due"]) fun _ _ _ _ _ _ us hl => match us, hl with | [_, _], _ => rfl
  have FD := fun_mk (st := sOdd) lD cD kD
  have bD := FD.binds (ps := ["_law_box_here"]) fun _ _ _ _ _ _ us hl => match us, hl with | [_], _ => rfl
  have FO := fun_mk (st := sOth) lO cO kO
  have bO := FO.binds (ps := ["_law_box_here", "_law_matter"]) fun _ _ _ _ _ _ us hl => match us, hl with | [_, _], _ => rfl
  have FZ := fun_mk (st := sOne) lZ cZ kZ
  have bZ := FZ.binds (ps := ["_law_part"]) fun _ _ _ _ _ _ us hl => match us, hl with | [_], _ => rfl
  have FY := fun_mk (st := sIsAsk) lY cY kY
  have bY := FY.binds (ps := ["_law_matter"]) fun _ _ _ _ _ _ us hl => match us, hl with | [_], _ => rfl
  have FN := fun_mk (st := sName) lN cN kN
  have bN := FN.binds (ps := ["thing"]) fun _ _ _ _ _ _ us hl => match us, hl with | [_], _ => rfl
  have FE := fun_mk (st := sPair) lE cE kE
  have bE := FE.binds (ps := ["thing"]) fun _ _ _ _ _ _ us hl => match us, hl with | [_], _ => rfl
  have FL := fun_mk (st := sPeople) lL cL kL
  have bL := FL.binds (ps := ["call"]) fun _ _ _ _ _ _ us hl => match us, hl with | [_], _ => rfl
  have FR := fun_mk (st := sIsCall) lR cR kR
  have bR := FR.binds (ps := ["thing"]) fun _ _ _ _ _ _ us hl => match us, hl with | [_], _ => rfl
  have FB := fun_mk (st := sBox) lB cB kB
  have bB := FB.binds (ps := ["_law_script", "_law_k"]) fun _ _ _ _ _ _ us hl => match us, hl with | [_, _], _ => rfl
  have FRR := fun_mk (st := sRight) lRR cRR kRR
  have bRR := FRR.binds (ps := ["_law_box_here"]) fun _ _ _ _ _ _ us hl => match us, hl with | [_], _ => rfl
  have FLW := fun_mk (st := sLaw) lLW cLW kLW
  have bLW := FLW.binds (ps := ["_law_script"]) fun _ _ _ _ _ _ us hl => match us, hl with | [_], _ => rfl
  have kR : KBinds K _ ["thing"] ["thing"] (onlyK [0]) (onlyK [0]) := kbinds [0] FR fun _ _ _ _ _ _ ws hl => match ws, hl with | _ :: _, _ => rfl
  have T : Tx K mg := ⟨fC, _, FC, PySem.W.mg_of X G aC, bC, fT, _, FT, PySem.W.mg_of X G aT, bT, fW, _, FW, PySem.W.mg_of X G aW, bW, fV, _, FV, PySem.W.mg_of X G aV, bV, fK, _, FK, PySem.W.mg_of X G aK, bK, fS, _, FS, PySem.W.mg_of X G aS, bS, fD, _, FD, PySem.W.mg_of X G aD, bD, fO, _, FO, PySem.W.mg_of X G aO, bO, fZ, _, FZ, PySem.W.mg_of X G aZ, bZ, fY, _, FY, PySem.W.mg_of X G aY, bY, fN, _, FN, PySem.W.mg_of X G aN, bN, fE, _, FE, PySem.W.mg_of X G aE, bE, fL, _, FL, PySem.W.mg_of X G aL, bL, fR, _, FR, PySem.W.mg_of X G aR, bR, fB, _, FB, PySem.W.mg_of X G aB, bB, kR, t1, t2, PySem.W.mg_of X G aLong, PySem.W.mg_of X G aLet, PySem.W.mg_none_of X G z_set⟩
  exact ⟨PySem.W.fnOf "law" "law" (defArgs sLaw) (defBody sLaw) (defScope sLaw) .none kVLW dcLW pmLW anLW cdLW ctLW, fun s v => .of_eq rfl, fun base _ _ => ok_law FLW B T FRR (PySem.W.mg_of X G aRR) bRR⟩
end Kn
open PySem PySem.W PyProof.Rows
set_option maxRecDepth 100000 in
set_option maxHeartbeats 0 in
theorem PySem.Challenge.cw_standby_k02_calls_or_not_holds : PySem.Challenge.rw_standby_k02_calls_or_not.Holds := by
  w_on; o_law; k_head; (case hw => w_witness2)
  k_fill
  refine Kn.lawG (l := PySem.Challenge.rw_standby_k02_calls_or_not) (n := 63) (k := 9) (x := "_law_script") (sp := fun w => Kn.spLaw _) rfl (by decide) rfl ⟨rfl, by decide, by decide⟩ (fun w h Y => PySem.W.kIn_of Y) ?F (fun w H a ns hl _ hS => ⟨a, ns, rfl, hS, hl, fun _ => rfl⟩)
  case F =>
    intro w mg fa h KX G hmg
    refine' Kn.all_mk KX G hmg ?aC ?lC ?cC ?kC ?aT ?lT ?cT ?kT ?aW ?lW ?cW ?kW ?aV ?lV ?cV ?kV ?aK ?lK ?cK ?kK ?aS ?lS ?cS ?kS ?aD ?lD ?cD ?kD ?aO ?lO ?cO ?kO ?aZ ?lZ ?cZ ?kZ ?aY ?lY ?cY ?kY ?aN ?lN ?cN ?kN ?aE ?lE ?cE ?kE ?aL ?lL ?cL ?kL ?aR ?lR ?cR ?kR ?aB ?lB ?cB ?kB ?aRR ?lRR ?cRR ?kRR ?aLW ?lLW ?cLW ?kLW ?z_abs ?z_int ?z_len ?z_range ?z_max ?z_min ?z_all ?z_isi ?z_list ?z_tuple ?z_str ?z_bool ?z_zip ?z_sorted ?z_enum ?z_dict ?z_repr ?z_set ?aLong ?aLet
    (case aC => k_is); (case lC => k_is); (case cC => k_is); (case kC => k_is); (case aT => k_is); (case lT => k_is)
    (case cT => k_is); (case kT => k_is); (case aW => k_is); (case lW => k_is); (case cW => k_is); (case kW => k_is)
    (case aV => k_is); (case lV => k_is); (case cV => k_is); (case kV => k_is); (case aK => k_is); (case lK => k_is)
    (case cK => k_is); (case kK => k_is); (case aS => k_is); (case lS => k_is); (case cS => k_is); (case kS => k_is)
    (case aD => k_is); (case lD => k_is); (case cD => k_is); (case kD => k_is); (case aO => k_is); (case lO => k_is)
    (case cO => k_is); (case kO => k_is); (case aZ => k_is); (case lZ => k_is); (case cZ => k_is); (case kZ => k_is)
    (case aY => k_is); (case lY => k_is); (case cY => k_is); (case kY => k_is); (case aN => k_is); (case lN => k_is)
    (case cN => k_is); (case kN => k_is); (case aE => k_is); (case lE => k_is); (case cE => k_is); (case kE => k_is)
    (case aL => k_is); (case lL => k_is); (case cL => k_is); (case kL => k_is); (case aR => k_is); (case lR => k_is)
    (case cR => k_is); (case kR => k_is); (case aB => k_is); (case lB => k_is); (case cB => k_is); (case kB => k_is)
    (case aRR => k_is); (case lRR => k_is); (case cRR => k_is); (case kRR => k_is); (case aLW => k_is); (case lLW => k_is)
    (case cLW => k_is); (case kLW => k_is); (case z_abs => k_is); (case z_int => k_is); (case z_len => k_is); (case z_range => k_is)
    (case z_max => k_is); (case z_min => k_is); (case z_all => k_is); (case z_isi => k_is); (case z_list => k_is); (case z_tuple => k_is)
    (case z_str => k_is); (case z_bool => k_is); (case z_zip => k_is); (case z_sorted => k_is); (case z_enum => k_is); (case z_dict => k_is)
    (case z_repr => k_is); (case z_set => k_is); (case aLong => k_is); (case aLet => k_is)
