import PyProof.Rows.All
import Wide.All
import OpenK.AllK
import Wide.FinOn
import HandS.Base
import HandS.Call
import HandS.List
import HandS.Comp
import HandS.Ends
import HandS.Dict
import HandS.Iter
import HandS.Text
import HandS.Words
import HandS.WordsList
import HandS.More
import HandS.Conv
import HandS.Zip
import HandS.DictComp
import KE.GoesMore
import HandS.Style
import HandS.Strs
import HandS.IsInst
import HandS.Walk
import HandS.EndBits
import HandS.FStrTup
import HandS.TupAny
import PySem.Challenge.RW_standby_k01_places_in_a_row
set_option Elab.async false
set_option linter.all false
set_option maxRecDepth 100000
namespace Kn
open PySem PySem.Spec PyProof.Rows L2
/-! what is never reached -/
theorem s_dead {X : Cx} {st : Stmt} : PS X st (fun _ _ _ => False) := ⟨fun _ _ _ _ _ _ h => h.elim⟩
theorem e_dead {X : Cx} {e : Expr} : PE X e (fun _ _ _ => False) := ⟨fun _ _ _ _ _ _ h => h.elim⟩
theorem same_new {H : Hp} {p : Addr} {o : HO} (h : H p = none) : Same H (upd H p o) := fun b x e => by
  rw [upd_ne (ne_of_none e h)]
  exact e
/-! all but one object stay -/
def Off (b : Addr) (H H' : Hp) : Prop := ∀ c o, H c = some o → c ≠ b → H' c = some o
theorem Off.refl (b : Addr) (H : Hp) : Off b H H := fun _ _ h _ => h
theorem Off.trans {b : Addr} {H H1 H2 : Hp} (x : Off b H H1) (y : Off b H1 H2) : Off b H H2 := fun c o h n => y c o (x c o h n) n
theorem Off.at (b : Addr) (H : Hp) (o : HO) : Off b H (upd H b o) := fun c u h n => by rw [upd_ne n]; exact h
theorem Same.off {b : Addr} {H H' : Hp} (s : Same H H') : Off b H H' := fun c o h _ => s c o h
/-! the box of drawn numbers: n draws at most were made -/
def Bx (n : Nat) (o : HO) : Prop := ∃ x y z : Int, o = .lst [.int x, .int y, .int z] ∧ 0 ≤ x ∧ 0 ≤ y ∧ y < 8589934592 ∧ 0 ≤ z ∧ z ≤ n
theorem Bx.mono {n m : Nat} {o : HO} (h : Bx n o) (l : n ≤ m) : Bx m o := by
  obtain ⟨x, y, z, e, a1, a2, a3, a4, a5⟩ := h
  exact ⟨x, y, z, e, a1, a2, a3, a4, by omega⟩
end Kn
namespace PySem
open AutoSeq1 (wpAny_loadPart')
set_option maxHeartbeats 1000000 in
theorem kn_enum_new (t : Addr) (its : Array Value) (n : Nat) (dc : Option Addr) (sl : Array (Option Value)) :
    Meets (Builtin.«enumerate.__new__» ⟨[.type "enumerate", .ref t], []⟩) (fun _ R s => s.heap.get? t = some { cls := .type "tuple", dict := dc, data := .seq its n, slots := sl } ∧
      R (.ok (.ret (.ref (s.heap.push { cls := .type "tuple_iterator", data := .fields #[.ref t, .int 0 0] }).objs.size)))
        { s with heap := (s.heap.push { cls := .type "tuple_iterator", data := .fields #[.ref t, .int 0 0] }).push { cls := .type "enumerate", data := .fields #[.none, .bool false, .ref s.heap.objs.size, rawInt 0, .none, .none] } }) :=
  .of_wp fun prog w A R s h => by
    obtain ⟨hp, g, d, tk, os⟩ := s
    obtain ⟨ht, h⟩ := h
    have sub := sub_enumerate
    have hT : Heap.IsTuple (Shared.heap ⟨hp, g, d, tk, os⟩) t its := ⟨_, ht, rfl, n, rfl⟩
    wp_walk using wpAny_loadPart' ht
    refine wpAny_stack_any fun st => (wpAny_pure ?_)
    split
    · rename_i c _ _ _ _ _
      cases (c == Value.type "enumerate")
      · (wp_walk using wpAny_loadPart' ht, wpAny_pyIter_tuple hT); exact ⟨_, rfl, h⟩
      · (wp_walk using wpAny_loadPart' ht, wpAny_pyIter_tuple hT); exact ⟨_, rfl, h⟩
    · (wp_walk using wpAny_loadPart' ht, wpAny_pyIter_tuple hT); exact ⟨_, rfl, h⟩
section
variable {prog : Program} {w : World} {A : Around} {E : Value → Shared → Prop} {s : Shared}
theorem kn_enum_tup {t : Addr} {its : Array Value} {Q : Value → Shared → Prop} (hT : s.heap.IsTuple t its)
    (h : ∀ h', IsEnum h' (s.heap.objs.size + 1) s.heap.objs.size 0 .none → h'.IsTupleIter s.heap.objs.size t 0 → h'.objs.size = s.heap.objs.size + 2 →
      (∀ b o, s.heap.get? b = some o → h'.get? b = some o) → Q (.ref (s.heap.objs.size + 1)) { s with heap := h' }) :
    wpAny (model prog w) A (call (.type "enumerate") [.ref t]) Q E s := by
  obtain ⟨⟨c, dc, dt, sl⟩, ht, hc, n, hd⟩ := hT
  replace hc : c = .type "tuple" := hc
  replace hd : dt = .seq its n := hd
  subst hc hd
  refine callType_new F.called_enumerate (by decide) (F.typeCall_enumerate_1 _) (F.newCall_enumerate_1 _) (fun ob => F.args_object_init_2 ob _) F.entry_enumerate_new (kn_enum_new t its n dc sl) ⟨ht, ?_⟩
  generalize hq : s.heap.push { cls := .type "tuple_iterator", data := .fields #[.ref t, .int 0 0] } = hp
  have hz : hp.objs.size = s.heap.objs.size + 1 := by rw [← hq]; exact Heap.size_push ..
  show _ ∧ _
  rw [hz]
  have he : IsEnum (hp.push { cls := .type "enumerate", data := .fields #[.none, .bool false, .ref s.heap.objs.size, rawInt 0, .none, .none] }) (s.heap.objs.size + 1) s.heap.objs.size 0 .none := by
    have z := Heap.get?_push_size hp (o := { cls := .type "enumerate", data := .fields #[.none, .bool false, .ref s.heap.objs.size, rawInt 0, .none, .none] }) rfl
    rw [hz] at z
    exact z
  have hi : hp.get? s.heap.objs.size = some { cls := .type "tuple_iterator", data := .fields #[.ref t, .int 0 0] } := by
    rw [← hq]
    exact Heap.get?_push_size _ rfl
  refine ⟨⟨_, he, rfl⟩, h _ he ⟨_, Heap.get?_push_of_some _ hi, rfl, rfl⟩ (by rw [Heap.size_push, hz]) fun b o x => Heap.get?_push_of_some _ ?_⟩
  rw [← hq]
  exact Heap.get?_push_of_some _ x
end
end PySem
namespace Kn
open PySem PySem.Spec PyProof.Rows L2
/-! enumerate(a tuple) -/
def IteT (K : PySem.W.Frag) (a : Addr) : It :=
  ⟨fun i H => ∃ (xs : List V) (x : V), SqT K H a xs ∧ xs[i]? = some x,
   fun i H v H' => ∃ T x, v = .ref T ∧ H T = none ∧ H' = upd H T (.tup [.int (i : Nat), x]) ∧ ∀ xs, SqT K H a xs → xs[i]? = some x,
   fun i H => ∃ xs : List V, SqT K H a xs ∧ xs.length = i⟩
theorem turn_enT {P : Program} {w : World} {K : PySem.W.Frag} {elts : List Expr} {kk : Nat} {tpos : Pos} {a e it : Addr} (ae : a ≠ e) (ai : a ≠ it) :
    Turn P w K (.Tuple elts kk tpos) (IteT K a) [e, it] e (fun i h => (∃ old, IsEnum h e it ((i : Nat) : Int) old) ∧ h.IsTupleIter it a i ∧ e ≠ it) where
  mem := by simp
  obj := fun i h st b hb => by
    obtain ⟨⟨old, he⟩, ⟨o, ho, hc, hd⟩, _⟩ := st
    rcases (show b = e ∨ b = it by simpa using hb) with z | z
    · rw [z]; exact ⟨_, he, fun v q => nomatch q⟩
    · rw [z]; exact ⟨o, ho, fun v q => by rw [hd] at q; cases q⟩
  keep := fun i h h' st k => let ⟨⟨old, he⟩, hi, hne⟩ := st; ⟨⟨old, k e (by simp) _ he⟩, hi.at fun o q => k it (by simp) o q, hne⟩
  item := by
    intro X hP hw hK hc i pins s σ H E I hf st hg
    subst hP hw hK
    obtain ⟨⟨old, he⟩, hit, hne⟩ := st
    obtain ⟨xs, x, hq, hx⟩ := hg
    obtain ⟨its, rv, p, hz⟩ := I.tuple hq
    obtain ⟨u, hu, ru⟩ := rv.get hx
    have hl := rv.length
    have hlt : i < its.toArray.size := by
      have := (List.getElem?_eq_some_iff.mp hx).1
      rw [List.size_toArray]; omega
    have hel : e < s.heap.objs.size := Heap.lt_size he
    have hil : it < s.heap.objs.size := by obtain ⟨_, q, _⟩ := hit; exact Heap.lt_size q
    have hT0 : s.heap.IsTuple a its.toArray := p
    refine wpAny_pyNext_enum_itemD (Draws.tuple (A := X.A.in1) (I.ok.hd hc) it a ai its.toArray) he ⟨hit, hT0⟩ hlt hne (by simp; exact ⟨hne, fun z => ae z.symm⟩) fun u' h' tk hu' ho st' hT hsz hk => ?_
    have eu : u' = u := by
      have : its.toArray[i]? = some u' := hu'
      rw [List.getElem?_toArray, hu] at this
      exact (Option.some.inj this).symm
    subst eu
    refine ⟨_, rfl, wpAny_letOwnedTupleGo_enum (s := { s with heap := h', toks := tk + 1 }) ho fun h'' he' sb => ?_⟩
    have hT2 : h''.get? s.heap.objs.size = some { cls := .type "tuple", data := .seq #[.int i tk, u'] } := (sb.2 _ (Nat.ne_of_gt hel)).trans hT
    have new : ObjOk X.prog X.w (upd H s.heap.objs.size (.tup [.int (i : Nat), x])) h'' s.heap.objs.size (.tup [.int (i : Nat), x]) :=
      ⟨by show 2 ≤ sizeLine; decide, [.int i tk, u'], .cons ⟨_, rfl⟩ (.cons ru .nil), ⟨_, hT2, rfl, _, rfl⟩⟩
    have I1 : Inv X pins σ (upd H s.heap.objs.size (.tup [.int (i : Nat), x])) { s with heap := h'', toks := tk + 1 } :=
      I.turnedNew (ch := [e, it]) (fun b ob hb q => (sb.2 b (fun z => hb (by simp [z]))).trans (hk b ob (fun z => hb (by simp [z])) (fun z => hb (by simp [z])) q)) hf (Nat.le_refl _) new
    refine ⟨.ref s.heap.objs.size, _, I1, rfl, ⟨_, x, rfl, I.hok.fresh (Nat.le_refl _), rfl, fun ys hy => by rw [I.tuple_inj hy hq]; exact hx⟩, ⟨⟨u', ?_⟩, st'.1.at fun o q => (sb.2 it (Ne.symm hne)).trans q, hne⟩, fun b hb => ?_⟩
    · rw [show ((i + 1 : Nat) : Int) = (i : Int) + 1 by omega]
      exact he'
    · have hb' : b < s.heap.objs.size := by
        rcases (show b = e ∨ b = it by simpa using hb) with z | z
        · rw [z]; exact hel
        · rw [z]; exact hil
      rw [upd_ne (Nat.ne_of_lt hb')]
      exact (hf b hb).1
  done := by
    intro X hP hw hK hc i pins s σ H E I hf st hg
    subst hP hw hK
    obtain ⟨⟨old, he⟩, hit, hne⟩ := st
    obtain ⟨xs, hq, hx⟩ := hg
    obtain ⟨its, rv, p, hz⟩ := I.tuple hq
    have hl := rv.length
    obtain ⟨f0, f1, f2, f3, f4, f5⟩ := hf it (by simp)
    have hn : i = its.toArray.size := by rw [List.size_toArray]; omega
    have hT0 : s.heap.IsTuple a its.toArray := p
    subst hn
    exact wpAny_pyNext_enum_endD (Draws.tuple (A := X.A.in1) (I.ok.hd hc) it a ai its.toArray) he ⟨hit, hT0⟩ fun h' eb => ⟨rfl, I.turned (t' := s.toks) (fun b o hb q => eb b o hb q) f0 f1 f3 f4 f5⟩
  self := fun A i s Q E st h => let ⟨⟨_, he⟩, _⟩ := st; wpAny_pyIter_enum he h
def iEnT (K : PySem.W.Frag) (ta : TA) : TI := fun σ H R => ta σ H fun vs H1 => ∃ a xs, vs = [.ref a] ∧ SqT K H1 a xs ∧ R (IteT K a) H1
theorem pi_enT {X : Cx} {e : Expr} {ta : TA} {p pos tpos : Pos} {elts : List Expr} {kk : Nat} (hg : Gl X "enumerate") (hm : X.mg "enumerate" = none) (ha : PA X [e] ta)
    (hs : starEach [e] X.env = [(false, eval e X.env)] := by rfl) : PI X (.Tuple elts kk tpos) (.Call (.Name "enumerate" p) [e] [] pos) (iEnT X.K ta) := by
  refine ⟨fun pins s σ H R I h => ?_⟩
  refine Call_ (ld_blt I hg hm boot_enumerate (PyProof.Rows.callWith_type1 (thn (ha.run pos pins s σ H _ I h) fun us s1 ⟨vs, H1, I1, r1, q1⟩ => ?_) hs rfl))
  obtain ⟨a, xs, ex, hq, q⟩ := q1
  subst ex
  cases r1 with
  | cons r rr =>
    cases rr
    cases r
    obtain ⟨its, rv, p', hz⟩ := I1.tuple hq
    have hal : a < s1.heap.objs.size := by obtain ⟨_, e1, _⟩ := id p'; exact Heap.lt_size e1
    refine kn_enum_tup (show s1.heap.IsTuple a its.toArray from p') fun h' he hit hsz hk => wpAny_pyIter_enum he ?_
    have I2 : Inv X pins σ H1 { s1 with heap := h' } := I1.kept (t' := s1.toks) hk
    refine ⟨s1.heap.objs.size + 1, [s1.heap.objs.size + 1, s1.heap.objs.size], _, _, H1, rfl, I2, turn_enT (a := a) (e := s1.heap.objs.size + 1) (it := s1.heap.objs.size) (Nat.ne_of_lt (Nat.lt_succ_of_lt hal)) (Nat.ne_of_lt hal), ⟨⟨.none, he⟩, hit, Nat.succ_ne_self _⟩, fun b hb => ?_, q⟩
    have hle : s1.heap.objs.size ≤ b := by
      rcases (show b = s1.heap.objs.size + 1 ∨ b = s1.heap.objs.size by simpa using hb) with z | z
      · rw [z]; exact Nat.le_succ _
      · rw [z]; exact Nat.le_refl _
    exact I1.fpOk hle (I1.hok.fresh hle)
theorem walk_enT {K : PySem.W.Frag} {a : Addr} {xs : List V} : Walk (IteT K a) xs.length (fun H => SqT K H a xs) (YPair (fun i => some (.int (i : Nat))) (fun i => xs[i]?)) :=
  ⟨fun i H hi h => ⟨xs, xs[i], h, by simp [hi]⟩, fun H h => ⟨xs, h, rfl⟩, fun i H x H' hi h y => by
    obtain ⟨T, z, e1, e2, e3, e4⟩ := y
    exact ⟨T, _, z, e1, e2, e3, rfl, e4 xs h⟩⟩
theorem walk_zpT {K : PySem.W.Frag} {a b : Addr} {xs ys : List V} {n : Nat} (hn : n = min xs.length ys.length) : Walk (RZ.ItzT K a b) n (fun H => SqT K H a xs ∧ SqT K H b ys) (YPair (fun i => xs[i]?) (fun i => ys[i]?)) :=
  ⟨fun i H hi h => ⟨xs, ys, xs[i]'(by omega), ys[i]'(by omega), h.1, h.2, List.getElem?_eq_getElem _, List.getElem?_eq_getElem _⟩, fun H h => ⟨xs, ys, h.1, h.2, by omega⟩, fun i H x H' hi h y => by
    obtain ⟨T, u, v, e1, e2, e3, e4, e5⟩ := y
    exact ⟨T, u, v, e1, e2, e3, e4 xs h.1, e5 ys h.2⟩⟩
end Kn
namespace HT
open PySem PySem.Calls PyProof.Rows
section
variable {prog : Program} {w : World} {A : Around} {E : Value → Shared → Prop} {s : Shared}
theorem kn_applied {sl : Addr} {vl vu vs : Value} {n : Nat} {Q : Int × Int × Nat → Shared → Prop} (hs : s.heap.IsSliceOf sl vl vu vs) (pl : IsPart vl none) (pu : IsPart vu none) (ps : IsPart vs (some (-1)))
    (h : Q ((n : Int) - 1, -1, n) s) : wpAny (model prog w) A (Builtin.Slice.sliceApplied (.ref sl) (pure (n : Int))) Q E s := by
  obtain ⟨os, hos, hcs, hds⟩ := id hs
  unfold Builtin.Slice.sliceApplied Builtin.Slice.sliceFields
  refine wpAny_bind (wpAny_bind (wpAny_field hos hds (x := vl) rfl (wpAny_bind (wpAny_field hos hds (x := vu) rfl (wpAny_bind (wpAny_field hos hds (x := vs) rfl (wpAny_pure ?_)))))))
  refine wpAny_bind (slicePart_ ps ?_)
  show wpAny _ _ (if ((-1 : Int) == 0) = true then _ else _) _ _ s
  rw [if_neg (by decide)]
  refine wpAny_bind (slicePart_ pl (wpAny_bind (slicePart_ pu (wpAny_bind (wpAny_pure ?_)))))
  show wpAny _ _ (pure ((n : Int) - 1, (-1 : Int), Builtin.Slice.slicePlaces ((n : Int) - 1) (-1) (-1))) _ _ s
  have e : Builtin.Slice.slicePlaces ((n : Int) - 1) (-1) (-1) = n := by
    unfold Builtin.Slice.slicePlaces
    have h1 : ¬ ((-1 : Int) > 0) := by decide
    simp only [h1, if_false]
    rw [show (- -1 : Int) = 1 by decide, Int.ediv_one]
    split <;> omega
  rw [e]
  exact wpAny_pure h
theorem fm_congr {α β : Type} {f g : α → Option β} : ∀ l : List α, (∀ x ∈ l, f x = g x) → l.filterMap f = l.filterMap g
  | [], _ => rfl
  | x :: l, h => by
    rw [List.filterMap_cons, List.filterMap_cons, h x List.mem_cons_self, fm_congr l fun y hy => h y (List.mem_cons_of_mem _ hy)]
theorem kn_pick (xs : Array Value) : ((List.range xs.size).filterMap fun (m : Nat) => xs[((xs.size : Int) - 1 + (m : Int) * -1).toNat]?).toArray = xs.toList.reverse.toArray := by
  have e : (List.range xs.size).filterMap (fun (m : Nat) => xs[((xs.size : Int) - 1 + (m : Int) * -1).toNat]?) = (((List.range xs.size).map fun k => xs.size - 1 - k).filterMap (xs[·]?)) := by
    rw [List.filterMap_map]
    refine fm_congr _ fun m hm => ?_
    have := List.mem_range.mp hm
    show _ = xs[xs.size - 1 - m]?
    rw [show ((xs.size : Int) - 1 + (m : Int) * -1).toNat = xs.size - 1 - m by omega]
  rw [e, PySem.W.krv_range, List.filterMap_reverse, PySem.W.krv_all]
theorem kn_rev {t sl : Addr} {items : Array Value} {vl vu vs : Value} {Q : Value → Shared → Prop} (ht : IsTup s.heap t items) (hs : s.heap.IsSliceOf sl vl vu vs) (pl : IsPart vl none) (pu : IsPart vu none) (ps : IsPart vs (some (-1)))
    (h : Q (.ref s.heap.objs.size) { s with heap := s.heap.push { cls := .type "tuple", data := .seq items.toList.reverse.toArray } })
    (hsz : items.size ≤ sizeLine) : wpAny (model prog w) A (getItem (.ref t) (.ref sl)) Q E s := by
  have htake : sizeOk (.seq items.toList.reverse.toArray) := by
    show items.toList.reverse.toArray.size ≤ sizeLine
    rw [List.size_toArray, List.length_reverse, Array.length_toList]
    exact hsz
  obtain ⟨os, hos, hcs, hds⟩ := id hs
  have hTs : s.TypeIs (.ref sl) "slice" := ⟨os, hos, hcs⟩
  unfold getItem
  try with_reducible refine (wpAny_holding ?_)
  first | refine (wpAny_bind (wpAny_pure ?_)) | skip
  refine wpAny_bind (wpAny_sequenceKey ht.typeIs (by decide) ?_)
  refine wpAny_bind (wpAny_callSpecial?_slot (name := Str.ofString "__getitem__") ht.typeIs PyProof.Rows.slot_tuple_getitem (wpAny_call_entry PyProof.Rows.slot_tuple_getitem ht.typeIs entry_tuple_getitem ?_ (args_tuple_getitem _ _)))
  show wpAny _ _ (Builtin.Tuple.tupleItemsOf (.ref t) >>= _) _ _ s
  refine wpAny_bind (tupleItemsOf_ ht ?_)
  refine wpAny_bind (wpAny_typeOf hTs ?_)
  rw [if_pos (by decide)]
  refine wpAny_bind (kn_applied hs pl pu ps ?_)
  have hno : ¬ (((items.size : Int) - 1 == 0 && (-1 : Int) == 1 && items.size == items.size) = true) := by
    intro q
    rw [Bool.and_eq_true, Bool.and_eq_true] at q
    exact absurd q.1.2 (by decide)
  show wpAny _ _ (if ((items.size : Int) - 1 == 0 && (-1 : Int) == 1 && items.size == items.size) = true then _ else _) _ _ s
  rw [if_neg hno, kn_pick]
  first
    | exact wpAny_bind (m := Builtin.Tuple.tupleExact _) (wpAny_newObj_type (wpAny_pure ⟨_, rfl, wpAny_pure h⟩) htake)
    | exact wpAny_bind (m := Builtin.Tuple.tupleExact _) (wpAny_newObj_type (wpAny_bind (wpAny_pure (wpAny_pure ⟨_, rfl, wpAny_pure h⟩))) htake)
    | exact wpAny_bind (wpAny_bind (m := Builtin.Tuple.tupleExact _) (wpAny_newObj_type (wpAny_pure (wpAny_pure ⟨_, rfl, wpAny_pure h⟩)) htake))
    | exact wpAny_bind (wpAny_bind (m := Builtin.Tuple.tupleExact _) (wpAny_newObj_type (wpAny_pure ⟨_, rfl, wpAny_pure h⟩) htake))
end
end HT
namespace Kn
open PySem PySem.Spec PyProof.Rows L2
section
variable {X : Cx}
/-! t[::-1] of a tuple -/
/-- what x[::-1] is, of one kind of things -/
def RevR (X : Cx) (r : V → Hp → VK → Prop) : Prop := ∀ (pins : List (Addr × Obj)) (s : Shared) (σ : L2.St) (H : Hp) (x : V) (v : Value) (sl : Addr) (lo up st : Value) (Q : VK), Inv X pins σ H s → RelV x v → s.heap.IsSliceOf sl lo up st → IsPart lo none → IsPart up none → IsPart st (some (-1)) → r x H Q →
  ∃ (T g : String), typeLookup (.type T) "__getitem__" = pure (some (.builtin g)) ∧ s.TypeIs v T ∧ wpAny (model X.prog X.w) X.A (getItem v (.ref sl)) (EP X pins σ Q) X.xe s
def tRev (r : V → Hp → VK → Prop) (te : TE) : TE := fun σ H Q => te σ H fun x H1 => r x H1 Q
theorem pe_rev {r : V → Hp → VK → Prop} {e : Expr} {te : TE} {k : Nat} {a1 a2 a3 pos : Pos} (hr : RevR X r) (he : PE X e te) : PE X (.Subscript e (.Slice none none (some (.UnaryOp .USub (.Constant (.int 1) k a1) a2)) a3) pos) (tRev r te) := by
  refine ⟨fun pins s σ H Q J want => Subscript_ (thn (he.run pins s σ H _ J want) fun v s1 ⟨x, G, J1, rx, hx⟩ => ?_)⟩
  refine wpAny_Slice (thn (po_none.run pins s1 σ G (fun y K => y = none ∧ K = G) J1 ⟨rfl, rfl⟩) fun lo s2 ⟨y1, G1, J2, i1, z1⟩ => ?_)
  obtain ⟨rfl, rfl⟩ := z1
  refine thn (po_none.run pins s2 σ G1 (fun y K => y = none ∧ K = G1) J2 ⟨rfl, rfl⟩) fun up s3 ⟨y2, G2, J3, i2, z2⟩ => ?_
  obtain ⟨rfl, rfl⟩ := z2
  refine thn ((po_some (pe_un un_neg pe_int)).run pins s3 σ G2 (fun y K => y = some (-1) ∧ K = G2) J3 ⟨1, rfl, -1, rfl, rfl, rfl⟩) fun st s4 ⟨y3, G3, J4, i3, z3⟩ => ?_
  obtain ⟨rfl, rfl⟩ := z3
  obtain ⟨T, g, l1, l2, l3⟩ := hr pins { s4 with heap := s4.heap.push { cls := .type "slice", data := .fields #[lo, up, st] } } σ G3 x v s4.heap.objs.size lo up st Q (J4.kept (t' := s4.toks) fun b o e => Heap.get?_push_of_some _ e) rx (Heap.IsSliceOf.new _ lo up st) i1 i2 i3 hx
  exact tail_any (ops := [v, .ref s4.heap.objs.size]) l2 l1 l3 (by with_unfolding_all rfl)
/-- of a tuple: a new tuple -/
theorem rev_tup : RevR X (fun x H Q => ∃ a xs, x = .ref a ∧ SqT X.K H a xs ∧ ∀ p, H p = none → Q (.ref p) (upd H p (.tup xs.reverse))) := by
  intro pins s σ H x v sl lo up st Q J rx hs h1 h2 h3 want
  obtain ⟨a, xs, rfl, sq, q⟩ := want
  obtain rfl : v = .ref a := rx
  obtain ⟨its, rv, ht, hz⟩ := J.tuple sq
  refine ⟨"tuple", _, PyProof.Rows.slot_tuple_getitem.lookup, ht.typeIs, HT.kn_rev ht hs h1 h2 h3 ⟨.ref _, _, J.laid (t' := s.toks) (o := .tup xs.reverse) (fun b o e => Heap.get?_push_of_some _ e) (Nat.le_refl _) ?_, rfl, q _ (J.hok.fresh (Nat.le_refl _))⟩ (by rw [List.size_toArray, ← rv.length]; exact hz)⟩
  exact ⟨by rw [List.length_reverse]; exact hz, its.reverse, rv.reverse, IsTup.new _ _⟩
/-- of a tuple: a new tuple without a dict -/
theorem rev_tupD : RevR X (fun x H Q => ∃ a xs, x = .ref a ∧ SqT X.K H a xs ∧ ∀ p o, H p = none → o.cls = .type "tuple" → o.dict = none → Q (.ref p) (upd H p (.frz o (.tup xs.reverse)))) := by
  intro pins s σ H x v sl lo up st Q J rx hs h1 h2 h3 want
  obtain ⟨a, xs, rfl, sq, q⟩ := want
  obtain rfl : v = .ref a := rx
  obtain ⟨its, rv, ht, hz⟩ := J.tuple sq
  refine ⟨"tuple", _, PyProof.Rows.slot_tuple_getitem.lookup, ht.typeIs, HT.kn_rev ht hs h1 h2 h3 ⟨.ref _, _, J.laid (t' := s.toks) (o := .frz { cls := .type "tuple", data := .seq its.reverse.toArray } (.tup xs.reverse)) (fun b o e => Heap.get?_push_of_some _ e) (Nat.le_refl _) ?_, rfl, q _ _ (J.hok.fresh (Nat.le_refl _)) rfl rfl⟩ (by rw [List.size_toArray, ← rv.length]; exact hz)⟩
  exact ⟨Heap.get?_push_size _ rfl, by rw [List.length_reverse]; exact hz, its.reverse, rv.reverse, IsTup.new _ _⟩
abbrev tRevT (K : PySem.W.Frag) (te : TE) : TE := tRev (fun x H Q => ∃ a xs, x = .ref a ∧ SqT K H a xs ∧ ∀ p, H p = none → Q (.ref p) (upd H p (.tup xs.reverse))) te
theorem pe_revT {e : Expr} {te : TE} {k : Nat} {p1 p2 p3 pos : Pos} (he : PE X e te) : PE X (.Subscript e (.Slice none none (some (.UnaryOp .USub (.Constant (.int 1) k p1) p2)) p3) pos) (tRevT X.K te) := pe_rev rev_tup he
/-! sorted(a list or a tuple of texts) -/
def rSortT (K : PySem.W.Frag) : List V → Hp → VK → Prop := fun vs H Q => ∃ (a : Addr) (xs : List Str), vs = [V.ref a] ∧ (SqL K H a (xs.map V.str) ∨ SqT K H a (xs.map V.str)) ∧ xs.length < 64 ∧
  ∀ (ys : List Str) (p : Addr), ys.Perm xs → sortedS ys = true → H p = none → Q (.ref p) (upd H p (.lst (ys.map V.str)))
theorem cr_sortT2 : CallR X (.builtin "sorted") (rSortT X.K) := by
  intro pins s σ H args us Q J rel want
  obtain ⟨a, xs, rfl, sq, few, q⟩ := want
  rw [Vals.ref1 rel]
  have seq : ∃ (T : String) (ob : Obj) (m : Nat) (its : List Value), (T = "list" ∨ T = "tuple") ∧ s.heap.get? a = some ob ∧ ob.cls = .type T ∧ ob.data = .seq its.toArray m ∧ Vals (xs.map V.str) its := by
    rcases sq with sq | sq
    · obtain ⟨its, rv, ⟨ob, m, h1, h2, _, h4⟩, _⟩ := J.list sq
      exact ⟨"list", ob, m, its, .inl rfl, h1, h2, h4, rv⟩
    · obtain ⟨its, rv, ⟨ob, h1, h2, m, h4⟩, _⟩ := J.tuple sq
      exact ⟨"tuple", ob, m, its, .inr rfl, h1, h2, h4, rv⟩
  obtain ⟨T, ob, m, its, hT, ho, hc, hd, rv⟩ := seq
  have il : its.length = xs.length := by rw [← rv.length, List.length_map]
  have tx : StrsAre its xs := rv.strs
  refine Calls.call_function_entry kind_sorted plain_sorted entry_sorted (args_sorted1 _) (show wpAny _ _ (Builtin.«sorted» _) _ _ _ from ?_)
  unfold Builtin.«sorted»
  refine wpAny_bind (m := checkCount "sorted" 1 1 _) (wpAny_pure (wpAny_bind (wpAny_collect_seq a hT ho hc hd (fun g up => ?_) (by rw [List.size_toArray, sizeLine_eq]; omega))))
  have J1 : Inv X pins σ H { s with heap := g } := J.kept (t' := s.toks) up
  refine wpAny_bind (wpAny_newList ?_ (by rw [List.toList_toArray, sizeLine_eq]; omega))
  rw [List.toList_toArray]
  have at0 : (g.push (seqObj "list" its.toArray 0)).get? g.objs.size = some (seqObj "list" its.toArray 0) := Heap.get?_push_size _ rfl
  refine wpAny_bind (wpAny_holding (wpAny_call_entry slot_list_sort ⟨_, at0, rfl⟩ entry_list_sort (list_sort_treeK strKind_oneLt at0 tx.keysOf (fun v₁ v₂ more e => keyKind_strs (by rw [← e]; exact tx)) (by omega) fun st pm so => ⟨_, rfl, ?_⟩) (args_list_sort _)))
  obtain ⟨zs, z1, z2, z3⟩ := sorted_out_str tx pm so
  obtain ⟨c, atE⟩ := sortedHeap_at (vs := its) (out := (arrOf st).map (·.2)) at0
  have old : ∀ b u, g.get? b = some u → (sortedHeap (g.push (seqObj "list" its.toArray 0)) g.objs.size its ((arrOf st).map (·.2))).get? b = some u := fun b u e => by
    have lt := Heap.lt_size e
    rw [sortedHeap_old (Nat.ne_of_lt lt) (by rw [size_push']; exact Nat.lt_succ_of_lt lt)]
    exact Heap.get?_push_of_some _ e
  have fit : (zs.map V.str).length ≤ sizeLine := by rw [List.length_map, z2.length_eq, sizeLine_eq]; omega
  exact wpAny_pure ⟨_, rfl, .ref g.objs.size, upd H g.objs.size (.lst (zs.map V.str)), J1.laid (t' := s.toks) old (Nat.le_refl _) ⟨fit, _, c, vals_of_strs z1, atE⟩, rfl, q zs _ z2 z3 (J1.hok.fresh (Nat.le_refl _))⟩
/-! repr of data, where no repr is under way -/
theorem cr_repr (hg : X.A.guards = some []) (hu : X.A.units + 64 < cLine) : CallR X (.builtin "repr") (fun vs H Q => ∃ (x : V) (d : PyData), vs = [x] ∧ Dp X.K H x d ∧ isDisplay d = true ∧ d.showable = true ∧ d.hasDict = false ∧ d.depth ≤ 60 ∧ d.shown.length ≤ sizeLine ∧ Q (.str d.shown) H) := by
  intro pins s σ H vs us Q I r h
  obtain ⟨x, d, rfl, hd, hD, hs, hn, hdp, hz, q⟩ := h
  obtain ⟨u, rfl, ru⟩ := vals1 r
  obtain ⟨as, hr⟩ := Dp.reads I d x u hd ru
  obtain ⟨a, rfl⟩ := isRef_of_reads hr hD
  refine repr_of_reads' hr hs (PyData.noDict_hsm hn) hg (by omega) (fun _ _ e => e) (fun h' t tk hk => ?_) hz
  exact ⟨.str d.shown, H, I.kept (t' := tk) hk, ⟨_, rfl⟩, q⟩
end
end Kn
namespace Kn
open PySem PySem.Spec PyProof.Rows L2
/-! a def's promise where no repr is under way -/
structure FnG (P : Program) (w : World) (K : PySem.W.Frag) (mg : Str → Option Value) (base : Heap) (CX : CXT) (k : Nat) (f : Addr) (fd : FuncData) (ps : List Str) (sp : Sp) : Prop where
  len : ∀ vs H Q E, sp vs H Q E → vs.length = ps.length
  run : ∀ (A : Around) (outer : List Env) (s : Shared) (H : Hp) (args : Args) (us : List Value) (vs : List V) (Q : VK) (E : XK), A.guards = some [] → Room k A → Env0 P w K mg base A outer s H →
    BindsTo s fd args (ps.zip us) → Vals vs us → sp vs H Q E → codeAny (model P w) A (.call (.ref f) args) (CR CX outer P w H s Q E) s
section
variable {P : Program} {w : World} {K : PySem.W.Frag} {mg : Str → Option Value} {base : Heap}
theorem okG {x qual : Str} {st : Stmt} {f : Addr} {fd : FuncData} {N ps : List Str} {k : Nat} {sp : Sp} (F : Fun K x qual st f fd) (S : FnScope N ps (defScope st)) (len : ∀ vs H Q E, sp vs H Q E → vs.length = ps.length)
    (hbody : ∀ (cdv : Value) (A : Around) (outer : List Env) (s : Shared) (H : Hp) (vs : List V) (Q : VK) (E : XK), A.guards = some [] → Room k (A.deeper (envOfC qual (defScope st) s.heap.objs.size f cdv)) → sp vs H Q E →
      ∃ t, PSs (cxOf CX0 P w K mg base N qual (defScope st) f cdv A outer s H E).nox (defBody st) t ∧ t { nx := fun _ H' => Q .non H', rt := Q } (start N vs) H) : FnG P w K mg base CX0 (k + 1) f fd ps sp := by
  obtain ⟨oc, od, kV, doc, pm, an, cdv, ct, osl, rfl, lk, hcd⟩ := F.ex
  refine ⟨len, fun A outer s H args us vs Q E hg hr e0 hb r hsp => ?_⟩
  have hin : K.In s.heap := e0.mod.kin.keeps fun b o e => (e0.bs b o e).1
  have hno : s.heap.NoLimit := e0.mod.nolimit.keeps fun b o e => (e0.bs b o e).1
  have hkd : ∀ y ∈ ps.zip us, (defScope st).names.lookup y.1 = some .local ∨ ((defScope st).names.lookup y.1 = some .cell ∧ ((cellsFrom (s.heap.objs.size + 1) (defScope st).names []).lookup y.1).isSome = true) := by
    rintro ⟨n, v⟩ hy
    rcases S.par n (List.of_mem_zip hy).1 with q | q
    · exact .inl q
    · exact .inr ⟨q, PySem.W.cellsFrom_some _ _ _ (.inl q)⟩
  refine codeAny_call_function hr.depth (hin _ _ lk) rfl S.co S.gen rfl (PySem.W.codeRec_of hin hcd) (hb _ _ _ _ ?_)
  refine wpAny_newFunctionEnv_cells S.kind hkd fun env he s1 z => ?_
  subst he
  refine ⟨hno.keeps z.toInCall.keep, codeAny_func ?_⟩
  obtain ⟨t, ht, hq⟩ := hbody cdv A outer s H vs Q E hg (hr.deeper _) hsp
  have I := inv_start (CX := CX0) (E := E) S hr.hd e0 (len _ _ _ _ hsp) r z
  refine wpAny_mono (ht.nox.run [] s1 (start N vs) H _ I hq) (fun fl s' hs => ?_) fun e s' hs => hs
  cases fl with
  | ret u =>
    obtain ⟨v, σ', H', J, rv, q⟩ := hs
    exact (show CE outer P w H s Q u s' from ⟨v, H', J.os, J.bare, J.base, J.hok, rv, q⟩)
  | next =>
    obtain ⟨σ', H', J, q⟩ := hs
    exact (show CE outer P w H s Q .none s' from ⟨.non, H', J.os, J.bare, J.base, J.hok, rfl, q⟩)
  | brk => exact hs.elim fun _ h => h.elim fun _ h => h.2.elim
  | cont => exact hs.elim fun _ h => h.elim fun _ h => h.2.elim
/-! f(e, ..) by such a promise -/
theorem pe_callG {X : Cx} {CX : CXT} {k : Nat} {f : Addr} {fd : FuncData} {ps : List Str} {sp : Sp} {E : XK} {x : Str} {p pos : Pos} {e : Expr} {es : List Expr} {t : TA} (hgd : X.A.guards = some []) (F : FnG X.prog X.w X.K X.mg X.base CX k f fd ps sp) (hr : Room k X.A) (hg : Gl X x) (hm : X.mg x = some (.ref f)) (hk : PySem.W.keepIn X.K (.ref f) = true) (hb : Binds X.K fd ps []) (hx : Passes CX X E)
    (ha : PA X (e :: es) t) (hdb : (x == ("__debug__" : Str)) = false := by decide) (he : starEach (e :: es) X.env = (false, eval e X.env) :: starEach es X.env := by rfl) (hpl : (backTo pos (starEach es X.env)).any (·.1) = false := by rfl) :
    PE X (.Call (.Name x p) (e :: es) [] pos) (tCall sp [] E t) := by
  refine ⟨fun pins s σ H Q I h => ?_⟩
  refine wpAny_Call_Name_kw (ld_glob I hg hm ?_ hdb)
  refine PySem.W.callWith_K (h₀ := X.base) I.ok.mod.kin hk (thn (ha.run pos pins s σ H _ I h) fun us s1 ⟨vs, H1, I1, r, q⟩ => ⟨I1.kIn, ?_⟩) he hpl
  have r2 : Vals (vs ++ []) (us ++ []) := r.append .nil
  have hl : (us ++ []).length = ps.length := r2.length.symm.trans (F.len _ _ _ _ q)
  refine wpAny_call (codeAny_mono (F.run X.A X.stack s1 H1 ⟨us, []⟩ (us ++ []) (vs ++ []) Q E hgd hr I1.env0 (hb s1 us I1.kIn hl) r2 q) fun r s' hq => ?_)
  cases r with
  | error e => exact hx pins σ H1 s1 e s' I1 hq
  | ok fl =>
    cases fl with
    | ret u => exact I1.after hq
    | next => exact (show False from hq).elim
    | brk => exact (show False from hq).elim
    | cont => exact (show False from hq).elim
/-! f(k = e, ..), nothing by place -/
theorem pe_callK0 {X : Cx} {CX : CXT} {k : Nat} {f : Addr} {fd : FuncData} {ps ks : List Str} {sp : Sp} {E : XK} {x : Str} {p pos : Pos} {kws : List Keyword} {tk : TA} {g : List Value → List Value → List Value} {gV : List V → List V → List V}
    (F : FnOk X.prog X.w X.K X.mg X.base CX k f fd ps sp) (hr : Room k X.A) (hg : Gl X x) (hm : X.mg x = some (.ref f)) (hk : PySem.W.keepIn X.K (.ref f) = true) (hb : KBinds X.K fd ps ks g gV) (hx : Passes CX X E)
    (hkw : PK X kws tk) (hall : (backToKw pos (keywordEach kws X.env)).all (·.1.isSome) = true := by rfl) (hks : (backToKw pos (keywordEach kws X.env)).filterMap (·.1) = ks := by rfl)
    (hdb : (x == ("__debug__" : Str)) = false := by decide) (hpl : ((backTo pos (starEach [] X.env)).any (·.1) || (backToKw pos (keywordEach kws X.env)).any (·.1.isNone)) = false := by rfl) :
    PE X (.Call (.Name x p) [] kws pos) (fun σ H Q => tk σ H fun zs H2 => sp (gV [] zs) H2 Q E) := by
  refine ⟨fun pins s σ H Q I h => ?_⟩
  refine wpAny_Call_Name_kw (ld_glob I hg hm ?_ hdb)
  refine PySem.W.callWith_KW0 (h₀ := X.base) I.ok.mod.kin hk hall (thn (hkw.run pos pins s σ H _ I h) fun ws s2 ⟨zs, H2, I2, rz, q2⟩ => ⟨I2.kIn, ?_⟩) hpl
  rw [hks]
  exact run_fnk (us := []) (vs := []) F hr hb hx I2 .nil rz q2
def perm {α : Type} (is : List Nat) (l : List α) : List α := is.filterMap (l[·]?)
theorem perm_vals : ∀ (is : List Nat) {zs : List V} {ws : List Value}, Vals zs ws → Vals (perm is zs) (perm is ws)
  | [], _, _, _ => .nil
  | i :: is, zs, ws, r => by
    have ih := perm_vals is r
    unfold perm at ih ⊢
    rw [List.filterMap_cons, List.filterMap_cons]
    cases e : zs[i]? with
    | none =>
      have e2 : ws[i]? = none := by
        rw [List.getElem?_eq_none_iff] at e ⊢
        have := r.length
        omega
      rw [e2]
      exact ih
    | some v =>
      obtain ⟨u, hu, ru⟩ := r.get e
      rw [hu]
      exact .cons ru ih
def onlyK {α : Type} (is : List Nat) : List α → List α → List α
  | [], ws => perm is ws
  | _ :: _, _ => []
theorem kbinds {x qual : Str} {st : Stmt} {f : Addr} {fd : FuncData} {p0 : Str} {ps ks : List Str} (is : List Nat) (F : Fun K x qual st f fd)
    (h : ∀ (kV doc pm : Value) (an : Option Addr) (cdv ct : Value) (ws : List Value), (perm is ws).length = (p0 :: ps).length → bindArgs (PySem.W.fnOf x qual (defArgs st) (defBody st) (defScope st) .none kV doc pm an cdv ct) ⟨[], ks.zip ws⟩ = pure ((p0 :: ps).zip (perm is ws))) :
    KBinds K fd (p0 :: ps) ks (onlyK is) (onlyK is) := by
  obtain ⟨oc, od, kV, doc, pm, an, cdv, ct, osl, rfl, lk, hcd⟩ := F.ex
  refine ⟨fun s us ws _ hl => ?_, fun {vs us zs ws} r rz => ?_⟩
  · cases us with
    | nil => exact .of_eq (h kV doc pm an cdv ct ws hl)
    | cons u us => cases hl
  · cases r with
    | nil => exact perm_vals is rz
    | cons _ _ => exact .nil
/-! the end of a law whose promise is such -/
theorem lawG {l : PySem.W.OpenLaw} {n k : Nat} {q : Program} {loose : List Str} {XP : (Str → Option Value) → Heap → Prop} {YP : World → Heap → Prop} {d : DefRec} {KK : Params → PySem.W.Frag} {x : Str} {sp : World → Sp}
    (hn : l.most = some n) (hn2 : n ≤ sizeLine) (hdf : d.params.defaults = []) (hr : Room k callerA) (hY : ∀ (w : World) (h : Heap), YP w h → (KK w.params).In h)
    (F : ∀ (w : World) (mg : Str → Option Value) (fa : Addr) (h : Heap), (KK w.params).In h → h.Ns mainGlobals mg → mg d.name = some (.ref fa) →
      ∃ fd : FuncData, (∀ (s : Shared) (u : Value), BindsTo s fd ⟨[u], []⟩ [(x, u)]) ∧ ∀ base : Heap, (KK w.params).In base → base.Ns mainGlobals mg → FnG l.prog w (KK w.params) mg base CX0 k fa fd [x] (sp w))
    (hsp : ∀ (w : World) (H : Hp) (a : Addr) (ns : List Int), ns.length ≤ n → Only H → SqL (KK w.params) H a (ns.map V.int) → sp w [.ref a] H (fun v _ => v = .bl true) fun _ _ _ => False) :
    PySem.W.WalkO q loose XP YP l.row.toRowW d [] (fun f vs => PySem.call f vs) := by
  refine Att.attach_callB hn hdf fun w s₀ s₁ mg mb fa o pm cd doc a vs ns G Y ho hd hcd hmg ha hi hlen hbits hgn => ?_
  have hK := hY w _ Y
  obtain ⟨fd, hbind, hF⟩ := F w mg fa _ hK G.T.g hmg
  have hl := Nat.le_trans hlen hn2
  have rv := vals_ints hi
  have key : ∀ H : Hp, Only H → SqL (KK w.params) H a (ns.map V.int) → HOk l.prog w H s₁.heap → (∀ b, H b ≠ none → b = a) → (H a ≠ none → (KK w.params).lookup a = none) →
      codeAny (model l.prog w) callerA (.call (.ref fa) ⟨[.ref a], []⟩) (fun r s' => r = .ok (.ret (.bool true)) ∧ OldK s₁.heap s'.heap ∧ s'.os = s₁.os ∧ AllBare s'.gens) s₁ := by
    intro H hO hS hok hA hKn
    have free : ∀ {b : Addr} {o : Obj} {es : Array DictEntry} {ep : Nat}, s₁.heap.get? b = some o → o.data = .dict es ep → H b = none := fun {b o es ep} e dd => by
      cases z : H b with
      | none => rfl
      | some u =>
        obtain rfl : b = a := hA b (by rw [z]; exact fun h => nomatch h)
        rw [ha] at e
        cases e
        exact nomatch (show Data.seq vs.toArray _ = Data.dict es ep from dd)
    have ns' : ∀ {b : Addr} {m : Str → Option Value}, s₁.heap.Ns b m → (hidT s₁.heap H).Ns b m := fun {b m} ⟨o, es, ep, e, dd, r⟩ => ⟨o, es, ep, hidT_get e (free e dd), dd, r⟩
    have kb : (KK w.params).In (hidT s₁.heap H) := fun b o e => hidT_get (hK b o e) (by
      cases z : H b with
      | none => rfl
      | some u =>
        obtain rfl : b = a := hA b (by rw [z]; exact fun h => nomatch h)
        rw [hKn (by rw [z]; exact fun h => nomatch h)] at e
        cases e)
    have hM : Mod (KK w.params) mg (hidT s₁.heap H) := ⟨kb, ns' G.T.g, ⟨mb, ns' G.T.b, G.T.builtins⟩, let ⟨mc, h1, h2⟩ := G.T.nolimit; ⟨mc, ns' h1, h2⟩⟩
    have e0 : Env0 l.prog w (KK w.params) mg (hidT s₁.heap H) callerA [] s₁ H := ⟨rfl, hM, fun b o e => of_hidT e, Nat.le_of_eq (hidT_size _ _), trivial, (fun b hb => absurd (show b ∈ ([] : List Addr) from hb) List.not_mem_nil), hok, .of_eq hgn⟩
    refine codeAny_mono ((hF _ kb (ns' G.T.g)).run callerA [] s₁ H ⟨[.ref a], []⟩ [.ref a] [.ref a] _ _ rfl hr e0 (hbind s₁ (.ref a)) (.cons rfl .nil) (hsp w H a ns hlen hO hS)) fun r s' h => ?_
    cases r with
    | error e => exact (show False from h).elim
    | ok fl =>
      cases fl with
      | next => exact (show False from h).elim
      | brk => exact (show False from h).elim
      | cont => exact (show False from h).elim
      | ret u =>
        obtain ⟨v, H', os, bare, un, hok', r', z⟩ := h
        obtain rfl : v = .bl true := z
        obtain rfl : u = Value.bool true := r'
        refine ⟨rfl, OldK.of_keep fun b o e => ?_, os, bare⟩
        cases z : H b with
        | none => exact un.keep b o e z (fun y => nomatch (show b ∈ ([] : List Addr) from y)) (fun y => nomatch y)
        | some u =>
          rcases hO b with y | ⟨ob, xs, y⟩
          · rw [z] at y
            cases y
          · obtain ⟨e1, _⟩ := hok b _ y
            obtain ⟨e2, _⟩ := hok' b _ (un.frzs b ob _ y)
            rw [e] at e1
            cases e1
            exact e2
  cases hk : (KK w.params).lookup a with
  | some o =>
    have e := hK a o hk
    rw [ha] at e
    cases e
    exact key (fun _ => none) (fun _ => .inl rfl) (.inr ⟨_, vs.toArray, _, hk, rfl, rfl, rfl, by rw [List.size_toArray, hi.length]; exact hl, by simpa using rv⟩) (fun b u z => nomatch (show (none : Option HO) = some u from z)) (fun b z => absurd rfl z) fun z => absurd rfl z
  | none =>
    refine key (fun b => if b = a then some (.frz { cls := .type "list", data := .seq vs.toArray } (.lst (ns.map V.int))) else none) (fun b => ?_) (.inl (.inr ⟨{ cls := .type "list", data := .seq vs.toArray }, if_pos rfl⟩)) (fun b u z => ?_) (fun b z => ?_) fun _ => hk
    · by_cases hb : b = a
      · exact .inr ⟨_, _, if_pos hb⟩
      · exact .inl (if_neg hb)
    · by_cases hb : b = a
      · have z' := (if_pos hb).symm.trans z
        cases z'
        subst hb
        exact ⟨ha, by rw [List.length_map]; exact hl, vs, _, rv, ha⟩
      · exact nomatch (if_neg hb).symm.trans z
    · by_cases hb : b = a
      · exact hb
      · exact absurd (if_neg hb) z
end
end Kn
namespace Kn
open PySem PySem.Spec PyProof.Rows L2
/-! data, and what is kept of it -/
theorem sqT_same {K : PySem.W.Frag} {H H' : Hp} {a : Addr} {xs : List V} (e : Same H H') (h : SqT K H a xs) : SqT K H' a xs := by
  rcases h with (h | ⟨o, h⟩) | h
  · exact .inl (.inl (e _ _ h))
  · exact .inl (.inr ⟨o, e _ _ h⟩)
  · exact .inr h
mutual
theorem dp_same {K : PySem.W.Frag} {H H' : Hp} (e : Same H H') : ∀ {d : PyData} {x : V}, Dp K H x d → Dp K H' x d
  | _, _, .non => .non
  | _, _, .bl b => .bl b
  | _, _, .int i => .int i
  | _, _, .str x => .str x
  | _, _, .lst h hs => .lst (e.seq h) (dpA_same e hs)
  | _, _, .tup h hs => .tup (sqT_same e h) (dpA_same e hs)
theorem dpA_same {K : PySem.W.Frag} {H H' : Hp} (e : Same H H') : ∀ {ds : List PyData} {xs : List V}, DpAll K H xs ds → DpAll K H' xs ds
  | _, _, .nil => .nil
  | _, _, .cons h hs => .cons (dp_same e h) (dpA_same e hs)
end
theorem dpA_len {K : PySem.W.Frag} {H : Hp} : ∀ {ds : List PyData} {xs : List V}, DpAll K H xs ds → xs.length = ds.length
  | _, _, .nil => rfl
  | _, _, .cons _ hs => by rw [List.length_cons, List.length_cons, dpA_len hs]
theorem dpA_get {K : PySem.W.Frag} {H : Hp} : ∀ {ds : List PyData} {xs : List V} {i : Nat} {x : V}, DpAll K H xs ds → xs[i]? = some x → ∃ d, ds[i]? = some d ∧ Dp K H x d
  | _, _, _, _, .nil, e => by simp at e
  | _, _, 0, _, .cons h _, e => by
    cases (show some _ = some _ from e)
    exact ⟨_, rfl, h⟩
  | _, _, i + 1, _, .cons _ hs, e => by
    obtain ⟨d, h1, h2⟩ := dpA_get (i := i) hs (by simpa using e)
    exact ⟨d, by simpa using h1, h2⟩
theorem dpA_map {K : PySem.W.Frag} {H : Hp} {α : Type} (f : α → V) (g : α → PyData) (h : ∀ a, Dp K H (f a) (g a)) : ∀ l : List α, DpAll K H (l.map f) (l.map g)
  | [] => .nil
  | a :: l => .cons (h a) (dpA_map f g h l)
def tyN : PyData → String
  | .none => "NoneType"
  | .bool _ => "bool"
  | .int _ => "int"
  | .str _ => "str"
  | .list _ => "list"
  | .tuple _ => "tuple"
  | .dict _ => "dict"
theorem dp_ty {K : PySem.W.Frag} {H : Hp} {x : V} {d : PyData} (h : Dp K H x d) : TyX K H x (.type (tyN d)) := by
  cases h with
  | non => exact .base .non
  | bl b => exact .base (.bl b)
  | int i => exact .base (.int i)
  | str s => exact .base (.str s)
  | lst h _ =>
    rcases h with (h | ⟨o, h⟩) | h
    · exact .base (.lst h)
    · exact .base (.frz h)
    · obtain ⟨o, its, n, e, c, _⟩ := h
      exact .kList e c
  | tup h _ =>
    rcases h with (h | ⟨o, h⟩) | h
    · exact .base (.tup h)
    · exact .fTuple h
    · obtain ⟨o, its, n, e, c, _⟩ := h
      exact .kTuple e c
theorem isi_of {K : PySem.W.Frag} {H : Hp} {x : V} {d : PyData} {T : String} {b : Bool} {Q : VK} (h : Dp K H x d) (hb : kitB (tyN d) T = some b) (q : Q (.bl b) H) : rIsi K [x, .ty T] H Q :=
  ⟨x, .ty T, _, _, b, rfl, .ty T, dp_ty h, kit_ty hb, q⟩
theorem isiLT {K : PySem.W.Frag} {H : Hp} {x : V} {d : PyData} {b1 b2 : Bool} {tp : Addr} {S T : String} {Q : VK} (h : Dp K H x d) (ht : H tp = some (.tup [.ty S, .ty T])) (h1 : kitB (tyN d) S = some b1) (h2 : kitB (tyN d) T = some b2) (q : Q (.bl (b1 || b2)) H) : rIsiT K [x, .ref tp] H Q := by
  refine ⟨x, tp, _, _, [.type S, .type T], b1 || b2, rfl, ht, .cons (.ty S) (.cons (.ty T) .nil), dp_ty h, ?_, q⟩
  refine kitAny_cons (kit_ty h1) (fun e => ?_) (fun e => by rw [e]; rfl)
  rw [e, Bool.false_or]
  exact kitAny_cons (kit_ty h2) (fun e2 => by rw [e2]; rfl) fun e2 => e2
theorem kit2 {K : PySem.W.Frag} {t S T : String} {b1 b2 : Bool} (h1 : kitB t S = some b1) (h2 : kitB t T = some b2) : PySem.W.kitAny K (.type t) [.type S, .type T] = some (b1 || b2) := by
  refine kitAny_cons (kit_ty h1) (fun e => ?_) (fun e => by rw [e]; rfl)
  rw [e, Bool.false_or]
  exact kitAny_cons (kit_ty h2) (fun e2 => by rw [e2]; rfl) fun e2 => e2
/-- of at most n levels, of at most a hundred thousand things each -/
def Sm : Nat → PyData → Prop
  | n + 1, .list ds => ds.length ≤ 100000 ∧ ∀ d ∈ ds, Sm n d
  | n + 1, .tuple ds => ds.length ≤ 100000 ∧ ∀ d ∈ ds, Sm n d
  | 0, .list _ => False
  | 0, .tuple _ => False
  | _, .dict _ => False
  | _, _ => True
/-! a comprehension that makes, or leaves out, one thing a turn, and leaves what stands -/
section
variable {J : It} {n : Nat} {G : Hp → Prop} {Y : Nat → Hp → V → Hp → Prop}
theorem lc_fm (wk : Walk J n G Y) {g : TG} {tt : TT} {te : TE} {vs : List Nat} {σ : L2.St} {H1 : Hp} {D : Addr} {Qd : Hp → Prop} (f : Nat → Option V) (hD : H1 D = none) (hz : n < sizeLine) (hG : ∀ H, Same H1 H → G H)
    (hs : ∀ i x H H' (R : Option V → Hp → Prop), i < n → Same H1 H → H D = some (.lst ((List.range i).filterMap f)) → Y i H x H' → (∀ H4, Same H H4 → R (f i) H4) →
      g x (wipe σ vs) H' fun σ2 H2 => wipe σ2 vs = wipe σ vs ∧ tt σ2 H2 fun b H3 => if b = true then te σ2 H3 fun y H4 => R (some y) H4 else R none H3)
    (hd : ∀ H, Same H1 H → H D = some (.lst ((List.range n).filterMap f)) → Qd H) :
    ∃ W : Nat → Nat → Hp → Prop, (∃ m, W 0 m (upd H1 D (.lst []))) ∧ ∀ i m H, W i m H →
      (J.stop i H ∧ Qd H) ∨ (J.go i H ∧ ∃ Nx : Hp → Prop, (∀ H', Nx H' → ∃ m', m' < m ∧ W (i + 1) m' H') ∧ ∀ x H', J.yld i H x H' → g x (wipe σ vs) H' fun σ2 H2 => wipe σ2 vs = wipe σ vs ∧
        tt σ2 H2 fun b H3 => if b = true then te σ2 H3 fun y H4 => ∃ acc, H4 D = some (.lst acc) ∧ acc.length < sizeLine ∧ Nx (upd H4 D (.lst (acc ++ [y]))) else Nx H3) := by
  refine lc_it wk (fun i H => Same H1 H ∧ H D = some (.lst ((List.range i).filterMap f))) ⟨same_new hD, upd_same⟩ (fun i H _ h => hG H h.1) (fun i x H H' hi h y => ?_) (fun H h => hd H h.1 h.2)
  refine hs i x H H' (fun o H4 => match o with | some y => ∃ acc, H4 D = some (.lst acc) ∧ acc.length < sizeLine ∧ Same H1 (upd H4 D (.lst (acc ++ [y]))) ∧ (upd H4 D (.lst (acc ++ [y]))) D = some (.lst ((List.range (i + 1)).filterMap f)) | none => Same H1 H4 ∧ H4 D = some (.lst ((List.range (i + 1)).filterMap f))) hi h.1 h.2 y fun H4 s4 => ?_
  have e1 : (List.range (i + 1)).filterMap f = (List.range i).filterMap f ++ (f i).toList := by
    rw [List.range_succ, List.filterMap_append]
    cases e : f i with
    | none => rw [List.filterMap_cons, e]; rfl
    | some v => rw [List.filterMap_cons, e]; rfl
  have hl : ((List.range i).filterMap f).length ≤ i := by
    have := List.length_filterMap_le f (List.range i)
    rw [List.length_range] at this
    exact this
  rw [e1]
  cases e : f i with
  | none => exact ⟨h.1.trans s4, by rw [s4 _ _ h.2]; simp⟩
  | some v =>
    refine ⟨_, s4 _ _ h.2, by omega, fun b o eb => ?_, upd_same⟩
    rw [upd_ne (ne_of_none eb hD)]
    exact s4 _ _ (h.1 _ _ eb)
end
end Kn
namespace Kn
open PySem PySem.Spec PyProof.Rows L2
def topS (i : Nat) : Stmt := PySem.Challenge.pw_standby_k01_places_in_a_row.main.body.getD i (.Pass ⟨0, 0, 0, 0⟩)
abbrev sBox : Stmt := topS 12
abbrev sTake : Stmt := topS 13
theorem scBox : FnScope ["_law_script", "_law_k", "_law_cell"] ["_law_script", "_law_k"] (defScope sBox) := ⟨rfl, rfl, rfl, by decide +kernel, rfl, by decide +kernel, by decide +kernel⟩
theorem scTake : FnScope ["_law_box_here", "_law_bound", "_law_found", "_law_once"] ["_law_box_here", "_law_bound"] (defScope sTake) := ⟨rfl, rfl, rfl, by decide +kernel, rfl, by decide +kernel, by decide +kernel⟩
section
variable {P : Program} {w : World} {K : PySem.W.Frag} {mg : Str → Option Value} {base : Heap}
def spTake : Sp := fun vs H Q _ => ∃ (b : Addr) (o : HO) (n : Nat) (m : Int), vs = [.ref b, .int m] ∧ H b = some o ∧ Bx n o ∧ n < 1000000000 ∧ 0 < m ∧ m < 1073741824 ∧
  ∀ (r : Int) (o' : HO), 0 ≤ r → r < m → Bx (n + 1) o' → Q (.int r) (upd H b o')
theorem ok_take {f : Addr} {fd : FuncData} {k : Nat} (F : Fun K "_law_take" "_law_take" sTake f fd) : FnOk P w K mg base CX0 (k + 1) f fd ["_law_box_here", "_law_bound"] spTake := by
  refine F.ok scTake (fun vs H Q E h => ?_) (fun cdv A outer s H vs Q E hr h => ?_)
  · obtain ⟨b, o, n, m, rfl, _⟩ := h
    rfl
  · obtain ⟨b, o, n, m, rfl, hb, ⟨x, y, z, rfl, hx, hy, hy2, hz, hzn⟩, hn, hm0, hm1, q⟩ := h
    refine ⟨_, pss_cons (ps_if (pt_cmpR op_gt (pe_ix ix_list (pv 0) pe_int (fun _ _ => rfl)) pe_int (nomark _))
        (pss_cons (ps_set (i := 2) scTake.nd rfl (.inl rfl) (pe_op op_mod (pe_ix ix_list (pv 0) pe_int (fun _ _ => rfl)) (pv 1)))
        (pss_cons (ps_asg (pe_op op_fdiv (pe_ix ix_list (pv 0) pe_int (fun _ _ => rfl)) (pv 1)) (pg_sub (pv 0) pe_int set_list))
        (pss_one (ps_ret (pv 2))))) pss_nil)
      (pss_cons (ps_asg (pe_op op_add (pe_ix ix_list (pv 0) pe_int (fun _ _ => rfl)) pe_int) (pg_sub (pv 0) pe_int set_list))
      (pss_cons (ps_set (i := 3) scTake.nd rfl (.inl rfl) (pe_op op_mod (pe_op op_pow (pe_op op_add (pe_ix ix_list (pv 0) pe_int (fun _ _ => rfl)) (pe_op op_mul pe_int (pe_ix ix_list (pv 0) pe_int (fun _ _ => rfl)))) pe_int) pe_int))
      (pss_one (ps_ret (pe_op op_mod (pe_op op_fdiv (pe_op op_mod (pe_op op_add (pe_op op_mul (pv 3) (pe_op op_add (pe_op op_mod (pv 3) pe_int) pe_int)) (pe_op op_mul (pe_ix ix_list (pv 0) pe_int (fun _ _ => rfl)) pe_int)) pe_int) pe_int) (pv 1)))))), ?_⟩
    have hL : SqL K H b [.int x, .int y, .int z] := .inl (.inl hb)
    refine ⟨.ref b, rfl, b, _, 0, .int x, rfl, rfl, hL, rfl, _, _, rfl, rfl, _, rfl, ite2 (fun e => ?_) (fun e => ?_)⟩
    · have hx0 : 0 < x := of_decide_eq_true e
      refine ⟨.ref b, rfl, b, _, 0, .int x, rfl, rfl, hL, rfl, .int m, rfl, x, m, rfl, rfl, hm0, ?_⟩
      refine ⟨.ref b, rfl, b, _, 0, .int x, rfl, rfl, hL, rfl, .int m, rfl, x, m, rfl, rfl, ⟨hm0, hm1⟩, ?_⟩
      refine ⟨.ref b, rfl, b, _, 0, 0, rfl, rfl, hb, rfl, ?_⟩
      refine ⟨_, rfl, ?_⟩
      refine q _ _ (Int.emod_nonneg _ (by omega)) (Int.emod_lt_of_pos _ hm0) ⟨x / m, y, z, rfl, Int.ediv_nonneg hx (by omega), hy, hy2, hz, by omega⟩
    · refine ⟨.ref b, rfl, b, _, 2, .int z, rfl, rfl, hL, rfl, z, 1, rfl, rfl, ?_⟩
      refine ⟨.ref b, rfl, b, _, 2, 2, rfl, rfl, hb, rfl, ?_⟩
      have hb2 : (upd H b (.lst [.int x, .int y, .int (z + 1)])) b = some (.lst [.int x, .int y, .int (z + 1)]) := upd_same
      have hL2 : SqL K (upd H b (.lst [.int x, .int y, .int (z + 1)])) b [.int x, .int y, .int (z + 1)] := .inl (.inl hb2)
      have hg0 : 0 ≤ (y + 39373 * (z + 1)) ^ (5 : Int).toNat % 2147483647 := Int.emod_nonneg _ (by decide)
      have hg1 : (y + 39373 * (z + 1)) ^ (5 : Int).toNat % 2147483647 < 2147483647 := Int.emod_lt_of_pos _ (by decide)
      refine ⟨.ref b, rfl, b, _, 1, .int y, rfl, rfl, hL2, rfl, .ref b, rfl, b, _, 2, .int (z + 1), rfl, rfl, hL2, rfl, 39373, z + 1, rfl, rfl, .inl (by decide), y, 39373 * (z + 1), rfl, rfl, y + 39373 * (z + 1), 5, rfl, rfl, ⟨by decide, by decide, by omega⟩, _, 2147483647, rfl, rfl, (by show (0 : Int) < 2147483647; decide), ?_⟩
      refine ⟨_, rfl, _, rfl, _, 40009, rfl, rfl, (by show (0 : Int) < 40009; decide), _, 7, rfl, rfl, _, _, rfl, rfl, .inl ⟨Int.lt_of_lt_of_le (by decide) hg0, Int.lt_of_lt_of_le hg1 (by decide)⟩, .ref b, rfl, b, _, 2, .int (z + 1), rfl, rfl, hL2, rfl, z + 1, 7919, rfl, rfl, .inr (by decide), _, _, rfl, rfl, _, 2147483629, rfl, rfl, (by show (0 : Int) < 2147483629; decide), _, 64, rfl, rfl, ⟨by decide, by decide⟩, .int m, rfl, _, m, rfl, rfl, hm0, ?_⟩
      exact q _ _ (Int.emod_nonneg _ (by omega)) (Int.emod_lt_of_pos _ hm0) ⟨x, y, z + 1, rfl, hx, hy, hy2, by omega, by omega⟩
end
end Kn
namespace Kn
open PySem PySem.Spec PyProof.Rows L2
/-- the built-in names that the module leaves as they are -/
structure Bn (mg : Str → Option Value) : Prop where
  abs : mg "abs" = none
  int : mg "int" = none
  len : mg "len" = none
  range : mg "range" = none
  max : mg "max" = none
  min : mg "min" = none
  all : mg "all" = none
  isi : mg "isinstance" = none
  list : mg "list" = none
  tuple : mg "tuple" = none
  str : mg "str" = none
  bool : mg "bool" = none
  zip : mg "zip" = none
  sorted : mg "sorted" = none
  enum : mg "enumerate" = none
  dict : mg "dict" = none
  repr : mg "repr" = none
theorem b01 (b : Bool) : -(2 ^ 64) < (if b = true then (1 : Int) else 0) ∧ (if b = true then (1 : Int) else 0) < 2 ^ 64 := by cases b <;> decide
section
variable {P : Program} {w : World} {K : PySem.W.Frag} {mg : Str → Option Value} {base : Heap}
def spBox (K : PySem.W.Frag) : Sp := fun vs H Q _ => ∃ (a : Addr) (ns : List Int) (k : Int), vs = [.ref a, .int k] ∧ SqL K H a (ns.map V.int) ∧ 0 ≤ k ∧ k ≤ 1000 ∧ ∀ (p : Addr) (o : HO), H p = none → Bx 0 o → Q (.ref p) (upd H p o)
theorem ok_box {f : Addr} {fd : FuncData} {k : Nat} (F : Fun K "_law_box" "_law_box" sBox f fd) (B : Bn mg) : FnOk P w K mg base CX0 (k + 1) f fd ["_law_script", "_law_k"] (spBox K) := by
  refine F.ok scBox (fun vs H Q E h => ?_) (fun cdv A outer s H vs Q E hr h => ?_)
  · obtain ⟨a, ns, k, rfl, _⟩ := h
    rfl
  · obtain ⟨a, ns, j, rfl, hS, h0, h1, q⟩ := h
    refine ⟨_, pss_cons (ps_set (i := 2) scBox.nd rfl (.inl rfl) pe_int)
      (pss_cons (ps_if (pt_cmpR op_lt (pv 1) (pe_callB call_len_seq (by rfl) B.len PySem.boot_len (pa_cons (pv 0) pa_nil)) (nomark _))
        (pss_one (ps_set (i := 2) scBox.nd rfl (.inl rfl) (pe_ix ix_list (pv 0) (pv 1) (fun _ _ => rfl)))) pss_nil)
      (pss_one (ps_ret (pe_lst (pa_cons (pe_op op_mul (pe_callB call_abs (by rfl) B.abs (by decide +kernel) (pa_cons (pv 2) pa_nil)) (pe_callTy call_int1 (by rfl) B.int (by decide +kernel) (pa_cons (pe_cmpR op_ge (pe_callB call_abs (by rfl) B.abs (by decide +kernel) (pa_cons (pv 2) pa_nil)) (pe_op op_pow pe_int pe_int) (nomark _)) pa_nil)))
        (pa_cons (pe_op op_add (pe_op op_add (pe_op op_mod (pv 2) pe_int) (pe_op op_mul pe_int (pv 1))) pe_int) (pa_cons pe_int pa_nil))))))), ?_⟩
    refine ⟨_, rfl, _, rfl, a, _, rfl, .inl hS, _, _, rfl, rfl, _, rfl, ?_⟩
    have tail : ∀ (c y : Int) (b : Bool), y = c % 2147483629 → 0 ≤ y → y < 2147483629 → Bx 0 (.lst [.int ((if c < 0 then -c else c) * (if b then 1 else 0)), .int (y + 7919 * j + 11), .int 0]) := by
      intro c y b _ e1 e2
      refine ⟨_, _, _, rfl, ?_, by omega, by omega, by omega, by omega⟩
      have : 0 ≤ (if c < 0 then -c else c) := by split <;> omega
      cases b with
      | true => simpa using this
      | false => simp
    refine ite2 (fun e => ?_) (fun e => ?_)
    · have e : j < ((ns.map V.int).length : Int) := of_decide_eq_true e
      rw [List.length_map] at e
      obtain ⟨c, hc⟩ : ∃ c, ns[j.toNat]? = some c := ⟨ns[j.toNat]'(by omega), List.getElem?_eq_getElem _⟩
      have hat : atI (ns.map V.int) j = some (.int c) := by
        have := atI_nat (xs := ns.map V.int) (j := j.toNat) (v := .int c) (by rw [List.getElem?_map, hc]; rfl)
        rwa [Int.toNat_of_nonneg h0] at this
      refine ⟨.ref a, rfl, _, rfl, a, _, j, .int c, rfl, rfl, hS, hat, ?_⟩
      refine ⟨_, rfl, c, rfl, _, rfl, c, rfl, 10, 18, rfl, rfl, ⟨by decide, by decide, by decide⟩, _, _, rfl, rfl, .inr ⟨_, rfl, _, _, rfl, rfl, .inr ?_, ?_⟩⟩
      · exact b01 _
      · refine ⟨_, rfl, c, 2147483629, rfl, rfl, (by show (0 : Int) < 2147483629; decide), _, rfl, 7919, j, rfl, rfl, .inl (by decide), _, _, rfl, rfl, _, 11, rfl, rfl, (by show 3 ≤ sizeLine; decide), fun p np => q p _ np ?_⟩
        exact tail c _ _ rfl (Int.emod_nonneg _ (by decide)) (Int.emod_lt_of_pos _ (by decide))
    · refine ⟨_, rfl, 0, rfl, _, rfl, 0, rfl, 10, 18, rfl, rfl, ⟨by decide, by decide, by decide⟩, _, _, rfl, rfl, .inr ⟨_, rfl, _, _, rfl, rfl, .inr ?_, ?_⟩⟩
      · exact b01 _
      · refine ⟨_, rfl, 0, 2147483629, rfl, rfl, (by show (0 : Int) < 2147483629; decide), _, rfl, 7919, j, rfl, rfl, .inl (by decide), _, _, rfl, rfl, _, 11, rfl, rfl, (by show 3 ≤ sizeLine; decide), fun p np => q p _ np ?_⟩
        exact tail 0 _ _ rfl (Int.emod_nonneg _ (by decide)) (Int.emod_lt_of_pos _ (by decide))
end
end Kn
namespace Kn
open PySem PySem.Spec PyProof.Rows L2
abbrev sSame : Stmt := topS 14
theorem scSame : FnScope ["_law_found", "_law_due", "_law_mine", "_law_its"] ["_law_found", "_law_due"] (defScope sSame) := ⟨rfl, rfl, rfl, by decide +kernel, rfl, by decide +kernel, by decide +kernel⟩
section
variable {P : Program} {w : World} {K : PySem.W.Frag} {mg : Str → Option Value} {base : Heap}
/-- of the same data: True -/
def spSame (K : PySem.W.Frag) (n : Nat) : Sp := fun vs H Q _ => ∃ (x y : V) (d : PyData), vs = [x, y] ∧ Dp K H x d ∧ Dp K H y d ∧ Sm n d ∧ ∀ H', Same H H' → Q (.bl true) H'
theorem same_step {f : Addr} {fd : FuncData} {n k : Nat} {sp0 : Sp} (F : Fun K "_law_same" "_law_same" sSame f fd) (B : Bn mg) (hg : mg "_law_same" = some (.ref f)) (b : Binds K fd ["_law_found", "_law_due"] [])
    (G : FnOk P w K mg base CX0 k f fd ["_law_found", "_law_due"] sp0) (hrec : ∀ m, n = m + 1 → ∀ vs H Q E, spSame K m vs H Q E → sp0 vs H Q E) : FnOk P w K mg base CX0 (k + 1) f fd ["_law_found", "_law_due"] (spSame K n) := by
    refine F.ok scSame (fun vs H Q E h => ?_) (fun cdv A outer s H vs Q E hr h => ?_)
    · obtain ⟨x, y, d, rfl, _⟩ := h
      rfl
    · obtain ⟨x, y, d, rfl, hx, hy, hsm, q⟩ := h
      refine ⟨_, pss_cons (ps_if (pt_val (pe_callB call_isiT (by rfl) B.isi (by decide +kernel) (pa_cons (pv 1) (pa_cons (pe_tup (pa_cons (pe_bltn (v := .ty "list") (by rfl) B.list (by decide +kernel) rfl) (pa_cons (pe_bltn (v := .ty "tuple") (by rfl) B.tuple (by decide +kernel) rfl) pa_nil))) pa_nil))))
          (pss_cons (ps_if (PW.pt (pw_or (pt_cmpR op_ne (pe_callB call_isi (by rfl) B.isi (by decide +kernel) (pa_cons (pv 0) (pa_cons (pe_bltn (v := .ty "list") (by rfl) B.list (by decide +kernel) rfl) pa_nil))) (pe_callB call_isi (by rfl) B.isi (by decide +kernel) (pa_cons (pv 1) (pa_cons (pe_bltn (v := .ty "list") (by rfl) B.list (by decide +kernel) rfl) pa_nil))) (nomark _))
              (pw_or1 (pt_cmpR op_ne (pe_callB call_isi (by rfl) B.isi (by decide +kernel) (pa_cons (pv 0) (pa_cons (pe_bltn (v := .ty "tuple") (by rfl) B.tuple (by decide +kernel) rfl) pa_nil))) (pe_callB call_isi (by rfl) B.isi (by decide +kernel) (pa_cons (pv 1) (pa_cons (pe_bltn (v := .ty "tuple") (by rfl) B.tuple (by decide +kernel) rfl) pa_nil))) (nomark _)))))
            (pss_one (ps_ret pe_bl)) pss_nil)
          (pss_cons (ps_if (pt_cmpR op_ne (pe_callB call_len_seq (by rfl) B.len PySem.boot_len (pa_cons (pv 0) pa_nil)) (pe_callB call_len_seq (by rfl) B.len PySem.boot_len (pa_cons (pv 1) pa_nil)) (nomark _)) (pss_one (ps_ret pe_bl)) pss_nil)
          (pss_one (ps_ret (pe_callB (cr_all rfl) (by rfl) B.all (by decide +kernel) (pa_cons (pe_lc (own := [("_law_mine", 2), ("_law_its", 3)]) (g := gTup K 2 (gCons (gName 2) (gCons (gName 3) gNil))) (tt := tYes) rfl scSame.nd (RZ.pi_zipA (by rfl) B.zip (pa_cons (pv 0) (pa_cons (pv 1) pa_nil))) (blkOk_by (N := ["_law_found", "_law_due", "_law_mine", "_law_its"]) (sc := defScope sSame) (by decide +kernel))
            (fun _ _ _ _ _ => pg_tup rfl (pgs_cons (pg_name (i := 2) scSame.nd rfl (Or.inl rfl)) (pgs_cons (pg_name (i := 3) scSame.nd rfl (Or.inl rfl)) pgs_nil))) (fun _ _ _ _ _ => pts_nil) (fun _ _ _ _ _ => pe_call G hr (by rfl) hg F.kp b .nil pass0 (pa_cons (pv 2) (pa_cons (pv 3) pa_nil)))) pa_nil)))))) pss_nil)
        (pss_cons (ps_if (PW.pt (pw_or (pt_cmpR op_isN (pv 1) pe_non (nomark _)) (pw_or1 (pt_val (pe_callB call_isi (by rfl) B.isi (by decide +kernel) (pa_cons (pv 1) (pa_cons (pe_bltn (v := .ty "str") (by rfl) B.str (by decide +kernel) rfl) pa_nil)))))))
          (pss_one (ps_ret (pe_and (pe_cmpR op_eq (pv 0) (pv 1) (nomark _)) (pe_one (pe_cmpR op_eq (pe_callB call_isi (by rfl) B.isi (by decide +kernel) (pa_cons (pv 0) (pa_cons (pe_bltn (v := .ty "str") (by rfl) B.str (by decide +kernel) rfl) pa_nil))) (pe_callB call_isi (by rfl) B.isi (by decide +kernel) (pa_cons (pv 1) (pa_cons (pe_bltn (v := .ty "str") (by rfl) B.str (by decide +kernel) rfl) pa_nil))) (nomark _)))))) pss_nil)
        (pss_one (ps_ret (pe_and (pe_callB call_isi (by rfl) B.isi (by decide +kernel) (pa_cons (pv 0) (pa_cons (pe_bltn (v := .ty "int") (by rfl) B.int (by decide +kernel) rfl) pa_nil))) (pe_and (pe_cmpR op_eq (pe_callB call_isi (by rfl) B.isi (by decide +kernel) (pa_cons (pv 0) (pa_cons (pe_bltn (v := .ty "bool") (by rfl) B.bool (by decide +kernel) rfl) pa_nil))) (pe_callB call_isi (by rfl) B.isi (by decide +kernel) (pa_cons (pv 1) (pa_cons (pe_bltn (v := .ty "bool") (by rfl) B.bool (by decide +kernel) rfl) pa_nil))) (nomark _)) (pe_one (pe_cmpR op_eq (pv 0) (pv 1) (nomark _)))))))), ?_⟩
      cases d with
      | dict kvs => cases hx
      | list ds =>
        cases n with
        | zero => exact (show False from hsm).elim
        | succ m =>
          obtain ⟨hlen, hel⟩ := (show ds.length ≤ 100000 ∧ ∀ d ∈ ds, Sm m d from hsm)
          refine ⟨_, rfl, (by show 2 ≤ sizeLine; decide), fun tp np => ⟨_, tp, _, _, [.type "list", .type "tuple"], true || false, rfl, upd_same, .cons (.ty _) (.cons (.ty _) .nil), dp_ty (dp_same (same_new np) hy), kit2 (by show kitB "list" "list" = _; decide +kernel) (by show kitB "list" "tuple" = _; decide +kernel), ⟨true, rfl, iteT ?_⟩⟩⟩
          have s1 : Same H (upd H tp (.tup [.ty "list", .ty "tuple"])) := same_new np
          generalize upd H tp (.tup [.ty "list", .ty "tuple"]) = H1 at s1 ⊢
          have hx1 := dp_same s1 hx
          have hy1 := dp_same s1 hy
          refine ⟨_, rfl, ⟨_, .ty "list", _, _, true, rfl, .ty _, dp_ty hx1, kit_ty (by show kitB "list" "list" = _; decide +kernel), ⟨_, rfl, ⟨_, .ty "list", _, _, true, rfl, .ty _, dp_ty hy1, kit_ty (by show kitB "list" "list" = _; decide +kernel), ⟨rfl, _, rfl, iteNS rfl ?_⟩⟩⟩⟩⟩
          refine ⟨_, rfl, ⟨_, .ty "tuple", _, _, false, rfl, .ty _, dp_ty hx1, kit_ty (by show kitB "list" "tuple" = _; decide +kernel), ⟨_, rfl, ⟨_, .ty "tuple", _, _, false, rfl, .ty _, dp_ty hy1, kit_ty (by show kitB "list" "tuple" = _; decide +kernel), ⟨rfl, _, rfl, iteNS rfl ?_⟩⟩⟩⟩⟩
          cases hx1 with
          | @lst ax xs _ qx ex =>
          cases hy1 with
          | @lst ay ys _ qy ey =>
          have lx := dpA_len ex
          have ly := dpA_len ey
          refine ⟨_, rfl, ax, xs, rfl, .inl qx, _, rfl, ay, ys, rfl, .inl qy, rfl, _, rfl, iteNS (by rw [lx, ly]) ?_⟩
          refine ⟨_, rfl, _, rfl, ax, ay, xs, ys, rfl, .inl ⟨qx, qy, fun D nD => ?_⟩⟩
          have hn : xs.length = min xs.length ys.length := by omega
          refine lc_fm (walk_zip hn) (fun _ => some (.bl true)) nD (Nat.lt_of_le_of_lt (by omega : xs.length ≤ 100000) (by decide)) (fun H2 s2 => ⟨Same.seq s2 qx, Same.seq s2 qy⟩) (fun i v H2 H3 R hi s2 hD hY hR => ?_) (fun H2 s2 hD => ?_)
          · obtain ⟨T, u1, u2, rfl, nT, rfl, g1, g2⟩ := hY
            have s3 : Same H2 (upd H2 T (.tup [u1, u2])) := same_new nT
            refine ⟨T, [u1, u2], rfl, .inl (.inl upd_same), rfl, u1, [u2], rfl, u2, [], rfl, rfl, rfl, iteT (B := R none (upd H2 T (.tup [u1, u2]))) ?_⟩
            obtain ⟨d1, h1, k1⟩ := dpA_get ex g1
            obtain ⟨d2, h2, k2⟩ := dpA_get ey g2
            obtain rfl : d1 = d2 := Option.some.inj (h1.symm.trans h2)
            refine ⟨_, rfl, _, rfl, hrec m rfl _ _ _ _ ⟨u1, u2, d1, rfl, dp_same (s2.trans s3) k1, dp_same (s2.trans s3) k2, hel d1 (List.mem_of_getElem? h1), fun H4 s4 => hR H4 (s3.trans s4)⟩⟩
          · have e : (List.range xs.length).filterMap (fun _ => some (V.bl true)) = (List.replicate xs.length true).map V.bl := by
              rw [List.filterMap_eq_map', List.map_replicate, List.map_const', List.length_range]
            rw [e] at hD
            refine ⟨D, _, rfl, .inl (.inl hD), ?_⟩
            rw [show (List.replicate xs.length true).all id = true by simp]
            exact q H2 (s1.trans s2)
      | tuple ds =>
        cases n with
        | zero => exact (show False from hsm).elim
        | succ m =>
          obtain ⟨hlen, hel⟩ := (show ds.length ≤ 100000 ∧ ∀ d ∈ ds, Sm m d from hsm)
          refine ⟨_, rfl, (by show 2 ≤ sizeLine; decide), fun tp np => ⟨_, tp, _, _, [.type "list", .type "tuple"], false || true, rfl, upd_same, .cons (.ty _) (.cons (.ty _) .nil), dp_ty (dp_same (same_new np) hy), kit2 (by show kitB "tuple" "list" = _; decide +kernel) (by show kitB "tuple" "tuple" = _; decide +kernel), ⟨true, rfl, iteT ?_⟩⟩⟩
          have s1 : Same H (upd H tp (.tup [.ty "list", .ty "tuple"])) := same_new np
          generalize upd H tp (.tup [.ty "list", .ty "tuple"]) = H1 at s1 ⊢
          have hx1 := dp_same s1 hx
          have hy1 := dp_same s1 hy
          refine ⟨_, rfl, ⟨_, .ty "list", _, _, false, rfl, .ty _, dp_ty hx1, kit_ty (by show kitB "tuple" "list" = _; decide +kernel), ⟨_, rfl, ⟨_, .ty "list", _, _, false, rfl, .ty _, dp_ty hy1, kit_ty (by show kitB "tuple" "list" = _; decide +kernel), ⟨rfl, _, rfl, iteNS rfl ?_⟩⟩⟩⟩⟩
          refine ⟨_, rfl, ⟨_, .ty "tuple", _, _, true, rfl, .ty _, dp_ty hx1, kit_ty (by show kitB "tuple" "tuple" = _; decide +kernel), ⟨_, rfl, ⟨_, .ty "tuple", _, _, true, rfl, .ty _, dp_ty hy1, kit_ty (by show kitB "tuple" "tuple" = _; decide +kernel), ⟨rfl, _, rfl, iteNS rfl ?_⟩⟩⟩⟩⟩
          cases hx1 with
          | @tup ax xs _ qx ex =>
          cases hy1 with
          | @tup ay ys _ qy ey =>
          have lx := dpA_len ex
          have ly := dpA_len ey
          refine ⟨_, rfl, ax, xs, rfl, .inr qx, _, rfl, ay, ys, rfl, .inr qy, rfl, _, rfl, iteNS (by rw [lx, ly]) ?_⟩
          refine ⟨_, rfl, _, rfl, ax, ay, xs, ys, rfl, .inr ⟨qx, qy, fun D nD => ?_⟩⟩
          have hn : xs.length = min xs.length ys.length := by omega
          refine lc_fm (walk_zpT hn) (fun _ => some (.bl true)) nD (Nat.lt_of_le_of_lt (by omega : xs.length ≤ 100000) (by decide)) (fun H2 s2 => ⟨sqT_same s2 qx, sqT_same s2 qy⟩) (fun i v H2 H3 R hi s2 hD hY hR => ?_) (fun H2 s2 hD => ?_)
          · obtain ⟨T, u1, u2, rfl, nT, rfl, g1, g2⟩ := hY
            have s3 : Same H2 (upd H2 T (.tup [u1, u2])) := same_new nT
            refine ⟨T, [u1, u2], rfl, .inl (.inl upd_same), rfl, u1, [u2], rfl, u2, [], rfl, rfl, rfl, iteT (B := R none (upd H2 T (.tup [u1, u2]))) ?_⟩
            obtain ⟨d1, h1, k1⟩ := dpA_get ex g1
            obtain ⟨d2, h2, k2⟩ := dpA_get ey g2
            obtain rfl : d1 = d2 := Option.some.inj (h1.symm.trans h2)
            refine ⟨_, rfl, _, rfl, hrec m rfl _ _ _ _ ⟨u1, u2, d1, rfl, dp_same (s2.trans s3) k1, dp_same (s2.trans s3) k2, hel d1 (List.mem_of_getElem? h1), fun H4 s4 => hR H4 (s3.trans s4)⟩⟩
          · have e : (List.range xs.length).filterMap (fun _ => some (V.bl true)) = (List.replicate xs.length true).map V.bl := by
              rw [List.filterMap_eq_map', List.map_replicate, List.map_const', List.length_range]
            rw [e] at hD
            refine ⟨D, _, rfl, .inl (.inl hD), ?_⟩
            rw [show (List.replicate xs.length true).all id = true by simp]
            exact q H2 (s1.trans s2)
      | none =>
        refine ⟨_, rfl, (by show 2 ≤ sizeLine; decide), fun tp np => ⟨_, tp, _, _, [.type "list", .type "tuple"], false || false, rfl, upd_same, .cons (.ty _) (.cons (.ty _) .nil), dp_ty (dp_same (same_new np) hy), kit2 (by show kitB "NoneType" "list" = _; decide +kernel) (by show kitB "NoneType" "tuple" = _; decide +kernel), ⟨false, rfl, iteF ?_⟩⟩⟩
        have s1 : Same H (upd H tp (.tup [.ty "list", .ty "tuple"])) := same_new np
        generalize upd H tp (.tup [.ty "list", .ty "tuple"]) = H1 at s1 ⊢
        have hx1 := dp_same s1 hx
        have hy1 := dp_same s1 hy
        clear hx hy
        cases hx1
        cases hy1
        refine ⟨_, rfl, rfl, _, rfl, iteT ?_⟩
        refine ⟨_, rfl, _, rfl, rfl, _, rfl, iteT ?_⟩
        refine ⟨_, rfl, ⟨_, .ty "str", _, _, false, rfl, .ty _, dp_ty .non, kit_ty (by show kitB "NoneType" "str" = _; decide +kernel), ⟨_, rfl, ⟨_, .ty "str", _, _, false, rfl, .ty _, dp_ty .non, kit_ty (by show kitB "NoneType" "str" = _; decide +kernel), ⟨rfl, ?_⟩⟩⟩⟩⟩
        exact q H1 s1
      | str z =>
        refine ⟨_, rfl, (by show 2 ≤ sizeLine; decide), fun tp np => ⟨_, tp, _, _, [.type "list", .type "tuple"], false || false, rfl, upd_same, .cons (.ty _) (.cons (.ty _) .nil), dp_ty (dp_same (same_new np) hy), kit2 (by show kitB "str" "list" = _; decide +kernel) (by show kitB "str" "tuple" = _; decide +kernel), ⟨false, rfl, iteF ?_⟩⟩⟩
        have s1 : Same H (upd H tp (.tup [.ty "list", .ty "tuple"])) := same_new np
        generalize upd H tp (.tup [.ty "list", .ty "tuple"]) = H1 at s1 ⊢
        have hx1 := dp_same s1 hx
        have hy1 := dp_same s1 hy
        clear hx hy
        cases hx1
        cases hy1
        refine ⟨_, rfl, rfl, _, rfl, iteF ?_⟩
        refine ⟨_, rfl, ⟨_, .ty "str", _, _, true, rfl, .ty _, dp_ty (.str z), kit_ty (by show kitB "str" "str" = _; decide +kernel), ⟨true, rfl, iteT ?_⟩⟩⟩
        refine ⟨_, rfl, _, rfl, rfl, true, by rw [decide_eq_true rfl], iteT ?_⟩
        refine ⟨_, rfl, ⟨_, .ty "str", _, _, true, rfl, .ty _, dp_ty (.str z), kit_ty (by show kitB "str" "str" = _; decide +kernel), ⟨_, rfl, ⟨_, .ty "str", _, _, true, rfl, .ty _, dp_ty (.str z), kit_ty (by show kitB "str" "str" = _; decide +kernel), ⟨rfl, ?_⟩⟩⟩⟩⟩
        exact q H1 s1
      | int z =>
        refine ⟨_, rfl, (by show 2 ≤ sizeLine; decide), fun tp np => ⟨_, tp, _, _, [.type "list", .type "tuple"], false || false, rfl, upd_same, .cons (.ty _) (.cons (.ty _) .nil), dp_ty (dp_same (same_new np) hy), kit2 (by show kitB "int" "list" = _; decide +kernel) (by show kitB "int" "tuple" = _; decide +kernel), ⟨false, rfl, iteF ?_⟩⟩⟩
        have s1 : Same H (upd H tp (.tup [.ty "list", .ty "tuple"])) := same_new np
        generalize upd H tp (.tup [.ty "list", .ty "tuple"]) = H1 at s1 ⊢
        have hx1 := dp_same s1 hx
        have hy1 := dp_same s1 hy
        clear hx hy
        cases hx1
        cases hy1
        refine ⟨_, rfl, rfl, _, rfl, iteF ?_⟩
        refine ⟨_, rfl, ⟨_, .ty "str", _, _, false, rfl, .ty _, dp_ty (.int z), kit_ty (by show kitB "int" "str" = _; decide +kernel), ⟨false, rfl, iteF ?_⟩⟩⟩
        refine ⟨_, rfl, ⟨_, .ty "int", _, _, true, rfl, .ty _, dp_ty (.int z), kit_ty (by show kitB "int" "int" = _; decide +kernel), ⟨true, rfl, iteT ?_⟩⟩⟩
        refine ⟨_, rfl, ⟨_, .ty "bool", _, _, false, rfl, .ty _, dp_ty (.int z), kit_ty (by show kitB "int" "bool" = _; decide +kernel), ⟨_, rfl, ⟨_, .ty "bool", _, _, false, rfl, .ty _, dp_ty (.int z), kit_ty (by show kitB "int" "bool" = _; decide +kernel), ⟨rfl, true, by rw [decide_eq_true rfl], iteT ?_⟩⟩⟩⟩⟩
        refine ⟨_, rfl, _, rfl, rfl, ?_⟩
        rw [decide_eq_true rfl]
        exact q H1 s1
      | bool z =>
        refine ⟨_, rfl, (by show 2 ≤ sizeLine; decide), fun tp np => ⟨_, tp, _, _, [.type "list", .type "tuple"], false || false, rfl, upd_same, .cons (.ty _) (.cons (.ty _) .nil), dp_ty (dp_same (same_new np) hy), kit2 (by show kitB "bool" "list" = _; decide +kernel) (by show kitB "bool" "tuple" = _; decide +kernel), ⟨false, rfl, iteF ?_⟩⟩⟩
        have s1 : Same H (upd H tp (.tup [.ty "list", .ty "tuple"])) := same_new np
        generalize upd H tp (.tup [.ty "list", .ty "tuple"]) = H1 at s1 ⊢
        have hx1 := dp_same s1 hx
        have hy1 := dp_same s1 hy
        clear hx hy
        cases hx1
        cases hy1
        refine ⟨_, rfl, rfl, _, rfl, iteF ?_⟩
        refine ⟨_, rfl, ⟨_, .ty "str", _, _, false, rfl, .ty _, dp_ty (.bl z), kit_ty (by show kitB "bool" "str" = _; decide +kernel), ⟨false, rfl, iteF ?_⟩⟩⟩
        refine ⟨_, rfl, ⟨_, .ty "int", _, _, true, rfl, .ty _, dp_ty (.bl z), kit_ty (by show kitB "bool" "int" = _; decide +kernel), ⟨true, rfl, iteT ?_⟩⟩⟩
        refine ⟨_, rfl, ⟨_, .ty "bool", _, _, true, rfl, .ty _, dp_ty (.bl z), kit_ty (by show kitB "bool" "bool" = _; decide +kernel), ⟨_, rfl, ⟨_, .ty "bool", _, _, true, rfl, .ty _, dp_ty (.bl z), kit_ty (by show kitB "bool" "bool" = _; decide +kernel), ⟨rfl, true, by rw [decide_eq_true rfl], iteT ?_⟩⟩⟩⟩⟩
        refine ⟨_, rfl, _, rfl, rfl, ?_⟩
        rw [decide_eq_true rfl]
        exact q H1 s1
theorem ok_same {f : Addr} {fd : FuncData} (F : Fun K "_law_same" "_law_same" sSame f fd) (B : Bn mg) (hg : mg "_law_same" = some (.ref f)) (b : Binds K fd ["_law_found", "_law_due"] []) :
    ∀ n : Nat, FnOk P w K mg base CX0 (n + 1) f fd ["_law_found", "_law_due"] (spSame K n)
  | 0 => same_step F B hg b (sp0 := fun _ _ _ _ => False) ⟨fun _ _ _ _ h => h.elim, fun _ _ _ _ _ _ _ _ _ _ _ _ _ h => h.elim⟩ (fun _ e => nomatch e)
  | n + 1 => same_step F B hg b (ok_same F B hg b n) (fun m e vs H Q E h => by cases e; exact h)
end
end Kn
namespace Kn
open PySem PySem.Spec PyProof.Rows L2
theorem pi_or {X : Cx} {tg e : Expr} {w1 w2 : TI} (h1 : PI X tg e w1) (h2 : PI X tg e w2) : PI X tg e (fun σ H R => w1 σ H R ∨ w2 σ H R) := ⟨fun pins s σ H R I h => h.elim (h1.run pins s σ H R I) (h2.run pins s σ H R I)⟩
theorem pe_or2 {X : Cx} {e : Expr} {t1 t2 : TE} (h1 : PE X e t1) (h2 : PE X e t2) : PE X e (fun σ H Q => t1 σ H Q ∨ t2 σ H Q) := ⟨fun pins s σ H Q I h => h.elim (h1.run pins s σ H Q I) (h2.run pins s σ H Q I)⟩
def SqA (K : PySem.W.Frag) (H : Hp) (a : Addr) (xs : List V) : Prop := SqL K H a xs ∨ SqT K H a xs
theorem sqA_same {K : PySem.W.Frag} {H H' : Hp} {a : Addr} {xs : List V} (e : Same H H') (h : SqA K H a xs) : SqA K H' a xs := h.imp (e.seq ·) (sqT_same e)
/-- what is kept but for the box, where the box is another thing -/
theorem sqL_off {K : PySem.W.Frag} {H H' : Hp} {a b : Addr} {xs : List V} (e : Off b H H') (n : a ≠ b) (h : SqL K H a xs) : SqL K H' a xs := by
  rcases h with (h | ⟨o, h⟩) | h
  · exact .inl (.inl (e _ _ h n))
  · exact .inl (.inr ⟨o, e _ _ h n⟩)
  · exact .inr h
theorem sqT_off {K : PySem.W.Frag} {H H' : Hp} {a b : Addr} {xs : List V} (e : Off b H H') (n : a ≠ b) (h : SqT K H a xs) : SqT K H' a xs := by
  rcases h with (h | ⟨o, h⟩) | h
  · exact .inl (.inl (e _ _ h n))
  · exact .inl (.inr ⟨o, e _ _ h n⟩)
  · exact .inr h
abbrev sStrewn : Stmt := topS 15
abbrev sCrew : Stmt := topS 16
theorem scStrewn : FnScope ["_law_box_here", "_law_some", "_law_found", "_law_item"] ["_law_box_here", "_law_some"] (defScope sStrewn) := ⟨rfl, rfl, rfl, by decide +kernel, rfl, by decide +kernel, by decide +kernel⟩
theorem scCrew : FnScope ["_law_box_here", "_law_most", "_law_size", "_law_letters", "_law_pool", "_law_start", "_law_step", "_law_at", "_law_sign"] ["_law_box_here", "_law_most"] (defScope sCrew) := ⟨rfl, rfl, rfl, by decide +kernel, rfl, by decide +kernel, by decide +kernel⟩
theorem ins_perm {α : Type} (ys zs : List α) (i : Nat) (y : α) (h : ys.Perm zs) : (ys.take i ++ [y] ++ ys.drop i).Perm (zs ++ [y]) := by
  have h1 : (ys.take i ++ [y] ++ ys.drop i).Perm (y :: (ys.take i ++ ys.drop i)) := by
    rw [List.append_assoc]
    exact List.perm_middle
  rw [List.take_append_drop] at h1
  exact h1.trans ((h.cons y).trans (List.perm_append_singleton y zs).symm)
section
variable {P : Program} {w : World} {K : PySem.W.Frag} {mg : Str → Option Value} {base : Heap}
def spStrewn (K : PySem.W.Frag) : Sp := fun vs H Q _ => ∃ (b a : Addr) (o : HO) (n : Nat) (xs : List V), vs = [.ref b, .ref a] ∧ H b = some o ∧ Bx n o ∧ n + xs.length < 1000000000 ∧ a ≠ b ∧ SqA K H a xs ∧ xs.length ≤ 1000 ∧
  ∀ H' p ys o', H p = none → H' p = some (.lst ys) → ys.Perm xs → H' b = some o' → Bx (n + xs.length) o' → Off b H H' → Q (.ref p) H'
theorem ok_strewn {f ft : Addr} {fd fdt : FuncData} {k : Nat} (F : Fun K "_law_strewn" "_law_strewn" sStrewn f fd) (B : Bn mg) (FT : Fun K "_law_take" "_law_take" sTake ft fdt) (gT : mg "_law_take" = some (.ref ft)) (bT : Binds K fdt ["_law_box_here", "_law_bound"] []) :
    FnOk P w K mg base CX0 (k + 2) f fd ["_law_box_here", "_law_some"] (spStrewn K) := by
  have GT : FnOk P w K mg base CX0 (k + 1) ft fdt ["_law_box_here", "_law_bound"] spTake := ok_take FT
  refine F.ok scStrewn (fun vs H Q E h => ?_) (fun cdv A outer s H vs Q E hr h => ?_)
  · obtain ⟨b, a, o, n, xs, rfl, _⟩ := h
    rfl
  · obtain ⟨b, a, o, n, xs, rfl, hb, hB, hn, nab, hS, hl, q⟩ := h
    refine ⟨_, pss_cons (ps_set (i := 2) scStrewn.nd rfl (.inl rfl) (pe_lst pa_nil))
      (pss_cons (ps_for PassesOwn.never rfl (pi_or (pi_list (pv 1)) (pi_tup (pv 1))) (pg_name (i := 3) scStrewn.nd rfl (.inl rfl))
        (pss_one (ps_expr (pe_bm PySem.F.plainAttrs_list PySem.F.slot_list_insert PySem.F.type_list_insert mt_insert (pv 2) (pa_cons (pe_call GT hr (by rfl) gT FT.kp bT .nil pass0 (pa_cons (pv 0) (pa_cons (pe_op op_add (pe_callB call_len_seq (by rfl) B.len PySem.boot_len (pa_cons (pv 2) pa_nil)) pe_int) pa_nil))) (pa_cons (pv 3) pa_nil))))))
      (pss_one (ps_ret (pv 2)))), ?_⟩
    refine ⟨Nat.zero_le _, fun p np => ?_⟩
    have s1 : Same H (upd H p (.lst [])) := same_new np
    have npb : p ≠ b := fun e => by rw [e, hb] at np; cases np
    have turn : ∀ (i : Nat) (x : V) (σ : L2.St) (H2 : Hp), i < xs.length → xs[i]? = some x → (∃ v ys o', σ = [some (.ref b), some (.ref a), some (.ref p), v] ∧ H2 b = some o' ∧ Bx (n + i) o' ∧ H2 p = some (.lst ys) ∧ ys.Perm (xs.take i) ∧ Off b H H2) →
        ∃ ys o', σ.set 3 (some x) = [some (.ref b), some (.ref a), some (.ref p), some x] ∧ H2 b = some o' ∧ Bx (n + i) o' ∧ H2 p = some (.lst ys) ∧ ys.length = i ∧ ys.Perm (xs.take i) ∧ Off b H H2 := by
      rintro i x σ H2 hi hx ⟨v, ys, o', rfl, h1, h2, h3, h4, h5⟩
      refine ⟨ys, o', rfl, h1, h2, h3, ?_, h4, h5⟩
      rw [h4.length_eq, List.length_take]
      omega
    have after : ∀ (i : Nat) (x : V) (ys : List V) (o' : HO) (H2 : Hp) (r : Int), xs[i]? = some x → H2 b = some o' → H2 p = some (.lst ys) → ys.Perm (xs.take i) → Off b H H2 → Bx (n + i + 1) o' → 0 ≤ r →
        ∃ v zs o'', [some (.ref b), some (.ref a), some (.ref p), some x] = [some (.ref b), some (.ref a), some (.ref p), v] ∧ (upd H2 p (.lst (ys.take r.toNat ++ [x] ++ ys.drop r.toNat))) b = some o'' ∧ Bx (n + (i + 1)) o'' ∧ (upd H2 p (.lst (ys.take r.toNat ++ [x] ++ ys.drop r.toNat))) p = some (.lst zs) ∧ zs.Perm (xs.take (i + 1)) ∧ Off b H (upd H2 p (.lst (ys.take r.toNat ++ [x] ++ ys.drop r.toNat))) := by
      intro i x ys o' H2 r hx h1 h2 h3 h4 h5 h6
      refine ⟨_, _, o', rfl, by rw [upd_ne npb.symm]; exact h1, h5, upd_same, ?_, fun c u e hc => ?_⟩
      · rw [List.take_add_one, hx]
        exact ins_perm _ _ _ _ h3
      · rw [upd_ne (ne_of_none e np)]
        exact h4 c u e hc
    have fin : ∀ (σ : L2.St) (H2 : Hp), (∃ v ys o', σ = [some (.ref b), some (.ref a), some (.ref p), v] ∧ H2 b = some o' ∧ Bx (n + xs.length) o' ∧ H2 p = some (.lst ys) ∧ ys.Perm (xs.take xs.length) ∧ Off b H H2) → ∃ v, σ[2]? = some (some v) ∧ Q v H2 := by
      rintro σ H2 ⟨v, ys, o', rfl, h1, h2, h3, h4, h5⟩
      rw [List.take_length] at h4
      exact ⟨_, rfl, q H2 p ys o' np h3 h4 h1 h2 h5⟩
    have start : ∃ v ys o', ([some (.ref b), some (.ref a), none, none] : L2.St).set 2 (some (.ref p)) = [some (.ref b), some (.ref a), some (.ref p), v] ∧ (upd H p (.lst [])) b = some o' ∧ Bx (n + 0) o' ∧ (upd H p (.lst [])) p = some (.lst ys) ∧ ys.Perm (xs.take 0) ∧ Off b H (upd H p (.lst [])) :=
      ⟨none, [], o, rfl, by rw [upd_ne npb.symm]; exact hb, hB, upd_same, List.Perm.refl _, Same.off s1⟩
    rcases hS with hS | hS
    · refine .inl ⟨_, rfl, a, rfl, ⟨xs, s1.seq hS⟩, for_it (n := xs.length) walk_list (fun i σ H2 => ∃ v ys o', σ = [some (.ref b), some (.ref a), some (.ref p), v] ∧ H2 b = some o' ∧ Bx (n + i) o' ∧ H2 p = some (.lst ys) ∧ ys.Perm (xs.take i) ∧ Off b H H2)
        start (fun i σ H2 _ h => sqL_off h.choose_spec.choose_spec.choose_spec.2.2.2.2.2 nab hS) (fun i x σ H2 H3 hi hP hY => ?_) fin⟩
      obtain ⟨rfl, hx⟩ := hY
      obtain ⟨ys, o', e1, h1, h2, h3, h4, h5, h6⟩ := turn i x σ H3 hi hx hP
      show _
      refine ⟨.ref p, by rw [e1]; rfl, .inl ⟨rfl, _, .inl (.inl h3)⟩, .ref b, by rw [e1]; rfl, .ref p, by rw [e1]; rfl, p, ys, rfl, .inl (.inl (.inl h3)), _, 1, rfl, rfl, b, o', n + i, _, rfl, h1, h2, by omega, by omega, by omega, fun r o'' r0 r1 hB' => ?_⟩
      refine ⟨x, by rw [e1]; rfl, p, ys, r, x, rfl, rfl, by rw [upd_ne npb]; exact h3, small1000 (by omega), r0, by omega, ?_⟩
      rw [e1]
      exact after i x ys o'' (upd H3 b o'') r hx upd_same (by rw [upd_ne npb]; exact h3) h5 (h6.trans (Off.at b H3 o'')) hB' r0
    · refine .inr ⟨_, rfl, a, rfl, ⟨xs, sqT_same s1 hS⟩, for_it (n := xs.length) walk_tup (fun i σ H2 => ∃ v ys o', σ = [some (.ref b), some (.ref a), some (.ref p), v] ∧ H2 b = some o' ∧ Bx (n + i) o' ∧ H2 p = some (.lst ys) ∧ ys.Perm (xs.take i) ∧ Off b H H2)
        start (fun i σ H2 _ h => sqT_off h.choose_spec.choose_spec.choose_spec.2.2.2.2.2 nab hS) (fun i x σ H2 H3 hi hP hY => ?_) fin⟩
      obtain ⟨rfl, hx⟩ := hY
      obtain ⟨ys, o', e1, h1, h2, h3, h4, h5, h6⟩ := turn i x σ H3 hi hx hP
      show _
      refine ⟨.ref p, by rw [e1]; rfl, .inl ⟨rfl, _, .inl (.inl h3)⟩, .ref b, by rw [e1]; rfl, .ref p, by rw [e1]; rfl, p, ys, rfl, .inl (.inl (.inl h3)), _, 1, rfl, rfl, b, o', n + i, _, rfl, h1, h2, by omega, by omega, by omega, fun r o'' r0 r1 hB' => ?_⟩
      refine ⟨x, by rw [e1]; rfl, p, ys, r, x, rfl, rfl, by rw [upd_ne npb]; exact h3, small1000 (by omega), r0, by omega, ?_⟩
      rw [e1]
      exact after i x ys o'' (upd H3 b o'') r hx upd_same (by rw [upd_ne npb]; exact h3) h5 (h6.trans (Off.at b H3 o'')) hB' r0
end
end Kn
namespace Kn
open PySem PySem.Spec PyProof.Rows L2
/-! the names of a crew -/
def nmc (s t i : Nat) : List Nat := (97 + (s + t * (i / 2)) % 26) :: (if i % 2 = 0 then [] else if s % 2 = 0 then [97] else [122, 122])
def nm (s t i : Nat) : Str := ⟨(nmc s t i).toArray⟩
def sfx (s i : Nat) : Str := if i % 2 = 0 then "" else if s % 2 = 0 then "a" else "zz"
theorem nm_eq (s t i : Nat) : (⟨#[97 + (s + t * (i / 2)) % 26]⟩ : Str) ++ sfx s i = nm s t i := by
  unfold nm nmc sfx
  split
  · rfl
  · split <;> rfl
theorem nmc_nodup : ∀ s : Fin 26, ∀ t ∈ [1, 3, 25], ((List.range 24).map (nmc s.val t)).Nodup := by decide +kernel
theorem nm_nodup {s t n : Nat} (hs : s < 26) (ht : t ∈ [1, 3, 25]) (hn : n ≤ 24) : ((List.range n).map (nm s t)).Nodup := by
  have h := nmc_nodup ⟨s, hs⟩ t ht
  have h2 : ((List.range n).map (nmc s t)).Nodup := by
    refine h.sublist ?_
    refine List.Sublist.map _ ?_
    rw [show (24 : Nat) = n + (24 - n) by omega, List.range_add]
    exact List.sublist_append_left _ _
  have e : (List.range n).map (nmc s t) = ((List.range n).map (nm s t)).map fun z => z.cps.toList := by
    rw [List.map_map]
    rfl
  rw [e] at h2
  exact (List.pairwise_map.mp h2).imp fun h e => h (by rw [e])
/-- a name of one to three small letters -/
def Nm (z : Str) : Prop := 1 ≤ z.length ∧ z.length ≤ 3 ∧ ∀ c ∈ z.cps.toList, 97 ≤ c ∧ c ≤ 122
theorem nm_nm (s t i : Nat) : Nm (nm s t i) := by
  have hm : (s + t * (i / 2)) % 26 < 26 := Nat.mod_lt _ (by decide)
  unfold nm nmc
  generalize (s + t * (i / 2)) % 26 = k at hm
  split
  · refine ⟨(by show 1 ≤ 1; decide), (by show 1 ≤ 3; decide), fun c hc => ?_⟩
    have h : c ∈ [97 + k] := hc
    rw [List.mem_singleton] at h
    omega
  · split
    · refine ⟨(by show 1 ≤ 2; decide), (by show 2 ≤ 3; decide), fun c hc => ?_⟩
      have h : c ∈ [97 + k, 97] := hc
      simp only [List.mem_cons, List.not_mem_nil, or_false] at h
      omega
    · refine ⟨(by show 1 ≤ 3; decide), (by show 3 ≤ 3; decide), fun c hc => ?_⟩
      have h : c ∈ [97 + k, 122, 122] := hc
      simp only [List.mem_cons, List.not_mem_nil, or_false] at h
      omega
theorem let_at {k : Nat} (h : k < 26) : atI ("abcdefghijklmnopqrstuvwxyz" : Str).cps.toList (k : Int) = some (97 + k) := by
  refine atI_nat ?_
  have : ∀ k : Fin 26, ("abcdefghijklmnopqrstuvwxyz" : Str).cps.toList[k.val]? = some (97 + k.val) := by decide +kernel
  exact this ⟨k, h⟩
theorem perm_strs {ys : List V} {l : List Str} (h : ys.Perm (l.map V.str)) : ∃ zs : List Str, ys = zs.map V.str ∧ zs.Perm l := by
  let un : V → Str := fun v => match v with | .str z => z | _ => ""
  refine ⟨ys.map un, ?_, ?_⟩
  · rw [List.map_map]
    refine (List.map_id ys).symm.trans (List.map_congr_left fun v hv => ?_)
    obtain ⟨z, _, e⟩ := List.mem_map.mp (h.mem_iff.mp hv)
    rw [← e]
    rfl
  · have h2 := h.map un
    rw [List.map_map] at h2
    have e : l.map (un ∘ V.str) = l := (List.map_congr_left fun z _ => rfl).trans (List.map_id l)
    rw [e] at h2
    exact h2
section
variable {P : Program} {w : World} {K : PySem.W.Frag} {mg : Str → Option Value} {base : Heap}
def spCrew : Sp := fun vs H Q _ => ∃ (b : Addr) (o : HO) (n : Nat) (m : Nat), vs = [.ref b, .int (m : Int)] ∧ H b = some o ∧ Bx n o ∧ n < 900000000 ∧ 1 ≤ m ∧ m ≤ 24 ∧
  ∀ H' p (ys : List Str) o', H p = none → H' p = some (.lst (ys.map V.str)) → ys.Nodup → 1 ≤ ys.length → ys.length ≤ m → (∀ z ∈ ys, Nm z) → H' b = some o' → Bx (n + 30) o' → Off b H H' → Q (.ref p) H'
theorem ok_crew {f ft fs : Addr} {fd fdt fds : FuncData} {k : Nat} (F : Fun K "_law_crew" "_law_crew" sCrew f fd) (B : Bn mg) (FT : Fun K "_law_take" "_law_take" sTake ft fdt) (gT : mg "_law_take" = some (.ref ft)) (bT : Binds K fdt ["_law_box_here", "_law_bound"] [])
    (FS : Fun K "_law_strewn" "_law_strewn" sStrewn fs fds) (gS : mg "_law_strewn" = some (.ref fs)) (bS : Binds K fds ["_law_box_here", "_law_some"] []) :
    FnOk P w K mg base CX0 (k + 3) f fd ["_law_box_here", "_law_most"] spCrew := by
  have GT : FnOk P w K mg base CX0 (k + 1) ft fdt ["_law_box_here", "_law_bound"] spTake := ok_take FT
  have GS : FnOk P w K mg base CX0 (k + 2) fs fds ["_law_box_here", "_law_some"] (spStrewn K) := ok_strewn FS B FT gT bT
  refine F.ok scCrew (fun vs H Q E h => ?_) (fun cdv A outer s H vs Q E hr h => ?_)
  · obtain ⟨b, o, n, m, rfl, _⟩ := h
    rfl
  · obtain ⟨b, o, n, m, rfl, hb, hB, hn, hm1, hm2, q⟩ := h
    have hr1 : Room (k + 1) _ := hr.mono (by omega)
    refine ⟨_, pss_cons (ps_par3 (i := 2) (j := 3) (l := 4) rfl scCrew.nd rfl rfl rfl (by decide) (by decide) (by decide) rfl rfl rfl (pa_cons (pe_op op_add pe_int (pe_call GT hr1 (by rfl) gT FT.kp bT .nil pass0 (pa_cons (pv 0) (pa_cons (pv 1) pa_nil)))) (pa_cons pe_str (pa_cons (pe_lst pa_nil) pa_nil))) rfl)
      (pss_cons (ps_par (i := 5) (j := 6) rfl scCrew.nd rfl rfl (by decide) rfl rfl (pa_cons (pe_call GT hr1 (by rfl) gT FT.kp bT .nil pass0 (pa_cons (pv 0) (pa_cons pe_int pa_nil))) (pa_cons (pe_ix ix_list (pe_lst (pa_cons pe_int (pa_cons pe_int (pa_cons pe_int pa_nil)))) (pe_call GT hr1 (by rfl) gT FT.kp bT .nil pass0 (pa_cons (pv 0) (pa_cons pe_int pa_nil))) (fun _ _ => rfl)) pa_nil)) rfl)
      (pss_cons (ps_for PassesOwn.never rfl (pi_range1 rfl B.range (pa_cons (pv 2) pa_nil)) (pg_name (i := 7) scCrew.nd rfl (.inl rfl))
        (pss_cons (ps_set (i := 8) scCrew.nd rfl (.inl rfl) (pe_ix ix_str (pv 3) (pe_op op_mod (pe_op op_add (pv 5) (pe_op op_mul (pv 6) (pe_op op_fdiv (pv 7) pe_int))) pe_int) (fun _ _ => rfl)))
        (pss_one (ps_expr (pe_bm PySem.F.plainAttrs_list PySem.F.slot_list_append PySem.F.type_list_append mt_append (pv 4) (pa_cons (pe_op op_add_str (pv 8) (pe_ix ix_list (pe_lst (pa_cons pe_str (pa_cons pe_str (pa_cons pe_str pa_nil)))) (pe_op op_mul (pe_op op_mod (pv 7) pe_int) (pe_op op_add pe_int (pe_op op_mod (pv 5) pe_int))) (fun _ _ => rfl))) pa_nil))))))
      (pss_one (ps_ret (pe_call GS hr (by rfl) gS FS.kp bS .nil pass0 (pa_cons (pv 0) (pa_cons (pv 4) pa_nil))))))), ?_⟩
    -- size, letters, pool
    refine ⟨.ref b, rfl, .int m, rfl, b, o, n, m, rfl, hb, hB, by omega, by omega, by omega, fun r o1 r0 r1 hB1 => ?_⟩
    refine ⟨1, r, rfl, rfl, Nat.zero_le _, fun q0 nq => ⟨_, _, _, rfl, ?_⟩⟩
    have nqb : q0 ≠ b := fun e => by
      rw [e, upd_same] at nq
      cases nq
    have nq0 : H q0 = none := by
      rw [upd_ne nqb] at nq
      exact nq
    have off1 : Off b H (upd (upd H b o1) q0 (.lst [])) := (Off.at b H o1).trans (Same.off (same_new nq))
    have hb1 : (upd (upd H b o1) q0 (.lst [])) b = some o1 := by rw [upd_ne nqb.symm, upd_same]
    have hq1 : (upd (upd H b o1) q0 (.lst [])) q0 = some (.lst []) := upd_same
    generalize upd (upd H b o1) q0 (.lst []) = H1 at off1 hb1 hq1 ⊢
    -- start, step
    refine ⟨.ref b, rfl, b, o1, n + 1, 26, rfl, hb1, hB1, by omega, by omega, by omega, fun rs o2 rs0 rs1 hB2 => ?_⟩
    obtain ⟨sN, rfl⟩ := Int.eq_ofNat_of_zero_le rs0
    refine ⟨(by show 3 ≤ sizeLine; decide), fun L nL => ?_⟩
    have nLb : L ≠ b := fun e => by
      rw [e, upd_same] at nL
      cases nL
    have nLq : L ≠ q0 := fun e => by
      rw [e, upd_ne nqb, hq1] at nL
      cases nL
    have off2 : Off b H (upd (upd H1 b o2) L (.lst [.int 1, .int 3, .int 25])) := (off1.trans (Off.at b H1 o2)).trans (Same.off (same_new nL))
    have hb2 : (upd (upd H1 b o2) L (.lst [.int 1, .int 3, .int 25])) b = some o2 := by rw [upd_ne nLb.symm, upd_same]
    have hq2 : (upd (upd H1 b o2) L (.lst [.int 1, .int 3, .int 25])) q0 = some (.lst []) := by rw [upd_ne nLq.symm, upd_ne nqb]; exact hq1
    have hL2 : (upd (upd H1 b o2) L (.lst [.int 1, .int 3, .int 25])) L = some (.lst [.int 1, .int 3, .int 25]) := upd_same
    generalize upd (upd H1 b o2) L (.lst [.int 1, .int 3, .int 25]) = H2 at off2 hb2 hq2 hL2 ⊢
    refine ⟨.ref b, rfl, b, o2, n + 1 + 1, 3, rfl, hb2, hB2, by omega, by omega, by omega, fun rt o3 rt0 rt1 hB3 => ?_⟩
    obtain ⟨tN, ht, hat⟩ : ∃ tN : Nat, tN ∈ [1, 3, 25] ∧ atI [V.int 1, V.int 3, V.int 25] rt = some (.int (tN : Int)) := by
      rcases (by omega : rt = 0 ∨ rt = 1 ∨ rt = 2) with e | e | e
      · exact ⟨1, by decide, by rw [e]; rfl⟩
      · exact ⟨3, by decide, by rw [e]; rfl⟩
      · exact ⟨25, by decide, by rw [e]; rfl⟩
    refine ⟨L, _, rt, .int tN, rfl, rfl, .inl (.inl (by rw [upd_ne nLb]; exact hL2)), hat, _, _, rfl, ?_⟩
    have off3 : Off b H (upd H2 b o3) := off2.trans (Off.at b H2 o3)
    have hb3 : (upd H2 b o3) b = some o3 := upd_same
    have hq3 : (upd H2 b o3) q0 = some (.lst []) := by rw [upd_ne nqb]; exact hq2
    generalize upd H2 b o3 = H3 at off3 hb3 hq3 ⊢
    -- the loop
    obtain ⟨rN, rfl⟩ := Int.eq_ofNat_of_zero_le r0
    have hsN : sN < 26 := by omega
    have hrN : 1 + rN ≤ 24 := by omega
    have hrm : 1 + rN ≤ m := by omega
    have htN : tN ≤ 25 := by
      simp only [List.mem_cons, List.not_mem_nil, or_false] at ht
      omega
    have e0 : (1 + (rN : Int)).toNat = 1 + rN := by omega
    refine ⟨_, rfl, 1 + (rN : Int), rfl, by omega, by omega, ?_⟩
    rw [e0]
    refine for_it walk_range (fun i σ G => ∃ v7 v8, σ = [some (.ref b), some (.int m), some (.int (1 + (rN : Int))), some (.str "abcdefghijklmnopqrstuvwxyz"), some (.ref q0), some (.int (sN : Int)), some (.int (tN : Int)), v7, v8] ∧ G b = some o3 ∧ G q0 = some (.lst (((List.range i).map (nm sN tN)).map V.str)) ∧ Off b H G)
      ⟨none, none, rfl, hb3, hq3, off3⟩ (fun _ _ _ _ _ => trivial) (fun i x σ G G' hi hP hY => ?_) (fun σ G hP => ?_)
    · obtain ⟨rfl, rfl⟩ := hY
      obtain ⟨v7, v8, rfl, gb, gq, go⟩ := hP
      have hk : (sN + tN * (i / 2)) % 26 < 26 := Nat.mod_lt _ (by decide)
      have ek : ((sN : Int) + (tN : Int) * ((0 + (i : Int)) / 2)) % 26 = (((sN + tN * (i / 2)) % 26 : Nat) : Int) := by
        rw [Int.zero_add]
        norm_cast
      refine ⟨_, rfl, _, rfl, _, rfl, _, rfl, 0 + (i : Int), 2, rfl, rfl, ⟨by decide, by decide⟩, _, _, rfl, rfl, .inl ⟨by omega, by omega⟩, _, _, rfl, rfl, _, 26, rfl, rfl, (by show (0 : Int) < 26; decide), _, _, 97 + (sN + tN * (i / 2)) % 26, rfl, rfl, (by show 26 ≤ sizeLine; decide), (by rw [ek]; exact let_at hk), ?_⟩
      refine ⟨_, rfl, .inl ⟨rfl, _, .inl (.inl gq)⟩, _, rfl, (by show 3 ≤ sizeLine; decide), fun L' nL' => ?_⟩
      refine ⟨_, rfl, 0 + (i : Int), 2, rfl, rfl, (by show (0 : Int) < 2; decide), _, rfl, (sN : Int), 2, rfl, rfl, (by show (0 : Int) < 2; decide), 1, _, rfl, rfl, _, _, rfl, rfl, .inl ⟨by omega, by omega⟩, ?_⟩
      have esf : atI [V.str "", V.str "a", V.str "zz"] ((0 + (i : Int)) % 2 * (1 + (sN : Int) % 2)) = some (.str (sfx sN i)) := by
        unfold sfx
        rcases (by omega : i % 2 = 0 ∨ i % 2 = 1) with e | e
        · rw [show (0 + (i : Int)) % 2 = 0 by omega, Int.zero_mul, if_pos e]
          rfl
        · rw [show (0 + (i : Int)) % 2 = 1 by omega, Int.one_mul, if_neg (by omega)]
          rcases (by omega : sN % 2 = 0 ∨ sN % 2 = 1) with e2 | e2
          · rw [show (1 + (sN : Int) % 2) = 1 by omega, if_pos e2]
            rfl
          · rw [show (1 + (sN : Int) % 2) = 2 by omega, if_neg (by omega)]
            rfl
      have gq' : (upd G' L' (.lst [.str "", .str "a", .str "zz"])) q0 = some (.lst (((List.range i).map (nm sN tN)).map V.str)) := by rw [upd_ne (ne_of_none gq nL')]; exact gq
      refine ⟨L', _, _, _, rfl, rfl, .inl (.inl upd_same), esf, _, _, rfl, rfl, ?_, q0, _, _, rfl, rfl, gq', ?_, ?_⟩
      · have h2 : (sfx sN i).length ≤ 2 := by
          unfold sfx
          split
          · decide
          · split <;> decide
        have h1 : (⟨#[97 + (sN + tN * (i / 2)) % 26]⟩ : Str).length = 1 := rfl
        rw [h1]
        exact Nat.le_trans (Nat.add_le_add_left h2 1) (by decide)
      · rw [List.length_map, List.length_map, List.length_range]
        exact small1000 (by omega)
      · refine ⟨_, _, rfl, ?_, ?_, fun c u e hc => ?_⟩
        · rw [upd_ne nqb.symm, upd_ne (ne_of_none gb nL')]
          exact gb
        · rw [upd_same, nm_eq, List.range_succ, List.map_append, List.map_append]
          rfl
        · rw [upd_ne (ne_of_none e nq0)]
          exact (same_new nL') _ _ (go c u e hc)
    · obtain ⟨v7, v8, rfl, gb, gq, go⟩ := hP
      refine ⟨_, rfl, _, rfl, b, q0, o3, n + 1 + 1 + 1, _, rfl, gb, hB3, ?_, nqb, .inl (.inl (.inl gq)), ?_, fun H' p ys o' np' hp' hperm hb' hB' off' => ?_⟩
      · rw [List.length_map, List.length_map, List.length_range]
        omega
      · rw [List.length_map, List.length_map, List.length_range]
        omega
      · obtain ⟨zs, rfl, hz⟩ := perm_strs hperm
        have hlen := hz.length_eq
        rw [List.length_map, List.length_range] at hlen
        have npH : H p = none := by
          cases e : H p with
          | none => rfl
          | some u =>
            by_cases hpb : p = b
            · rw [hpb, gb] at np'
              cases np'
            · rw [go p u e hpb] at np'
              cases np'
        refine q H' p zs o' npH hp' (hz.nodup_iff.mpr (nm_nodup hsN ht hrN)) (by omega) (by omega) (fun z hzz => ?_) hb' (hB'.mono ?_) (go.trans off')
        · obtain ⟨i, _, e⟩ := List.mem_map.mp (hz.mem_iff.mp hzz)
          rw [← e]
          exact nm_nm _ _ _
        · rw [List.length_map, List.length_map, List.length_range]
          omega
end
end Kn
namespace Kn
open PySem PySem.Spec PyProof.Rows L2
/-! a tuple known not to have a dict of its own: its methods -/
def TupD (H : Hp) (a : Addr) (xs : List V) : Prop := ∃ o, H a = some (.frz o (.tup xs)) ∧ o.cls = .type "tuple" ∧ o.dict = none
theorem TupD.sq {K : PySem.W.Frag} {H : Hp} {a : Addr} {xs : List V} (h : TupD H a xs) : SqT K H a xs := let ⟨o, e, _⟩ := h; .inl (.inr ⟨o, e⟩)
theorem TupD.same {H H' : Hp} {a : Addr} {xs : List V} (s : Same H H') (h : TupD H a xs) : TupD H' a xs := let ⟨o, e, r⟩ := h; ⟨o, s _ _ e, r⟩
theorem TupD.off {H H' : Hp} {a b : Addr} {xs : List V} (s : Off b H H') (n : a ≠ b) (h : TupD H a xs) : TupD H' a xs := let ⟨o, e, r⟩ := h; ⟨o, s _ _ e n, r⟩
section
variable {X : Cx}
theorem cr_tupD : CallR X (.type "tuple") (fun xs H Q => ∃ p ys, xs = [.ref p] ∧ SqL X.K H p ys ∧ ∀ l o, H l = none → o.cls = .type "tuple" → o.dict = none → Q (.ref l) (upd H l (.frz o (.tup ys)))) := by
  intro pins s σ H xs us Q I r h
  obtain ⟨p, ys, rfl, hq, q⟩ := h
  obtain ⟨u, rfl, rx⟩ := vals1 r
  cases rx
  obtain ⟨its, r', pl, hz⟩ := I.list hq
  have hlen := r'.length
  refine call_tuple_list pl.isList (fun h' kp => ?_) (by simp only [List.size_toArray] <;> omega)
  have J : Inv X pins σ H { s with heap := h' } := I.kept (t' := s.toks) kp
  refine ⟨.ref h'.objs.size, _, J.laid (t' := s.toks) (o := .frz { cls := .type "tuple", data := .seq its.toArray } (.tup ys)) (fun b o e => Heap.get?_push_of_some _ e) (Nat.le_refl _) ?_, rfl, q _ _ (J.hok.fresh (Nat.le_refl _)) rfl rfl⟩
  exact ⟨Heap.get?_push_size _ rfl, hz, its, r', IsTup.new _ _⟩
def tBT (r : V → List V → Hp → VK → Prop) (to : TE) (t : TA) : TE := fun σ H Q => to σ H fun x H1 => (∃ a xs, x = .ref a ∧ TupD H1 a xs) ∧ t σ H1 fun xs H2 => r x xs H2 Q
theorem pe_bmT {o e : Expr} {es : List Expr} {to : TE} {t : TA} {name : Str} {apos cpos : Pos} {id : String} {r : V → List V → Hp → VK → Prop} (slot : Slot "tuple" name id) (hty : typeOf (.builtin id) = pure (.type "method_descriptor")) (hm : MtR X id r) (ho : PE X o to) (ha : PA X (e :: es) t)
    (hbase : attributeBase o name X.env (eval o X.env) = eval o X.env := by rfl)
    (hfew : ((backTo cpos (starEach (e :: es) X.env)).all (fun x => !x.1) && (backToKw cpos (keywordEach [] X.env)).all (fun x => x.1.isSome) && decide ((e :: es).length + ([] : List Keyword).length + (if ([] : List Keyword).isEmpty then 0 else 1) < 30)) = true := by rfl)
    (hline : (apos.endLine == cpos.line) = true := by rfl) (hs : starEach (e :: es) X.env = (false, eval e X.env) :: starEach es X.env := by rfl) (hplain : (backTo cpos (starEach es X.env)).any (·.1) = false := by rfl) :
    PE X (.Call (.Attribute o name apos) (e :: es) [] cpos) (tBT r to t) := by
  refine ⟨fun pins s σ H Q I h => ?_⟩
  refine wpAny_Call_method_late hbase hfew hline rfl (thn (ho.run pins s σ H _ I h) fun v s1 ⟨x, H1, I1, r1, ⟨a, xs, ex, ob, hob, hc, hd⟩, q1⟩ => ?_)
  subst ex
  cases r1
  obtain ⟨hget, _⟩ := I1.hok a _ hob
  refine ⟨"tuple", id, PySem.F.plainAttrs_tuple, slot, hty, ⟨ob, hget, hc⟩, fun c ec => by cases ec; exact ⟨ob, hget, hd⟩, ?_⟩
  have hA := ha.run cpos pins s1 σ H1 _ I1 q1
  rw [hs] at hA ⊢
  refine Calls.callWith_builtin (by show (false || (backTo cpos (starEach es X.env)).any (·.1)) = false; rw [hplain] <;> rfl) (Calls.evalArgs_plain ?_)
  exact thn hA fun us s2 ⟨vs, H2, I2, r2, q2⟩ => hm pins s2 σ H2 (.ref a) vs _ us Q I2 rfl r2 q2
/-! a dict comprehension over a walk -/
theorem dc_it {J : It} {n : Nat} {G : Hp → Prop} {Y : Nat → Hp → V → Hp → Prop} (wk : Walk J n G Y) {g : TG} {tt : TT} {tk tv : TE} {vs : List Nat} {σ : L2.St} {H1 : Hp} {D : Addr} {Qd : Hp → Prop} (Pv : Nat → Hp → Prop) (h0 : Pv 0 (upd H1 D (.dK []))) (hG : ∀ i H, i ≤ n → Pv i H → G H)
    (hs : ∀ i x H H', i < n → Pv i H → Y i H x H' → g x (wipe σ vs) H' fun σ2 H2 => wipe σ2 vs = wipe σ vs ∧ tt σ2 H2 fun b H3 =>
      if b = true then tk σ2 H3 fun y H4 => tv σ2 H4 fun z H5 => ∃ kvs k, y = kV k ∧ H5 D = some (.dK kvs) ∧ kvs.length < sizeLine ∧ Pv (i + 1) (upd H5 D (.dK (putK kvs k z))) else Pv (i + 1) H3) (hd : ∀ H, Pv n H → Qd H) :
    ∃ W : Nat → Nat → Hp → Prop, (∃ m, W 0 m (upd H1 D (.dK []))) ∧ ∀ i m H, W i m H →
      (J.stop i H ∧ Qd H) ∨ (J.go i H ∧ ∃ Nx : Hp → Prop, (∀ H', Nx H' → ∃ m', m' < m ∧ W (i + 1) m' H') ∧ ∀ x H', J.yld i H x H' → g x (wipe σ vs) H' fun σ2 H2 => wipe σ2 vs = wipe σ vs ∧ tt σ2 H2 fun b H3 =>
        if b = true then tk σ2 H3 fun y H4 => tv σ2 H4 fun z H5 => ∃ kvs k, y = kV k ∧ H5 D = some (.dK kvs) ∧ kvs.length < sizeLine ∧ Nx (upd H5 D (.dK (putK kvs k z))) else Nx H3) := by
  refine ⟨fun i m H => m = n - i ∧ i ≤ n ∧ Pv i H, ⟨n, by simp, Nat.zero_le _, h0⟩, ?_⟩
  rintro i m H ⟨rfl, hi, p⟩
  have q := hG i H hi p
  by_cases hlt : i < n
  · exact .inr ⟨wk.goes i H hlt q, Pv (i + 1), fun H' p' => ⟨n - (i + 1), by omega, rfl, hlt, p'⟩, fun x H' y => hs i x H H' hlt p (wk.yields i H x H' hlt q y)⟩
  · obtain rfl : i = n := by omega
    exact .inl ⟨wk.stops H q, hd H p⟩
/-! two sorted lists of the same texts -/
theorem str_ext {a b : Str} (h : a.cps.toList = b.cps.toList) : a = b := by
  cases a with | mk x => cases b with | mk y => exact congrArg Str.mk (Array.toList_inj.mp h)
theorem rising_pw : ∀ (l : List Str) (p : Str), risingS p l = true → (p :: l).Pairwise (fun a b => a.cps.toList ≤ b.cps.toList)
  | [], p, _ => List.pairwise_singleton _ _
  | x :: r, p, h => by
    unfold risingS at h
    rw [Bool.and_eq_true] at h
    have h1 : p.cps.toList ≤ x.cps.toList := by
      rw [ltCps_eq] at h
      exact List.not_lt.mp (by simpa using h.1)
    have ih := rising_pw r x h.2
    refine List.pairwise_cons.mpr ⟨fun y hy => ?_, ih⟩
    rcases List.mem_cons.mp hy with e | e
    · rw [e]; exact h1
    · exact List.le_trans h1 ((List.pairwise_cons.mp ih).1 y e)
theorem sorted_pw : ∀ {l : List Str}, sortedS l = true → l.Pairwise (fun a b => a.cps.toList ≤ b.cps.toList)
  | [], _ => .nil
  | x :: r, h => rising_pw r x h
theorem sorted_one {a b : List Str} (hp : a.Perm b) (ha : sortedS a = true) (hb : sortedS b = true) : a = b :=
  List.Perm.eq_of_pairwise (fun x y _ _ h1 h2 => str_ext (List.le_antisymm h1 h2)) (sorted_pw ha) (sorted_pw hb) hp
end
end Kn
namespace Kn
open PySem PySem.Spec PyProof.Rows L2
abbrev sMust : Stmt := topS 4
abbrev sMbs : Stmt := topS 5
abbrev sPlace : Stmt := topS 6
abbrev sAhead : Stmt := topS 7
abbrev sTurned : Stmt := topS 8
abbrev sFallers : Stmt := topS 9
abbrev sFalls : Stmt := topS 10
theorem scMust : FnScope ["names", "name"] ["names", "name"] (defScope sMust) := ⟨rfl, rfl, rfl, by decide +kernel, rfl, by decide +kernel, by decide +kernel⟩
theorem scMbs : FnScope ["one", "other"] ["one", "other"] (defScope sMbs) := ⟨rfl, rfl, rfl, by decide +kernel, rfl, by decide +kernel, by decide +kernel⟩
theorem scPlace : FnScope ["row", "name"] ["row", "name"] (defScope sPlace) := ⟨rfl, rfl, rfl, by decide +kernel, rfl, by decide +kernel, by decide +kernel⟩
theorem scAhead : FnScope ["row", "one", "other", "place"] ["row", "one", "other"] (defScope sAhead) := ⟨rfl, rfl, rfl, by decide +kernel, rfl, by decide +kernel, by decide +kernel⟩
theorem scTurned : FnScope ["row"] ["row"] (defScope sTurned) := ⟨rfl, rfl, rfl, by decide +kernel, rfl, by decide +kernel, by decide +kernel⟩
def SqB (K : PySem.W.Frag) (H : Hp) (a : Addr) (xs : List V) : Prop := SqL K H a xs ∨ TupD H a xs
theorem SqB.a {K : PySem.W.Frag} {H : Hp} {a : Addr} {xs : List V} (h : SqB K H a xs) : SqA K H a xs := h.imp id TupD.sq
theorem SqB.same {K : PySem.W.Frag} {H H' : Hp} {a : Addr} {xs : List V} (e : Same H H') (h : SqB K H a xs) : SqB K H' a xs := h.imp (e.seq ·) (TupD.same e)
/-! texts in lists -/
theorem flat_strs (l : List Str) : (l.map V.str).all flatV = true := by
  rw [List.all_map, List.all_eq_true]
  intro z _
  rfl
theorem eqV_str (a b : Str) : eqV (.str a) (.str b) = decide (a = b) := by
  show (a == b) = _
  rw [Bool.beq_eq_decide_eq]
theorem in_strs {l : List Str} {z : Str} (h : z ∈ l) : inV (.str z) (l.map V.str) = true := by
  unfold inV
  rw [List.any_map, List.any_eq_true]
  exact ⟨z, h, by show eqV (.str z) (.str z) = true; rw [eqV_str]; exact decide_eq_true rfl⟩
/-- the first place of z in l -/
def At (l : List Str) (z : Str) (j : Nat) : Prop := l[j]? = some z ∧ ∀ m, m < j → l[m]? ≠ some z
theorem At.mem {l : List Str} {z : Str} {j : Nat} (h : At l z j) : z ∈ l := List.mem_of_getElem? h.1
theorem At.of {l : List Str} {z : Str} {j : Nat} (nd : l.Nodup) (h : l[j]? = some z) : At l z j := ⟨h, fun m hm e => by
  have := (List.getElem?_eq_some_iff.mp h)
  obtain ⟨hj, ej⟩ := this
  obtain ⟨hm', em⟩ := List.getElem?_eq_some_iff.mp e
  have := (List.nodup_iff_pairwise_ne.mp nd)
  rw [List.pairwise_iff_getElem] at this
  exact this m j hm' hj hm (em.trans ej.symm)⟩
section
variable {P : Program} {w : World} {K : PySem.W.Frag} {mg : Str → Option Value} {base : Heap}
def spMust (K : PySem.W.Frag) : Sp := fun vs H Q _ => ∃ (a : Addr) (l : List Str) (z : Str), vs = [.ref a, .str z] ∧ SqA K H a (l.map V.str) ∧ z ∈ l ∧ Q .non H
theorem ok_must {f : Addr} {fd : FuncData} {k : Nat} (F : Fun K "must_have" "must_have" sMust f fd) : FnOk P w K mg base CX0 (k + 1) f fd ["names", "name"] (spMust K) := by
  refine F.ok scMust (fun vs H Q E h => ?_) (fun cdv A outer s H vs Q E hr h => ?_)
  · obtain ⟨a, l, z, rfl, _⟩ := h
    rfl
  · obtain ⟨a, l, z, rfl, hS, hz, q⟩ := h
    refine ⟨_, pss_one (ps_if (pt_cmpR op_notIn_seq (pv 1) (pv 0) (by rfl)) (pss_one s_dead) pss_nil), ?_⟩
    refine ⟨_, rfl, _, rfl, a, _, rfl, hS, rfl, flat_strs l, false, ?_, iteF q⟩
    show V.bl (!inV _ _) = _
    rw [in_strs hz]
    rfl
def spPlace (K : PySem.W.Frag) : Sp := fun vs H Q _ => ∃ (a : Addr) (l : List Str) (z : Str) (j : Nat), vs = [.ref a, .str z] ∧ SqB K H a (l.map V.str) ∧ At l z j ∧ Q (.int (j : Int)) H
theorem ok_place {f fm : Addr} {fd fdm : FuncData} {k : Nat} (F : Fun K "place_of" "place_of" sPlace f fd) (FM : Fun K "must_have" "must_have" sMust fm fdm) (gM : mg "must_have" = some (.ref fm)) (bM : Binds K fdm ["names", "name"] []) : FnOk P w K mg base CX0 (k + 2) f fd ["row", "name"] (spPlace K) := by
  have GM : FnOk P w K mg base CX0 (k + 1) fm fdm ["names", "name"] (spMust K) := ok_must FM
  refine F.ok scPlace (fun vs H Q E h => ?_) (fun cdv A outer s H vs Q E hr h => ?_)
  · obtain ⟨a, l, z, j, rfl, _⟩ := h
    rfl
  · obtain ⟨a, l, z, j, rfl, hS, hz, q⟩ := h
    refine ⟨_, pss_cons (ps_expr (pe_call GM hr (by rfl) gM FM.kp bM .nil pass0 (pa_cons (pv 0) (pa_cons (pv 1) pa_nil))))
      (pss_one (ps_ret (pe_or2 (pe_bm PySem.F.plainAttrs_list PySem.F.slot_list_index PySem.F.type_list_index mt_index (pv 0) (pa_cons (pv 1) pa_nil)) (pe_bmT PySem.F.slot_tuple_index PySem.F.type_tuple_index mt_tup_index (pv 0) (pa_cons (pv 1) pa_nil))))), ?_⟩
    refine ⟨_, rfl, _, rfl, a, l, z, rfl, hS.a, hz.mem, ?_⟩
    rcases hS with hS | hS
    · refine .inl ⟨_, rfl, .inl ⟨rfl, _, hS⟩, _, rfl, a, _, .str z, j, .str z, rfl, rfl, hS, rfl, flat_strs l, by rw [List.getElem?_map, hz.1]; rfl, by rw [eqV_str]; exact decide_eq_true rfl, fun m z' hm e => ?_, q⟩
      rw [List.getElem?_map] at e
      cases h1 : l[m]? with
      | none => rw [h1] at e; cases e
      | some y =>
        rw [h1] at e
        cases e
        rw [eqV_str]
        exact decide_eq_false fun e2 => hz.2 m hm (by rw [h1, e2])
    · exact .inr ⟨_, rfl, ⟨a, _, rfl, hS⟩, _, rfl, a, l, z, j, rfl, rfl, hS.sq, hz.1, hz.2, q⟩
def spAhead (K : PySem.W.Frag) : Sp := fun vs H Q _ => ∃ (a : Addr) (l : List Str) (y z : Str) (i j : Nat), vs = [.ref a, .str y, .str z] ∧ SqB K H a (l.map V.str) ∧ At l y i ∧ At l z j ∧ Q (.bl (decide (i < j))) H
theorem ok_ahead {f fp fm : Addr} {fd fdp fdm : FuncData} {k : Nat} (F : Fun K "is_ahead" "is_ahead" sAhead f fd) (FP : Fun K "place_of" "place_of" sPlace fp fdp) (gP : mg "place_of" = some (.ref fp)) (bP : Binds K fdp ["row", "name"] []) (FM : Fun K "must_have" "must_have" sMust fm fdm) (gM : mg "must_have" = some (.ref fm)) (bM : Binds K fdm ["names", "name"] []) :
    FnOk P w K mg base CX0 (k + 3) f fd ["row", "one", "other"] (spAhead K) := by
  have GP : FnOk P w K mg base CX0 (k + 2) fp fdp ["row", "name"] (spPlace K) := ok_place FP FM gM bM
  refine F.ok scAhead (fun vs H Q E h => ?_) (fun cdv A outer s H vs Q E hr h => ?_)
  · obtain ⟨a, l, y, z, i, j, rfl, _⟩ := h
    rfl
  · obtain ⟨a, l, y, z, i, j, rfl, hS, hy, hz, q⟩ := h
    refine ⟨_, pss_cons (ps_set (i := 3) scAhead.nd rfl (.inl rfl) (pe_call GP hr (by rfl) gP FP.kp bP .nil pass0 (pa_cons (pv 0) (pa_cons (pv 1) pa_nil))))
      (pss_one (ps_ret (pe_cmpR op_lt (pv 3) (pe_call GP hr (by rfl) gP FP.kp bP .nil pass0 (pa_cons (pv 0) (pa_cons (pv 2) pa_nil))) (nomark _)))), ?_⟩
    refine ⟨_, rfl, _, rfl, a, l, y, i, rfl, hS, hy, _, rfl, _, rfl, _, rfl, a, l, z, j, rfl, hS, hz, (i : Int), (j : Int), rfl, rfl, ?_⟩
    have e : decide ((i : Int) < (j : Int)) = decide (i < j) := by
      rw [decide_eq_decide]
      omega
    show Q (.bl (decide ((i : Int) < (j : Int)))) H
    rw [e]
    exact q
def spTurned (K : PySem.W.Frag) : Sp := fun vs H Q _ => ∃ (a : Addr) (xs : List V), vs = [.ref a] ∧ SqA K H a xs ∧ ∀ H' p, Same H H' → H p = none → H' p = some (.tup xs.reverse) → Q (.ref p) H'
theorem ok_turned {f : Addr} {fd : FuncData} {k : Nat} (F : Fun K "turned" "turned" sTurned f fd) (B : Bn mg) : FnOk P w K mg base CX0 (k + 1) f fd ["row"] (spTurned K) := by
  refine F.ok scTurned (fun vs H Q E h => ?_) (fun cdv A outer s H vs Q E hr h => ?_)
  · obtain ⟨a, xs, rfl, _⟩ := h
    rfl
  · obtain ⟨a, xs, rfl, hS, q⟩ := h
    refine ⟨_, pss_one (ps_ret (pe_callTy call_tuple_of (by rfl) B.tuple (by decide +kernel) (pa_cons (pe_or2 (pe_revL (pv 0)) (pe_revT (pv 0))) pa_nil))), ?_⟩
    rcases hS with hS | hS
    · refine .inl ⟨_, rfl, a, xs, rfl, hS, fun L nL => ⟨L, _, rfl, .inl ⟨.inl (.inl upd_same), fun p np => ?_⟩⟩⟩
      exact q _ p ((same_new nL).trans (same_new np)) ((same_new nL).free np) upd_same
    · refine .inr ⟨_, rfl, a, xs, rfl, hS, fun p np => ⟨p, _, rfl, .inr ⟨.inl (.inl upd_same), ?_⟩⟩⟩
      exact q _ p (same_new np) np upd_same
def spMbs (K : PySem.W.Frag) : Sp := fun vs H Q _ => ∃ (a b : Addr) (xs ys : List Str), vs = [.ref a, .ref b] ∧ SqA K H a (xs.map V.str) ∧ SqA K H b (ys.map V.str) ∧ xs.Perm ys ∧ xs.length < 64 ∧ (∀ z ∈ xs, PyData.strOk z = true) ∧ ∀ H', Same H H' → Q .non H'
theorem dp_strs {K : PySem.W.Frag} {H : Hp} {a : Addr} {l : List Str} (h : SqL K H a (l.map V.str)) : Dp K H (.ref a) (.list (l.map PyData.str)) := .lst h (dpA_map V.str PyData.str (fun z => .str z) l)
theorem lay_strs : ∀ l : List Str, (∀ z ∈ l, PyData.strOk z = true) → PyData.canLayAll0 (l.map PyData.str) = true
  | [], _ => by simp [PyData.canLayAll0]
  | z :: l, h => by
    rw [List.map_cons, PyData.canLayAll0, lay_strs l fun y hy => h y (List.mem_cons_of_mem _ hy)]
    simp [PyData.canLay0, h z List.mem_cons_self]
theorem dep_strs : ∀ l : List Str, PyData.depthAll (l.map PyData.str) = 0
  | [] => by simp [PyData.depthAll]
  | z :: l => by
    rw [List.map_cons, PyData.depthAll, dep_strs l]
    simp [PyData.depth]
theorem lay_lstr (l : List Str) (h : ∀ z ∈ l, PyData.strOk z = true) : (PyData.list (l.map PyData.str)).canLay0 = true := by
  rw [PyData.canLay0]
  exact lay_strs l h
theorem shaped_strs (l : List Str) (h : ∀ z ∈ l, PyData.strOk z = true) : SeqAt.shaped (.list (l.map PyData.str)) = true := by
  unfold SeqAt.shaped
  rw [lay_lstr l h, PyData.depth, dep_strs]
  rfl
theorem ok_mbs {f : Addr} {fd : FuncData} {k : Nat} (F : Fun K "must_be_same" "must_be_same" sMbs f fd) (B : Bn mg) : FnOk P w K mg base CX0 (k + 1) f fd ["one", "other"] (spMbs K) := by
  refine F.ok scMbs (fun vs H Q E h => ?_) (fun cdv A outer s H vs Q E hr h => ?_)
  · obtain ⟨a, b, xs, ys, rfl, _⟩ := h
    rfl
  · obtain ⟨a, b, xs, ys, rfl, hS, hT, hp, hl, hok, q⟩ := h
    refine ⟨_, pss_one (ps_if (pt_cmpR (op_neD hr.units) (pe_callB cr_sortT2 (by rfl) B.sorted (by decide +kernel) (pa_cons (pv 0) pa_nil)) (pe_callB cr_sortT2 (by rfl) B.sorted (by decide +kernel) (pa_cons (pv 1) pa_nil)) (nomark _)) (pss_one s_dead) pss_nil), ?_⟩
    refine ⟨_, rfl, a, xs, rfl, hS, hl, fun us p h1 h2 np => ?_⟩
    have s1 : Same H (upd H p (.lst (us.map V.str))) := same_new np
    refine ⟨_, rfl, b, ys, rfl, sqA_same s1 hT, by rw [← hp.length_eq]; exact hl, fun ws r h3 h4 nr => ?_⟩
    have s2 := same_new (H := upd H p (.lst (us.map V.str))) (o := .lst (ws.map V.str)) nr
    obtain rfl : us = ws := sorted_one (h1.trans (hp.trans h3.symm)) h2 h4
    have hu : ∀ z ∈ us, PyData.strOk z = true := fun z hz => hok z (h1.mem_iff.mp hz)
    refine ⟨_, _, dp_strs (l := us) (.inl (.inl (s2 _ _ upd_same))), dp_strs (l := us) (.inl (.inl upd_same)), shaped_strs us hu, shaped_strs us hu, false, ?_, iteF (q _ (s1.trans s2))⟩
    rw [SeqAt.eqv_refl _ (lay_lstr us hu)]
    rfl
end
end Kn
namespace Kn
open PySem PySem.Spec PyProof.Rows L2
theorem tyes {σ : L2.St} {H : Hp} {A B : Hp → Prop} (h : A H) : tYes σ H fun b H3 => if b = true then A H3 else B H3 := (show (if true = true then A H else B H) from iteT h)
section
variable {K : PySem.W.Frag} {H : Hp} {a : Addr} {xs : List V} {σ : L2.St} {R : It → Hp → Prop} {i : Nat}
theorem sqL_keep {H' : Hp} (k : ∀ o, H a = some o → H' a = some o) (h : SqL K H a xs) : SqL K H' a xs := by
  rcases h with (h | ⟨o, h⟩) | h
  · exact .inl (.inl (k _ h))
  · exact .inl (.inr ⟨o, k _ h⟩)
  · exact .inr h
theorem sqT_keep {H' : Hp} (k : ∀ o, H a = some o → H' a = some o) (h : SqT K H a xs) : SqT K H' a xs := by
  rcases h with (h | ⟨o, h⟩) | h
  · exact .inl (.inl (k _ h))
  · exact .inl (.inr ⟨o, k _ h⟩)
  · exact .inr h
theorem it_seq (hσ : σ[i]? = some (some (.ref a))) (hS : SqA K H a xs) (h : ∀ (J : It) (G : Hp → Prop), (∀ H', (∀ o, H a = some o → H' a = some o) → G H') → Walk J xs.length G (YAt xs) → R J H) : iList K (tVar i) σ H R ∨ iTup K (tVar i) σ H R := by
  rcases hS with hS | hS
  · exact .inl ⟨_, hσ, a, rfl, ⟨xs, hS⟩, h _ _ (fun H' k => sqL_keep k hS) walk_list⟩
  · exact .inr ⟨_, hσ, a, rfl, ⟨xs, hS⟩, h _ _ (fun H' k => sqT_keep k hS) walk_tup⟩
theorem it_enum (hσ : σ[i]? = some (some (.ref a))) (hS : SqA K H a xs) (h : ∀ (J : It) (G : Hp → Prop), (∀ H', (∀ o, H a = some o → H' a = some o) → G H') → Walk J xs.length G (YPair (fun i => some (.int (i : Nat))) (fun i => xs[i]?)) → R J H) :
    iEnum K (tCons (tVar i) tNil) σ H R ∨ iEnT K (tCons (tVar i) tNil) σ H R := by
  rcases hS with hS | hS
  · exact .inl ⟨_, hσ, a, xs, rfl, hS, h _ _ (fun H' k => sqL_keep k hS) walk_enum⟩
  · exact .inr ⟨_, hσ, a, xs, rfl, hS, h _ _ (fun H' k => sqT_keep k hS) walk_enT⟩
end
end Kn
namespace Kn
open PySem PySem.Spec PyProof.Rows L2
theorem scFallers : FnScope ["one", "other", "place", "name", "places", "behind"] ["one", "other"] (defScope sFallers) := ⟨rfl, rfl, rfl, by decide +kernel, rfl, by decide +kernel, by decide +kernel⟩
theorem scFalls : FnScope ["one", "other"] ["one", "other"] (defScope sFalls) := ⟨rfl, rfl, rfl, by decide +kernel, rfl, by decide +kernel, by decide +kernel⟩
/-! places by names -/
def ekv : Nat → List Str → List (Key × V)
  | _, [] => []
  | n, z :: l => (Sum.inr z, .int (n : Int)) :: ekv (n + 1) l
theorem ekv_snoc (x : Str) : ∀ (l : List Str) (n : Nat), ekv n (l ++ [x]) = ekv n l ++ [(Sum.inr x, .int ((n + l.length : Nat) : Int))]
  | [], n => rfl
  | z :: l, n => by
    show (Sum.inr z, V.int (n : Int)) :: ekv (n + 1) (l ++ [x]) = (Sum.inr z, V.int (n : Int)) :: ekv (n + 1) l ++ _
    rw [ekv_snoc x l (n + 1), List.cons_append, List.length_cons, show n + 1 + l.length = n + (l.length + 1) by omega]
theorem ekv_len : ∀ (l : List Str) (n : Nat), (ekv n l).length = l.length
  | [], _ => rfl
  | z :: l, n => by
    show (ekv (n + 1) l).length + 1 = _
    rw [ekv_len l, List.length_cons]
theorem valV_cons (k k' : Key) (v : V) (kvs : List (Key × V)) : valV ((k', v) :: kvs) k = if k' = k then some v else valV kvs k := by
  unfold valV
  rw [List.find?_cons]
  by_cases h : k' = k
  · rw [if_pos h, decide_eq_true h]
    rfl
  · rw [if_neg h, decide_eq_false h]
theorem valV_ekv {z : Str} : ∀ (l : List Str) (n j : Nat), At l z j → valV (ekv n l) (Sum.inr z : Key) = some (.int ((n + j : Nat) : Int))
  | [], _, _, h => by cases h.1
  | y :: l, n, 0, h => by
    have e : y = z := Option.some.inj h.1
    show valV ((Sum.inr y, V.int (n : Int)) :: ekv (n + 1) l) _ = _
    rw [valV_cons, if_pos (by rw [e])]
    rfl
  | y :: l, n, j + 1, h => by
    have ne : ¬ (Sum.inr y : Key) = Sum.inr z := fun e => h.2 0 (Nat.succ_pos j) (by rw [Sum.inr.inj e]; rfl)
    show valV ((Sum.inr y, V.int (n : Int)) :: ekv (n + 1) l) _ = _
    rw [valV_cons, if_neg ne, valV_ekv l (n + 1) j ⟨by simpa using h.1, fun m hm => by simpa using h.2 (m + 1) (by omega)⟩, show n + 1 + j = n + (j + 1) by omega]
theorem valV_none {z : Str} : ∀ (l : List Str) (n : Nat), z ∉ l → valV (ekv n l) (Sum.inr z : Key) = none
  | [], _, _ => rfl
  | y :: l, n, h => by
    show valV ((Sum.inr y, V.int (n : Int)) :: ekv (n + 1) l) _ = _
    rw [valV_cons, if_neg (fun e => h (by rw [Sum.inr.inj e]; exact List.mem_cons_self)), valV_none l (n + 1) fun m => h (List.mem_cons_of_mem _ m)]
def pl (xs : List Str) (z : Str) : Nat := xs.idxOf z
theorem pl_at {xs : List Str} {z : Str} (h : z ∈ xs) : At xs z (pl xs z) := by
  have hl : xs.idxOf z < xs.length := List.idxOf_lt_length_of_mem h
  refine ⟨?_, fun m hm e => ?_⟩
  · unfold pl
    rw [List.getElem?_eq_getElem hl, List.getElem_idxOf]
  · obtain ⟨hm', em⟩ := List.getElem?_eq_some_iff.mp e
    have h2 : (xs[m] == z) = false := List.not_of_lt_findIdx (p := (· == z)) hm
    rw [em] at h2
    simp at h2
theorem pl_eq {xs : List Str} {z : Str} {j : Nat} (nd : xs.Nodup) (h : xs[j]? = some z) : pl xs z = j := by
  have h1 := pl_at (List.mem_of_getElem? h)
  have h2 := At.of nd h
  rcases Nat.lt_trichotomy (pl xs z) j with e | e | e
  · exact absurd h1.1 (h2.2 _ e)
  · exact e
  · exact absurd h2.1 (h1.2 _ e)
theorem rng_fm {α β : Type} (h : α → β) : ∀ l : List α, (List.range l.length).filterMap (fun i => l[i]?.map h) = l.map h
  | [] => rfl
  | x :: l => by
    rw [List.length_cons, List.range_succ_eq_map, List.filterMap_cons, List.filterMap_map, List.map_cons, ← rng_fm h l]
    rfl
/-- how often it falls -/
def desc (ms : List Nat) : Nat := ((List.range (ms.length - 1)).filter (fun i => decide (ms.getD (i + 1) 0 < ms.getD i 0))).length
theorem fm_len {α β : Type} (p : α → Bool) (g : α → β) : ∀ l : List α, (l.filterMap (fun i => if p i = true then some (g i) else none)).length = (l.filter p).length
  | [] => rfl
  | x :: l => by
    rw [List.filterMap_cons, List.filter_cons]
    cases e : p x with
    | true => simp [fm_len p g l]
    | false => simp [fm_len p g l]
/-- t[lo:hi], as a tuple wherever it is -/
def rSlB (K : PySem.W.Frag) : V → Option Int → Option Int → Hp → VK → Prop := fun x lo hi H Q => ∃ a xs, x = .ref a ∧ SqT K H a xs ∧ ∀ H' p, Same H H' → SqT K H' p (cutV xs lo hi) → Q (.ref p) H'
theorem sl_tupB {X : Cx} : SlR X (rSlB X.K) := by
  intro pins s σ H x v vl vu lo hi sl Q I rx hs pl pu h
  obtain ⟨a, xs, rfl, hx, q⟩ := h
  refine sl_tupA pins s σ H _ v vl vu lo hi sl Q I rx hs pl pu ⟨a, xs, rfl, hx, fun hw => ?_, fun _ p np => q _ p (same_new np) (.inl (.inl upd_same))⟩
  have e : cutV xs lo hi = xs := by
    unfold cutV
    rw [hw.1, hw.2]
    simp
  exact q H a (Same.refl _) (by rw [e]; exact hx)
theorem cut1 (xs : List V) : cutV xs (some 1) none = xs.drop 1 := by
  unfold cutV
  have h := HT.sIx_nat xs.length 0 1
  rw [show ((1 : Nat) : Int) = 1 from rfl] at h
  rw [h, HT.sIx_none]
  cases xs with
  | nil => rfl
  | cons x xs =>
    rw [Nat.min_eq_left (by simp)]
    exact List.take_of_length_le (by simp)
/-- zip(x, x[1:]) -/
theorem it_zip1 {K : PySem.W.Frag} {H : Hp} {b : Addr} {xs : List V} {σ : L2.St} {R : It → Hp → Prop} {i : Nat} (hσ : σ[i]? = some (some (.ref b))) (hS : SqA K H b xs)
    (h : ∀ (J : It) (G : Hp → Prop) (H1 : Hp), Same H H1 → (∀ H', Same H1 H' → G H') → Walk J (xs.length - 1) G (YPair (fun i => xs[i]?) (fun i => (xs.drop 1)[i]?)) → R J H1) :
    RZ.iZipA K (tCons (tVar i) (tCons (tSl (fun x lo hi H Q => rSlB K x lo hi H Q ∨ rSlL K x lo hi H Q) (tVar i) (tPart (tC (.int 1))) tNoPart) tNil)) σ H R := by
  have hm : xs.length - 1 = min xs.length (xs.drop 1).length := by rw [List.length_drop]; omega
  rcases hS with hS | hS
  · refine ⟨_, hσ, _, hσ, 1, rfl, .inr ⟨b, xs, rfl, hS, fun p np => ⟨b, p, xs, xs.drop 1, rfl, .inl ?_⟩⟩⟩
    rw [cut1]
    have s := same_new (o := .lst (xs.drop 1)) np
    exact ⟨s.seq hS, .inl (.inl upd_same), h _ _ _ s (fun H' s' => ⟨(s.trans s').seq hS, .inl (.inl (s' _ _ upd_same))⟩) (walk_zip hm)⟩
  · refine ⟨_, hσ, _, hσ, 1, rfl, .inl ⟨b, xs, rfl, hS, fun H1 p s hp => ?_⟩⟩
    rw [cut1] at hp
    exact ⟨b, p, xs, xs.drop 1, rfl, .inr ⟨sqT_same s hS, hp, h _ _ _ s (fun H' s' => ⟨sqT_same (s.trans s') hS, sqT_same s' hp⟩) (walk_zpT hm)⟩⟩
section
variable {P : Program} {w : World} {K : PySem.W.Frag} {mg : Str → Option Value} {base : Heap}
def spFallers (K : PySem.W.Frag) : Sp := fun vs H Q _ => ∃ (a b : Addr) (xs ys : List Str), vs = [.ref a, .ref b] ∧ SqA K H a (xs.map V.str) ∧ SqA K H b (ys.map V.str) ∧ xs.Perm ys ∧ xs.Nodup ∧ xs.length < 64 ∧ (∀ z ∈ xs, PyData.strOk z = true) ∧
  ∀ H' l vs, Same H H' → H' l = some (.lst vs) → vs.length = desc (ys.map (pl xs)) → Q (.ref l) H'
theorem ok_fallers {f fm : Addr} {fd fdm : FuncData} {k : Nat} (F : Fun K "fallers" "fallers" sFallers f fd) (B : Bn mg) (FM : Fun K "must_be_same" "must_be_same" sMbs fm fdm) (gM : mg "must_be_same" = some (.ref fm)) (bM : Binds K fdm ["one", "other"] []) : FnOk P w K mg base CX0 (k + 2) f fd ["one", "other"] (spFallers K) := by
  have GM : FnOk P w K mg base CX0 (k + 1) fm fdm ["one", "other"] (spMbs K) := ok_mbs FM B
  refine F.ok scFallers (fun vs H Q E h => ?_) (fun cdv A outer s H vs Q E hr h => ?_)
  · obtain ⟨a, b, xs, ys, rfl, _⟩ := h
    rfl
  · obtain ⟨a, b, xs, ys, rfl, hS, hT, hp, nd, hl, hok, q⟩ := h
    have hu := hu_of hr
    refine ⟨_, pss_cons (ps_expr (pe_call GM hr (by rfl) gM FM.kp bM .nil pass0 (pa_cons (pv 0) (pa_cons (pv 1) pa_nil))))
      (pss_cons (ps_set (i := 4) scFallers.nd rfl (.inr rfl) (pe_dc (own := [("place", 2), ("name", 3)]) (g := gTup K 2 (gCons (gName 2) (gCons (gName 3) gNil))) (tt := tYes) rfl scFallers.nd (pi_or (pi_enum (by rfl) B.enum (pa_cons (pv 0) pa_nil)) (pi_enT (by rfl) B.enum (pa_cons (pv 0) pa_nil)))
          (blkOk_by (N := ["one", "other", "place", "name", "places", "behind"]) (sc := defScope sFallers) (by decide +kernel)) (fun _ _ _ _ _ => pg_tup rfl (pgs_cons (pg_name (i := 2) scFallers.nd rfl (Or.inl rfl)) (pgs_cons (pg_name (i := 3) scFallers.nd rfl (Or.inl rfl)) pgs_nil))) (fun _ _ _ _ _ => pts_nil) (fun _ _ _ _ _ => pv 3) (fun _ _ _ _ _ => pv 2)))
      (pss_one (ps_ret (pe_lc (own := [("name", 3), ("behind", 5)]) (g := gTup K 2 (gCons (gName 3) (gCons (gName 5) gNil))) (tt := tTest (tOp (rI0 fun i j => .bl (decide (i < j))) (tDGet (tVar 4) (tVar 5)) (tDGet (tVar 4) (tVar 3)))) (te := tVar 3) rfl scFallers.nd (RZ.pi_zipA (by rfl) B.zip (pa_cons (pv 1) (pa_cons (pe_slice (sl_tupB.or sl_list) (pv 1) (po_some pe_int) po_none) pa_nil)))
          (blkOk_by (N := ["one", "other", "place", "name", "places", "behind"]) (sc := defScope sFallers) (by decide +kernel)) (fun _ _ _ _ _ => pg_tup rfl (pgs_cons (pg_name (i := 3) scFallers.nd rfl (Or.inl rfl)) (pgs_cons (pg_name (i := 5) scFallers.nd rfl (Or.inl rfl)) pgs_nil)))
          (fun _ _ _ _ _ => pts_one (pt_cmpR op_lt (pe_dget hu (pv 4) (pv 5) (fun _ _ => rfl)) (pe_dget hu (pv 4) (pv 3) (fun _ _ => rfl)) (nomark _))) (fun _ _ _ _ _ => pv 3))))), ?_⟩
    -- must_be_same(one, other)
    refine ⟨_, rfl, _, rfl, a, b, xs, ys, rfl, hS, hT, hp, hl, hok, fun H1 s1 => ?_⟩
    replace hS := sqA_same s1 hS
    replace hT := sqA_same s1 hT
    -- places
    refine it_enum rfl hS fun J G hG wk D nD => ?_
    refine dc_it wk (fun i H2 => Same H1 H2 ∧ H2 D = some (.dK (ekv 0 (xs.take i)))) ⟨same_new nD, upd_same⟩ (fun i H2 _ h => hG H2 fun o e => h.1 _ _ e) (fun i v H2 H3 hi hP hY => ?_) (fun H2 hP => ?_)
    · rw [List.length_map] at hi
      obtain ⟨s2, hD⟩ := hP
      obtain ⟨T, u1, u2, rfl, nT, rfl, g1, g2⟩ := hY
      cases g1
      have hx : xs[i]? = some xs[i] := List.getElem?_eq_getElem hi
      obtain rfl : u2 = .str xs[i] := by
        have g2' : (xs.map V.str)[i]? = some u2 := g2
        rw [List.getElem?_map, hx] at g2'
        exact (Option.some.inj g2').symm
      have s3 : Same H2 (upd H2 T (.tup [.int (i : Nat), .str xs[i]])) := same_new nT
      have hlen : (ekv 0 (xs.take i)).length = i := by rw [ekv_len, List.length_take]; omega
      refine ⟨T, _, rfl, .inl (.inl upd_same), rfl, _, _, rfl, _, _, rfl, rfl, rfl, tyes ?_⟩
      refine ⟨_, rfl, _, rfl, _, (Sum.inr xs[i] : Key), rfl, s3 _ _ hD, by rw [hlen]; exact small1000 (by omega), fun c o e => ?_, ?_⟩
      · rw [upd_ne (ne_of_none e nD)]
        exact s3 _ _ (s2 _ _ e)
      · have hnew : valV (ekv 0 (xs.take i)) (Sum.inr xs[i] : Key) = none := valV_none _ _ fun hm => by
          obtain ⟨m, hm⟩ := List.mem_iff_getElem?.mp hm
          rw [List.getElem?_take] at hm
          split at hm
          · exact (At.of nd hx).2 m (by assumption) hm
          · cases hm
        rw [upd_same, putK_new _ hnew, List.take_add_one, hx]
        show _ = some (HO.dK (ekv 0 (xs.take i ++ [xs[i]])))
        rw [ekv_snoc, List.length_take, show 0 + min i xs.length = i by omega]
    · obtain ⟨s2, hD⟩ := hP
      rw [List.length_map, List.take_length] at hD
      -- those who fall
      have ylen : ys.length = xs.length := hp.length_eq.symm
      generalize hms : ys.map (pl xs) = ms at q
      have mlen : ms.length = ys.length := by rw [← hms, List.length_map]
      have hmem : ∀ (j : Nat) (z : Str), ys[j]? = some z → valV (ekv 0 xs) (Sum.inr z : Key) = some (.int ((ms.getD j 0 : Nat) : Int)) := fun j z hj => by
        rw [valV_ekv xs 0 _ (pl_at (hp.mem_iff.mpr (List.mem_of_getElem? hj))), Nat.zero_add, ← hms, List.getD_eq_getElem?_getD, List.getElem?_map, hj]
        rfl
      unfold gName
      dsimp only
      unfold tRet

      unfold tLc
      refine it_zip1 rfl (sqA_same s2 hT) ?_
      intro J G H3 s3 hG wk N nN
      refine lc_fm wk (fun i => if decide (ms.getD (i + 1) 0 < ms.getD i 0) = true then some (V.str (ys.getD i "")) else none) nN (by rw [List.length_map]; exact small1000 (by omega)) (fun H4 s4 => hG H4 s4) (fun j y H4 H5 R hj s4 hN hY hR => ?_) (fun H4 s4 hN => ?_)
      · obtain ⟨T1, u1, u2, rfl, nT1, rfl, g1, g2⟩ := hY
        rw [List.length_map] at hj
        have hj1 : ys[j]? = some ys[j] := List.getElem?_eq_getElem (by omega)
        have hj2 : ys[j + 1]? = some ys[j + 1] := List.getElem?_eq_getElem (by omega)
        obtain rfl : u1 = .str ys[j] := by
          have g1' : (ys.map V.str)[j]? = some u1 := g1
          rw [List.getElem?_map, hj1] at g1'
          exact (Option.some.inj g1').symm
        obtain rfl : u2 = .str ys[j + 1] := by
          have g2' : ((ys.map V.str).drop 1)[j]? = some u2 := g2
          rw [List.getElem?_drop, Nat.add_comm 1 j, List.getElem?_map, hj2] at g2'
          exact (Option.some.inj g2').symm
        have sT : Same H4 (upd H4 T1 (.tup [.str ys[j], .str ys[j + 1]])) := same_new nT1
        have hKj := sT _ _ (s4 _ _ (s3 _ _ hD))
        have d1 := DGet.k (k := (Sum.inr ys[j] : Key)) hKj
        have d2 := DGet.k (k := (Sum.inr ys[j + 1] : Key)) hKj
        rw [hmem j _ hj1] at d1
        rw [hmem (j + 1) _ hj2] at d2
        refine ⟨T1, _, rfl, .inl (.inl upd_same), rfl, _, _, rfl, _, _, rfl, rfl, rfl, ?_⟩
        refine ⟨_, rfl, _, rfl, D, _, rfl, d2, _, rfl, _, rfl, D, _, rfl, d1, _, _, rfl, rfl, _, rfl, ?_⟩
        have er : decide (((ms.getD (j + 1) 0 : Nat) : Int) < ((ms.getD j 0 : Nat) : Int)) = decide (ms.getD (j + 1) 0 < ms.getD j 0) := by
          rw [decide_eq_decide]
          omega
        have ey : ys.getD j "" = ys[j] := by rw [List.getD_eq_getElem?_getD, hj1]; rfl
        show if decide (((ms.getD (j + 1) 0 : Nat) : Int) < ((ms.getD j 0 : Nat) : Int)) = true then _ else _
        have hR' := hR _ sT
        rw [er]
        rw [ey] at hR'
        by_cases hc : decide (ms.getD (j + 1) 0 < ms.getD j 0) = true
        · rw [if_pos hc] at hR' ⊢
          exact ⟨_, rfl, hR'⟩
        · rw [if_neg hc] at hR' ⊢
          exact hR'
      · refine q _ _ _ (((s1.trans s2).trans s3).trans s4) hN ?_
        rw [fm_len, List.length_map, ← mlen]
        rfl
def spFalls (K : PySem.W.Frag) : Sp := fun vs H Q _ => ∃ (a b : Addr) (xs ys : List Str), vs = [.ref a, .ref b] ∧ SqA K H a (xs.map V.str) ∧ SqA K H b (ys.map V.str) ∧ xs.Perm ys ∧ xs.Nodup ∧ xs.length < 64 ∧ (∀ z ∈ xs, PyData.strOk z = true) ∧
  ∀ H', Same H H' → Q (.int ((desc (ys.map (pl xs)) : Nat) : Int)) H'
theorem ok_falls {f fm fl : Addr} {fd fdm fdl : FuncData} {k : Nat} (F : Fun K "falls" "falls" sFalls f fd) (B : Bn mg) (FM : Fun K "must_be_same" "must_be_same" sMbs fm fdm) (gM : mg "must_be_same" = some (.ref fm)) (bM : Binds K fdm ["one", "other"] [])
    (FL : Fun K "fallers" "fallers" sFallers fl fdl) (gL : mg "fallers" = some (.ref fl)) (bL : Binds K fdl ["one", "other"] []) : FnOk P w K mg base CX0 (k + 3) f fd ["one", "other"] (spFalls K) := by
  have GL : FnOk P w K mg base CX0 (k + 2) fl fdl ["one", "other"] (spFallers K) := ok_fallers FL B FM gM bM
  refine F.ok scFalls (fun vs H Q E h => ?_) (fun cdv A outer s H vs Q E hr h => ?_)
  · obtain ⟨a, b, xs, ys, rfl, _⟩ := h
    rfl
  · obtain ⟨a, b, xs, ys, rfl, hS, hT, hp, nd, hl, hok, q⟩ := h
    refine ⟨_, pss_one (ps_ret (pe_callB call_len_seq (by rfl) B.len PySem.boot_len (pa_cons (pe_call GL hr (by rfl) gL FL.kp bL .nil pass0 (pa_cons (pv 0) (pa_cons (pv 1) pa_nil))) pa_nil))), ?_⟩
    refine ⟨_, rfl, _, rfl, a, b, xs, ys, rfl, hS, hT, hp, nd, hl, hok, fun H1 l vs s1 hv hn => ⟨l, vs, rfl, .inl (.inl (.inl hv)), ?_⟩⟩
    rw [hn]
    exact q H1 s1
end
end Kn
namespace Kn
open PySem PySem.Spec PyProof.Rows L2
/-! tuples and lists of names as data -/
theorem showable_strs : ∀ l : List Str, PyData.showableAll (l.map PyData.str) = true
  | [] => by simp [PyData.showableAll]
  | z :: l => by
    rw [List.map_cons, PyData.showableAll, showable_strs l]
    simp [PyData.showable]
theorem noDict_strs : ∀ l : List Str, PyData.hasDictAll (l.map PyData.str) = false
  | [] => by simp [PyData.hasDictAll]
  | z :: l => by
    rw [List.map_cons, PyData.hasDictAll, noDict_strs l]
    simp [PyData.hasDict]
theorem shown_strs : ∀ l : List Str, PyData.shownAll (l.map PyData.str) = l.map reprText
  | [] => by simp [PyData.shownAll]
  | z :: l => by
    rw [List.map_cons, PyData.shownAll, shown_strs l]
    simp [PyData.shown]
theorem cost_nm : ∀ l : List Str, (∀ z ∈ l, Nm z) → fmtCost l ≤ 34 * l.length
  | [], _ => Nat.le_refl _
  | z :: l, h => by
    have h1 := (h z List.mem_cons_self).2.1
    have h2 := cost_nm l fun y hy => h y (List.mem_cons_of_mem _ hy)
    rw [fmtCost_cons, List.length_cons]
    omega
theorem nm_code {l : List Str} (h : ∀ z ∈ l, Nm z) : ∀ y ∈ l, ∀ c ∈ y.cps.toList, c < 16 ^ 8 := fun y hy c hc => Nat.lt_of_le_of_lt ((h y hy).2.2 c hc).2 (by decide)
theorem nm_ok {z : Str} (h : Nm z) : PyData.strOk z = true := by
  unfold PyData.strOk
  rw [Array.all_eq_true_iff_forall_mem]
  intro c hc
  exact decide_eq_true (Nat.lt_of_le_of_lt (h.2.2 c (by simpa using hc)).2 (by decide))
def dT (l : List Str) : PyData := .tuple (l.map PyData.str)
theorem dT_shown {l : List Str} (h : ∀ z ∈ l, Nm z) (hl : l.length ≤ 1000) : (dT l).shown.length ≤ sizeLine := by
  unfold dT
  rw [PyData.shown, shown_strs]
  have h1 := fmt_text (l.map reprText)
  have h2 := fmt_piled l (nm_code h)
  have h3 := cost_nm l h
  exact Nat.le_trans (by omega : _ ≤ 34002) (by decide)
theorem dT_show (l : List Str) : (dT l).showable = true := by
  unfold dT
  rw [PyData.showable]
  exact showable_strs l
theorem dT_noDict (l : List Str) : (dT l).hasDict = false := by
  unfold dT
  rw [PyData.hasDict]
  exact noDict_strs l
theorem dT_depth (l : List Str) : (dT l).depth ≤ 60 := by
  unfold dT
  rw [PyData.depth, dep_strs]
  decide
theorem dT_dp {K : PySem.W.Frag} {H : Hp} {a : Addr} {l : List Str} (h : SqT K H a (l.map V.str)) : Dp K H (.ref a) (dT l) := .tup h (dpA_map V.str PyData.str (fun z => .str z) l)
theorem dT_sm (n : Nat) (l : List Str) (hl : l.length ≤ 1000) : Sm (n + 1) (dT l) := by
  refine (show (l.map PyData.str).length ≤ 100000 ∧ ∀ d ∈ l.map PyData.str, Sm n d from ⟨by rw [List.length_map]; omega, fun d hd => ?_⟩)
  obtain ⟨z, _, rfl⟩ := List.mem_map.mp hd
  cases n <;> exact trivial
/-! what dict tells of pairs with unlike names -/
theorem merge_ekv : ∀ (l2 l1 : List Str), (l1 ++ l2).Nodup → mergeK (ekv 0 l1) (ekv l1.length l2) = ekv 0 (l1 ++ l2)
  | [], l1, _ => by rw [List.append_nil]; rfl
  | z :: l2, l1, h => by
    have hz : z ∉ l1 := fun hm => (List.nodup_append.mp h).2.2 z hm z List.mem_cons_self rfl
    show mergeK (putK (ekv 0 l1) (Sum.inr z : Key) (.int (l1.length : Int))) (ekv (l1.length + 1) l2) = _
    rw [putK_new _ (valV_none l1 0 hz)]
    have e : ekv 0 l1 ++ [((Sum.inr z : Key), V.int (l1.length : Int))] = ekv 0 (l1 ++ [z]) := by rw [ekv_snoc, Nat.zero_add]
    rw [e]
    have ih := merge_ekv l2 (l1 ++ [z]) (by rw [List.append_assoc]; exact h)
    rw [List.length_append, List.length_singleton, List.append_assoc] at ih
    exact ih
theorem merge_all {l : List Str} (h : l.Nodup) : mergeK [] (ekv 0 l) = ekv 0 l := merge_ekv l [] h
theorem pair_app {α β : Type} {F : α → β → Prop} : ∀ {l1 : List α} {l2 : List β} {m1 : List α} {m2 : List β}, Paired F l1 l2 → Paired F m1 m2 → Paired F (l1 ++ m1) (l2 ++ m2)
  | _, _, _, _, .nil, h => h
  | _, _, _, _, .cons h hs, h2 => .cons h (pair_app hs h2)
/-! falls of a row and itself -/
theorem map_pl {l : List Str} (nd : l.Nodup) : l.map (pl l) = List.range l.length := by
  apply List.ext_getElem
  · rw [List.length_map, List.length_range]
  · intro i h1 h2
    rw [List.getElem_map, List.getElem_range]
    rw [List.length_map] at h1
    exact pl_eq nd (List.getElem?_eq_getElem h1)
theorem desc_range (n : Nat) : desc (List.range n) = 0 := by
  unfold desc
  rw [List.length_eq_zero_iff, List.filter_eq_nil_iff]
  intro i hi
  rw [List.length_range] at hi
  have := List.mem_range.mp hi
  rw [List.getD_eq_getElem?_getD, List.getD_eq_getElem?_getD, List.getElem?_range (by omega), List.getElem?_range (by omega)]
  simp
theorem desc_rev (n : Nat) : desc (List.range n).reverse = n - 1 := by
  unfold desc
  rw [List.length_reverse, List.length_range]
  have e : (List.range (n - 1)).filter (fun i => decide ((List.range n).reverse.getD (i + 1) 0 < (List.range n).reverse.getD i 0)) = List.range (n - 1) := by
    rw [List.filter_eq_self]
    intro i hi
    have := List.mem_range.mp hi
    rw [List.getD_eq_getElem?_getD, List.getD_eq_getElem?_getD, List.getElem?_reverse (by rw [List.length_range]; omega), List.getElem?_reverse (by rw [List.length_range]; omega), List.length_range, List.getElem?_range (by omega), List.getElem?_range (by omega)]
    exact decide_eq_true (by show n - 1 - (i + 1) < n - 1 - i; omega)
  rw [e, List.length_range]
theorem falls_self {l : List Str} (nd : l.Nodup) : desc (l.map (pl l)) = 0 := by rw [map_pl nd, desc_range]
theorem falls_rev {l : List Str} (nd : l.Nodup) : desc (l.reverse.map (pl l)) = l.length - 1 := by rw [List.map_reverse, map_pl nd, desc_rev]
theorem cut_1 (xs : List V) : cutV xs (some 1) none = xs.drop 1 := by
  unfold cutV
  rw [show HT.sIx xs.length 0 (some 1) = min 1 xs.length from HT.sIx_nat xs.length 0 1, HT.sIx_none]
  cases xs with
  | nil => rfl
  | cons x r =>
    rw [show min 1 (x :: r).length = 1 by simp]
    show (List.take ((x :: r).length - 1) r) = r
    exact List.take_of_length_le (by simp)
end Kn
namespace Kn
open PySem PySem.Spec PyProof.Rows L2
abbrev sRight : Stmt := topS 17
abbrev sLaw : Stmt := topS 18
theorem scRight : FnScope ["_law_box_here", "_law_folk", "_law_back", "_law_kept", "_law_at", "_law_mate", "_law_spots", "_law_some", "_law_due", "_law_found", "_law_its", "_law_spot", "_law_near", "_law_side"] ["_law_box_here"] (defScope sRight) := ⟨rfl, rfl, rfl, by decide +kernel, rfl, by decide +kernel, by decide +kernel⟩
/-- the defs of the text, as the top leaves them -/
structure Tx (K : PySem.W.Frag) (mg : Str → Option Value) where
  fC : Addr
  dC : FuncData
  FC : Fun K "_law_crew" "_law_crew" sCrew fC dC
  gC : mg "_law_crew" = some (.ref fC)
  bC : Binds K dC ["_law_box_here", "_law_most"] []
  fT : Addr
  dT : FuncData
  FT : Fun K "_law_take" "_law_take" sTake fT dT
  gT : mg "_law_take" = some (.ref fT)
  bT : Binds K dT ["_law_box_here", "_law_bound"] []
  fW : Addr
  dW : FuncData
  FW : Fun K "_law_strewn" "_law_strewn" sStrewn fW dW
  gW : mg "_law_strewn" = some (.ref fW)
  bW : Binds K dW ["_law_box_here", "_law_some"] []
  fS : Addr
  dS : FuncData
  FS : Fun K "_law_same" "_law_same" sSame fS dS
  gS : mg "_law_same" = some (.ref fS)
  bS : Binds K dS ["_law_found", "_law_due"] []
  fM : Addr
  dM : FuncData
  FM : Fun K "must_have" "must_have" sMust fM dM
  gM : mg "must_have" = some (.ref fM)
  bM : Binds K dM ["names", "name"] []
  fN : Addr
  dN : FuncData
  FN : Fun K "must_be_same" "must_be_same" sMbs fN dN
  gN : mg "must_be_same" = some (.ref fN)
  bN : Binds K dN ["one", "other"] []
  fP : Addr
  dP : FuncData
  FP : Fun K "place_of" "place_of" sPlace fP dP
  gP : mg "place_of" = some (.ref fP)
  bP : Binds K dP ["row", "name"] []
  fA : Addr
  dA : FuncData
  FA : Fun K "is_ahead" "is_ahead" sAhead fA dA
  gA : mg "is_ahead" = some (.ref fA)
  bA : Binds K dA ["row", "one", "other"] []
  fF : Addr
  dF : FuncData
  FF : Fun K "falls" "falls" sFalls fF dF
  gF : mg "falls" = some (.ref fF)
  bF : Binds K dF ["one", "other"] []
  fX : Addr
  dX : FuncData
  FX : Fun K "fallers" "fallers" sFallers fX dX
  gX : mg "fallers" = some (.ref fX)
  bX : Binds K dX ["one", "other"] []
  fU : Addr
  dU : FuncData
  FU : Fun K "turned" "turned" sTurned fU dU
  gU : mg "turned" = some (.ref fU)
  bU : Binds K dU ["row"] []
  fB : Addr
  dB : FuncData
  FB : Fun K "_law_box" "_law_box" sBox fB dB
  gB : mg "_law_box" = some (.ref fB)
  bB : Binds K dB ["_law_script", "_law_k"] []
  kP : KBinds K dP ["row", "name"] ["name", "row"] (onlyK [1, 0]) (onlyK [1, 0])
  kA : KBinds K dA ["row", "one", "other"] ["other", "one", "row"] (onlyK [2, 1, 0]) (onlyK [2, 1, 0])
  kF : KBinds K dF ["one", "other"] ["other", "one"] (onlyK [1, 0]) (onlyK [1, 0])
  kU : KBinds K dU ["row"] ["row"] (onlyK [0]) (onlyK [0])
section
variable {P : Program} {w : World} {K : PySem.W.Frag} {mg : Str → Option Value} {base : Heap}
def spRight : Sp := fun vs H Q _ => ∃ (b : Addr) (o : HO) (n : Nat), vs = [.ref b] ∧ H b = some o ∧ Bx n o ∧ n < 800000000 ∧ ∀ H' o', H' b = some o' → Bx (n + 100) o' → Off b H H' → Q (.bl true) H'
set_option maxHeartbeats 8000000 in
theorem ok_right {f : Addr} {fd : FuncData} (F : Fun K "_law_right" "_law_right" sRight f fd) (B : Bn mg) (T : Tx K mg) : FnG P w K mg base CX0 4 f fd ["_law_box_here"] spRight := by
  have GS : FnOk P w K mg base CX0 3 T.fS T.dS ["_law_found", "_law_due"] (spSame K 2) := ok_same T.FS B T.gS T.bS 2
  have GC : FnOk P w K mg base CX0 3 T.fC T.dC ["_law_box_here", "_law_most"] spCrew := ok_crew T.FC B T.FT T.gT T.bT T.FW T.gW T.bW
  have GW : FnOk P w K mg base CX0 2 T.fW T.dW ["_law_box_here", "_law_some"] (spStrewn K) := ok_strewn T.FW B T.FT T.gT T.bT
  have GP : FnOk P w K mg base CX0 2 T.fP T.dP ["row", "name"] (spPlace K) := ok_place T.FP T.FM T.gM T.bM
  have GA : FnOk P w K mg base CX0 3 T.fA T.dA ["row", "one", "other"] (spAhead K) := ok_ahead T.FA T.FP T.gP T.bP T.FM T.gM T.bM
  have GF : FnOk P w K mg base CX0 3 T.fF T.dF ["one", "other"] (spFalls K) := ok_falls T.FF B T.FN T.gN T.bN T.FX T.gX T.bX
  have GU : FnOk P w K mg base CX0 1 T.fU T.dU ["row"] (spTurned K) := ok_turned T.FU B
  refine okG F scRight (fun vs H Q E h => ?_) (fun cdv A outer s H vs Q E hg hr h => ?_)
  · obtain ⟨b, o, n, rfl, _⟩ := h
    rfl
  · obtain ⟨b, o, n, rfl, hb, hB, hn, q⟩ := h
    have hr1 : Room 1 _ := hr.mono (by decide)
    have hr2 : Room 2 _ := hr.mono (by decide)
    have hu := hu_of hr
    refine ⟨_, (pss_cons (ps_set (i := 1) scRight.nd rfl (.inr rfl) (pe_callTy cr_tupD (by rfl) B.tuple (by decide +kernel) (pa_cons (pe_call GC hr (by rfl) T.gC T.FC.kp T.bC .nil pass0 (pa_cons (pv 0) (pa_cons pe_int pa_nil))) pa_nil)))
      (pss_cons (ps_par (i := 2) (j := 3) rfl scRight.nd rfl rfl (by decide) rfl rfl (pa_cons (pe_callTy call_tuple_of (by rfl) B.tuple (by decide +kernel) (pa_cons (pe_call GW hr2 (by rfl) T.gW T.FW.kp T.bW .nil pass0 (pa_cons (pv 0) (pa_cons (pv 1) pa_nil))) pa_nil)) (pa_cons (pe_callB (cr_repr hg hr.units) (by rfl) B.repr (by decide +kernel) (pa_cons (pv 1) pa_nil)) pa_nil)) rfl)
      (pss_cons (ps_set (i := 6) scRight.nd rfl (.inr rfl) (pe_callTy (call_dictP rfl) (by rfl) B.dict (by decide +kernel) (pa_cons (pe_lc (own := [("_law_at", 4), ("_law_mate", 5)]) (g := gTup K 2 (gCons (gName 4) (gCons (gName 5) gNil))) (tt := tYes) rfl scRight.nd (pi_enT (by rfl) B.enum (pa_cons (pv 1) pa_nil)) (blkOk_by (N := ["_law_box_here", "_law_folk", "_law_back", "_law_kept", "_law_at", "_law_mate", "_law_spots", "_law_some", "_law_due", "_law_found", "_law_its", "_law_spot", "_law_near", "_law_side"]) (sc := defScope sRight) (by decide +kernel)) (fun _ _ _ _ _ => pg_tup rfl (pgs_cons (pg_name (i := 4) scRight.nd rfl (Or.inl rfl)) (pgs_cons (pg_name (i := 5) scRight.nd rfl (Or.inl rfl)) pgs_nil))) (fun _ _ _ _ _ => pts_nil) (fun _ _ _ _ _ => (pe_tup (pa_cons (pv 5) (pa_cons (pv 4) pa_nil))))) pa_nil)))
      (pss_cons (ps_for PassesOwn.never rfl (pi_enT (by rfl) B.enum (pa_cons (pv 1) pa_nil)) (pg_tup rfl (pgs_cons (pg_name (i := 4) scRight.nd rfl (Or.inr rfl)) (pgs_cons (pg_name (i := 5) scRight.nd rfl (Or.inr rfl)) pgs_nil)))
      (pss_cons (ps_if (pt_not (pt_val (pe_call GS hr (by rfl) T.gS T.FS.kp T.bS .nil pass0 (pa_cons (pe_lst (pa_cons (pe_call GP hr2 (by rfl) T.gP T.FP.kp T.bP .nil pass0 (pa_cons (pv 1) (pa_cons (pv 5) pa_nil))) (pa_cons (pe_callK0 GP hr2 (by rfl) T.gP T.FP.kp T.kP pass0 (pk_cons (pv 5) (pk_cons (pe_callTy call_list_of (by rfl) B.list (by decide +kernel) (pa_cons (pv 1) pa_nil)) pk_nil))) pa_nil))) (pa_cons (pe_lst (pa_cons (pv 4) (pa_cons (pv 4) pa_nil))) pa_nil))))) (pss_one (ps_ret pe_bl)) pss_nil)
      (pss_cons (ps_setLc (i := 7) (own := [("_law_its", 10)]) (g := gName 10) (tt := tYes) rfl scRight.nd rfl rfl (sw_true rfl rfl rfl (by decide +kernel)) (pi_tup (pv 1)) (blkOk_by (N := ["_law_box_here", "_law_folk", "_law_back", "_law_kept", "_law_at", "_law_mate", "_law_spots", "_law_some", "_law_due", "_law_found", "_law_its", "_law_spot", "_law_near", "_law_side"]) (sc := defScope sRight) (by decide +kernel)) (fun _ _ _ _ _ => pg_name (i := 10) scRight.nd rfl (Or.inl rfl)) (fun _ _ _ _ _ => pts_nil) (fun _ _ _ _ _ => (pe_call GA hr (by rfl) T.gA T.FA.kp T.bA .nil pass0 (pa_cons (pv 1) (pa_cons (pv 5) (pa_cons (pv 10) pa_nil))))))
      (pss_cons (ps_if (pt_not (pt_val (pe_call GS hr (by rfl) T.gS T.FS.kp T.bS .nil pass0 (pa_cons (pv 7) (pa_cons (pe_lc (own := [("_law_spot", 11)]) (g := gName 11) (tt := tYes) rfl scRight.nd (pi_range1 rfl B.range (pa_cons (pe_callB call_len_seq (by rfl) B.len PySem.boot_len (pa_cons (pv 1) pa_nil)) pa_nil)) (blkOk_by (N := ["_law_box_here", "_law_folk", "_law_back", "_law_kept", "_law_at", "_law_mate", "_law_spots", "_law_some", "_law_due", "_law_found", "_law_its", "_law_spot", "_law_near", "_law_side"]) (sc := defScope sRight) (by decide +kernel)) (fun _ _ _ _ _ => pg_name (i := 11) scRight.nd rfl (Or.inl rfl)) (fun _ _ _ _ _ => pts_nil) (fun _ _ _ _ _ => pe_cmpR op_lt (pv 4) (pv 11) (nomark _))) pa_nil))))) (pss_one (ps_ret pe_bl)) pss_nil)
      (pss_one (ps_if (pt_not (pt_val (pe_call GS hr (by rfl) T.gS T.FS.kp T.bS .nil pass0 (pa_cons (pe_callK0 GA hr (by rfl) T.gA T.FA.kp T.kA pass0 (pk_cons (pe_ix ix_tup (pv 1) (pe_un un_neg pe_int) (fun _ _ => rfl)) (pk_cons (pv 5) (pk_cons (pe_callTy call_list_of (by rfl) B.list (by decide +kernel) (pa_cons (pv 1) pa_nil)) pk_nil)))) (pa_cons (pe_cmpR op_lt (pv 4) (pe_op op_sub (pe_callB call_len_seq (by rfl) B.len PySem.boot_len (pa_cons (pv 1) pa_nil)) pe_int) (nomark _)) pa_nil))))) (pss_one (ps_ret pe_bl)) pss_nil))))))
      (pss_cons (ps_set (i := 8) scRight.nd rfl (.inl rfl) (pe_callB call_len_seq (by rfl) B.len PySem.boot_len (pa_cons (pe_lc (own := [("_law_near", 12), ("_law_side", 13)]) (g := gTup K 2 (gCons (gName 12) (gCons (gName 13) gNil))) (tt := tTest (tOp (rI0 fun i j => .bl (decide (j < i))) (tDGet (tVar 6) (tVar 12)) (tDGet (tVar 6) (tVar 13)))) (te := tC (.int 1)) rfl scRight.nd (RZ.pi_zipA (by rfl) B.zip (pa_cons (pv 2) (pa_cons (pe_slice sl_tup (pv 2) (po_some pe_int) po_none) pa_nil))) (blkOk_by (N := ["_law_box_here", "_law_folk", "_law_back", "_law_kept", "_law_at", "_law_mate", "_law_spots", "_law_some", "_law_due", "_law_found", "_law_its", "_law_spot", "_law_near", "_law_side"]) (sc := defScope sRight) (by decide +kernel)) (fun _ _ _ _ _ => pg_tup rfl (pgs_cons (pg_name (i := 12) scRight.nd rfl (Or.inl rfl)) (pgs_cons (pg_name (i := 13) scRight.nd rfl (Or.inl rfl)) pgs_nil))) (fun _ _ _ _ _ => pts_one (pt_cmpR op_gt (pe_dget hu (pv 6) (pv 12) (fun _ _ => rfl)) (pe_dget hu (pv 6) (pv 13) (fun _ _ => rfl)) (nomark _))) (fun _ _ _ _ _ => pe_int)) pa_nil)))
      (pss_cons (ps_set (i := 9) scRight.nd rfl (.inl rfl) (pe_lst (pa_cons (pe_call GF hr (by rfl) T.gF T.FF.kp T.bF .nil pass0 (pa_cons (pv 1) (pa_cons (pv 2) pa_nil))) (pa_cons (pe_callK0 GF hr (by rfl) T.gF T.FF.kp T.kF pass0 (pk_cons (pe_callTy call_list_of (by rfl) B.list (by decide +kernel) (pa_cons (pv 2) pa_nil)) (pk_cons (pv 1) pk_nil))) (pa_cons (pe_call GF hr (by rfl) T.gF T.FF.kp T.bF .nil pass0 (pa_cons (pv 1) (pa_cons (pv 1) pa_nil))) (pa_cons (pe_call GF hr (by rfl) T.gF T.FF.kp T.bF .nil pass0 (pa_cons (pv 1) (pa_cons (pe_revT (pv 1)) pa_nil))) pa_nil))))))
      (pss_cons (ps_if (pt_not (pt_val (pe_call GS hr (by rfl) T.gS T.FS.kp T.bS .nil pass0 (pa_cons (pv 9) (pa_cons (pe_lst (pa_cons (pv 8) (pa_cons (pv 8) (pa_cons pe_int (pa_cons (pe_op op_sub (pe_callB call_len_seq (by rfl) B.len PySem.boot_len (pa_cons (pv 1) pa_nil)) pe_int) pa_nil))))) pa_nil))))) (pss_one (ps_ret pe_bl)) pss_nil)
      (pss_cons (ps_set (i := 9) scRight.nd rfl (.inl rfl) (pe_lst (pa_cons (pe_call GU hr1 (by rfl) T.gU T.FU.kp T.bU .nil pass0 (pa_cons (pv 1) pa_nil)) (pa_cons (pe_callK0 GU hr1 (by rfl) T.gU T.FU.kp T.kU pass0 (pk_cons (pe_callTy call_list_of (by rfl) B.list (by decide +kernel) (pa_cons (pv 1) pa_nil)) pk_nil)) (pa_cons (pe_call GU hr1 (by rfl) T.gU T.FU.kp T.bU .nil pass0 (pa_cons (pe_call GU hr1 (by rfl) T.gU T.FU.kp T.bU .nil pass0 (pa_cons (pv 1) pa_nil)) pa_nil)) pa_nil)))))
      (pss_one (ps_ret (pe_and (pe_call GS hr (by rfl) T.gS T.FS.kp T.bS .nil pass0 (pa_cons (pv 9) (pa_cons (pe_lst (pa_cons (pe_revT (pv 1)) (pa_cons (pe_revT (pv 1)) (pa_cons (pv 1) pa_nil)))) pa_nil))) (pe_one (pe_cmpR op_eq (pe_callB (cr_repr hg hr.units) (by rfl) B.repr (by decide +kernel) (pa_cons (pv 1) pa_nil)) (pv 3) (nomark _)))))))))))))), ?_⟩
    -- folk
    refine ⟨.ref b, rfl, b, o, n, 24, rfl, hb, hB, by omega, by omega, by omega, fun H1 p ys o1 np hp nd l1 l2 hnm hb1 hB1 off1 => ?_⟩
    refine ⟨p, _, rfl, .inl (.inl hp), fun t ot nt hc hd => ?_⟩
    have ntb : t ≠ b := fun e => by
      rw [e, hb1] at nt
      cases nt
    have hb2 : (upd H1 t (.frz ot (.tup (ys.map V.str)))) b = some o1 := by rw [upd_ne ntb.symm]; exact hb1
    have hF2 : TupD (upd H1 t (.frz ot (.tup (ys.map V.str)))) t (ys.map V.str) := ⟨ot, upd_same, hc, hd⟩
    have off2 : Off b H (upd H1 t (.frz ot (.tup (ys.map V.str)))) := off1.trans (Same.off (same_new nt))
    generalize upd H1 t (.frz ot (.tup (ys.map V.str))) = H2 at hb2 hF2 off2 ⊢
    have hlen : (ys.map V.str).length = ys.length := List.length_map ..
    -- back, kept
    refine ⟨.ref b, rfl, .ref t, rfl, b, t, o1, n + 30, ys.map V.str, rfl, hb2, hB1, by omega, ntb, .inr hF2.sq, by omega, fun H3 p3 zs o3 np3 hp3 hperm hb3 hB3 off3 => ?_⟩
    obtain ⟨ws, rfl, hws⟩ := perm_strs hperm
    refine ⟨p3, _, rfl, .inl ⟨.inl (.inl hp3), fun t2 nt2 => ?_⟩⟩
    have nt2b : t2 ≠ b := fun e => by
      rw [e, hb3] at nt2
      cases nt2
    have hb4 : (upd H3 t2 (.tup (ws.map V.str))) b = some o3 := by rw [upd_ne nt2b.symm]; exact hb3
    have hF4 : TupD (upd H3 t2 (.tup (ws.map V.str))) t (ys.map V.str) := (hF2.off off3 ntb).same (same_new nt2)
    have hW4 : (upd H3 t2 (.tup (ws.map V.str))) t2 = some (.tup (ws.map V.str)) := upd_same
    have off4 : Off b H (upd H3 t2 (.tup (ws.map V.str))) := (off2.trans off3).trans (Same.off (same_new nt2))
    generalize upd H3 t2 (.tup (ws.map V.str)) = H4 at hb4 hF4 hW4 off4 ⊢
    have fin : ∀ H', Same H4 H' → Q (.bl true) H' := fun H' s' => q H' o3 (s' _ _ hb4) (hB3.mono (by omega)) (off4.trans (Same.off s'))
    have hwl : ws.length = ys.length := hws.length_eq
    refine ⟨.ref t, rfl, _, dT ys, rfl, dT_dp hF4.sq, rfl, dT_show ys, dT_noDict ys, dT_depth ys, dT_shown hnm (by omega), _, _, rfl, ?_⟩
    -- spots
    refine ⟨.ref t, rfl, t, _, rfl, hF4.sq, fun D nD => ?_⟩
    refine lc_it walk_enT (fun i G => Same H4 G ∧ ∃ ps : List Addr, G D = some (.lst (ps.map V.ref)) ∧ ps.length = i ∧ Paired (fun (p : Addr) (kv : Key × V) => G p = some (.tup [kV kv.1, kv.2])) ps (ekv 0 (ys.take i))) ⟨same_new nD, [], upd_same, rfl, .nil⟩ (fun i G _ h => (hF4.same h.1).sq) (fun i x G G' hi hP hY => ?_) (fun G hP => ?_)
    · rw [hlen] at hi
      obtain ⟨sG, ps, hD, hpl, hps⟩ := hP
      obtain ⟨T1, u1, u2, rfl, nT1, rfl, g1, g2⟩ := hY
      cases g1
      have hx : ys[i]? = some ys[i] := List.getElem?_eq_getElem hi
      obtain rfl : u2 = .str ys[i] := by
        have g2' : (ys.map V.str)[i]? = some u2 := g2
        rw [List.getElem?_map, hx] at g2'
        exact (Option.some.inj g2').symm
      refine ⟨T1, _, rfl, .inl (.inl upd_same), rfl, _, _, rfl, _, _, rfl, rfl, rfl, tyes ?_⟩
      refine ⟨_, rfl, _, rfl, (by show 2 ≤ sizeLine; decide), fun T2 nT2 => ?_⟩
      have s5 : Same G (upd (upd G T1 (.tup [.int (i : Nat), .str ys[i]])) T2 (.tup [.str ys[i], .int (i : Nat)])) := (same_new nT1).trans (same_new nT2)
      have hT2 : (upd (upd G T1 (.tup [.int (i : Nat), .str ys[i]])) T2 (.tup [.str ys[i], .int (i : Nat)])) T2 = some (.tup [.str ys[i], .int (i : Nat)]) := upd_same
      generalize upd (upd G T1 (.tup [.int (i : Nat), .str ys[i]])) T2 (.tup [.str ys[i], .int (i : Nat)]) = G2 at s5 hT2 ⊢
      refine ⟨_, s5 _ _ hD, by rw [List.length_map, hpl]; exact small1000 (by omega), fun c u e => ?_, ps ++ [T2], by rw [upd_same, List.map_append]; rfl, by rw [List.length_append, hpl]; rfl, ?_⟩
      · rw [upd_ne (ne_of_none e nD)]
        exact s5 _ _ (sG _ _ e)
      · have keep : ∀ (p : Addr) (xs : List V), G2 p = some (.tup xs) → (upd G2 D (.lst (ps.map V.ref ++ [.ref T2]))) p = some (.tup xs) := fun p xs e => by
          rw [upd_ne (fun z => by rw [z, s5 _ _ hD] at e; cases e)]
          exact e
        have e1 : ekv 0 (ys.take (i + 1)) = ekv 0 (ys.take i) ++ [((Sum.inr ys[i] : Key), V.int ((i : Nat) : Int))] := by
          rw [List.take_add_one, hx]
          show ekv 0 (ys.take i ++ [ys[i]]) = _
          rw [ekv_snoc, List.length_take, show 0 + min i ys.length = i by omega]
        rw [e1]
        exact pair_app (L2.Paired.mapP hps fun p kv e => keep _ _ (s5 _ _ e)) (.cons (keep _ _ hT2) .nil)
    obtain ⟨sG, ps, hD, hpl, hps⟩ := hP
    rw [hlen, List.take_length] at hps
    refine ⟨D, ps, _, rfl, .inl (.inl hD), L2.Paired.mapP hps fun p kv e => .inl (.inl e), fun sp nsp => ?_⟩
    rw [merge_all nd]
    have s5 : Same H4 (upd G sp (.dK (ekv 0 ys))) := sG.trans (same_new nsp)
    have hK5 : (upd G sp (.dK (ekv 0 ys))) sp = some (.dK (ekv 0 ys)) := upd_same
    generalize upd G sp (.dK (ekv 0 ys)) = H5 at s5 hK5 ⊢
    clear hD hps sG nD nsp
    -- the loop
    refine ⟨.ref t, rfl, t, _, rfl, (hF4.same s5).sq, ?_⟩
    refine for_it walk_enT (fun i σ G => Same H5 G ∧ ∃ v4 v5 v7, σ = [some (.ref b), some (.ref t), some (.ref t2), some (.str (dT ys).shown), v4, v5, some (.ref sp), v7, none, none, none, none, none, none]) ⟨Same.refl _, none, none, none, rfl⟩ (fun i σ G _ h => (hF4.same (s5.trans h.1)).sq) (fun i x σ G G' hi hP hY => ?_) (fun σ G hP => ?_)
    · rw [hlen] at hi
      obtain ⟨sG, v4, v5, v7, rfl⟩ := hP
      obtain ⟨T1, u1, u2, rfl, nT1, rfl, g1, g2⟩ := hY
      cases g1
      have hx : ys[i]? = some ys[i] := List.getElem?_eq_getElem hi
      obtain rfl : u2 = .str ys[i] := by
        have g2' : (ys.map V.str)[i]? = some u2 := g2
        rw [List.getElem?_map, hx] at g2'
        exact (Option.some.inj g2').symm
      refine ⟨T1, _, rfl, .inl (.inl upd_same), rfl, _, _, rfl, _, _, rfl, rfl, ?_⟩
      have s6 : Same H4 (upd G T1 (.tup [.int (i : Nat), .str ys[i]])) := (s5.trans sG).trans (same_new nT1)
      have s6' : Same H5 (upd G T1 (.tup [.int (i : Nat), .str ys[i]])) := sG.trans (same_new nT1)
      generalize upd G T1 (.tup [.int (i : Nat), .str ys[i]]) = H6 at s6 s6' ⊢
      have ha := At.of nd hx
      -- place_of, twice
      refine ⟨_, rfl, _, rfl, t, ys, ys[i], i, rfl, .inr (hF4.same s6), ha, _, rfl, _, rfl, t, _, rfl, .inr (hF4.same s6).sq, fun L nL => ?_⟩
      refine ⟨L, ys, ys[i], i, rfl, .inl (.inl (.inl upd_same)), ha, (by show 2 ≤ sizeLine; decide), fun p1 np1 => ?_⟩
      refine ⟨_, rfl, _, rfl, (by show 2 ≤ sizeLine; decide), fun p2 np2 => ?_⟩
      refine ⟨_, _, .list [.int (i : Nat), .int (i : Nat)], rfl, .lst (.inl (.inl (same_new np2 _ _ upd_same))) (.cons (.int _) (.cons (.int _) .nil)), .lst (.inl (.inl upd_same)) (.cons (.int _) (.cons (.int _) .nil)), ?_, fun H7 s7 => ⟨true, rfl, iteF ?_⟩⟩
      · refine (show 2 ≤ 100000 ∧ ∀ d ∈ [PyData.int (i : Nat), PyData.int (i : Nat)], Sm 1 d from ⟨by decide, fun d hd => ?_⟩)
        simp only [List.mem_cons, List.not_mem_nil, or_false, or_self] at hd
        rw [hd]
        exact trivial
      replace s7 : Same H6 H7 := ((same_new nL).trans ((same_new np1).trans (same_new np2))).trans s7
      -- is_ahead of all
      refine ⟨_, rfl, t, rfl, ⟨_, (hF4.same (s6.trans s7)).sq⟩, fun E1 nE1 => ?_⟩
      refine lc_fm walk_tup (fun j => some (V.bl (decide (i < j)))) nE1 (by rw [hlen]; exact small1000 (by omega)) (fun G3 s3 => (hF4.same ((s6.trans s7).trans s3)).sq) (fun j y G3 G4 R hj s3 hE hY hR => ?_) (fun H8 s8 hE => ?_)
      · obtain ⟨rfl, hy⟩ := hY
        rw [hlen] at hj
        have hxj : ys[j]? = some ys[j] := List.getElem?_eq_getElem hj
        obtain rfl : y = .str ys[j] := by
          rw [List.getElem?_map, hxj] at hy
          exact (Option.some.inj hy).symm
        refine ⟨rfl, tyes ?_⟩
        exact ⟨_, rfl, _, rfl, _, rfl, t, ys, ys[i], ys[j], i, j, rfl, .inr (hF4.same ((s6.trans s7).trans s3)), ha, At.of nd hxj, hR _ (Same.refl _)⟩
      rw [List.filterMap_eq_map', hlen] at hE
      have sE := (s6.trans s7).trans s8
      refine ⟨_, rfl, _, rfl, t, _, rfl, .inr (hF4.same sE).sq, _, rfl, by omega, ?_, ?_⟩
      · rw [hlen]
        omega
      intro E2 nE2
      have en : (((ys.map V.str).length : Nat) : Int).toNat = ys.length := by
        rw [hlen]
        omega
      rw [en]
      refine lc_fm walk_range (fun j => some (V.bl (decide (i < j)))) nE2 (small1000 (by omega)) (fun _ _ => trivial) (fun j y G3 G4 R hj s3 hE' hY hR => ?_) (fun H9 s9 hE2 => ?_)
      · obtain ⟨rfl, rfl⟩ := hY
        refine ⟨rfl, tyes ?_⟩
        refine ⟨_, rfl, _, rfl, _, _, rfl, rfl, ?_⟩
        have e3 : decide (((i : Nat) : Int) < 0 + (j : Int)) = decide (i < j) := by
          rw [decide_eq_decide]
          omega
        show R (some (V.bl (decide (((i : Nat) : Int) < 0 + (j : Int))))) _
        rw [e3]
        exact hR _ (Same.refl _)
      rw [List.filterMap_eq_map'] at hE2
      have dpE : ∀ (G3 : Hp) (a : Addr), G3 a = some (.lst ((List.range ys.length).map fun j => V.bl (decide (i < j)))) → Dp K G3 (.ref a) (.list ((List.range ys.length).map fun j => PyData.bool (decide (i < j)))) := fun G3 a e => .lst (.inl (.inl e)) (dpA_map _ _ (fun j => .bl _) _)
      refine ⟨_, _, _, rfl, dpE H9 E1 (s9 _ _ hE), dpE H9 E2 hE2, ?_, fun H10 s10 => ⟨true, rfl, iteF ?_⟩⟩
      · refine (show ((List.range ys.length).map fun j => PyData.bool (decide (i < j))).length ≤ 100000 ∧ ∀ d ∈ (List.range ys.length).map (fun j => PyData.bool (decide (i < j))), Sm 1 d from ⟨by rw [List.length_map, List.length_range]; omega, fun d hd => ?_⟩)
        obtain ⟨j, _, rfl⟩ := List.mem_map.mp hd
        exact trivial
      have sF := (sE.trans s9).trans s10
      -- is_ahead of the last
      have hlast : ys[ys.length - 1]? = some ys[ys.length - 1] := List.getElem?_eq_getElem (by omega)
      have hatl : atI (ys.map V.str) (-1) = some (.str ys[ys.length - 1]) := by
        have e4 : ys.map V.str = (ys.map V.str).dropLast ++ [.str ys[ys.length - 1]] := by
          rw [← List.map_dropLast, ← List.map_singleton, ← List.map_append]
          congr 1
          have := List.dropLast_concat_getLast (l := ys) (by intro z; rw [z] at l1; simp at l1)
          rw [List.getLast_eq_getElem] at this
          exact this.symm
        rw [e4]
        exact atI_last _ _
      refine ⟨_, rfl, 1, rfl, t, _, -1, _, rfl, rfl, (hF4.same sF).sq, hatl, _, rfl, _, rfl, t, _, rfl, .inr (hF4.same sF).sq, fun L2 nL2 => ?_⟩
      refine ⟨L2, ys, ys[i], ys[ys.length - 1], i, ys.length - 1, rfl, .inl (.inl (.inl upd_same)), ha, At.of nd hlast, ?_⟩
      refine ⟨_, rfl, _, rfl, t, _, rfl, .inr (hF4.same (sF.trans (same_new nL2))).sq, _, 1, rfl, rfl, _, _, rfl, rfl, ?_⟩
      have e5 : decide (((i : Nat) : Int) < (((ys.map V.str).length : Nat) : Int) - 1) = decide (i < ys.length - 1) := by
        rw [decide_eq_decide, hlen]
        omega
      refine ⟨_, _, .bool (decide (i < ys.length - 1)), rfl, .bl _, ?_, trivial, fun H11 s11 => ⟨true, rfl, iteF ?_⟩⟩
      · show Dp K _ (.bl (decide (((i : Nat) : Int) < (((ys.map V.str).length : Nat) : Int) - 1))) _
        rw [e5]
        exact .bl _
      exact ⟨((((s6'.trans s7).trans s8).trans s9).trans s10).trans ((same_new nL2).trans s11), _, _, _, rfl⟩
    obtain ⟨sG, v4, v5, v7, rfl⟩ := hP
    have s6 := s5.trans sG
    have hK6 := sG _ _ hK5
    have hW6 : SqT K G t2 (ws.map V.str) := .inl (.inl (s6 _ _ hW4))
    -- due
    refine ⟨_, rfl, _, rfl, 1, rfl, t2, _, rfl, hW6, ?_, fun t3 nt3 => ?_⟩
    · rw [show HT.sIx (ws.map V.str).length 0 (some 1) = min 1 (ws.map V.str).length from HT.sIx_nat (ws.map V.str).length 0 1, List.length_map]
      omega
    rw [cut_1]
    have s7 : Same G (upd G t3 (.tup ((ws.map V.str).drop 1))) := same_new nt3
    have h3 : (upd G t3 (.tup ((ws.map V.str).drop 1))) t3 = some (.tup ((ws.map V.str).drop 1)) := upd_same
    generalize upd G t3 (.tup ((ws.map V.str).drop 1)) = H7 at s7 h3 ⊢
    refine ⟨t2, t3, _, _, rfl, .inr ⟨sqT_same s7 hW6, .inl (.inl h3), fun E1 nE1 => ?_⟩⟩
    have hmin : ws.length - 1 = min (ws.map V.str).length ((ws.map V.str).drop 1).length := by
      rw [List.length_drop, List.length_map]
      omega
    generalize hms : ws.map (pl ys) = ms
    have mlen : ms.length = ws.length := by rw [← hms, List.length_map]
    have hmem : ∀ (j : Nat) (z : Str), ws[j]? = some z → valV (ekv 0 ys) (Sum.inr z : Key) = some (.int ((ms.getD j 0 : Nat) : Int)) := fun j z hj => by
      rw [valV_ekv ys 0 _ (pl_at (hws.mem_iff.mp (List.mem_of_getElem? hj))), Nat.zero_add, ← hms, List.getD_eq_getElem?_getD, List.getElem?_map, hj]
      rfl
    refine lc_fm (walk_zpT hmin) (fun j => if decide (ms.getD (j + 1) 0 < ms.getD j 0) = true then some (V.int 1) else none) nE1 (small1000 (by omega)) (fun G3 s3 => ⟨sqT_same (s7.trans s3) hW6, .inl (.inl (s3 _ _ h3))⟩) (fun j y G3 G4 R hj s3 hE hY hR => ?_) (fun H8 s8 hE => ?_)
    · obtain ⟨T1, u1, u2, rfl, nT1, rfl, g1, g2⟩ := hY
      have hj1 : ws[j]? = some ws[j] := List.getElem?_eq_getElem (by omega)
      have hj2 : ws[j + 1]? = some ws[j + 1] := List.getElem?_eq_getElem (by omega)
      obtain rfl : u1 = .str ws[j] := by
        have g1' : (ws.map V.str)[j]? = some u1 := g1
        rw [List.getElem?_map, hj1] at g1'
        exact (Option.some.inj g1').symm
      obtain rfl : u2 = .str ws[j + 1] := by
        have g2' : ((ws.map V.str).drop 1)[j]? = some u2 := g2
        rw [List.getElem?_drop, Nat.add_comm 1 j, List.getElem?_map, hj2] at g2'
        exact (Option.some.inj g2').symm
      have sT : Same G3 (upd G3 T1 (.tup [.str ws[j], .str ws[j + 1]])) := same_new nT1
      have hKj := sT _ _ (s3 _ _ (s7 _ _ hK6))
      have d1 := DGet.k (k := (Sum.inr ws[j] : Key)) hKj
      have d2 := DGet.k (k := (Sum.inr ws[j + 1] : Key)) hKj
      rw [hmem j _ hj1] at d1
      rw [hmem (j + 1) _ hj2] at d2
      refine ⟨T1, _, rfl, .inl (.inl upd_same), rfl, _, _, rfl, _, _, rfl, rfl, rfl, ?_⟩
      refine ⟨_, rfl, _, rfl, sp, _, rfl, d1, _, rfl, _, rfl, sp, _, rfl, d2, _, _, rfl, rfl, _, rfl, ?_⟩
      have er : decide (((ms.getD (j + 1) 0 : Nat) : Int) < ((ms.getD j 0 : Nat) : Int)) = decide (ms.getD (j + 1) 0 < ms.getD j 0) := by
        rw [decide_eq_decide]
        omega
      show if decide (((ms.getD (j + 1) 0 : Nat) : Int) < ((ms.getD j 0 : Nat) : Int)) = true then _ else _
      have hR' := hR _ sT
      rw [er]
      by_cases hc : decide (ms.getD (j + 1) 0 < ms.getD j 0) = true
      · rw [if_pos hc] at hR' ⊢
        exact hR'
      · rw [if_neg hc] at hR' ⊢
        exact hR'
    refine ⟨E1, _, rfl, .inl (.inl (.inl hE)), ?_⟩
    have ed : ((List.range (ws.length - 1)).filterMap fun j => if decide (ms.getD (j + 1) 0 < ms.getD j 0) = true then some (V.int 1) else none).length = desc ms := by
      rw [fm_len]
      unfold desc
      rw [mlen]
    rw [ed]
    have s9 := (s6.trans s7).trans s8
    have hFA : ∀ G3, Same H8 G3 → SqA K G3 t (ys.map V.str) := fun G3 s3 => .inr (hF4.same (s9.trans s3)).sq
    have hWA : ∀ G3, Same H8 G3 → SqT K G3 t2 (ws.map V.str) := fun G3 s3 => sqT_same ((s7.trans s8).trans s3) hW6
    have hyok : ∀ z ∈ ys, PyData.strOk z = true := fun z hz => nm_ok (hnm z hz)
    -- falls, four times
    refine ⟨_, rfl, _, rfl, t, t2, ys, ws, rfl, hFA _ (Same.refl _), .inr (hWA _ (Same.refl _)), hws.symm, nd, by omega, hyok, fun H9 s10 => ?_⟩
    refine ⟨_, rfl, t2, _, rfl, .inr (hWA _ s10), fun L nL => ?_⟩
    have s11 := s10.trans (same_new (o := .lst (ws.map V.str)) nL)
    refine ⟨_, rfl, t, L, ys, ws, rfl, hFA _ s11, .inl (.inl (.inl upd_same)), hws.symm, nd, by omega, hyok, fun H10 s12 => ?_⟩
    replace s12 := s11.trans s12
    refine ⟨_, rfl, _, rfl, t, t, ys, ys, rfl, hFA _ s12, hFA _ s12, List.Perm.refl _, nd, by omega, hyok, fun H11 s13 => ?_⟩
    replace s13 := s12.trans s13
    refine ⟨_, rfl, _, rfl, t, _, rfl, (hF4.same (s9.trans s13)).sq, fun t4 nt4 => ?_⟩
    have s14 := s13.trans (same_new (o := .tup (ys.map V.str).reverse) nt4)
    refine ⟨t, t4, ys, ys.reverse, rfl, hFA _ s14, .inr (.inl (.inl (by rw [List.map_reverse]; exact upd_same))), (List.reverse_perm ys).symm, nd, by omega, hyok, fun H12 s15 => ?_⟩
    replace s15 := s14.trans s15
    refine ⟨(by show 4 ≤ sizeLine; decide), fun p1 np1 => ?_⟩
    rw [hms, falls_self nd, falls_rev nd]
    have s16 := s15.trans (same_new (o := .lst [.int ((desc ms : Nat) : Int), .int ((desc ms : Nat) : Int), .int ((0 : Nat) : Int), .int ((ys.length - 1 : Nat) : Int)]) np1)
    refine ⟨_, rfl, _, rfl, _, rfl, _, rfl, t, _, rfl, hFA _ s16, _, 1, rfl, rfl, (by show 4 ≤ sizeLine; decide), fun p2 np2 => ?_⟩
    have e6 : (((ys.map V.str).length : Nat) : Int) - 1 = ((ys.length - 1 : Nat) : Int) := by
      rw [hlen]
      omega
    refine ⟨_, _, .list [.int ((desc ms : Nat) : Int), .int ((desc ms : Nat) : Int), .int ((0 : Nat) : Int), .int ((ys.length - 1 : Nat) : Int)], rfl, .lst (.inl (.inl (same_new np2 _ _ upd_same))) (.cons (.int _) (.cons (.int _) (.cons (.int _) (.cons (.int _) .nil)))), .lst (.inl (.inl upd_same)) (.cons (.int _) (.cons (.int _) (.cons (.int _) (.cons ?_ .nil)))), ?_, fun H13 s17 => ⟨true, rfl, iteF ?_⟩⟩
    · show Dp K _ (.int ((((ys.map V.str).length : Nat) : Int) - 1)) _
      rw [e6]
      exact .int _
    · refine (show 4 ≤ 100000 ∧ ∀ d ∈ [PyData.int ((desc ms : Nat) : Int), .int ((desc ms : Nat) : Int), .int ((0 : Nat) : Int), .int ((ys.length - 1 : Nat) : Int)], Sm 1 d from ⟨by decide, fun d hd => ?_⟩)
      simp only [List.mem_cons, List.not_mem_nil, or_false] at hd
      rcases hd with rfl | rfl | rfl | rfl <;> exact trivial
    replace s17 := (s16.trans (same_new np2)).trans s17
    -- turned, four times
    refine ⟨_, rfl, t, _, rfl, hFA _ s17, fun H14 q1 s18 nq1 hq1 => ?_⟩
    replace s18 := s17.trans s18
    refine ⟨_, rfl, t, _, rfl, hFA _ s18, fun L2 nL2 => ?_⟩
    have s19 := s18.trans (same_new (o := .lst (ys.map V.str)) nL2)
    have hq1' := same_new (o := .lst (ys.map V.str)) nL2 _ _ hq1
    refine ⟨L2, _, rfl, .inl (.inl (.inl upd_same)), fun H15 q2 s20 nq2 hq2 => ?_⟩
    replace hq1' := s20 _ _ hq1'
    replace s20 := s19.trans s20
    refine ⟨_, rfl, t, _, rfl, hFA _ s20, fun H16 q3 s21 nq3 hq3 => ?_⟩
    replace hq1' := s21 _ _ hq1'
    replace hq2 := s21 _ _ hq2
    replace s21 := s20.trans s21
    refine ⟨q3, _, rfl, .inr (.inl (.inl hq3)), fun H17 q4 s22 nq4 hq4 => ?_⟩
    replace hq1' := s22 _ _ hq1'
    replace hq2 := s22 _ _ hq2
    replace s22 := s21.trans s22
    rw [List.reverse_reverse] at hq4
    refine ⟨(by show 3 ≤ sizeLine; decide), fun p3 np3' => ?_⟩
    have s23 := s22.trans (same_new (o := .lst [.ref q1, .ref q2, .ref q4]) np3')
    have k1 := same_new (o := .lst [.ref q1, .ref q2, .ref q4]) np3'
    refine ⟨_, rfl, _, rfl, t, _, rfl, (hF4.same (s9.trans s23)).sq, fun r1 nr1 => ?_⟩
    have k2 := same_new (o := .tup (ys.map V.str).reverse) nr1
    refine ⟨_, rfl, t, _, rfl, (hF4.same ((s9.trans s23).trans k2)).sq, fun r2 nr2 => ?_⟩
    have k3 := same_new (o := .tup (ys.map V.str).reverse) nr2
    refine ⟨_, rfl, (by show 3 ≤ sizeLine; decide), fun p4 np4 => ?_⟩
    have k4 := same_new (o := .lst [.ref r1, .ref r2, .ref t]) np4
    have kk := k2.trans (k3.trans k4)
    have rv : (ys.map V.str).reverse = ys.reverse.map V.str := by rw [List.map_reverse]
    have s24 : Same H8 _ := s23.trans kk
    refine ⟨_, _, .list [dT ys.reverse, dT ys.reverse, dT ys], rfl,
      .lst (.inl (.inl (kk _ _ upd_same))) (.cons (dT_dp (by rw [← rv]; exact .inl (.inl (kk _ _ (k1 _ _ hq1'))))) (.cons (dT_dp (by rw [← rv]; exact .inl (.inl (kk _ _ (k1 _ _ hq2))))) (.cons (dT_dp (.inl (.inl (kk _ _ (k1 _ _ hq4))))) .nil))),
      .lst (.inl (.inl upd_same)) (.cons (dT_dp (by rw [← rv]; exact .inl (.inl (k4 _ _ (k3 _ _ upd_same))))) (.cons (dT_dp (by rw [← rv]; exact .inl (.inl (k4 _ _ upd_same)))) (.cons (dT_dp (hF4.same (s9.trans s24)).sq) .nil))), ?_, fun H18 s25 => ⟨true, rfl, iteT ?_⟩⟩
    · refine (show 3 ≤ 100000 ∧ ∀ d ∈ [dT ys.reverse, dT ys.reverse, dT ys], Sm 1 d from ⟨by decide, fun d hd => ?_⟩)
      simp only [List.mem_cons, List.not_mem_nil, or_false] at hd
      rcases hd with rfl | rfl | rfl
      · exact dT_sm 0 _ (by rw [List.length_reverse]; omega)
      · exact dT_sm 0 _ (by rw [List.length_reverse]; omega)
      · exact dT_sm 0 _ (by omega)
    have s26 := (s9.trans s24).trans s25
    refine ⟨_, rfl, _, dT ys, rfl, dT_dp (hF4.same s26).sq, rfl, dT_show ys, dT_noDict ys, dT_depth ys, dT_shown hnm (by omega), _, rfl, rfl, ?_⟩
    show Q (.bl (decide (V.str (dT ys).shown = V.str (dT ys).shown))) H18
    rw [decide_eq_true rfl]
    exact fin H18 s26
end
end Kn
namespace Kn
open PySem PySem.Spec PyProof.Rows L2
theorem scLaw : FnScope ["_law_script", "_law_k", "_law_box_here", "_law_turn"] ["_law_script"] (defScope sLaw) := ⟨rfl, rfl, rfl, by decide +kernel, rfl, by decide +kernel, by decide +kernel⟩
section
variable {P : Program} {w : World} {K : PySem.W.Frag} {mg : Str → Option Value} {base : Heap}
def spLaw (K : PySem.W.Frag) : Sp := fun vs H Q _ => ∃ (a : Addr) (ns : List Int), vs = [.ref a] ∧ SqL K H a (ns.map V.int) ∧ ns.length ≤ 63 ∧ ∀ H', Q (.bl true) H'
theorem ok_law {f fR : Addr} {fd dR : FuncData} (F : Fun K "law" "law" sLaw f fd) (B : Bn mg) (T : Tx K mg) (FR : Fun K "_law_right" "_law_right" sRight fR dR) (gR : mg "_law_right" = some (.ref fR)) (bR : Binds K dR ["_law_box_here"] []) : FnG P w K mg base CX0 5 f fd ["_law_script"] (spLaw K) := by
  have GR : FnG P w K mg base CX0 4 fR dR ["_law_box_here"] spRight := ok_right FR B T
  have GB : FnOk P w K mg base CX0 1 T.fB T.dB ["_law_script", "_law_k"] (spBox K) := ok_box T.FB B
  refine okG F scLaw (fun vs H Q E h => ?_) (fun cdv A outer s H vs Q E hg hr h => ?_)
  · obtain ⟨a, ns, rfl, _⟩ := h
    rfl
  · obtain ⟨a, ns, rfl, hS, hl, q⟩ := h
    have hr1 : Room 1 _ := hr.mono (by decide)
    refine ⟨_, pss_cons (ps_for PassesOwn.never rfl (pi_range1 rfl B.range (pa_cons (pe_callB (call_max2 rfl) (by rfl) B.max (by decide +kernel) (pa_cons pe_int (pa_cons (pe_callB (call_min2 rfl) (by rfl) B.min (by decide +kernel) (pa_cons pe_int (pa_cons (pe_callB call_len_seq (by rfl) B.len PySem.boot_len (pa_cons (pv 0) pa_nil)) pa_nil))) pa_nil))) pa_nil)) (pg_name (i := 1) scLaw.nd rfl (.inl rfl))
        (pss_cons (ps_set (i := 2) scLaw.nd rfl (.inr rfl) (pe_call GB hr1 (by rfl) T.gB T.FB.kp T.bB .nil pass0 (pa_cons (pv 0) (pa_cons (pv 1) pa_nil))))
        (pss_one (ps_if (pt_not (pt_val (pe_callB (cr_all rfl) (by rfl) B.all (by decide +kernel) (pa_cons (pe_lc (own := [("_law_turn", 3)]) (g := gName 3) (tt := tYes) rfl scLaw.nd (pi_range1 rfl B.range (pa_cons pe_int pa_nil)) (blkOk_by (N := ["_law_script", "_law_k", "_law_box_here", "_law_turn"]) (sc := defScope sLaw) (by decide +kernel))
          (fun _ _ _ _ _ => pg_name (i := 3) scLaw.nd rfl (Or.inl rfl)) (fun _ _ _ _ _ => pts_nil) (fun _ _ _ _ _ => pe_callG hg GR hr (by rfl) gR FR.kp bR pass0 (pa_cons (pv 2) pa_nil))) pa_nil)))) (pss_one (ps_ret pe_bl)) pss_nil))))
      (pss_one (ps_ret pe_bl)), ?_⟩
    refine ⟨_, rfl, a, _, rfl, .inl hS, 3, _, rfl, 1, _, rfl, _, rfl, ?_, ?_, ?_⟩
    · split <;> split <;> omega
    · split <;> split <;> omega
    generalize hm : (if (if (((ns.map V.int).length : Nat) : Int) < 3 then (((ns.map V.int).length : Nat) : Int) else 3) > 1 then (if (((ns.map V.int).length : Nat) : Int) < 3 then (((ns.map V.int).length : Nat) : Int) else 3) else 1).toNat = m
    have hm3 : m ≤ 3 := by
      rw [← hm]
      split <;> split <;> omega
    refine for_it walk_range (fun i σ G => Same H G ∧ ∃ v1 v2, σ = [some (.ref a), v1, v2, none]) ⟨Same.refl _, none, none, rfl⟩ (fun _ _ _ _ _ => trivial) (fun i x σ G G' hi hP hY => ?_) (fun σ G hP => ?_)
    · obtain ⟨rfl, rfl⟩ := hY
      obtain ⟨sG, v1, v2, rfl⟩ := hP
      refine ⟨_, rfl, _, rfl, a, ns, _, rfl, sG.seq hS, by omega, by omega, fun p o np hB => ?_⟩
      have s2 : Same G' (upd G' p o) := same_new np
      have hp2 : (upd G' p o) p = some o := upd_same
      have npH : H p = none := sG.free np
      generalize upd G' p o = H2 at s2 hp2 ⊢
      refine ⟨4, rfl, by decide, by decide, fun D nD => ?_⟩
      have nDp : D ≠ p := fun e => by
        rw [e, hp2] at nD
        cases nD
      refine lc_it walk_range (fun j G => (∃ o', G p = some o' ∧ Bx (100 * j) o') ∧ Off p H2 G ∧ G D = some (.lst ((List.replicate j true).map V.bl))) ⟨⟨o, by rw [upd_ne nDp.symm]; exact hp2, hB⟩, Same.off (same_new nD), upd_same⟩ (fun _ _ _ _ => trivial) (fun j x G1 G2 hj hP hY => ?_) (fun G1 hP => ?_)
      · obtain ⟨rfl, rfl⟩ := hY
        obtain ⟨⟨o', hp', hB'⟩, off', hD⟩ := hP
        have hj4 : j < 4 := hj
        refine ⟨rfl, tyes ?_⟩
        refine ⟨_, rfl, p, o', 100 * j, rfl, hp', hB', by omega, fun G3 o'' hp'' hB'' off'' => ?_⟩
        refine ⟨_, off'' _ _ hD nDp, by rw [List.length_map, List.length_replicate]; exact small1000 (by omega), ⟨o'', by rw [upd_ne nDp.symm]; exact hp'', hB''.mono (by omega)⟩, fun c u e hc => ?_, ?_⟩
        · rw [upd_ne (ne_of_none e nD)]
          exact off'' _ _ (off' _ _ e hc) hc
        · rw [upd_same, List.replicate_succ', List.map_append]
          rfl
      obtain ⟨_, off', hD⟩ := hP
      refine ⟨D, _, rfl, .inl (.inl hD), _, rfl, iteF ?_⟩
      exact ⟨fun c u e => off' _ _ (s2 _ _ (sG _ _ e)) (ne_of_none e npH), _, _, rfl⟩
    · exact q G
end
theorem all_mk {l : PySem.W.OpenLaw} {w : World} {K : PySem.W.Frag} {h : Heap} {mg : Str → Option Value} {fa : Addr} (X : K.In h) (G : h.Ns mainGlobals mg) (hfa : mg "law" = some (.ref fa))
    {fC : Addr} {odC anC : Option Addr} {slC : Array (Option Value)} {ocC kVC dcC pmC cdC ctC : Value}
    {fT : Addr} {odT anT : Option Addr} {slT : Array (Option Value)} {ocT kVT dcT pmT cdT ctT : Value}
    {fW : Addr} {odW anW : Option Addr} {slW : Array (Option Value)} {ocW kVW dcW pmW cdW ctW : Value}
    {fS : Addr} {odS anS : Option Addr} {slS : Array (Option Value)} {ocS kVS dcS pmS cdS ctS : Value}
    {fM : Addr} {odM anM : Option Addr} {slM : Array (Option Value)} {ocM kVM dcM pmM cdM ctM : Value}
    {fN : Addr} {odN anN : Option Addr} {slN : Array (Option Value)} {ocN kVN dcN pmN cdN ctN : Value}
    {fP : Addr} {odP anP : Option Addr} {slP : Array (Option Value)} {ocP kVP dcP pmP cdP ctP : Value}
    {fA : Addr} {odA anA : Option Addr} {slA : Array (Option Value)} {ocA kVA dcA pmA cdA ctA : Value}
    {fF : Addr} {odF anF : Option Addr} {slF : Array (Option Value)} {ocF kVF dcF pmF cdF ctF : Value}
    {fX : Addr} {odX anX : Option Addr} {slX : Array (Option Value)} {ocX kVX dcX pmX cdX ctX : Value}
    {fU : Addr} {odU anU : Option Addr} {slU : Array (Option Value)} {ocU kVU dcU pmU cdU ctU : Value}
    {fB : Addr} {odB anB : Option Addr} {slB : Array (Option Value)} {ocB kVB dcB pmB cdB ctB : Value}
    {fR : Addr} {odR anR : Option Addr} {slR : Array (Option Value)} {ocR kVR dcR pmR cdR ctR : Value}
    {fL : Addr} {odL anL : Option Addr} {slL : Array (Option Value)} {ocL kVL dcL pmL cdL ctL : Value}
    (aC : PySem.W.nsIn K mainGlobals "_law_crew" = some (some (.ref fC))) (lC : K.lookup fC = some ⟨ocC, odC, .func (PySem.W.fnOf "_law_crew" "_law_crew" (defArgs sCrew) (defBody sCrew) (defScope sCrew) .none kVC dcC pmC anC cdC ctC), slC⟩) (cC : PySem.W.codeIn K cdC "_law_crew" = true) (kC : PySem.W.keepIn K (.ref fC) = true)
    (aT : PySem.W.nsIn K mainGlobals "_law_take" = some (some (.ref fT))) (lT : K.lookup fT = some ⟨ocT, odT, .func (PySem.W.fnOf "_law_take" "_law_take" (defArgs sTake) (defBody sTake) (defScope sTake) .none kVT dcT pmT anT cdT ctT), slT⟩) (cT : PySem.W.codeIn K cdT "_law_take" = true) (kT : PySem.W.keepIn K (.ref fT) = true)
    (aW : PySem.W.nsIn K mainGlobals "_law_strewn" = some (some (.ref fW))) (lW : K.lookup fW = some ⟨ocW, odW, .func (PySem.W.fnOf "_law_strewn" "_law_strewn" (defArgs sStrewn) (defBody sStrewn) (defScope sStrewn) .none kVW dcW pmW anW cdW ctW), slW⟩) (cW : PySem.W.codeIn K cdW "_law_strewn" = true) (kW : PySem.W.keepIn K (.ref fW) = true)
    (aS : PySem.W.nsIn K mainGlobals "_law_same" = some (some (.ref fS))) (lS : K.lookup fS = some ⟨ocS, odS, .func (PySem.W.fnOf "_law_same" "_law_same" (defArgs sSame) (defBody sSame) (defScope sSame) .none kVS dcS pmS anS cdS ctS), slS⟩) (cS : PySem.W.codeIn K cdS "_law_same" = true) (kS : PySem.W.keepIn K (.ref fS) = true)
    (aM : PySem.W.nsIn K mainGlobals "must_have" = some (some (.ref fM))) (lM : K.lookup fM = some ⟨ocM, odM, .func (PySem.W.fnOf "must_have" "must_have" (defArgs sMust) (defBody sMust) (defScope sMust) .none kVM dcM pmM anM cdM ctM), slM⟩) (cM : PySem.W.codeIn K cdM "must_have" = true) (kM : PySem.W.keepIn K (.ref fM) = true)
    (aN : PySem.W.nsIn K mainGlobals "must_be_same" = some (some (.ref fN))) (lN : K.lookup fN = some ⟨ocN, odN, .func (PySem.W.fnOf "must_be_same" "must_be_same" (defArgs sMbs) (defBody sMbs) (defScope sMbs) .none kVN dcN pmN anN cdN ctN), slN⟩) (cN : PySem.W.codeIn K cdN "must_be_same" = true) (kN : PySem.W.keepIn K (.ref fN) = true)
    (aP : PySem.W.nsIn K mainGlobals "place_of" = some (some (.ref fP))) (lP : K.lookup fP = some ⟨ocP, odP, .func (PySem.W.fnOf "place_of" "place_of" (defArgs sPlace) (defBody sPlace) (defScope sPlace) .none kVP dcP pmP anP cdP ctP), slP⟩) (cP : PySem.W.codeIn K cdP "place_of" = true) (kP : PySem.W.keepIn K (.ref fP) = true)
    (aA : PySem.W.nsIn K mainGlobals "is_ahead" = some (some (.ref fA))) (lA : K.lookup fA = some ⟨ocA, odA, .func (PySem.W.fnOf "is_ahead" "is_ahead" (defArgs sAhead) (defBody sAhead) (defScope sAhead) .none kVA dcA pmA anA cdA ctA), slA⟩) (cA : PySem.W.codeIn K cdA "is_ahead" = true) (kA : PySem.W.keepIn K (.ref fA) = true)
    (aF : PySem.W.nsIn K mainGlobals "falls" = some (some (.ref fF))) (lF : K.lookup fF = some ⟨ocF, odF, .func (PySem.W.fnOf "falls" "falls" (defArgs sFalls) (defBody sFalls) (defScope sFalls) .none kVF dcF pmF anF cdF ctF), slF⟩) (cF : PySem.W.codeIn K cdF "falls" = true) (kF : PySem.W.keepIn K (.ref fF) = true)
    (aX : PySem.W.nsIn K mainGlobals "fallers" = some (some (.ref fX))) (lX : K.lookup fX = some ⟨ocX, odX, .func (PySem.W.fnOf "fallers" "fallers" (defArgs sFallers) (defBody sFallers) (defScope sFallers) .none kVX dcX pmX anX cdX ctX), slX⟩) (cX : PySem.W.codeIn K cdX "fallers" = true) (kX : PySem.W.keepIn K (.ref fX) = true)
    (aU : PySem.W.nsIn K mainGlobals "turned" = some (some (.ref fU))) (lU : K.lookup fU = some ⟨ocU, odU, .func (PySem.W.fnOf "turned" "turned" (defArgs sTurned) (defBody sTurned) (defScope sTurned) .none kVU dcU pmU anU cdU ctU), slU⟩) (cU : PySem.W.codeIn K cdU "turned" = true) (kU : PySem.W.keepIn K (.ref fU) = true)
    (aB : PySem.W.nsIn K mainGlobals "_law_box" = some (some (.ref fB))) (lB : K.lookup fB = some ⟨ocB, odB, .func (PySem.W.fnOf "_law_box" "_law_box" (defArgs sBox) (defBody sBox) (defScope sBox) .none kVB dcB pmB anB cdB ctB), slB⟩) (cB : PySem.W.codeIn K cdB "_law_box" = true) (kB : PySem.W.keepIn K (.ref fB) = true)
    (aR : PySem.W.nsIn K mainGlobals "_law_right" = some (some (.ref fR))) (lR : K.lookup fR = some ⟨ocR, odR, .func (PySem.W.fnOf "_law_right" "_law_right" (defArgs sRight) (defBody sRight) (defScope sRight) .none kVR dcR pmR anR cdR ctR), slR⟩) (cR : PySem.W.codeIn K cdR "_law_right" = true) (kR : PySem.W.keepIn K (.ref fR) = true)
    (aL : PySem.W.nsIn K mainGlobals "law" = some (some (.ref fL))) (lL : K.lookup fL = some ⟨ocL, odL, .func (PySem.W.fnOf "law" "law" (defArgs sLaw) (defBody sLaw) (defScope sLaw) .none kVL dcL pmL anL cdL ctL), slL⟩) (cL : PySem.W.codeIn K cdL "law" = true) (kL : PySem.W.keepIn K (.ref fL) = true)
    (z_abs : PySem.W.nsIn K mainGlobals "abs" = some none)
    (z_int : PySem.W.nsIn K mainGlobals "int" = some none)
    (z_len : PySem.W.nsIn K mainGlobals "len" = some none)
    (z_range : PySem.W.nsIn K mainGlobals "range" = some none)
    (z_max : PySem.W.nsIn K mainGlobals "max" = some none)
    (z_min : PySem.W.nsIn K mainGlobals "min" = some none)
    (z_all : PySem.W.nsIn K mainGlobals "all" = some none)
    (z_isi : PySem.W.nsIn K mainGlobals "isinstance" = some none)
    (z_list : PySem.W.nsIn K mainGlobals "list" = some none)
    (z_tuple : PySem.W.nsIn K mainGlobals "tuple" = some none)
    (z_str : PySem.W.nsIn K mainGlobals "str" = some none)
    (z_bool : PySem.W.nsIn K mainGlobals "bool" = some none)
    (z_zip : PySem.W.nsIn K mainGlobals "zip" = some none)
    (z_sorted : PySem.W.nsIn K mainGlobals "sorted" = some none)
    (z_enum : PySem.W.nsIn K mainGlobals "enumerate" = some none)
    (z_dict : PySem.W.nsIn K mainGlobals "dict" = some none)
    (z_repr : PySem.W.nsIn K mainGlobals "repr" = some none)
    : ∃ fd : FuncData, (∀ (s : Shared) (v : Value), BindsTo s fd ⟨[v], []⟩ [("_law_script", v)]) ∧ ∀ base : Heap, K.In base → base.Ns mainGlobals mg → FnG l.prog w K mg base CX0 5 fa fd ["_law_script"] (spLaw K) := by
  have e := hfa.symm.trans (PySem.W.mg_of X G aL)
  cases e
  have B : Bn mg := ⟨PySem.W.mg_none_of X G z_abs, PySem.W.mg_none_of X G z_int, PySem.W.mg_none_of X G z_len, PySem.W.mg_none_of X G z_range, PySem.W.mg_none_of X G z_max, PySem.W.mg_none_of X G z_min, PySem.W.mg_none_of X G z_all, PySem.W.mg_none_of X G z_isi, PySem.W.mg_none_of X G z_list, PySem.W.mg_none_of X G z_tuple, PySem.W.mg_none_of X G z_str, PySem.W.mg_none_of X G z_bool, PySem.W.mg_none_of X G z_zip, PySem.W.mg_none_of X G z_sorted, PySem.W.mg_none_of X G z_enum, PySem.W.mg_none_of X G z_dict, PySem.W.mg_none_of X G z_repr⟩
  have FC := fun_mk (st := sCrew) lC cC kC
  have bC := FC.binds (ps := ["_law_box_here", "_law_most"]) fun _ _ _ _ _ _ us hl => match us, hl with | [_, _], _ => rfl
  have FT := fun_mk (st := sTake) lT cT kT
  have bT := FT.binds (ps := ["_law_box_here", "_law_bound"]) fun _ _ _ _ _ _ us hl => match us, hl with | [_, _], _ => rfl
  have FW := fun_mk (st := sStrewn) lW cW kW
  have bW := FW.binds (ps := ["_law_box_here", "_law_some"]) fun _ _ _ _ _ _ us hl => match us, hl with | [_, _], _ => rfl
  have FS := fun_mk (st := sSame) lS cS kS
  have bS := FS.binds (ps := ["_law_found", "_law_due"]) fun _ _ _ _ _ _ us hl => match us, hl with | [_, _], _ => rfl
  have FM := fun_mk (st := sMust) lM cM kM
  have bM := FM.binds (ps := ["names", "name"]) fun _ _ _ _ _ _ us hl => match us, hl with | [_, _], _ => rfl
  have FN := fun_mk (st := sMbs) lN cN kN
  have bN := FN.binds (ps := ["one", "other"]) fun _ _ _ _ _ _ us hl => match us, hl with | [_, _], _ => rfl
  have FP := fun_mk (st := sPlace) lP cP kP
  have bP := FP.binds (ps := ["row", "name"]) fun _ _ _ _ _ _ us hl => match us, hl with | [_, _], _ => rfl
  have FA := fun_mk (st := sAhead) lA cA kA
  have bA := FA.binds (ps := ["row", "one", "other"]) fun _ _ _ _ _ _ us hl => match us, hl with | [_, _, _], _ => rfl
  have FF := fun_mk (st := sFalls) lF cF kF
  have bF := FF.binds (ps := ["one", "other"]) fun _ _ _ _ _ _ us hl => match us, hl with | [_, _], _ => rfl
  have FX := fun_mk (st := sFallers) lX cX kX
  have bX := FX.binds (ps := ["one", "other"]) fun _ _ _ _ _ _ us hl => match us, hl with | [_, _], _ => rfl
  have FU := fun_mk (st := sTurned) lU cU kU
  have bU := FU.binds (ps := ["row"]) fun _ _ _ _ _ _ us hl => match us, hl with | [_], _ => rfl
  have FB := fun_mk (st := sBox) lB cB kB
  have bB := FB.binds (ps := ["_law_script", "_law_k"]) fun _ _ _ _ _ _ us hl => match us, hl with | [_, _], _ => rfl
  have FR := fun_mk (st := sRight) lR cR kR
  have bR := FR.binds (ps := ["_law_box_here"]) fun _ _ _ _ _ _ us hl => match us, hl with | [_], _ => rfl
  have FL := fun_mk (st := sLaw) lL cL kL
  have bL := FL.binds (ps := ["_law_script"]) fun _ _ _ _ _ _ us hl => match us, hl with | [_], _ => rfl
  have kP : KBinds K _ ["row", "name"] ["name", "row"] (onlyK [1, 0]) (onlyK [1, 0]) := kbinds [1, 0] FP fun _ _ _ _ _ _ ws hl => match ws, hl with | _ :: _ :: _, _ => rfl
  have kA : KBinds K _ ["row", "one", "other"] ["other", "one", "row"] (onlyK [2, 1, 0]) (onlyK [2, 1, 0]) := kbinds [2, 1, 0] FA fun _ _ _ _ _ _ ws hl => match ws, hl with | _ :: _ :: _ :: _, _ => rfl
  have kF : KBinds K _ ["one", "other"] ["other", "one"] (onlyK [1, 0]) (onlyK [1, 0]) := kbinds [1, 0] FF fun _ _ _ _ _ _ ws hl => match ws, hl with | _ :: _ :: _, _ => rfl
  have kU : KBinds K _ ["row"] ["row"] (onlyK [0]) (onlyK [0]) := kbinds [0] FU fun _ _ _ _ _ _ ws hl => match ws, hl with | _ :: _, _ => rfl
  have T : Tx K mg := ⟨fC, _, FC, PySem.W.mg_of X G aC, bC, fT, _, FT, PySem.W.mg_of X G aT, bT, fW, _, FW, PySem.W.mg_of X G aW, bW, fS, _, FS, PySem.W.mg_of X G aS, bS, fM, _, FM, PySem.W.mg_of X G aM, bM, fN, _, FN, PySem.W.mg_of X G aN, bN, fP, _, FP, PySem.W.mg_of X G aP, bP, fA, _, FA, PySem.W.mg_of X G aA, bA, fF, _, FF, PySem.W.mg_of X G aF, bF, fX, _, FX, PySem.W.mg_of X G aX, bX, fU, _, FU, PySem.W.mg_of X G aU, bU, fB, _, FB, PySem.W.mg_of X G aB, bB, kP, kA, kF, kU⟩
  exact ⟨PySem.W.fnOf "law" "law" (defArgs sLaw) (defBody sLaw) (defScope sLaw) .none kVL dcL pmL anL cdL ctL, fun s v => .of_eq rfl, fun base _ _ => ok_law FL B T FR (PySem.W.mg_of X G aR) bR⟩
end Kn
open PySem PySem.W PyProof.Rows
set_option maxRecDepth 100000 in
set_option maxHeartbeats 0 in
theorem PySem.Challenge.cw_standby_k01_places_in_a_row_holds : PySem.Challenge.rw_standby_k01_places_in_a_row.Holds := by
  w_on; o_law; k_head; (case hw => w_witness2)
  k_fill
  refine Kn.lawG (l := PySem.Challenge.rw_standby_k01_places_in_a_row) (n := 63) (k := 5) (x := "_law_script") (sp := fun w => Kn.spLaw _) rfl (by decide) rfl ⟨rfl, by decide, by decide⟩ (fun w h Y => PySem.W.kIn_of Y) ?F (fun w H a ns hl _ hS => ⟨a, ns, rfl, hS, hl, fun _ => rfl⟩)
  case F =>
    intro w mg fa h KX G hmg
    refine' Kn.all_mk KX G hmg ?aC ?lC ?cC ?kC ?aT ?lT ?cT ?kT ?aW ?lW ?cW ?kW ?aS ?lS ?cS ?kS ?aM ?lM ?cM ?kM ?aN ?lN ?cN ?kN ?aP ?lP ?cP ?kP ?aA ?lA ?cA ?kA ?aF ?lF ?cF ?kF ?aX ?lX ?cX ?kX ?aU ?lU ?cU ?kU ?aB ?lB ?cB ?kB ?aR ?lR ?cR ?kR ?aL ?lL ?cL ?kL ?z_abs ?z_int ?z_len ?z_range ?z_max ?z_min ?z_all ?z_isi ?z_list ?z_tuple ?z_str ?z_bool ?z_zip ?z_sorted ?z_enum ?z_dict ?z_repr
    (case aC => k_is); (case lC => k_is); (case cC => k_is); (case kC => k_is); (case aT => k_is); (case lT => k_is)
    (case cT => k_is); (case kT => k_is); (case aW => k_is); (case lW => k_is); (case cW => k_is); (case kW => k_is)
    (case aS => k_is); (case lS => k_is); (case cS => k_is); (case kS => k_is); (case aM => k_is); (case lM => k_is)
    (case cM => k_is); (case kM => k_is); (case aN => k_is); (case lN => k_is); (case cN => k_is); (case kN => k_is)
    (case aP => k_is); (case lP => k_is); (case cP => k_is); (case kP => k_is); (case aA => k_is); (case lA => k_is)
    (case cA => k_is); (case kA => k_is); (case aF => k_is); (case lF => k_is); (case cF => k_is); (case kF => k_is)
    (case aX => k_is); (case lX => k_is); (case cX => k_is); (case kX => k_is); (case aU => k_is); (case lU => k_is)
    (case cU => k_is); (case kU => k_is); (case aB => k_is); (case lB => k_is); (case cB => k_is); (case kB => k_is)
    (case aR => k_is); (case lR => k_is); (case cR => k_is); (case kR => k_is); (case aL => k_is); (case lL => k_is)
    (case cL => k_is); (case kL => k_is); (case z_abs => k_is); (case z_int => k_is); (case z_len => k_is); (case z_range => k_is)
    (case z_max => k_is); (case z_min => k_is); (case z_all => k_is); (case z_isi => k_is); (case z_list => k_is); (case z_tuple => k_is)
    (case z_str => k_is); (case z_bool => k_is); (case z_zip => k_is); (case z_sorted => k_is); (case z_enum => k_is); (case z_dict => k_is)
    (case z_repr => k_is)
