import PyProof.Rows.All
import Wide.All
import OpenK.AllK
import Wide.FinOn
import HandS.ForMost
import HandS.Exc
import HandS.ExcOwn
import HandS.WordsExc
import HandS.TryOnly
import HandS.TryMany
import HandS.Zip
import HandS.Conv
import HandS.TupSets
import HandS.SortKw
import HandS.Strs
import HandS.Deep
import HandS.IsInst
import HandS.TupAny
import HandS.TupMul
import HandS.Wide
import HandS.Flow
import HandS.Evl
import HandS.Lambda
import HandS.Walk
import KE.GoesMore
import KE.GoesEnum
import KE.SortKeyHeap
import PyProof.Draws
import PyProof.TupleOfSeq
import HandS.SetFor
import KE.KEqDeep
import KE.KEqSeq
import KE.SortData
import HandS.ExcInit
import HandS.Style
import PyProof.ZipIter
import KE.KDictZip
import HandS.Zip0
import HandS.MapObj
import PyProof.CollectWalk
import HandS.Star
import HandS.SetKeys
import KE.KDictKeyed
import HandS.DictSubView
import HandS.DictTup
import KE.KDictDisplayH
import HandS.ExcField
import HandS.EndTab
import PySem.Challenge.RW_driftstore_k10_whole_starts
set_option Elab.async false
set_option linter.all false
set_option maxRecDepth 100000
set_option maxHeartbeats 4000000
namespace K01
open PySem PySem.Spec PyProof.Rows L2
def topS (i : Nat) : Stmt := PySem.Challenge.pw_driftstore_k10_whole_starts.main.body.getD i (.Pass ⟨0, 0, 0, 0⟩)
end K01


set_option Elab.async false
set_option linter.all false
set_option maxRecDepth 100000
set_option maxHeartbeats 4000000
/-! enumerate over a tuple -/
namespace K01
open PySem PySem.Spec PyProof.Rows L2
open Sem (wp)
abbrev tupIt (t : Addr) : Obj := { cls := .type "tuple_iterator", data := .fields #[.ref t, .int 0 0] }
abbrev enumO (h : Heap) : Obj := { cls := .type "enumerate", data := .fields #[.none, .bool false, .ref h.objs.size, rawInt 0, .none, .none] }
theorem meets_enumT (t : Addr) (items : Array Value) :
    Meets (Builtin.«enumerate.__new__» ⟨[.type "enumerate", .ref t], []⟩) (fun _ R s => s.heap.IsTuple t items ∧
      R (.ok (.ret (.ref (s.heap.push (tupIt t)).objs.size))) { s with heap := (s.heap.push (tupIt t)).push (enumO s.heap) }) :=
  .of_wp fun prog w A R st hh => by
    obtain ⟨hp, gg, dd, tt, oo⟩ := st
    obtain ⟨hT, hR⟩ := hh
    have hT' : Heap.IsTuple (Shared.heap ⟨hp, gg, dd, tt, oo⟩) t items := hT
    obtain ⟨ob, hob, hcl, n, hdat⟩ := hT
    obtain ⟨oc, od, odt, osl⟩ := ob
    simp only at hcl hdat
    subst hcl hdat
    have sb := sub_enumerate
    wp_walk using wpAny_loadPart' hob
    refine wpAny_stack_any fun stk => wpAny_pure ?_
    split
    · rename_i cc _ _ _ _ _
      cases (cc == Value.type "enumerate") <;> (wp_walk using wpAny_loadPart' hob, wpAny_pyIter_tuple hT'; exact ⟨_, rfl, hR⟩)
    · wp_walk using wpAny_loadPart' hob, wpAny_pyIter_tuple hT'
      exact ⟨_, rfl, hR⟩
theorem enum_tuple {prog : Program} {w : World} {A : Around} {E : Value → Shared → Prop} {s : Shared} {t : Addr} {items : Array Value} {Q : Value → Shared → Prop} (hT : s.heap.IsTuple t items)
    (k : ∀ h', IsEnum h' (s.heap.objs.size + 1) s.heap.objs.size 0 .none → h'.IsTupleIter s.heap.objs.size t 0 → (∀ b o, s.heap.get? b = some o → h'.get? b = some o) → Q (.ref (s.heap.objs.size + 1)) { s with heap := h' }) :
    wpAny (model prog w) A (call (.type "enumerate") [.ref t]) Q E s := by
  have z1 : (s.heap.push (tupIt t)).objs.size = s.heap.objs.size + 1 := Heap.size_push ..
  have e1 : IsEnum ((s.heap.push (tupIt t)).push (enumO s.heap)) (s.heap.objs.size + 1) s.heap.objs.size 0 .none := by
    have q := Heap.get?_push_size (s.heap.push (tupIt t)) (o := enumO s.heap) rfl
    rw [z1] at q
    exact q
  have fin := k ((s.heap.push (tupIt t)).push (enumO s.heap)) e1 ⟨_, Heap.get?_push_of_some _ (Heap.get?_push_size _ rfl), rfl, rfl⟩ fun b o x => Heap.get?_push_of_some _ (Heap.get?_push_of_some _ x)
  refine callType_new F.called_enumerate (by decide) (F.typeCall_enumerate_1 _) (F.newCall_enumerate_1 _) (fun obj => F.args_object_init_2 obj _) F.entry_enumerate_new (meets_enumT t items) ⟨hT, ?_⟩
  show _ ∧ _
  rw [z1]
  exact ⟨⟨_, e1, rfl⟩, fin⟩
/-- the tuple at a, each item in a new pair with its place -/
def ItE (K : PySem.W.Frag) (a : Addr) : It :=
  ⟨fun i H => ∃ (xs : List V) (x : V), SqT K H a xs ∧ xs[i]? = some x,
    fun i H v H' => ∃ T x, v = .ref T ∧ H T = none ∧ H' = upd H T (.tup [.int (i : Nat), x]) ∧ ∀ xs, SqT K H a xs → xs[i]? = some x,
    fun i H => ∃ xs : List V, SqT K H a xs ∧ xs.length ≤ i⟩
theorem turn_enumT {P : Program} {w : World} {K : PySem.W.Frag} {elts : List Expr} {kk : Nat} {tpos : Pos} (a e it : Addr) (hai : a ≠ it) :
    Turn P w K (.Tuple elts kk tpos) (ItE K a) [e, it] e (fun i h => (∃ old, IsEnum h e it ((i : Nat) : Int) old) ∧ h.IsTupleIter it a i ∧ e ≠ it ∧ e ≠ a) where
  mem := List.mem_cons_self
  obj := fun i h st b hb => by
    obtain ⟨⟨old, he⟩, ⟨o, ho, _, hd⟩, _⟩ := st
    rcases List.mem_cons.mp hb with z | z
    · subst z; exact ⟨_, he, fun v q => nomatch q⟩
    · rw [List.mem_singleton.mp z]; exact ⟨o, ho, fun v q => by rw [hd] at q; cases q⟩
  keep := fun i h h' st k => by
    obtain ⟨⟨old, he⟩, hi, hn⟩ := st
    exact ⟨⟨old, k e List.mem_cons_self _ he⟩, hi.at fun o q => k it (List.mem_cons_of_mem _ List.mem_cons_self) o q, hn⟩
  item := by
    intro X hP hw hK hc i pins s σ H E I hf st hg
    subst hP hw hK
    obtain ⟨⟨old, he⟩, hit, hne, hea⟩ := st
    obtain ⟨xs, x, hq, hx⟩ := hg
    obtain ⟨its, rv, pt, _⟩ := I.tuple hq
    obtain ⟨u, hu, ru⟩ := rv.get hx
    have hil : i < its.toArray.size := by
      have := (List.getElem?_eq_some_iff.mp hu).1
      simpa using this
    have hel : e < s.heap.objs.size := Heap.lt_size he
    have hitl : it < s.heap.objs.size := by
      obtain ⟨_, q, _⟩ := hit
      exact Heap.lt_size q
    have Dw := Draws.tuple (prog := X.prog) (w := X.w) (A := X.A.in1) (show X.A.in1.handled = none from I.ok.hd hc) it a hai its.toArray
    refine wpAny_pyNext_enum_itemD Dw he ⟨hit, pt⟩ hil hne (by simp [hne, hea]) fun y h' tk hy ho hst hT hsz hk => ?_
    have ey : y = u := by
      have : its.toArray[i]? = some u := by simpa using hu
      exact Option.some.inj (hy.symm.trans this)
    subst ey
    refine ⟨_, rfl, wpAny_letOwnedTupleGo_enum (s := { s with heap := h', toks := tk + 1 }) ho fun h'' he' sb => ?_⟩
    have hT2 := (sb.2 _ (Nat.ne_of_gt hel)).trans hT
    have nw : ObjOk X.prog X.w (upd H s.heap.objs.size (.tup [.int (i : Nat), x])) h'' s.heap.objs.size (.tup [.int (i : Nat), x]) :=
      ⟨by show 2 ≤ sizeLine; decide, [.int i tk, y], .cons ⟨_, rfl⟩ (.cons ru .nil), ⟨_, hT2, rfl, _, rfl⟩⟩
    have keep2 : ∀ b ob, b ∉ [e, it] → s.heap.get? b = some ob → h''.get? b = some ob := fun b ob hb q => by
      have n1 : b ≠ e := fun z => hb (by simp [z])
      have n2 : b ≠ it := fun z => hb (by simp [z])
      exact (sb.2 b n1).trans (hk b ob n1 n2 q)
    have I1 : Inv X pins σ (upd H s.heap.objs.size (.tup [.int (i : Nat), x])) { s with heap := h'', toks := tk + 1 } := I.turnedNew (ch := [e, it]) keep2 hf (Nat.le_refl _) nw
    refine ⟨.ref s.heap.objs.size, _, I1, rfl, ⟨_, x, rfl, I.hok.fresh (Nat.le_refl _), rfl, fun ys hy => by rw [I.tuple_inj hy hq]; exact hx⟩, ⟨⟨y, ?_⟩, hst.1.at fun o q => (sb.2 it (Ne.symm hne)).trans q, hne, hea⟩, fun b hb => ?_⟩
    · have e1 : ((i + 1 : Nat) : Int) = (i : Int) + 1 := by omega
      rw [e1]
      exact he'
    · have hlt : b < s.heap.objs.size := by
        rcases List.mem_cons.mp hb with z | z
        · rw [z]; exact hel
        · rw [List.mem_singleton.mp z]; exact hitl
      rw [upd_ne (Nat.ne_of_lt hlt)]
      exact (hf b hb).1
  done := by
    intro X hP hw hK hc i pins s σ H E I hf st hg
    subst hP hw hK
    obtain ⟨⟨old, he⟩, hit, hne, hea⟩ := st
    obtain ⟨xs, hq, hx⟩ := hg
    obtain ⟨its, rv, pt, _⟩ := I.tuple hq
    have hl := rv.length
    have hfi := hf it (List.mem_cons_of_mem _ List.mem_cons_self)
    obtain ⟨f0, f1, f2, f3, f4, f5⟩ := hfi
    have hn : its.toArray[i]? = none := by simp; omega
    have T : s.TypeIs (.ref e) "enumerate" := ⟨_, he, rfl⟩
    unfold pyNext
    refine wpAny_bind (wpAny_attempt (wpAny_callSpecial?_slot (name := Str.ofString "__next__") T F.slot_enumerate_next (wpAny_call_entry F.slot_enumerate_next T F.entry_enumerate_next ?_ (F.args_enumerate_next_1 _))))
    show wpAny _ _ (field (.ref e) 2 >>= _) _ _ _
    refine wpAny_bind (wpAny_field he rfl (x := .ref it) rfl ?_)
    refine wpAny_bind (wpAny_nextOf_tuple_end (show X.A.in1.handled = none from I.ok.hd hc) hit pt hn fun h' x he' hx' => ?_)
    obtain ⟨o, ho, hcx⟩ := hx'
    refine wpAny_bind (wpAny_isInstance (T := "StopIteration") (b := true) ⟨o, ho, hcx⟩ isSubtype_stop ?_)
    exact wpAny_pure ⟨rfl, I.turned (t' := s.toks) (fun b o hb q => he' b o hb q) f0 f1 f3 f4 f5⟩
  self := fun A i s Q E st h => wpAny_pyIter_enum st.1.choose_spec h
def iEnumT (K : PySem.W.Frag) (ta : TA) : TI := fun σ H R => ta σ H fun vs H1 => ∃ a xs, vs = [.ref a] ∧ SqT K H1 a xs ∧ R (ItE K a) H1
theorem pi_enumT {X : Cx} {e : Expr} {ta : TA} {p pos tpos : Pos} {elts : List Expr} {kk : Nat} (hg : Gl X "enumerate") (hm : X.mg "enumerate" = none) (ha : PA X [e] ta) (hs : starEach [e] X.env = [(false, eval e X.env)] := by rfl) :
    PI X (.Tuple elts kk tpos) (.Call (.Name "enumerate" p) [e] [] pos) (iEnumT X.K ta) := by
  constructor
  intro pins s σ H R I h
  refine Call_ (ld_blt I hg hm boot_enumerate (PyProof.Rows.callWith_type1 (thn (ha.run pos pins s σ H _ I h) fun us s1 ww => ?_) hs rfl))
  obtain ⟨vs, H1, I1, r1, a, xs, ex, hq, q⟩ := ww
  subst ex
  obtain ⟨u1, rfl, ru⟩ : ∃ u, us = [u] ∧ RelV (.ref a) u := by
    cases r1 with
    | cons r rr => cases rr; exact ⟨_, rfl, r⟩
  cases (show u1 = Value.ref a from ru)
  obtain ⟨its, rv, pt, _⟩ := I1.tuple hq
  have hal : a < s1.heap.objs.size := by obtain ⟨o, ho, _⟩ := id pt; exact Heap.lt_size ho
  refine enum_tuple pt fun h' he hit hk => wpAny_pyIter_enum he ?_
  have I2 : Inv X pins σ H1 { s1 with heap := h' } := I1.kept (t' := s1.toks) hk
  refine ⟨s1.heap.objs.size + 1, [s1.heap.objs.size + 1, s1.heap.objs.size], _, _, H1, rfl, I2, turn_enumT a (s1.heap.objs.size + 1) s1.heap.objs.size (Nat.ne_of_lt hal), ⟨⟨.none, he⟩, hit, Nat.succ_ne_self _, fun z => Nat.lt_irrefl _ (Nat.lt_of_lt_of_le hal (z ▸ Nat.le_succ _))⟩, fun b hb => ?_, q⟩
  have le : s1.heap.objs.size ≤ b := by
    rcases List.mem_cons.mp hb with z | z
    · rw [z]; exact Nat.le_succ _
    · rw [List.mem_singleton.mp z]; exact Nat.le_refl _
  exact I1.fpOk le (I1.hok.fresh le)
theorem walk_enumT {K : PySem.W.Frag} {a : Addr} {xs : List V} : Walk (ItE K a) xs.length (fun H => SqT K H a xs) (YPair (fun i => some (.int (i : Nat))) (fun i => xs[i]?)) := by
  refine ⟨fun i _ hi q => ⟨xs, xs[i], q, by simp [hi]⟩, fun _ q => ⟨xs, q, Nat.le_refl _⟩, fun i H v H' _ q y => ?_⟩
  obtain ⟨T, x, h1, h2, h3, h4⟩ := y
  exact ⟨T, .int (i : Nat), x, h1, h2, h3, rfl, h4 xs q⟩
end K01


set_option Elab.async false
set_option linter.all false
set_option maxRecDepth 100000
set_option maxHeartbeats 4000000
/-! sorted(a tuple, key = a def of the program that gives whole numbers) -/
namespace K01
open PySem PySem.Spec PyProof.Rows L2 PySem.W
open Sem (wp)
abbrev kstr : Str := Str.ofString "key"
/-- what the sort asks of the key's def, and what it gives -/
def rSortK (K : PySem.W.Frag) (sp : Sp) (f : Addr) : List V → List V → Hp → VK → Prop := fun vs zs H Q => ∃ (a : Addr) (α : Type) (bs : List α) (val : α → V) (key : α → Int), vs = [.ref a] ∧ zs = [.ref f] ∧ SqT K H a (bs.map val) ∧
  (∀ b ∈ bs, ∀ H', Evl.Ex H H' → ∀ Q' : VK, (∀ H2, Evl.Ex H' H2 → Q' (.int (key b)) H2) → sp [val b] H' Q' E0) ∧
  ∀ p H', H p = none → Evl.Ex H H' → H' p = some (.lst ((bs.mergeSort fun x y => decide (key x ≤ key y)).map val)) → Q (.ref p) H'
theorem vals_each : ∀ {xs : List V} {us : List Value}, Vals xs us → EachIs (fun (u : Value) (x : V) => RelV x u) us xs
  | _, _, .nil => .nil
  | _, _, .cons r t => .cons r (vals_each t)
theorem each_vals : ∀ {xs : List V} {us : List Value}, EachIs (fun (u : Value) (x : V) => RelV x u) us xs → Vals xs us
  | _, _, .nil => .nil
  | _, _, .cons r t => .cons r (each_vals t)
theorem each_unmap {α β γ : Type} {R : α → γ → Prop} {f : β → γ} : ∀ {bs : List β} {as : List α}, EachIs R as (bs.map f) → EachIs (fun a b => R a (f b)) as bs
  | [], _, h => by cases h; exact .nil
  | b :: bs, _, h => by
    cases h with
    | cons r t => exact .cons r (each_unmap t)
theorem each_map {α β γ : Type} {R : α → γ → Prop} {f : β → γ} : ∀ {bs : List β} {as : List α}, EachIs (fun a b => R a (f b)) as bs → EachIs R as (bs.map f)
  | [], _, h => by cases h; exact .nil
  | b :: bs, _, h => by
    cases h with
    | cons r t => exact .cons r (each_map t)
theorem each_app {α β : Type} {R : α → β → Prop} {a : α} {b : β} : ∀ {as : List α} {bs : List β}, EachIs R as bs → R a b → EachIs R (as ++ [a]) (bs ++ [b])
  | _, _, .nil, r => .cons r .nil
  | _, _, .cons h t, r => .cons h (each_app t r)
section
variable {X : Cx} {pins : List (Addr × Obj)} {σ : L2.St} {H : Hp} {s : Shared}
/-- a fresh record is pinned -/
theorem pin_add {a : Addr} {o : Obj} (I : Inv X pins σ H s) (f : FpOk X pins H a) (ho : s.heap.get? a = some o) (nc : ∀ v, o.data ≠ .cell v) : Inv X ((a, o) :: pins) σ H s :=
  I.pins_of fun p hp => by
    rcases List.mem_cons.mp hp with z | z
    · rw [z]; exact ⟨ho, f.1, f.2.1, f.2.2.1, nc⟩
    · exact I.pin p (List.mem_append_right _ z)
theorem pin_drop {q : Addr × Obj} (I : Inv X (q :: pins) σ H s) : Inv X pins σ H s := I.pins_of fun p hp => I.pin p (List.mem_append_right _ (List.mem_cons_of_mem _ hp))
theorem fp_pin {a b : Addr} {o : Obj} (f : FpOk X pins H b) (ne : a ≠ b) : FpOk X ((a, o) :: pins) H b :=
  ⟨f.1, f.2.1, f.2.2.1, f.2.2.2.1, f.2.2.2.2.1, fun p hp => by
    rcases List.mem_append.mp hp with z | z
    · exact f.2.2.2.2.2 p (List.mem_append_left _ z)
    · rcases List.mem_cons.mp z with z | z
      · rw [z]; exact ne
      · exact f.2.2.2.2.2 p (List.mem_append_right _ z)⟩
theorem fp_heap {H' : Hp} {b : Addr} (f : FpOk X pins H b) (n : H' b = none) : FpOk X pins H' b := ⟨n, f.2⟩
variable {k : Nat} {f : Addr} {fd : FuncData} {pn : Str} {sp : Sp}
theorem seq_nocell {c : String} {a : Array Value} {n : Nat} : ∀ v, (seqObj c a n).data ≠ .cell v := fun v z => by cases z
theorem cr_sortK (F : FnOk X.prog X.w X.K X.mg X.base CX0 k f fd [pn] sp) (hr : Room (k + 2) X.A) (hb : Binds X.K fd [pn] []) : CallRK X (.builtin "sorted") [kstr] (rSortK X.K sp f) := by
  intro pins s σ H vs zs us ws Q I r rz h
  obtain ⟨a, α, bs, val, key, rfl, rfl, hq, hkey, q⟩ := h
  obtain rfl := Vals.ref1 r
  obtain ⟨w1, rfl, e1⟩ := vals1 rz
  cases (show w1 = Value.ref f from e1)
  obtain ⟨its, rv, hT, hz⟩ := I.tuple hq
  have hlen : its.length = bs.length := by rw [← rv.length, List.length_map]
  have hzi : its.length ≤ sizeLine := by rw [← rv.length]; exact hz
  show wpAny (model X.prog X.w) X.A (call (.builtin "sorted") [.ref a] [(kstr, .ref f)]) (EP X pins σ Q) X.xe s
  refine call_function_entry_kw kind_sorted plain_sorted entry_sorted (ksk_s1 _ _) ?_
  unfold Builtin.«sorted»
  refine wpAny_bind (m := checkCount "sorted" 1 1 _) (wpAny_pure ?_)
  obtain ⟨oT, gT, cT, nT, dT⟩ := (show s.heap.IsTuple a its.toArray from hT)
  refine wpAny_bind (wpAny_collect_seq a (.inr rfl) gT cT dT (fun g kp => ?_) (by rw [List.size_toArray]; exact hzi))
  have I0 : Inv X pins σ H { s with heap := g } := I.kept (t' := s.toks) kp
  refine wpAny_bind (wpAny_newList ?_ hzi)
  have at1 : (g.push (seqObj "list" its.toArray 0)).get? g.objs.size = some (seqObj "list" its.toArray 0) := Heap.get?_push_size g rfl
  refine wpAny_bind (wpAny_holding (wpAny_call_entry_kw slot_list_sort ⟨_, at1, rfl⟩ entry_list_sort ?_ (ksk_l1 _ _)))
  rw [ksk_t1]
  generalize ea : g.objs.size = a1 at at1 ⊢
  have ext : ∀ b o, s.heap.get? b = some o → b < a1 ∧ (g.push (seqObj "list" its.toArray 0)).get? b = some o := fun b o e => ⟨by rw [← ea]; exact Heap.lt_size (kp b o e), Heap.get?_push_of_some (seqObj "list" its.toArray 0) (kp b o e)⟩
  show wpAny _ _ _ _ _ { s with heap := g.push (seqObj "list" its.toArray 0) }
  generalize g.push (seqObj "list" its.toArray 0) = cp at at1 ext ⊢
  have cat := at1
  have csz : a1 < cp.objs.size := Heap.lt_size cat
  have hu1 : (cp.update a1 (Obj.mapSeq fun _ => (#[] : Array Value))).objs.size = cp.objs.size := Heap.size_update ..
  have hu2 : ((cp.update a1 (Obj.mapSeq fun _ => (#[] : Array Value))).push (seqObj "tuple" its.toArray 0)).objs.size = cp.objs.size + 1 := by rw [size_push', hu1]
  obtain ⟨e1, ho1⟩ : ∃ e1, (cp.update a1 (Obj.mapSeq fun _ => (#[] : Array Value))).get? a1 = some (seqObj "list" #[] e1) := ⟨_, get?_update_seq cat fun _ => #[]⟩
  unfold ksk_tree
  refine wpAny_bind (listItems_at cat rfl ?_)
  refine wpAny_bind (listUpdate_at cat rfl ?_ (by rw [List.size_toArray]; exact hzi) (Nat.zero_le _))
  refine wpAny_bind (seqEpoch_at ho1 rfl ?_)
  refine wpAny_bind (wpAny_newTuple ?_ (by show its.length ≤ _; exact hzi))
  refine wpAny_bind (wpAny_newList ?_ (Nat.zero_le _))
  refine wpAny_holding ?_
  generalize ekS : ((cp.update a1 (Obj.mapSeq fun _ => (#[] : Array Value))).push (seqObj "tuple" its.toArray 0)).objs.size = kS
  have kSz : kS = cp.objs.size + 1 := by rw [← ekS, hu2]
  have nka : kS ≠ a1 := Nat.ne_of_gt (by rw [kSz]; exact Nat.lt_succ_of_lt csz)
  show wpAny _ _ _ _ _ { s with heap := sortingHeap cp a1 its }
  have old : ∀ b o, s.heap.get? b = some o → (sortingHeap cp a1 its).get? b = some o := fun b o e =>
    sortingHeap_old (Nat.ne_of_lt (ext b o e).1) (ext b o e).2
  have sa : (sortingHeap cp a1 its).get? a1 = some (seqObj "list" #[] e1) := by
    unfold sortingHeap
    exact Heap.get?_push_of_some _ (Heap.get?_push_of_some _ ho1)
  have sk : (sortingHeap cp a1 its).get? kS = some (seqObj "list" #[] 0) := by
    unfold sortingHeap
    rw [← ekS]
    exact Heap.get?_push_size _ rfl
  have le1 : g.objs.size ≤ a1 := Nat.le_of_eq ea
  have lek : g.objs.size ≤ kS := by omega
  have Ha1 : H a1 = none := I0.hok.fresh le1
  have HkS : H kS = none := I0.hok.fresh lek
  have fa : FpOk X pins H a1 := I0.fpOk le1 Ha1
  have fk : FpOk X pins H kS := I0.fpOk lek HkS
  have I1 : Inv X pins σ H { s with heap := sortingHeap cp a1 its } := I.kept (t' := s.toks) old
  have I2 : Inv X ((kS, seqObj "list" #[] 0) :: (a1, seqObj "list" #[] e1) :: pins) σ H { s with heap := sortingHeap cp a1 its } :=
    pin_add (pin_add I1 fa sa seq_nocell) (fp_pin fk nka.symm) sk seq_nocell
  unfold ksk_rest
  refine wpAny_bind (wpAny_rule ?_)
  first
    | rw [List.forIn_toArray]
    | (rw [← Array.forIn_toList]; simp only [List.toList_toArray])
  refine wpAny_bind (ksk_fold (fun i s' => ∃ (H' : Hp) (kA : Array Value) (e : Nat), Inv X ((kS, seqObj "list" kA e) :: (a1, seqObj "list" #[] e1) :: pins) σ H' s' ∧ Evl.Ex H H' ∧ EachIs (fun (v : Value) (n : Int) => ∃ t, v = .int n t) kA.toList ((bs.map key).take i)) its 0 _
    ⟨H, #[], 0, I2, Evl.Ex.refl H, by rw [List.take_zero]; exact .nil⟩ ?step ?done)
  case step =>
    rintro j v s' hv ⟨H', kA, e, J, ex, hk⟩
    simp only [Nat.zero_add] at hk ⊢
    have hj : j < its.length := (List.getElem?_eq_some_iff.mp hv).1
    have hjx : j < bs.length := by omega
    obtain ⟨u, hu, ru⟩ := rv.get (i := j) (x := val bs[j]) (by rw [List.getElem?_map, List.getElem?_eq_getElem hjx]; rfl)
    have eu : u = v := Option.some.inj (hu.symm.trans hv)
    subst eu
    have pk := J.pin _ (List.mem_append_right _ List.mem_cons_self)
    have hkz : kA.size = j := by
      have h1 := hk.length
      rw [Array.length_toList, List.length_take, List.length_map] at h1
      omega
    refine wpAny_bind (wpAny_attempt (wpAny_mono (Q := EP X ((kS, seqObj "list" kA e) :: (a1, seqObj "list" #[] e1) :: pins) σ fun z H2 => z = .int (key bs[j]) ∧ Evl.Ex H' H2) (E := fun _ _ => False) ?_ (fun z s3 hz3 => ?_) fun _ _ hF => hF.elim))
    · have rv1 : Vals [val bs[j]] [u] := .cons ru .nil
      refine wpAny_call (codeAny_mono (F.run X.A.in1.in1 X.stack s' H' ⟨[u], []⟩ [u] [val bs[j]] (fun z H2 => z = .int (key bs[j]) ∧ Evl.Ex H' H2) E0 (Room.in1 (Room.in1 hr)) J.env0.in1.in1 ?_ rv1 (hkey _ (List.getElem_mem hjx) H' ex _ fun H2 e2 => ⟨rfl, e2⟩)) fun rr s4 hq4 => ?_)
      · have := hb s' [u] J.kIn rfl
        simpa using this
      · cases rr with
        | error z => exact (show False from hq4).elim
        | ok fl =>
          cases fl with
          | ret u2 => exact J.after hq4
          | next => exact False.elim hq4
          | brk => exact False.elim hq4
          | cont => exact False.elim hq4
    · obtain ⟨zv, H2, J2, rz2, ez, ex2⟩ := hz3
      subst ez
      obtain ⟨tz, rfl⟩ := (show ∃ t, z = Value.int (key bs[j]) t from rz2)
      have pk2 := J2.pin _ (List.mem_append_right _ List.mem_cons_self)
      have pa2 := J2.pin (a1, seqObj "list" #[] e1) (List.mem_append_right _ (List.mem_cons_of_mem _ List.mem_cons_self))
      dsimp only at pk2 pa2
      refine wpAny_bind (listUpdate_at pk2.1 rfl ?_ (by omega) (by rw [Array.size_push]; omega))
      have s1 := Heap.SameBut.update s3.heap kS (Obj.mapSeq (·.push (Value.int (key bs[j]) tz)))
      obtain ⟨c2, hc2⟩ : ∃ c2, (s3.heap.update kS (Obj.mapSeq (·.push (Value.int (key bs[j]) tz)))).get? kS = some (seqObj "list" (kA.push (Value.int (key bs[j]) tz)) c2) := ⟨_, get?_update_seq pk2.1 (·.push _)⟩
      have fk2 : FpOk X ((a1, seqObj "list" #[] e1) :: pins) H2 kS := fp_heap (fp_pin fk nka.symm) pk2.2.1
      have J3 := (pin_drop J2).turned (t' := s3.toks) (h' := s3.heap.update kS (Obj.mapSeq (·.push (Value.int (key bs[j]) tz)))) (it := kS) (fun b o hb e => (s1.2 b hb).trans e) fk2.1 fk2.2.1 fk2.2.2.2.1 fk2.2.2.2.2.1 fk2.2.2.2.2.2
      refine wpAny_pure ⟨rfl, H2, kA.push (Value.int (key bs[j]) tz), c2, pin_add J3 fk2 hc2 seq_nocell, ex.trans ex2, ?_⟩
      have et : (bs.map key).take (j + 1) = (bs.map key).take j ++ [key bs[j]] := by
        rw [List.take_add_one, List.getElem?_map, List.getElem?_eq_getElem hjx]; rfl
      rw [et, Array.toList_push]
      exact each_app hk ⟨tz, rfl⟩
  case done =>
    rintro s' ⟨H', kA, e, J, ex, hk⟩
    have et : (bs.map key).take (0 + its.length) = bs.map key := List.take_of_length_le (by rw [List.length_map]; omega)
    rw [et] at hk
    have hkz : kA.size = its.length := by
      have h1 := hk.length
      rw [Array.length_toList, List.length_map] at h1
      omega
    have pk := J.pin _ (List.mem_append_right _ List.mem_cons_self)
    have pa := J.pin (a1, seqObj "list" #[] e1) (List.mem_append_right _ (List.mem_cons_of_mem _ List.mem_cons_self))
    dsimp only at pk pa
    refine wpAny_bind (listItems_at pk.1 rfl ?_)
    obtain ⟨G, g1, g2⟩ := restrict s'.heap fun b => decide (b ≠ kS)
    have gk : ∀ b, b ≠ kS → G.get? b = s'.heap.get? b := fun b hb => g1 b (decide_eq_true hb)
    have gkS : G.get? kS = none := g2 kS (by simp)
    let kz : List PyData := bs.map fun x => PyData.int (key x)
    have hkd : EachIs (fun (v : Value) (d : PyData) => ∃ as, Reads s'.heap v d as) kA.toList kz := by
      have : ∀ {vs : List Value} {ns : List Int}, EachIs (fun (v : Value) (n : Int) => ∃ t, v = .int n t) vs ns → EachIs (fun (v : Value) (d : PyData) => ∃ as, Reads s'.heap v d as) vs (ns.map PyData.int) := by
        intro vs ns hh
        induction hh with
        | nil => exact .nil
        | cons hx _ ih =>
          obtain ⟨t, rfl⟩ := hx
          exact .cons ⟨[], .int _ t⟩ ih
      have h2 := this hk
      rw [List.map_map] at h2
      exact h2
    have hal : AllAlike kz := fun d hd d' hd' => by
      obtain ⟨x, _, rfl⟩ := List.mem_map.mp hd
      obtain ⟨y, _, rfl⟩ := List.mem_map.mp hd'
      rfl
    have hsk : Sortable kz := .inr fun d hd => by
      obtain ⟨x, _, rfl⟩ := List.mem_map.mp hd
      exact ⟨fun z => (by cases z), fun xs z => (by cases z)⟩
    have hu : ∀ d, d ∈ kz → X.A.in1.in1.units + d.depth < cLine := fun d hd => by
      obtain ⟨x, _, rfl⟩ := List.mem_map.mp hd
      have := hr.un
      show X.A.units + 1 + 1 + 0 < cLine
      omega
    refine keyH_end (κ := dataKind s'.heap kz) (h₁ := G) (fun b o hb e => ?_) gkS pk.1 pa.1 nka (SortsAt.data hkd hal hsk hu) hkz hzi fun h' tk c kp hc => ?_
    · by_cases z : b = kS
      · rw [z, gkS] at e; cases e
      · rw [← gk b z]; exact e
    · refine ⟨_, rfl, wpAny_pure ⟨_, rfl, ?_⟩⟩
      have J0 := pin_drop (pin_drop J)
      have fk0 : FpOk X pins H' kS := fp_heap fk pk.2.1
      have fa0 : FpOk X pins H' a1 := fp_heap fa pa.2.1
      have keep : ∀ b o, b ∉ [a1, kS] → s'.heap.get? b = some o → h'.get? b = some o := fun b o hb e => by
        have n1 : b ≠ a1 := fun z => hb (by simp [z])
        have n2 : b ≠ kS := fun z => hb (by simp [z])
        exact kp b o n1 ((gk b n2).trans e)
      have J1 : Inv X pins σ H' { s' with heap := h', toks := tk } := J0.turnedL (t' := tk) (ch := [a1, kS]) keep fun b hb => by
        rcases List.mem_cons.mp hb with z | z
        · rw [z]; exact fa0
        · rw [List.mem_singleton.mp z]; exact fk0
      have ko : KeyedOut false (bs.map fun x => PyData.int (key x)) its (sortVals (dataKind s'.heap kz) false kA.toList its) := ⟨s'.heap, kA.toList, hal, rfl, hkd⟩
      have eo := keyedOut_each (R := fun (u : Value) (x : α) => RelV (val x) u) (bs := bs) (fun x => PyData.int (key x)) ko (each_unmap (vals_each rv))
      rw [dataLe_int] at eo
      have vo := each_vals (each_map (R := fun (u : Value) (x : V) => RelV x u) eo)
      have J2 : Inv X pins σ (upd H' a1 (.lst ((bs.mergeSort fun x y => decide (key x ≤ key y)).map val))) { s' with heap := h', toks := tk } :=
        J1.take (t' := tk) (h' := h') (it := a1) (fun b ob _ e => e) fa0 ⟨by rw [List.length_map, List.length_mergeSort, ← List.length_map (f := val)]; exact hz, _, c, vo, hc⟩
      refine ⟨.ref a1, _, J2, rfl, q a1 _ Ha1 (fun b o e => ?_) upd_same⟩
      rw [upd_ne (ne_of_none e Ha1)]
      exact ex b o e
end
end K01


set_option Elab.async false
set_option linter.all false
set_option maxRecDepth 100000
set_option maxHeartbeats 4000000
/-! max of a tuple of whole numbers -/
namespace K01
open PySem PySem.Spec PyProof.Rows L2
section
variable {prog : Program} {w : World} {A : Around} {E : Value → Shared → Prop} {s : Shared} {l : Addr} {its : List Value} {ns : List Int} {Q : Value → Shared → Prop}
theorem max_tup0 {xs : Array (Int × Tok)} (hh : A.handled = none) (hT : s.heap.IsTuple l (intItems xs)) (hne : 0 < xs.size)
    (k : ∀ v h' tk, (intItems xs)[argBest (fun i j => decide (numAt xs i > numAt xs j)) (xs.size - 1)]? = some v → (∀ b o, s.heap.get? b = some o → h'.get? b = some o) → Q v { s with heap := h', toks := tk }) :
    wpAny (model prog w) A (call (.builtin "max") [.ref l]) Q E s := by
  have hl : l < s.heap.objs.size := by
    obtain ⟨o, ho, _⟩ := id hT
    exact Heap.lt_size ho
  refine call_max_walk (wpAny_pyIter_tuple hT ?_)
  refine ⟨_, [_, l], [_], _, _, _, _, rfl, Walks.tuple (A := A.in1) hh s.heap.objs.size l (Nat.ne_of_lt hl) (intItems xs), ⟨⟨_, Heap.get?_push_size _ rfl, rfl, rfl⟩, hT.push _⟩, fun c hc => ?_, by simpa [intItems] using hne,
    CmpOf.ints_gt (numAt xs) (fun _ _ => intItems_at), fun v h' tk hP hk => ?_⟩
  · show c < (s.heap.push _).objs.size
    rw [Heap.size_push]
    rcases List.mem_cons.mp hc with z | z
    · rw [z]; exact Nat.lt_succ_self _
    · rw [List.mem_singleton.mp z]; exact Nat.lt_succ_of_lt hl
  · refine k v h' tk (by simpa [intItems] using hP) fun b o e => hk b o (fun z => ?_) (Heap.get?_push_of_some _ e)
    have := Heap.lt_size e
    rw [List.mem_singleton.mp z] at this
    exact Nat.lt_irrefl _ this
theorem max_tupR (hh : A.handled = none) (hT : s.heap.IsTuple l its.toArray) (hi : IntsAre its ns) (hne : 0 < ns.length)
    (k : ∀ h' tk M t', (∀ b o, s.heap.get? b = some o → h'.get? b = some o) → M ∈ ns → (∀ a, a ∈ ns → a ≤ M) → Q (.int M t') { s with heap := h', toks := tk }) : wpAny (model prog w) A (call (.builtin "max") [.ref l]) Q E s := by
  obtain ⟨xs, e⟩ := hi.allInts.items
  have en : numsOf (intItems xs).toList = ns := by rw [← e]; exact hi.numsOf
  rw [nums_intItems] at en
  subst en
  rw [e] at hT
  have hz : 0 < xs.size := by simpa using hne
  refine max_tup0 hh hT hz fun v h' tk hv hk => ?_
  obtain ⟨t, rfl⟩ := intItems_at hv
  obtain ⟨m1, m2⟩ := argBest_gt (numAt xs) (xs.size - 1)
  refine k h' tk _ t hk ?_ fun a ha => ?_
  · rw [numAt_eq]
    refine PySem.getD_mem ?_
    rw [List.length_map, Array.length_toList]
    omega
  · obtain ⟨j, hj, rfl⟩ := mem_getD ha
    rw [List.length_map, Array.length_toList] at hj
    rw [← numAt_eq]
    exact m2 j (by omega)
end
def rMaxT (K : PySem.W.Frag) : List V → Hp → VK → Prop := fun vs H Q => ∃ (a : Addr) (ns : List Int), vs = [V.ref a] ∧ SqT K H a (ns.map V.int) ∧ 0 < ns.length ∧ ∀ m, m ∈ ns → (∀ y, y ∈ ns → y ≤ m) → Q (.int m) H
theorem cr_maxT {X : Cx} (hc : X.calm = true) : CallR X (.builtin "max") (rMaxT X.K) := by
  intro pins s σ H vs us Q I r hh
  obtain ⟨a, ns, rfl, hs, hne, q⟩ := hh
  obtain ⟨its, rv, hT, _⟩ := I.tuple hs
  obtain rfl := Vals.ref1 r
  refine max_tupR (I.ok.hd hc) (show s.heap.IsTuple a its.toArray from hT) rv.ints hne fun h' tk m t' hk m1 m2 => ?_
  exact ⟨.int m, H, I.kept hk, ⟨t', rfl⟩, q m m1 m2⟩
end K01


set_option maxRecDepth 100000
namespace Lin
/-! rows of whole numbers modulo a prime -/
abbrev Row := List Int
def OkR (p : Int) (n : Nat) (v : Row) : Prop := v.length = n ∧ ∀ x ∈ v, 0 ≤ x ∧ x < p
def g (v : Row) (i : Nat) : Int := v.getD i 0
def add (p : Int) (u : Row) (c : Int) (w : Row) : Row := List.zipWith (fun a b => (a + c * b) % p) u w
def times (p f : Int) (u : Row) : Row := u.map fun x => f * x % p
def zero (n : Nat) : Row := List.replicate n 0
def lead : Row → Nat
  | [] => 0
  | x :: r => if x = 0 then lead r + 1 else 0

theorem modEq {a b p : Int} (k : Int) (h : a = b + p * k) : a % p = b % p := by
  rw [h, Int.add_mul_emod_self_left]
theorem md (x p : Int) : x % p = x - p * (x / p) := by have := Int.mul_ediv_add_emod x p; omega
theorem mod_add_cong {a b c d p : Int} (h1 : a % p = b % p) (h2 : c % p = d % p) : (a + c) % p = (b + d) % p := by
  rw [Int.add_emod, h1, h2, ← Int.add_emod]
theorem mod_mul_cong {a b c d p : Int} (h1 : a % p = b % p) (h2 : c % p = d % p) : (a * c) % p = (b * d) % p := by
  rw [Int.mul_emod, h1, h2, ← Int.mul_emod]
theorem mod_sub_cong {a b c d p : Int} (h1 : a % p = b % p) (h2 : c % p = d % p) : (a - c) % p = (b - d) % p := by
  rw [Int.sub_emod, h1, h2, ← Int.sub_emod]
theorem mm (a p : Int) : a % p % p = a % p := Int.emod_emod_of_dvd a (Int.dvd_refl p)

theorem g_ge {v : Row} {i : Nat} (h : v.length ≤ i) : g v i = 0 := by
  unfold g; rw [List.getD_eq_getElem?_getD, List.getElem?_eq_none h]; rfl
theorem g_lt {v : Row} {i : Nat} (h : i < v.length) : g v i = v[i] := by
  unfold g; rw [List.getD_eq_getElem?_getD, List.getElem?_eq_getElem h]; rfl
theorem g_get? {v : Row} {i : Nat} (h : i < v.length) : v[i]? = some (g v i) := by
  rw [g_lt h]; exact List.getElem?_eq_getElem h
theorem g_bd {p : Int} {n : Nat} {v : Row} (hp : 0 < p) (h : OkR p n v) (i : Nat) : 0 ≤ g v i ∧ g v i < p := by
  by_cases hi : i < v.length
  · rw [g_lt hi]; exact h.2 _ (List.getElem_mem hi)
  · rw [g_ge (by omega)]; omega
theorem g_mod {p : Int} {n : Nat} {v : Row} (hp : 0 < p) (h : OkR p n v) (i : Nat) : g v i % p = g v i := by
  have := g_bd hp h i
  exact Int.emod_eq_of_lt this.1 this.2
theorem g_add {p : Int} {u w : Row} {c : Int} (h : u.length = w.length) (i : Nat) : g (add p u c w) i = (g u i + c * g w i) % p := by
  by_cases hi : i < u.length
  · have hw : i < w.length := h ▸ hi
    have hz : i < (add p u c w).length := by unfold add; rw [List.length_zipWith]; omega
    rw [g_lt hz, g_lt hi, g_lt hw]; simp only [add, List.getElem_zipWith]
  · rw [g_ge (v := u) (by omega), g_ge (v := w) (by omega), g_ge (v := add p u c w) (by unfold add; rw [List.length_zipWith]; omega)]
    simp
theorem g_times {p f : Int} {u : Row} (i : Nat) : g (times p f u) i = f * g u i % p := by
  by_cases hi : i < u.length
  · have hz : i < (times p f u).length := by unfold times; rw [List.length_map]; omega
    rw [g_lt hz, g_lt hi]; simp only [times, List.getElem_map]
  · rw [g_ge (v := u) (by omega), g_ge (v := times p f u) (by unfold times; rw [List.length_map]; omega)]
    simp
theorem g_zero (n i : Nat) : g (zero n) i = 0 := by
  unfold g zero
  rw [List.getD_eq_getElem?_getD, List.getElem?_replicate]; split <;> rfl
theorem len_add {p : Int} {u w : Row} {c : Int} {n : Nat} (h : u.length = n) (h2 : w.length = n) : (add p u c w).length = n := by
  unfold add; rw [List.length_zipWith]; omega
theorem ok_add {p : Int} {u w : Row} {c : Int} {n : Nat} (hp : 0 < p) (h : u.length = n) (h2 : w.length = n) : OkR p n (add p u c w) := by
  refine ⟨len_add h h2, fun x hx => ?_⟩
  unfold add at hx
  obtain ⟨i, hi, e⟩ := List.mem_iff_getElem.mp hx
  rw [List.getElem_zipWith] at e
  rw [← e]; exact ⟨Int.emod_nonneg _ (by omega), Int.emod_lt_of_pos _ hp⟩
theorem ok_times {p f : Int} {u : Row} {n : Nat} (hp : 0 < p) (h : u.length = n) : OkR p n (times p f u) := by
  refine ⟨by unfold times; rw [List.length_map]; exact h, fun x hx => ?_⟩
  unfold times at hx
  obtain ⟨y, _, e⟩ := List.mem_map.mp hx
  rw [← e]; exact ⟨Int.emod_nonneg _ (by omega), Int.emod_lt_of_pos _ hp⟩
theorem ok_zero {p : Int} (n : Nat) (hp : 0 < p) : OkR p n (zero n) := by
  refine ⟨List.length_replicate, fun x hx => ?_⟩
  have := List.eq_of_mem_replicate hx
  omega
theorem ext {n : Nat} {u v : Row} (h1 : u.length = n) (h2 : v.length = n) (h : ∀ i, i < n → g u i = g v i) : u = v := by
  apply List.ext_getElem (by omega)
  intro i hi hj
  have := h i (by omega)
  rwa [g_lt hi, g_lt hj] at this

/-! ### sums of multiples -/
inductive Sp (p : Int) (n : Nat) (R : List Row) : Row → Prop
  | zero : Sp p n R (zero n)
  | step {u r : Row} (c : Int) : Sp p n R u → r ∈ R → Sp p n R (add p u c r)
def Oks (p : Int) (n : Nat) (R : List Row) : Prop := ∀ r ∈ R, OkR p n r
section
variable {p : Int} {n : Nat} {R R' : List Row} {u v w r : Row} {c : Int}
theorem Sp.ok (hp : 0 < p) (hR : Oks p n R) (h : Sp p n R v) : OkR p n v := by
  induction h with
  | zero => exact ok_zero n hp
  | step c _ hr ih => exact ok_add hp ih.1 (hR _ hr).1
theorem add_zero' (hp : 0 < p) (hu : OkR p n u) : add p u c (zero n) = u :=
  ext (n := n) (len_add hu.1 (ok_zero n hp).1) hu.1 fun i _ => by
    rw [g_add (by rw [hu.1, (ok_zero n hp).1]), g_zero, Int.mul_zero, Int.add_zero, g_mod hp hu]
theorem Sp.add (hp : 0 < p) (hR : Oks p n R) (hu : Sp p n R u) (hv : Sp p n R v) (c : Int) : Sp p n R (Lin.add p u c v) := by
  induction hv generalizing c with
  | zero => rw [add_zero' hp (hu.ok hp hR)]; exact hu
  | @step v' r d hv' hr ih =>
    have ou := hu.ok hp hR
    have ov := hv'.ok hp hR
    have orr := hR _ hr
    have e : Lin.add p u c (Lin.add p v' d r) = Lin.add p (Lin.add p u c v') (c * d) r := by
      have l1 := len_add (p := p) (c := d) ov.1 orr.1
      have l2 := len_add (p := p) (c := c) ou.1 ov.1
      refine ext (n := n) (len_add ou.1 l1) (len_add l2 orr.1) fun i _ => ?_
      rw [g_add (by rw [ou.1, l1]), g_add (by rw [ov.1, orr.1]), g_add (by rw [l2, orr.1]), g_add (by rw [ou.1, ov.1])]
      rw [md (g v' i + d * g r i) p, md (g u i + c * g v' i) p]
      refine modEq (-(c * ((g v' i + d * g r i) / p)) + (g u i + c * g v' i) / p) ?_
      grind
    rw [e]; exact (ih c).step _ hr
theorem Sp.gen (hp : 0 < p) (hr : OkR p n r) (h : r ∈ R) : Sp p n R r := by
  have e : Lin.add p (Lin.zero n) 1 r = r := ext (n := n) (len_add (ok_zero n hp).1 hr.1) hr.1 fun i _ => by
    rw [g_add (by rw [hr.1, (ok_zero n hp).1]), g_zero, Int.one_mul, Int.zero_add, g_mod hp hr]
  rw [← e]; exact Sp.zero.step 1 h
theorem Sp.mono (hp : 0 < p) (hR' : Oks p n R') (h : ∀ r ∈ R, Sp p n R' r) (hv : Sp p n R v) : Sp p n R' v := by
  induction hv with
  | zero => exact .zero
  | step c _ hr ih => exact ih.add hp hR' (h _ hr) c
theorem Sp.sub (h : ∀ r ∈ R, r ∈ R') (hv : Sp p n R v) : Sp p n R' v := by
  induction hv with
  | zero => exact .zero
  | step c _ hr ih => exact ih.step c (h _ hr)
theorem Sp.times (hp : 0 < p) (hR : Oks p n R) (hv : Sp p n R v) (f : Int) : Sp p n R (times p f v) := by
  have ov := hv.ok hp hR
  have e : Lin.times p f v = Lin.add p (Lin.zero n) f v := ext (n := n) (ok_times hp ov.1).1 (len_add (ok_zero n hp).1 ov.1) fun i _ => by
    rw [g_add (by rw [ov.1, (ok_zero n hp).1]), g_zero, Int.zero_add, g_times]
  rw [e]; exact Sp.zero.add hp hR hv f
end
/-! ### rows with a place of their own -/
structure Ind (p : Int) (n : Nat) (S : List Row) (piv : Row → Nat) : Prop where
  ok : Oks p n S
  nd : S.Nodup
  one : ∀ s ∈ S, g s (piv s) = 1
  off : ∀ s ∈ S, ∀ t ∈ S, t ≠ s → g t (piv s) = 0
theorem sum_none {α : Type} {S : List α} {f : α → Int} (h : ∀ s ∈ S, f s = 0) : (S.map f).sum = 0 := by
  induction S with
  | nil => rfl
  | cons a r ih =>
    rw [List.map_cons, List.sum_cons, h a List.mem_cons_self, ih fun s hs => h s (List.mem_cons_of_mem _ hs)]; rfl
theorem sum_one {α : Type} {S : List α} {f : α → Int} {r : α} (nd : S.Nodup) (hr : r ∈ S) (h : ∀ s ∈ S, s ≠ r → f s = 0) : (S.map f).sum = f r := by
  induction S with
  | nil => cases hr
  | cons a l ih =>
    rw [List.map_cons, List.sum_cons]
    have hn := List.nodup_cons.mp nd
    rcases List.mem_cons.mp hr with e | e
    · subst e
      rw [sum_none fun s hs => h s (List.mem_cons_of_mem _ hs) fun z => hn.1 (z ▸ hs)]; omega
    · rw [ih hn.2 e fun s hs => h s (List.mem_cons_of_mem _ hs), h a List.mem_cons_self fun z => hn.1 (z ▸ e)]; omega
theorem sum_lin {α : Type} {p : Int} {S : List α} {f a b : α → Int} {c : Int} (h : ∀ s ∈ S, f s % p = (a s + c * b s) % p) : (S.map f).sum % p = ((S.map a).sum + c * (S.map b).sum) % p := by
  induction S with
  | nil => simp
  | cons x l ih =>
    simp only [List.map_cons, List.sum_cons]
    have e : a x + (l.map a).sum + c * (b x + (l.map b).sum) = (a x + c * b x) + ((l.map a).sum + c * (l.map b).sum) := by grind
    rw [e]
    exact mod_add_cong (h x List.mem_cons_self) (ih fun s hs => h s (List.mem_cons_of_mem _ hs))
section
variable {p : Int} {n : Nat} {S : List Row} {piv : Row → Nat} {v w : Row}
theorem Ind.rep (hp : 0 < p) (I : Ind p n S piv) (h : Sp p n S v) (j : Nat) : g v j % p = (S.map fun s => g v (piv s) * g s j).sum % p := by
  induction h with
  | zero => rw [g_zero, sum_none fun s _ => by rw [g_zero, Int.zero_mul]]
  | @step v' r c hv hr ih =>
    have ov := hv.ok hp I.ok
    have orr := I.ok _ hr
    have hl : v'.length = r.length := by rw [ov.1, orr.1]
    rw [g_add hl, mm]
    have e1 : (S.map fun s => g (add p v' c r) (piv s) * g s j).sum % p = ((S.map fun s => g v' (piv s) * g s j).sum + c * (S.map fun s => g r (piv s) * g s j).sum) % p := by
      refine sum_lin fun s _ => ?_
      rw [g_add hl]
      have e : g v' (piv s) * g s j + c * (g r (piv s) * g s j) = (g v' (piv s) + c * g r (piv s)) * g s j := by grind
      rw [e]; exact mod_mul_cong (mm _ _) rfl
    have e2 : (S.map fun s => g r (piv s) * g s j).sum = g r j := by
      rw [sum_one (r := r) I.nd hr fun s hs ne => by rw [I.off s hs r hr (Ne.symm ne), Int.zero_mul], I.one r hr, Int.one_mul]
    rw [e1, e2]
    exact mod_add_cong ih rfl
theorem Ind.eq (hp : 0 < p) (I : Ind p n S piv) (hv : Sp p n S v) (hw : Sp p n S w) (h : ∀ s ∈ S, g v (piv s) = g w (piv s)) : v = w := by
  have ov := hv.ok hp I.ok
  have ow := hw.ok hp I.ok
  refine ext ov.1 ow.1 fun j _ => ?_
  rw [← g_mod hp ov, ← g_mod hp ow, I.rep hp hv j, I.rep hp hw j]
  congr 1
  congr 1
  exact List.map_congr_left fun s hs => by rw [h s hs]
theorem Ind.zero (hp : 0 < p) (I : Ind p n S piv) (hv : Sp p n S v) (h : ∀ s ∈ S, g v (piv s) = 0) : v = Lin.zero n :=
  I.eq hp hv .zero fun s hs => by rw [h s hs, g_zero]
end
end Lin


set_option maxRecDepth 100000
namespace Lin
/-! ### the first place that isn't 0 -/
theorem lead_le : ∀ v : Row, lead v ≤ v.length
  | [] => Nat.le_refl _
  | x :: r => by
    have := lead_le r
    unfold lead; split <;> simp <;> omega
theorem g_cons0 {x : Int} {r : Row} : g (x :: r) 0 = x := rfl
theorem g_consS {x : Int} {r : Row} {i : Nat} : g (x :: r) (i + 1) = g r i := by simp [g]
theorem lead_ne : ∀ {v : Row}, lead v < v.length → g v (lead v) ≠ 0
  | [], h => by simp at h
  | x :: r, h => by
    by_cases hx : x = 0
    · have e : lead (x :: r) = lead r + 1 := by rw [lead, if_pos hx]
      rw [e] at h ⊢
      rw [g_consS]; exact lead_ne (by simpa using h)
    · have e : lead (x :: r) = 0 := by rw [lead, if_neg hx]
      rw [e, g_cons0]; exact hx
theorem lead_lt : ∀ {v : Row} {i : Nat}, i < lead v → g v i = 0
  | [], i, h => by simp [lead] at h
  | x :: r, i, h => by
    by_cases hx : x = 0
    · have e : lead (x :: r) = lead r + 1 := by rw [lead, if_pos hx]
      rw [e] at h
      cases i with
      | zero => exact hx
      | succ i => rw [g_consS]; exact lead_lt (by omega)
    · have e : lead (x :: r) = 0 := by rw [lead, if_neg hx]
      omega
theorem lead_is {v : Row} {k : Nat} (h : ∀ i, i < k → g v i = 0) (hk : g v k ≠ 0) : lead v = k := by
  by_cases h1 : lead v < k
  · by_cases h2 : lead v < v.length
    · exact absurd (h _ h1) (lead_ne h2)
    · exact absurd (g_ge (by have := lead_le v; omega)) hk
  · by_cases h2 : k < lead v
    · exact absurd (lead_lt h2) hk
    · omega
theorem g_ne_lt {v : Row} {k : Nat} (hk : g v k ≠ 0) : k < v.length := by
  by_cases h : k < v.length
  · exact h
  · exact absurd (g_ge (by omega)) hk
theorem lead_len {n : Nat} {v : Row} (hv : v.length = n) (h : lead v = v.length) : v = zero n :=
  ext hv List.length_replicate fun i hi => by rw [g_zero]; exact lead_lt (by omega)
theorem lead_nz {n : Nat} {v : Row} (hv : v.length = n) (h : v ≠ zero n) : lead v < n := by
  have := lead_le v
  rcases Nat.lt_or_ge (lead v) n with z | z
  · exact z
  · exact absurd (lead_len hv (by omega)) h
/-! ### staircases -/
structure Rref (p : Int) (n : Nat) (S : List Row) : Prop where
  ok : Oks p n S
  one : ∀ s ∈ S, g s (lead s) = 1
  off : ∀ s ∈ S, ∀ t ∈ S, t ≠ s → g t (lead s) = 0
  srt : S.Pairwise fun s t => lead s < lead t
section
variable {p : Int} {n : Nat} {S : List Row} {v w : Row}
theorem Rref.nil : Rref p n [] := ⟨by simp [Oks], by simp, by simp, List.Pairwise.nil⟩
theorem Rref.ind (h : Rref p n S) : Ind p n S lead := ⟨h.ok, h.srt.imp fun {a b} q e => by rw [e] at q; omega, h.one, h.off⟩
theorem Rref.lt (h : Rref p n S) {s : Row} (hs : s ∈ S) : lead s < n := by
  have := g_ne_lt (v := s) (k := lead s) (by rw [h.one s hs]; decide)
  rw [(h.ok s hs).1] at this; exact this
/-- the first place of a sum of multiples is that of a step -/
theorem Rref.lead_mem (hp : 0 < p) (h : Rref p n S) (hv : Sp p n S v) (nz : v ≠ zero n) : ∃ s ∈ S, lead s = lead v := by
  have ov := hv.ok hp h.ok
  have hl := lead_nz ov.1 nz
  have hne := lead_ne (v := v) (by rw [ov.1]; exact hl)
  rcases Classical.em (∃ s ∈ S, lead s = lead v) with z | z
  · exact z
  · have hz : ∀ s ∈ S, g v (lead s) * g s (lead v) = 0 := fun s hs => by
      rcases Nat.lt_trichotomy (lead s) (lead v) with q | q | q
      · rw [lead_lt q, Int.zero_mul]
      · exact absurd ⟨s, hs, q⟩ z
      · rw [lead_lt q, Int.mul_zero]
    have := h.ind.rep hp hv (lead v)
    rw [sum_none hz, g_mod hp ov, Int.zero_emod] at this
    exact absurd this hne
end
/-! ### lists in order -/
theorem sorted_eq : ∀ {xs ys : List Nat}, xs.Pairwise (· < ·) → ys.Pairwise (· < ·) → (∀ a, a ∈ xs ↔ a ∈ ys) → xs = ys
  | [], [], _, _, _ => rfl
  | [], y :: l, _, _, h => absurd ((h y).2 List.mem_cons_self) (by simp)
  | x :: l, [], _, _, h => absurd ((h x).1 List.mem_cons_self) (by simp)
  | x :: l, y :: m, h1, h2, h => by
    have a1 := List.pairwise_cons.mp h1
    have a2 := List.pairwise_cons.mp h2
    have e : x = y := by
      rcases List.mem_cons.mp ((h x).1 List.mem_cons_self) with q | q
      · exact q
      · rcases List.mem_cons.mp ((h y).2 List.mem_cons_self) with q' | q'
        · exact q'.symm
        · have := a2.1 x q; have := a1.1 y q'; omega
    subst e
    rw [sorted_eq a1.2 a2.2 fun a => ⟨fun ha => ?_, fun ha => ?_⟩]
    · rcases List.mem_cons.mp ((h a).1 (List.mem_cons_of_mem _ ha)) with q | q
      · have := a1.1 a ha; omega
      · exact q
    · rcases List.mem_cons.mp ((h a).2 (List.mem_cons_of_mem _ ha)) with q | q
      · have := a2.1 a ha; omega
      · exact q
theorem filter_one {α : Type} {L : List α} {f : α → Bool} {s : α} (nd : L.Nodup) (hs : s ∈ L) (h : ∀ x ∈ L, f x = true ↔ x = s) : L.filter f = [s] := by
  induction L with
  | nil => cases hs
  | cons a l ih =>
    have hn := List.nodup_cons.mp nd
    rcases List.mem_cons.mp hs with e | e
    · subst e
      rw [List.filter_cons, if_pos ((h s List.mem_cons_self).2 rfl)]
      rw [List.filter_eq_nil_iff.mpr fun x hx q => hn.1 (by rw [← (h x (List.mem_cons_of_mem _ hx)).1 q]; exact hx)]
    · have ha : ¬ f a = true := fun q => hn.1 (by rw [(h a List.mem_cons_self).1 q]; exact e)
      rw [List.filter_cons, if_neg ha]
      exact ih hn.2 e fun x hx => h x (List.mem_cons_of_mem _ hx)
/-! ### the staircase of a list of all sums: what the law says of it -/
def lawRows (lot : List Row) : List Row := lot.filter fun one => decide (g one (lead one) = 1)
def lawNear (leads : List Nat) (rows : List Row) (place : Nat) : List Row :=
  (rows.filter fun one => decide (lead one = place)).filter fun one => leads.all fun a => decide (a = place) || decide (g one a = 0)
def lawStairs (leads : List Nat) (lot : List Row) : List Row := leads.flatMap fun place => lawNear leads (lawRows lot) place
section
variable {p : Int} {n : Nat} {S : List Row} {L : List Row}
theorem Rref.leads (hp : 1 < p) (h : Rref p n S) (hL : ∀ v, v ∈ L ↔ Sp p n S v) (a : Nat) : a ∈ (lawRows L).map lead ↔ a ∈ S.map lead := by
  unfold lawRows
  constructor
  · intro ha
    obtain ⟨v, hv, e⟩ := List.mem_map.mp ha
    have hv' := List.mem_filter.mp hv
    have sv := (hL v).1 hv'.1
    have nz : v ≠ zero n := fun z => by
      have := of_decide_eq_true hv'.2
      rw [z, g_zero] at this; cases this
    obtain ⟨s, hs, q⟩ := h.lead_mem (by omega) sv nz
    exact List.mem_map.mpr ⟨s, hs, by rw [q, e]⟩
  · intro ha
    obtain ⟨s, hs, e⟩ := List.mem_map.mp ha
    exact List.mem_map.mpr ⟨s, List.mem_filter.mpr ⟨(hL s).2 (Sp.gen (by omega) (h.ok s hs) hs), decide_eq_true (h.one s hs)⟩, e⟩
theorem flatMap_single {α β : Type} {xs : List α} {f : α → List β} {k : α → β} (h : ∀ x ∈ xs, f x = [k x]) : xs.flatMap f = xs.map k := by
  induction xs with
  | nil => rfl
  | cons a l ih => rw [List.flatMap_cons, h a List.mem_cons_self, ih fun x hx => h x (List.mem_cons_of_mem _ hx)]; rfl
theorem Rref.leads_srt (h : Rref p n S) : (S.map lead).Pairwise (· < ·) := List.pairwise_map.mpr h.srt
theorem lawStairs_is (hp : 1 < p) (h : Rref p n S) (hL : ∀ v, v ∈ L ↔ Sp p n S v) (nd : L.Nodup) {leads : List Nat} (hs : leads.Pairwise (· < ·)) (hm : ∀ a, a ∈ leads ↔ a ∈ (lawRows L).map lead) : lawStairs leads L = S := by
  have e : leads = S.map lead := sorted_eq hs h.leads_srt fun a => by rw [hm a, h.leads hp hL a]
  subst e
  have hp0 : 0 < p := by omega
  unfold lawStairs
  rw [List.flatMap_map]
  rw [flatMap_single (k := id) fun s hs => ?_, List.map_id]
  unfold lawNear lawRows
  rw [List.filter_filter, List.filter_filter]
  refine filter_one nd ((hL s).2 (Sp.gen hp0 (h.ok s hs) hs)) fun v hv => ?_
  have sv := (hL v).1 hv
  constructor
  · intro q
    simp only [Bool.and_eq_true, decide_eq_true_eq, List.all_eq_true, Bool.or_eq_true] at q
    obtain ⟨⟨q1, q2⟩, q3⟩ := q
    refine h.ind.eq hp0 sv (Sp.gen hp0 (h.ok s hs) hs) fun t ht => ?_
    by_cases e : t = s
    · subst e; show g v (lead t) = g t (lead t); rw [h.one t ht, ← q2, q3]
    · show g v (lead t) = g s (lead t); rw [h.off t ht s hs (fun z => e z.symm)]
      rcases q1 (lead t) (List.mem_map_of_mem ht) with z | z
      · exact absurd (z : lead t = lead s) fun z => by
          have := h.off t ht s hs (fun z => e z.symm)
          rw [z, h.one s hs] at this; cases this
      · exact z
  · intro q
    subst q
    simp only [Bool.and_eq_true, decide_eq_true_eq, List.all_eq_true, Bool.or_eq_true, id_eq]
    refine ⟨⟨fun a ha => ?_, trivial⟩, h.one v hs⟩
    obtain ⟨t, ht, e⟩ := List.mem_map.mp ha
    subst e
    by_cases e : t = v
    · subst e; exact .inl rfl
    · exact .inr (h.off t ht v hs (fun z => e z.symm))
end
end Lin


set_option maxRecDepth 100000
set_option linter.unusedVariables false
namespace Lin
section
variable {p : Int} {n : Nat} {S T R : List Row} {v w r : Row}
/-! ### what is left of a row behind the steps -/
def remS (p : Int) (S : List Row) (row : Row) : Row := S.foldl (fun row s => add p row (-(g row (lead s))) s) row
structure Rem (p : Int) (n : Nat) (S : List Row) (row out : Row) : Prop where
  ok : OkR p n out
  away : ∀ s ∈ S, g out (lead s) = 0
  to : Sp p n (row :: S) out
  back : Sp p n (out :: S) row
theorem oks_cons (h : OkR p n r) (hS : Oks p n S) : Oks p n (r :: S) := fun x hx => by
  rcases List.mem_cons.mp hx with e | e
  · subst e; exact h
  · exact hS x e
theorem remS_inv (hp : 0 < p) (h : Rref p n S) : ∀ (T : List Row), (∀ t ∈ T, t ∈ S) → ∀ row, OkR p n row →
    OkR p n (remS p T row) ∧ (∀ s ∈ S, g row (lead s) = 0 → g (remS p T row) (lead s) = 0) ∧ (∀ t ∈ T, g (remS p T row) (lead t) = 0) ∧ Sp p n (row :: S) (remS p T row) ∧ Sp p n (remS p T row :: S) row
  | [], _, row, o => ⟨o, fun _ _ e => e, by simp, Sp.gen hp o List.mem_cons_self, Sp.gen hp o List.mem_cons_self⟩
  | t :: T, hT, row, o => by
    have tS := hT t List.mem_cons_self
    have ot := h.ok t tS
    have l : row.length = t.length := by rw [o.1, ot.1]
    have o1 : OkR p n (add p row (-(g row (lead t))) t) := ok_add hp o.1 ot.1
    obtain ⟨a, b, c, d, e⟩ := remS_inv hp h T (fun x hx => hT x (List.mem_cons_of_mem _ hx)) _ o1
    have s1 : Sp p n (row :: S) (add p row (-(g row (lead t))) t) := (Sp.gen hp o List.mem_cons_self).step _ (List.mem_cons_of_mem _ tS)
    have s2 : Sp p n (add p row (-(g row (lead t))) t :: S) row := by
      have e : add p (add p row (-(g row (lead t))) t) (g row (lead t)) t = row := ext (n := n) (len_add o1.1 ot.1) o.1 fun i _ => by
        rw [g_add (by rw [o1.1, ot.1]), g_add l, md (g row i + _) p, ← g_mod hp o i]
        refine modEq (-((g row i % p + -(g row (lead t)) * g t i) / p)) ?_
        rw [g_mod hp o i]; grind
      have := (Sp.gen (R := add p row (-(g row (lead t))) t :: S) hp o1 List.mem_cons_self).step (g row (lead t)) (List.mem_cons_of_mem _ tS)
      rw [e] at this; exact this
    have z : ∀ s ∈ S, g row (lead s) = 0 → g (add p row (-(g row (lead t))) t) (lead s) = 0 := fun s hs e0 => by
      rw [g_add l, e0]
      by_cases q : t = s
      · subst q; rw [e0]; simp
      · rw [h.off s hs t tS q]; simp
    have zt : g (add p row (-(g row (lead t))) t) (lead t) = 0 := by
      rw [g_add l, h.one t tS]
      have : g row (lead t) + -(g row (lead t)) * 1 = 0 := by omega
      rw [this]; rfl
    refine ⟨a, fun s hs e0 => b s hs (z s hs e0), fun x hx => ?_, ?_, ?_⟩
    · rcases List.mem_cons.mp hx with q | q
      · subst q; exact b x tS zt
      · exact c x q
    · refine d.mono hp (oks_cons o h.ok) fun x hx => ?_
      rcases List.mem_cons.mp hx with q | q
      · subst q; exact s1
      · exact Sp.gen hp (h.ok x q) (List.mem_cons_of_mem _ q)
    · refine s2.mono hp (oks_cons a h.ok) fun x hx => ?_
      rcases List.mem_cons.mp hx with q | q
      · subst q; exact e
      · exact Sp.gen hp (h.ok x q) (List.mem_cons_of_mem _ q)
theorem remS_is (hp : 0 < p) (h : Rref p n S) (o : OkR p n r) : Rem p n S r (remS p S r) := by
  obtain ⟨a, _, c, d, e⟩ := remS_inv hp h S (fun _ q => q) r o
  exact ⟨a, c, d, e⟩
/-! ### one more row -/
def Same (p : Int) (n : Nat) (R R' : List Row) : Prop := ∀ v, Sp p n R v ↔ Sp p n R' v
theorem same_of (hp : 0 < p) (h1 : Oks p n R) (h2 : Oks p n T) (a : ∀ r ∈ R, Sp p n T r) (b : ∀ r ∈ T, Sp p n R r) : Same p n R T := fun _ => ⟨fun h => h.mono hp h2 a, fun h => h.mono hp h1 b⟩
theorem Same.trans {R1 R2 R3 : List Row} (a : Same p n R1 R2) (b : Same p n R2 R3) : Same p n R1 R3 := fun v => (a v).trans (b v)
theorem Same.symm {R1 R2 : List Row} (a : Same p n R1 R2) : Same p n R2 R1 := fun v => (a v).symm
theorem Same.refl : Same p n R R := fun _ => Iff.rfl
theorem withRow_in (hp : 0 < p) (h : Rref p n S) (o : OkR p n r) {out : Row} (m : Rem p n S r out) (z : lead out = out.length) : Same p n S (r :: S) := by
  have e := lead_len m.ok.1 z
  refine same_of hp h.ok (oks_cons o h.ok) (fun x hx => Sp.gen hp (h.ok x hx) (List.mem_cons_of_mem _ hx)) fun x hx => ?_
  rcases List.mem_cons.mp hx with q | q
  · subst q
    refine m.back.mono hp h.ok fun y hy => ?_
    rcases List.mem_cons.mp hy with q | q
    · subst q; rw [e]; exact .zero
    · exact Sp.gen hp (h.ok y q) q
  · exact Sp.gen hp (h.ok x q) q
theorem withRow_new (hp : 1 < p) (h : Rref p n S) (o : OkR p n r) {out : Row} (m : Rem p n S r out) (hl : lead out ≠ out.length) {inv : Int} (hinv : inv * g out (lead out) % p = 1) {S' : List Row}
    (perm : S'.Perm ((S.map fun old => add p old (-(g old (lead out))) (times p inv out)) ++ [times p inv out])) (srt : S'.Pairwise fun s t => lead s ≤ lead t) :
    Rref p n S' ∧ Same p n S' (r :: S) ∧ ¬ Sp p n S r := by
  have hp0 : 0 < p := by omega
  have hq : lead out < n := by have := lead_le out; have := m.ok.1; omega
  generalize eq : lead out = q at *
  have ne : ∀ s ∈ S, lead s ≠ q := fun s hs z => by
    have h1 := m.away s hs
    rw [z, ← eq] at h1
    exact lead_ne (by rw [eq, m.ok.1]; exact hq) h1
  generalize es : times p inv out = st at *
  have ost : OkR p n st := by rw [← es]; exact ok_times hp0 m.ok.1
  have gst : ∀ i, g st i = inv * g out i % p := fun i => by rw [← es, g_times]
  have st1 : g st q = 1 := by rw [gst, hinv]
  have st0 : ∀ i, i < q → g st i = 0 := fun i hi => by rw [gst, lead_lt (by omega)]; simp
  have stS : ∀ s ∈ S, g st (lead s) = 0 := fun s hs => by rw [gst, m.away s hs]; simp
  have lst : lead st = q := lead_is st0 (by rw [st1]; decide)
  let c := fun old : Row => add p old (-(g old q)) st
  have oc : ∀ s ∈ S, OkR p n (c s) := fun s hs => ok_add hp0 (h.ok s hs).1 ost.1
  have gc : ∀ s ∈ S, ∀ i, g (c s) i = (g s i + -(g s q) * g st i) % p := fun s hs i => g_add (by rw [(h.ok s hs).1, ost.1]) i
  have c1 : ∀ s ∈ S, g (c s) (lead s) = 1 := fun s hs => by
    rw [gc s hs, h.one s hs, stS s hs, Int.mul_zero]; exact Int.emod_eq_of_lt (by omega) (by omega)
  have c0 : ∀ s ∈ S, ∀ t ∈ S, t ≠ s → g (c t) (lead s) = 0 := fun s hs t ht d => by
    rw [gc t ht, h.off s hs t ht d, stS s hs, Int.mul_zero]; rfl
  have cq : ∀ s ∈ S, g (c s) q = 0 := fun s hs => by
    rw [gc s hs, st1]
    have : g s q + -(g s q) * 1 = 0 := by omega
    rw [this]; rfl
  have cl : ∀ s ∈ S, lead (c s) = lead s := fun s hs => lead_is (fun i hi => by
    rw [gc s hs, lead_lt hi]
    rcases Nat.lt_or_ge q (lead s) with z | z
    · rw [lead_lt z]; simp
    · have := ne s hs
      rw [st0 i (by omega)]; simp) (by rw [c1 s hs]; decide)
  have mem : ∀ x, x ∈ S' ↔ (∃ s ∈ S, c s = x) ∨ x = st := fun x => by
    rw [perm.mem_iff, List.mem_append, List.mem_map, List.mem_singleton]
  have ok' : Oks p n S' := fun x hx => by
    rcases (mem x).1 hx with ⟨s, hs, e⟩ | e
    · rw [← e]; exact oc s hs
    · rw [e]; exact ost
  have leads : (S'.map lead).Perm (S.map lead ++ [q]) := by
    have a := perm.map lead
    rw [List.map_append, List.map_map, List.map_singleton, lst] at a
    have b : S.map (lead ∘ fun old => add p old (-(g old q)) st) = S.map lead := List.map_congr_left fun s hs => cl s hs
    rw [b] at a; exact a
  have nd : (S'.map lead).Nodup := by
    rw [leads.nodup_iff]
    refine List.nodup_append.mpr ⟨?_, by simp, fun a ha b hb e => ?_⟩
    · exact (List.pairwise_map.mpr h.srt).imp fun {a b} z e => by omega
    · obtain ⟨s, hs, e1⟩ := List.mem_map.mp ha
      rw [List.mem_singleton] at hb
      exact ne s hs (by rw [e1, e, hb])
  refine ⟨⟨ok', fun x hx => ?_, fun x hx y hy d => ?_, ?_⟩, ?_, fun z => ?_⟩
  · rcases (mem x).1 hx with ⟨s, hs, e⟩ | e
    · rw [← e, cl s hs]; exact c1 s hs
    · rw [e, lst]; exact st1
  · rcases (mem x).1 hx with ⟨s, hs, e⟩ | e
    · rcases (mem y).1 hy with ⟨t, ht, e'⟩ | e'
      · rw [← e, ← e', cl s hs]; exact c0 s hs t ht fun z => d (by rw [← e, ← e', z])
      · rw [← e, e', cl s hs]; exact stS s hs
    · rcases (mem y).1 hy with ⟨t, ht, e'⟩ | e'
      · rw [e, ← e', lst]; exact cq t ht
      · exact absurd (e'.trans e.symm) d
  · have nd2 : S'.Pairwise fun s t => lead s ≠ lead t := List.pairwise_map.mp nd
    exact (srt.and nd2).imp fun {a b} z => by omega
  · have hin : ∀ x, ((∃ s ∈ S, c s = x) ∨ x = st) → Sp p n S' x := fun x hx => by
      have hx' := (mem x).2 hx
      exact Sp.gen hp0 (ok' x hx') hx'
    have sS : ∀ s ∈ S, Sp p n S' s := fun s hs => by
      have e : add p (c s) (g s q) st = s := ext (n := n) (len_add (oc s hs).1 ost.1) (h.ok s hs).1 fun i _ => by
        rw [g_add (by rw [(oc s hs).1, ost.1]), gc s hs, md (g s i + _) p, ← g_mod hp0 (h.ok s hs) i]
        refine modEq (-((g s i % p + -(g s q) * g st i) / p)) ?_
        rw [g_mod hp0 (h.ok s hs) i]; grind
      have := (hin _ (.inl ⟨s, hs, rfl⟩)).step (g s q) ((mem st).2 (.inr rfl))
      rw [e] at this; exact this
    have sO : Sp p n S' out := by
      have e : times p (g out q) st = out := ext (n := n) (ok_times hp0 ost.1).1 m.ok.1 fun i _ => by
        rw [g_times, gst, ← g_mod hp0 m.ok i]
        have e1 : g out q * (inv * (g out i % p) % p) % p = (inv * g out q) * g out i % p := by
          have e3 : inv * g out q * g out i = g out q * (inv * g out i) := by grind
          rw [Int.mul_emod, mm, ← Int.mul_emod, e3, g_mod hp0 m.ok i]
        rw [g_mod hp0 m.ok i] at e1 ⊢
        rw [e1, Int.mul_emod, hinv, Int.one_mul, mm, g_mod hp0 m.ok i]
      have := (hin st (.inr rfl)).times hp0 ok' (g out q)
      rw [e] at this; exact this
    have oR := oks_cons o h.ok
    have sst : Sp p n (r :: S) st := by rw [← es]; exact m.to.times hp0 oR inv
    refine same_of hp0 ok' oR (fun x hx => ?_) fun x hx => ?_
    · rcases (mem x).1 hx with ⟨s, hs, e⟩ | e
      · rw [← e]; exact (Sp.gen hp0 (h.ok s hs) (List.mem_cons_of_mem _ hs)).add hp0 oR sst _
      · rw [e]; exact sst
    · rcases List.mem_cons.mp hx with e | e
      · rw [e]
        refine m.back.mono hp0 ok' fun y hy => ?_
        rcases List.mem_cons.mp hy with e | e
        · rw [e]; exact sO
        · exact sS y e
      · exact sS x e
  · -- a row of the span leaves nothing
    have so : Sp p n S out := m.to.mono hp0 h.ok fun y hy => by
      rcases List.mem_cons.mp hy with e | e
      · rw [e]; exact z
      · exact Sp.gen hp0 (h.ok y e) e
    have e0 := h.ind.zero hp0 so m.away
    have := lead_ne (v := out) (by rw [eq, m.ok.1]; exact hq)
    rw [e0, g_zero] at this; exact this rfl
/-! ### counting -/
def combos (p : Int) (n : Nat) : List Row → List Row
  | [] => [zero n]
  | s :: S => (List.range p.toNat).flatMap fun (c : Nat) => (combos p n S).map fun u => add p u (c : Int) s
theorem sp_cons (hp : 0 < p) (hr : OkR p n r) (hS : Oks p n S) : Sp p n (r :: S) v ↔ ∃ c : Int, (0 ≤ c ∧ c < p) ∧ ∃ u, Sp p n S u ∧ v = add p u c r := by
  constructor
  · intro h
    induction h with
    | zero => exact ⟨0, ⟨by omega, hp⟩, zero n, .zero, ext (n := n) List.length_replicate (len_add List.length_replicate hr.1) fun i _ => by
        rw [g_add (by rw [hr.1]; exact List.length_replicate), g_zero]; simp⟩
    | @step v' x c hv hx ih =>
      obtain ⟨c', hc, u, hu, e⟩ := ih
      have ou := hu.ok hp hS
      subst e
      rcases List.mem_cons.mp hx with q | q
      · subst q
        refine ⟨(c' + c) % p, ⟨Int.emod_nonneg _ (by omega), Int.emod_lt_of_pos _ hp⟩, u, hu, ext (n := n) (len_add (len_add ou.1 hr.1) hr.1) (len_add ou.1 hr.1) fun i _ => ?_⟩
        rw [g_add (by rw [len_add ou.1 hr.1, hr.1]), g_add (by rw [ou.1, hr.1]), g_add (by rw [ou.1, hr.1]), md (g u i + c' * g x i) p, md (c' + c) p]
        refine modEq (-((g u i + c' * g x i) / p) + (c' + c) / p * g x i) ?_
        grind
      · have ox := hS x q
        refine ⟨c', hc, add p u c x, hu.step c q, ext (n := n) (len_add (len_add ou.1 hr.1) ox.1) (len_add (len_add ou.1 ox.1) hr.1) fun i _ => ?_⟩
        rw [g_add (by rw [len_add ou.1 hr.1, ox.1]), g_add (by rw [ou.1, hr.1]), g_add (by rw [len_add ou.1 ox.1, hr.1]), g_add (by rw [ou.1, ox.1]), md (g u i + c' * g r i) p, md (g u i + c * g x i) p]
        refine modEq (-((g u i + c' * g r i) / p) + (g u i + c * g x i) / p) ?_
        grind
  · rintro ⟨c, _, u, hu, e⟩
    rw [e]; exact (hu.sub fun x hx => List.mem_cons_of_mem _ hx).step c List.mem_cons_self
theorem mem_flat {L : List Row} (hp : 0 < p) : v ∈ ((List.range p.toNat).flatMap fun (c : Nat) => L.map fun u => add p u (c : Int) r) ↔ ∃ c : Int, (0 ≤ c ∧ c < p) ∧ ∃ u, u ∈ L ∧ v = add p u c r := by
  rw [List.mem_flatMap]
  constructor
  · rintro ⟨c, hc, hv⟩
    obtain ⟨u, hu, e⟩ := List.mem_map.mp hv
    have := List.mem_range.mp hc
    exact ⟨c, ⟨by omega, by omega⟩, u, hu, e.symm⟩
  · rintro ⟨c, hc, u, hu, e⟩
    refine ⟨c.toNat, List.mem_range.mpr (by omega), List.mem_map.mpr ⟨u, hu, ?_⟩⟩
    rw [e, Int.toNat_of_nonneg hc.1]
theorem mem_combos (hp : 0 < p) : ∀ {S : List Row} {v : Row}, Oks p n S → (v ∈ combos p n S ↔ Sp p n S v)
  | [], v, _ => by
    unfold combos
    rw [List.mem_singleton]
    constructor
    · intro e; rw [e]; exact .zero
    · intro h
      cases h with
      | zero => rfl
      | step c _ hr => cases hr
  | s :: S, v, o => by
    have oS : Oks p n S := fun x hx => o x (List.mem_cons_of_mem _ hx)
    unfold combos
    rw [mem_flat hp, sp_cons hp (o s List.mem_cons_self) oS]
    constructor
    · rintro ⟨c, hc, u, hu, e⟩; exact ⟨c, hc, u, (mem_combos hp oS).1 hu, e⟩
    · rintro ⟨c, hc, u, hu, e⟩; exact ⟨c, hc, u, (mem_combos hp oS).2 hu, e⟩
theorem nodup_flat {L : List Row} (hp : 0 < p) (nd : L.Nodup) (oL : ∀ u ∈ L, u.length = n) (oL2 : ∀ u ∈ L, OkR p n u) (or_ : r.length = n) (inj : ∀ u ∈ L, ∀ u' ∈ L, ∀ c c' : Int, 0 ≤ c → c < p → 0 ≤ c' → c' < p → add p u c r = add p u' c' r → c = c') :
    ((List.range p.toNat).flatMap fun (c : Nat) => L.map fun u => add p u (c : Int) r).Nodup := by
  unfold List.Nodup
  rw [List.pairwise_flatMap]
  refine ⟨fun c hc => ?_, ?_⟩
  · rw [List.pairwise_map]
    refine List.Pairwise.imp_of_mem (fun {a b} ha hb q e => q ?_) nd
    refine ext (oL a ha) (oL b hb) fun i _ => ?_
    have h1 := congrArg (fun z => g z i) e
    simp only [g_add (show a.length = r.length by rw [oL a ha, or_]), g_add (show b.length = r.length by rw [oL b hb, or_])] at h1
    have h2 := mod_sub_cong h1 (rfl : ((c : Int) * g r i) % p = ((c : Int) * g r i) % p)
    rw [Int.add_sub_cancel, Int.add_sub_cancel, g_mod hp (oL2 a ha), g_mod hp (oL2 b hb)] at h2
    exact h2
  · refine (List.nodup_range (n := p.toNat)).imp_of_mem fun {a b} ha hb q x hx y hy e => q ?_
    obtain ⟨u, hu, e1⟩ := List.mem_map.mp hx
    obtain ⟨u', hu', e2⟩ := List.mem_map.mp hy
    have := List.mem_range.mp ha
    have := List.mem_range.mp hb
    have := inj u hu u' hu' a b (by omega) (by omega) (by omega) (by omega) (by rw [e1, e2, e])
    omega
end
end Lin


set_option maxRecDepth 100000
set_option linter.unusedVariables false
namespace Lin
section
variable {p : Int} {n : Nat} {S T R : List Row} {v w r : Row} {piv : Row → Nat}
theorem Ind.tail {s : Row} (I : Ind p n (s :: S) piv) : Ind p n S piv :=
  ⟨fun x hx => I.ok x (List.mem_cons_of_mem _ hx), (List.nodup_cons.mp I.nd).2, fun x hx => I.one x (List.mem_cons_of_mem _ hx), fun x hx y hy d => I.off x (List.mem_cons_of_mem _ hx) y (List.mem_cons_of_mem _ hy) d⟩
theorem Sp.at0 (hp : 0 < p) {q : Nat} (hS : Oks p n S) (h0 : ∀ s ∈ S, g s q = 0) (h : Sp p n S v) : g v q = 0 := by
  induction h with
  | zero => exact g_zero _ _
  | @step v' x c hv hx ih => rw [g_add (by rw [(hv.ok hp hS).1, (hS x hx).1]), ih, h0 x hx]; simp
theorem Ind.head0 (hp : 0 < p) {s : Row} (I : Ind p n (s :: S) piv) (h : Sp p n S v) : g v (piv s) = 0 :=
  h.at0 hp I.tail.ok fun t ht => I.off s List.mem_cons_self t (List.mem_cons_of_mem _ ht) fun z => (List.nodup_cons.mp I.nd).1 (z ▸ ht)
theorem combos_nd (hp : 0 < p) : ∀ {S : List Row}, Ind p n S piv → (combos p n S).Nodup
  | [], _ => by unfold combos; simp
  | s :: S, I => by
    unfold combos
    have os := I.ok s List.mem_cons_self
    have okm : ∀ u ∈ combos p n S, OkR p n u := fun u hu => ((mem_combos hp I.tail.ok).1 hu).ok hp I.tail.ok
    refine nodup_flat hp (combos_nd hp I.tail) (fun u hu => (okm u hu).1) okm os.1 fun u hu u' hu' c c' h0 h1 h2 h3 e => ?_
    have z := congrArg (fun z => g z (piv s)) e
    simp only [g_add (show u.length = s.length by rw [(okm u hu).1, os.1]), g_add (show u'.length = s.length by rw [(okm u' hu').1, os.1])] at z
    rw [I.head0 hp ((mem_combos hp I.tail.ok).1 hu), I.head0 hp ((mem_combos hp I.tail.ok).1 hu'), I.one s List.mem_cons_self, Int.mul_one, Int.mul_one, Int.zero_add, Int.zero_add, Int.emod_eq_of_lt h0 h1, Int.emod_eq_of_lt h2 h3] at z
    exact z
theorem len_flat {α β : Type} {xs : List α} {f : α → List β} {k : Nat} (h : ∀ x ∈ xs, (f x).length = k) : (xs.flatMap f).length = xs.length * k := by
  induction xs with
  | nil => simp
  | cons a l ih => rw [List.flatMap_cons, List.length_append, h a List.mem_cons_self, ih fun x hx => h x (List.mem_cons_of_mem _ hx), List.length_cons, Nat.succ_mul]; omega
theorem combos_len : ∀ {S : List Row}, (combos p n S).length = p.toNat ^ S.length
  | [] => by unfold combos; simp
  | s :: S => by
    unfold combos
    rw [len_flat (k := p.toNat ^ S.length) fun c _ => by rw [List.length_map, combos_len], List.length_range, List.length_cons, Nat.pow_succ, Nat.mul_comm]
theorem nd_len {α : Type} [DecidableEq α] : ∀ {xs ys : List α}, xs.Nodup → (∀ x ∈ xs, x ∈ ys) → xs.length ≤ ys.length
  | [], ys, _, _ => Nat.zero_le _
  | a :: l, ys, h, hs => by
    have hn := List.nodup_cons.mp h
    have ha := hs a List.mem_cons_self
    have := nd_len (ys := ys.erase a) hn.2 fun x hx => (List.mem_erase_of_ne (fun z : x = a => hn.1 (by rw [← z]; exact hx))).mpr (hs x (List.mem_cons_of_mem _ hx))
    rw [List.length_erase_of_mem ha] at this
    have : 0 < ys.length := List.length_pos_of_mem ha
    rw [List.length_cons]; omega
theorem len_eq {α : Type} [DecidableEq α] {xs ys : List α} (h1 : xs.Nodup) (h2 : ys.Nodup) (h : ∀ x, x ∈ xs ↔ x ∈ ys) : xs.length = ys.length :=
  Nat.le_antisymm (nd_len h1 fun x hx => (h x).1 hx) (nd_len h2 fun x hx => (h x).2 hx)
theorem Ind.count (hp : 0 < p) (I : Ind p n S piv) {L : List Row} (nd : L.Nodup) (hL : ∀ v, v ∈ L ↔ Sp p n S v) : L.length = p.toNat ^ S.length := by
  rw [← combos_len (p := p) (n := n)]
  exact len_eq nd (combos_nd hp I) fun v => by rw [hL, mem_combos hp I.ok]
theorem small_dvd {x : Int} (hp : 0 < p) (h1 : -p < x) (h2 : x < p) (h : x % p = 0) : x = 0 := by
  rcases Int.lt_or_le x 0 with z | z
  · have a : (x + p) % p = 0 := by rw [Int.add_emod_right]; exact h
    rw [Int.emod_eq_of_lt (by omega) (by omega)] at a; omega
  · rw [Int.emod_eq_of_lt z h2] at h; exact h
/-! ### the law's span -/
def lawLater (p : Int) (found : List Row) (one : Row) : List Row := (List.range p.toNat).flatMap fun (c : Nat) => found.map fun own => add p own (c : Int) one
def lawTurn (p : Int) (found : List Row) (one : Row) : List Row := if one ∈ found then found else lawLater p found one
def lawSpan (p : Int) (n : Nat) (rows : List Row) : List Row := rows.foldl (lawTurn p) [zero n]
structure Lot (p : Int) (n : Nat) (R : List Row) (L : List Row) : Prop where
  nd : L.Nodup
  mem : ∀ v, v ∈ L ↔ Sp p n R v
def Prm (p : Int) : Prop := ∀ x : Int, 0 < x → x < p → ∃ k : Int, k * x % p = 1
theorem sp_swap : Sp p n (R ++ [r]) v ↔ Sp p n (r :: R) v := ⟨fun h => h.sub fun x hx => by
    rcases List.mem_append.mp hx with e | e
    · exact List.mem_cons_of_mem _ e
    · rw [List.mem_singleton.mp e]; exact List.mem_cons_self, fun h => h.sub fun x hx => by
    rcases List.mem_cons.mp hx with e | e
    · rw [e]; exact List.mem_append_right _ List.mem_cons_self
    · exact List.mem_append_left _ e⟩
theorem lawTurn_ok (hp : 1 < p) (P : Prm p) (hR : Oks p n R) (hr : OkR p n r) {L : List Row} (l : Lot p n R L) : Lot p n (R ++ [r]) (lawTurn p L r) := by
  have hp0 : 0 < p := by omega
  unfold lawTurn
  split
  · rename_i hm
    refine ⟨l.nd, fun v => ?_⟩
    rw [l.mem, sp_swap]
    refine ⟨fun h => h.sub fun x hx => List.mem_cons_of_mem _ hx, fun h => h.mono hp0 hR fun x hx => ?_⟩
    rcases List.mem_cons.mp hx with e | e
    · rw [e]; exact (l.mem r).1 hm
    · exact Sp.gen hp0 (hR x e) e
  · rename_i hm
    have okm : ∀ u ∈ L, OkR p n u := fun u hu => ((l.mem u).1 hu).ok hp0 hR
    refine ⟨nodup_flat hp0 l.nd (fun u hu => (okm u hu).1) okm hr.1 fun u hu u' hu' c c' h0 h1 h2 h3 e => ?_, fun v => ?_⟩
    · rcases Classical.em (c = c') with z | z
      · exact z
      · refine absurd ((l.mem r).2 ?_) hm
        have hd : (c - c') % p ≠ 0 := fun z0 => by
          exact z (by have := small_dvd (x := c - c') hp0 (by omega) (by omega) z0; omega)
        have h5 := Int.emod_nonneg (c - c') (show p ≠ 0 by omega)
        have h6 := Int.emod_lt_of_pos (c - c') hp0
        obtain ⟨k, hk⟩ := P ((c - c') % p) (by omega) h6
        have hk' : k * (c - c') % p = 1 := by rw [Int.mul_emod, ← mm (c - c') p, ← Int.mul_emod]; exact hk
        have ou := okm u hu
        have ou' := okm u' hu'
        have e2 : times p k (add p u' (-1) u) = r := ext (n := n) (ok_times hp0 (len_add ou'.1 ou.1)).1 hr.1 fun i _ => by
          have z := congrArg (fun z => g z i) e
          simp only [g_add (show u.length = r.length by rw [ou.1, hr.1]), g_add (show u'.length = r.length by rw [ou'.1, hr.1])] at z
          rw [g_times, g_add (by rw [ou.1, ou'.1])]
          have z2 : (g u' i + -1 * g u i) % p = ((c - c') * g r i) % p := by
            have := Int.emod_emod_of_dvd (c - c') (Int.dvd_refl p)
            have a1 := Int.mul_ediv_add_emod (g u i + c * g r i) p
            have a2 := Int.mul_ediv_add_emod (g u' i + c' * g r i) p
            refine modEq ((g u' i + c' * g r i) / p - (g u i + c * g r i) / p) ?_
            grind
          rw [z2, Int.mul_emod, mm, ← Int.mul_emod, ← Int.mul_assoc, Int.mul_emod, hk', Int.one_mul, mm, g_mod hp0 hr]
        rw [← e2]
        exact (((l.mem u').1 hu').add hp0 hR ((l.mem u).1 hu) (-1)).times hp0 hR k
    · rw [sp_swap, sp_cons hp0 hr hR]
      unfold lawLater
      rw [mem_flat hp0]
      constructor
      · rintro ⟨c, hc, u, hu, e⟩; exact ⟨c, hc, u, (l.mem u).1 hu, e⟩
      · rintro ⟨c, hc, u, hu, e⟩; exact ⟨c, hc, u, (l.mem u).2 hu, e⟩
theorem lawSpan_go (hp : 1 < p) (P : Prm p) : ∀ (rows : List Row) (R L : List Row), Oks p n R → Oks p n rows → Lot p n R L → Lot p n (R ++ rows) (rows.foldl (lawTurn p) L)
  | [], R, L, _, _, l => by rw [List.append_nil]; exact l
  | r :: rows, R, L, hR, hr, l => by
    have o := hr r List.mem_cons_self
    have := lawSpan_go hp P rows (R ++ [r]) (lawTurn p L r) (fun x hx => by
      rcases List.mem_append.mp hx with e | e
      · exact hR x e
      · rw [List.mem_singleton.mp e]; exact o) (fun x hx => hr x (List.mem_cons_of_mem _ hx)) (lawTurn_ok hp P hR o l)
    rw [List.append_assoc] at this; exact this
theorem lawSpan_ok (hp : 1 < p) (P : Prm p) {rows : List Row} (hr : Oks p n rows) : Lot p n rows (lawSpan p n rows) :=
  lawSpan_go hp P rows [] [zero n] (fun x hx => by cases hx) hr ⟨by simp, fun v => by
    rw [List.mem_singleton]
    constructor
    · intro e; rw [e]; exact .zero
    · intro h
      cases h with
      | zero => rfl
      | step c _ hr => cases hr⟩
/-! ### meeting -/
def dot (p : Int) (u w : Row) : Int := (List.zipWith (· * ·) u w).sum % p
theorem sum_zip : ∀ {u w : Row} {n : Nat}, u.length = n → w.length = n → (List.zipWith (· * ·) u w).sum = ((List.range n).map fun i => g u i * g w i).sum
  | [], w, n, h1, h2 => by
    have : n = 0 := by simpa using h1.symm
    subst this; simp
  | a :: u, [], n, h1, h2 => by simp at h1 h2; omega
  | a :: u, b :: w, 0, h1, h2 => by simp at h1
  | a :: u, b :: w, n + 1, h1, h2 => by
    rw [List.zipWith_cons_cons, List.sum_cons, List.range_succ_eq_map, List.map_cons, List.sum_cons, List.map_map, g_cons0, g_cons0]
    rw [sum_zip (u := u) (w := w) (n := n) (by simpa using h1) (by simpa using h2)]
    congr 1
theorem dot_eq {u w : Row} (h1 : u.length = n) (h2 : w.length = n) : dot p u w = ((List.range n).map fun i => g u i * g w i).sum % p := by unfold dot; rw [sum_zip h1 h2]
theorem dot_comm {u w : Row} (h1 : u.length = n) (h2 : w.length = n) : dot p u w = dot p w u := by
  rw [dot_eq h1 h2, dot_eq h2 h1]
  congr 2
  exact List.map_congr_left fun i _ => Int.mul_comm _ _
theorem dot_add {u x w : Row} {c : Int} (h1 : u.length = n) (hx : x.length = n) (h2 : w.length = n) : dot p (add p u c x) w = (dot p u w + c * dot p x w) % p := by
  have e : dot p (add p u c x) w = (((List.range n).map fun i => g u i * g w i).sum + c * ((List.range n).map fun i => g x i * g w i).sum) % p := by
    rw [dot_eq (len_add h1 hx) h2]
    refine sum_lin fun i _ => ?_
    rw [g_add (by rw [h1, hx])]
    have e : g u i * g w i + c * (g x i * g w i) = (g u i + c * g x i) * g w i := by grind
    rw [e]; exact mod_mul_cong (mm _ _) rfl
  rw [e, dot_eq h1 h2, dot_eq hx h2]
  refine mod_add_cong (mm _ _).symm (mod_mul_cong rfl (mm _ _).symm)
theorem dot_zero {w : Row} (h : w.length = n) : dot p (zero n) w = 0 := by
  rw [dot_eq (u := zero n) (show (List.replicate n (0 : Int)).length = n from List.length_replicate) h, sum_none fun i _ => by rw [g_zero, Int.zero_mul]]; rfl
theorem perp_sp (hp : 0 < p) (hR : Oks p n R) (hv : v.length = n) (h : ∀ r ∈ R, dot p r v = 0) (hw : Sp p n R w) : dot p w v = 0 := by
  induction hw with
  | zero => exact dot_zero hv
  | @step u x c hu hx ih => rw [dot_add (hu.ok hp hR).1 (hR x hx).1 hv, ih, h x hx]; simp
theorem perp_same (hp : 0 < p) (hR : Oks p n R) (hS : Oks p n S) (s : Same p n R S) (hv : v.length = n) : (∀ r ∈ R, dot p r v = 0) ↔ ∀ r ∈ S, dot p r v = 0 :=
  ⟨fun h r hr => perp_sp hp hR hv h ((s r).2 (Sp.gen hp (hS r hr) hr)), fun h r hr => perp_sp hp hS hv h ((s r).1 (Sp.gen hp (hR r hr) hr))⟩
theorem sum_two {α : Type} {S : List α} {f : α → Int} {a b : α} (nd : S.Nodup) (ha : a ∈ S) (hb : b ∈ S) (ne : a ≠ b) (h : ∀ s ∈ S, s ≠ a → s ≠ b → f s = 0) : (S.map f).sum = f a + f b := by
  induction S with
  | nil => cases ha
  | cons x l ih =>
    have hn := List.nodup_cons.mp nd
    rw [List.map_cons, List.sum_cons]
    rcases List.mem_cons.mp ha with e | e
    · subst e
      rw [sum_one (r := b) hn.2 ((List.mem_cons.mp hb).resolve_left fun z => ne z.symm) fun s hs d => h s (List.mem_cons_of_mem _ hs) (fun z => hn.1 (z ▸ hs)) d]
    · rcases List.mem_cons.mp hb with e' | e'
      · subst e'
        rw [sum_one (r := a) hn.2 e fun s hs d => h s (List.mem_cons_of_mem _ hs) d (fun z => hn.1 (z ▸ hs))]; omega
      · rw [ih hn.2 e e' fun s hs => h s (List.mem_cons_of_mem _ hs), h x List.mem_cons_self (fun z => hn.1 (z ▸ e)) (fun z => hn.1 (z ▸ e'))]; omega
/-! ### the rows that meet a staircase with 0 -/
def facingRow (p : Int) (n : Nat) (S : List Row) (j : Nat) : Row := S.foldl (fun v s => v.set (lead s) (-(g s j) % p)) ((zero n).set j 1)
theorem g_set {v : Row} {q i : Nat} {x : Int} (hq : q < v.length) : g (v.set q x) i = if i = q then x else g v i := by
  unfold g
  rw [List.getD_eq_getElem?_getD, List.getElem?_set, List.getD_eq_getElem?_getD]
  by_cases e : q = i
  · subst e; simp [hq]
  · rw [if_neg e, if_neg fun z => e z.symm]
def fset (p : Int) (j : Nat) (T : List Row) (v : Row) : Row := T.foldl (fun v s => v.set (lead s) (-(g s j) % p)) v
theorem fset_len {j : Nat} : ∀ (T : List Row) (v : Row), (fset p j T v).length = v.length
  | [], v => rfl
  | s :: T, v => by
    show (fset p j T (v.set (lead s) (-(g s j) % p))).length = _
    rw [fset_len T, List.length_set]
theorem fset_other {j i : Nat} : ∀ (T : List Row) (v : Row), (∀ s ∈ T, lead s ≠ i) → g (fset p j T v) i = g v i
  | [], v, _ => rfl
  | s :: T, v, h => by
    show g (fset p j T (v.set (lead s) (-(g s j) % p))) i = _
    rw [fset_other T _ fun x hx => h x (List.mem_cons_of_mem _ hx)]
    have hi := h s List.mem_cons_self
    by_cases hq : lead s < v.length
    · rw [g_set hq, if_neg fun z => hi z.symm]
    · rw [List.set_eq_of_length_le (by omega)]
theorem fset_at {j : Nat} : ∀ (T : List Row) (v : Row), (T.Pairwise fun s t => lead s < lead t) → (∀ s ∈ T, lead s < v.length) → ∀ s ∈ T, g (fset p j T v) (lead s) = -(g s j) % p
  | [], v, _, _, s, hs => by cases hs
  | t :: T, v, hw, hl, s, hs => by
    show g (fset p j T (v.set (lead t) (-(g t j) % p))) (lead s) = _
    have hp := List.pairwise_cons.mp hw
    rcases List.mem_cons.mp hs with e | e
    · subst e
      rw [fset_other T _ fun x hx z => by have := hp.1 x hx; omega, g_set (hl s List.mem_cons_self), if_pos rfl]
    · exact fset_at T _ hp.2 (fun x hx => by rw [List.length_set]; exact hl x (List.mem_cons_of_mem _ hx)) s e
structure Free (n : Nat) (S : List Row) (j : Nat) : Prop where
  lt : j < n
  no : ∀ s ∈ S, lead s ≠ j
theorem facing_len {j : Nat} : (facingRow p n S j).length = n := by
  show (fset p j S _).length = n
  rw [fset_len, List.length_set]; exact List.length_replicate
theorem facing_at (h : Rref p n S) {j : Nat} {s : Row} (hs : s ∈ S) : g (facingRow p n S j) (lead s) = -(g s j) % p :=
  fset_at S _ h.srt (fun x hx => by rw [List.length_set]; show _ < (List.replicate n (0 : Int)).length; rw [List.length_replicate]; exact h.lt hx) s hs
theorem facing_free {j i : Nat} (hj : j < n) (hi : ∀ s ∈ S, lead s ≠ i) : g (facingRow p n S j) i = if i = j then 1 else 0 := by
  show g (fset p j S _) i = _
  rw [fset_other S _ hi, g_set (by show _ < (List.replicate n (0 : Int)).length; rw [List.length_replicate]; exact hj), g_zero]
theorem facing_ok (hp : 1 < p) (h : Rref p n S) {j : Nat} (f : j < n) : OkR p n (facingRow p n S j) := by
  refine ⟨facing_len, fun x hx => ?_⟩
  obtain ⟨i, hi, e⟩ := List.mem_iff_getElem.mp hx
  rw [← e, ← g_lt hi]
  rcases Classical.em (∃ s ∈ S, lead s = i) with ⟨s, hs, z⟩ | z
  · rw [← z, facing_at h hs]; exact ⟨Int.emod_nonneg _ (by omega), Int.emod_lt_of_pos _ (by omega)⟩
  · rw [facing_free f fun s hs q => z ⟨s, hs, q⟩]; split <;> omega
theorem facing_perp (hp : 1 < p) (h : Rref p n S) {j : Nat} (f : Free n S j) {s : Row} (hs : s ∈ S) : dot p s (facingRow p n S j) = 0 := by
  have os := h.ok s hs
  rw [dot_eq os.1 facing_len, sum_two (a := lead s) (b := j) List.nodup_range (List.mem_range.mpr (h.lt hs)) (List.mem_range.mpr f.lt) (f.no s hs) fun i hi n1 n2 => ?_]
  · rw [h.one s hs, facing_at h hs, facing_free f.lt f.no, if_pos rfl, Int.one_mul, Int.mul_one, md (-(g s j)) p]
    have : -(g s j) - p * (-(g s j) / p) + g s j = 0 + p * (-(-(g s j) / p)) := by grind
    rw [modEq _ this]; rfl
  · rcases Classical.em (∃ t ∈ S, lead t = i) with ⟨t, ht, z⟩ | z
    · subst z
      rw [h.off t ht s hs fun q => n1 (by rw [q]), Int.zero_mul]
    · rw [facing_free f.lt fun t ht q => z ⟨t, ht, q⟩, if_neg n2, Int.mul_zero]
def frees (n : Nat) (S : List Row) : List Nat := (List.range n).filter fun j => !(S.map lead).contains j
theorem mem_frees {j : Nat} : j ∈ frees n S ↔ Free n S j := by
  unfold frees
  rw [List.mem_filter, List.mem_range]
  simp only [Bool.not_eq_true', List.contains_eq_mem, decide_eq_false_iff_not, List.mem_map, not_exists, not_and]
  exact ⟨fun h => ⟨h.1, h.2⟩, fun h => ⟨h.lt, h.no⟩⟩
theorem filter_len {α : Type} (xs : List α) (f : α → Bool) : (xs.filter f).length + (xs.filter fun x => !f x).length = xs.length := by
  induction xs with
  | nil => rfl
  | cons a l ih => rw [List.filter_cons, List.filter_cons]; cases f a <;> simp <;> omega
theorem frees_len (h : Rref p n S) : (frees n S).length + S.length = n := by
  have a := filter_len (List.range n) fun j => (S.map lead).contains j
  rw [List.length_range] at a
  have b : ((List.range n).filter fun j => (S.map lead).contains j).length = (S.map lead).length := by
    refine len_eq (List.Nodup.sublist List.filter_sublist List.nodup_range) (h.leads_srt.imp fun {a b} z => by omega) fun j => ?_
    rw [List.mem_filter, List.mem_range, List.contains_eq_mem, decide_eq_true_iff]
    refine ⟨fun z => z.2, fun z => ⟨?_, z⟩⟩
    obtain ⟨s, hs, e⟩ := List.mem_map.mp z
    rw [← e]; exact h.lt hs
  rw [List.length_map] at b
  unfold frees
  omega
def facings (p : Int) (n : Nat) (S : List Row) : List Row := (frees n S).map (facingRow p n S)
def fpiv (n : Nat) (S : List Row) (v : Row) : Nat := ((frees n S).find? fun j => g v j == 1).getD 0
theorem fpiv_is {j : Nat} (f : Free n S j) : fpiv n S (facingRow p n S j) = j := by
  unfold fpiv
  have : (frees n S).find? (fun i => g (facingRow p n S j) i == 1) = some j := by
    have e : ∀ i ∈ frees n S, (g (facingRow p n S j) i == 1) = decide (i = j) := fun i hi => by
      rw [facing_free f.lt (mem_frees.1 hi).no]
      by_cases z : i = j
      · simp [z]
      · simp [z]
    cases q : (frees n S).find? (fun i => g (facingRow p n S j) i == 1) with
    | none =>
      have := List.find?_eq_none.mp q j (mem_frees.2 f)
      rw [e j (mem_frees.2 f)] at this
      simp at this
    | some i =>
      have h1 := List.find?_some q
      have h2 := List.mem_of_find?_eq_some q
      rw [e i h2] at h1
      rw [of_decide_eq_true h1]
  rw [this]; rfl
theorem facings_ind (hp : 1 < p) (h : Rref p n S) : Ind p n (facings p n S) (fpiv n S) := by
  have ff : ∀ {x}, x ∈ facings p n S → ∃ j, Free n S j ∧ x = facingRow p n S j := fun {x} hx => by
    obtain ⟨j, hj, e⟩ := List.mem_map.mp hx
    exact ⟨j, mem_frees.1 hj, e.symm⟩
  refine ⟨fun x hx => ?_, ?_, fun x hx => ?_, fun x hx y hy d => ?_⟩
  · obtain ⟨j, f, e⟩ := ff hx
    rw [e]; exact facing_ok hp h f.lt
  · unfold facings List.Nodup
    rw [List.pairwise_map]
    refine (show (frees n S).Nodup from List.Nodup.sublist List.filter_sublist List.nodup_range).imp_of_mem fun {a b} ha hb ne e => ne ?_
    have fa := mem_frees.1 ha
    have fb := mem_frees.1 hb
    rw [← fpiv_is (p := p) fa, ← fpiv_is (p := p) fb, e]
  · obtain ⟨j, f, e⟩ := ff hx
    rw [e, fpiv_is f, facing_free f.lt f.no, if_pos rfl]
  · obtain ⟨j, f, e⟩ := ff hx
    obtain ⟨i, f', e'⟩ := ff hy
    rw [e, e', fpiv_is f, facing_free f'.lt f.no, if_neg fun z => d (by rw [e, e', z])]
theorem Ind.make (hp : 1 < p) {a : Nat → Int} (ha : ∀ i, 0 ≤ a i ∧ a i < p) : ∀ {S : List Row}, Ind p n S piv → ∃ w, Sp p n S w ∧ ∀ s ∈ S, g w (piv s) = a (piv s)
  | [], _ => ⟨Lin.zero n, .zero, by simp⟩
  | s :: S, I => by
    obtain ⟨w, hw, e⟩ := Ind.make hp ha I.tail
    have os := I.ok s List.mem_cons_self
    have ow := hw.ok (by omega) I.tail.ok
    have l : w.length = s.length := by rw [ow.1, os.1]
    refine ⟨add p w (a (piv s)) s, (hw.sub fun x hx => List.mem_cons_of_mem _ hx).step _ List.mem_cons_self, fun t ht => ?_⟩
    rw [g_add l]
    rcases List.mem_cons.mp ht with z | z
    · subst z
      rw [I.head0 (by omega) hw, I.one t List.mem_cons_self, Int.mul_one, Int.zero_add]
      exact Int.emod_eq_of_lt (ha _).1 (ha _).2
    · have n0 : s ≠ t := fun q => (List.nodup_cons.mp I.nd).1 (q ▸ z)
      rw [e t z, I.off t (List.mem_cons_of_mem _ z) s List.mem_cons_self n0, Int.mul_zero, Int.add_zero]
      exact Int.emod_eq_of_lt (ha _).1 (ha _).2
theorem facings_sp (hp : 1 < p) (h : Rref p n S) : Sp p n (facings p n S) v ↔ OkR p n v ∧ ∀ s ∈ S, dot p s v = 0 := by
  have hp0 : 0 < p := by omega
  have I := facings_ind hp h
  constructor
  · intro hv
    refine ⟨hv.ok hp0 I.ok, fun s hs => ?_⟩
    rw [dot_comm (h.ok s hs).1 (hv.ok hp0 I.ok).1]
    refine perp_sp hp0 I.ok (h.ok s hs).1 (fun f hf => ?_) hv
    obtain ⟨j, hj, e⟩ := List.mem_map.mp hf
    rw [← e, dot_comm facing_len (h.ok s hs).1]
    exact facing_perp hp h (mem_frees.1 hj) hs
  · rintro ⟨ov, hv⟩
    obtain ⟨w, hw, e⟩ := I.make hp (a := fun i => g v i) fun i => g_bd hp0 ov i
    have ow := hw.ok hp0 I.ok
    have od : OkR p n (add p v (-1) w) := ok_add hp0 ov.1 ow.1
    have lw : v.length = w.length := by rw [ov.1, ow.1]
    have ef : ∀ j, Free n S j → g w j = g v j := fun j f => by
      have := e (facingRow p n S j) (List.mem_map.mpr ⟨j, mem_frees.2 f, rfl⟩)
      rw [fpiv_is f] at this; exact this
    have d0 : ∀ j, Free n S j → g (add p v (-1) w) j = 0 := fun j f => by
      rw [g_add lw, ef j f]
      have : g v j + -1 * g v j = 0 := by omega
      rw [this]; rfl
    have wS : ∀ s ∈ S, dot p s w = 0 := fun s hs => by
      rw [dot_comm (h.ok s hs).1 ow.1]
      refine perp_sp hp0 I.ok (h.ok s hs).1 (fun f hf => ?_) hw
      obtain ⟨j, hj, e⟩ := List.mem_map.mp hf
      rw [← e, dot_comm facing_len (h.ok s hs).1]
      exact facing_perp hp h (mem_frees.1 hj) hs
    have dS : ∀ s ∈ S, g (add p v (-1) w) (lead s) = 0 := fun s hs => by
      have os := h.ok s hs
      have z : dot p s (add p v (-1) w) = 0 := by
        rw [dot_comm os.1 od.1, dot_add ov.1 ow.1 os.1, dot_comm ov.1 os.1, dot_comm ow.1 os.1, hv s hs, wS s hs]; rfl
      rw [dot_eq os.1 od.1, sum_one (r := lead s) List.nodup_range (List.mem_range.mpr (h.lt hs)) fun i hi ne => ?_, h.one s hs, Int.one_mul, g_mod hp0 od] at z
      · exact z
      · rcases Classical.em (∃ t ∈ S, lead t = i) with ⟨t, ht, q⟩ | q
        · subst q
          rw [h.off t ht s hs fun q => ne (by rw [q]), Int.zero_mul]
        · rw [d0 i ⟨List.mem_range.mp hi, fun t ht z => q ⟨t, ht, z⟩⟩, Int.mul_zero]
    have ev : v = w := ext ov.1 ow.1 fun i hi => by
      have z : g (add p v (-1) w) i = 0 := by
        rcases Classical.em (∃ t ∈ S, lead t = i) with ⟨t, ht, q⟩ | q
        · rw [← q]; exact dS t ht
        · exact d0 i ⟨hi, fun t ht z => q ⟨t, ht, z⟩⟩
      rw [g_add lw] at z
      have b1 := g_bd hp0 ov i
      have b2 := g_bd hp0 ow i
      have := small_dvd hp0 (by omega) (by omega) z
      omega
    rw [ev]; exact hw
/-! ### all rows -/
def nexts (p : Int) (found : List Row) : List Row := found.flatMap fun one => (List.range p.toNat).map fun (x : Nat) => one ++ [(x : Int)]
def allRows (p : Int) : Nat → List Row
  | 0 => [[]]
  | n + 1 => nexts p (allRows p n)
theorem mem_all (hp : 0 < p) : ∀ {n : Nat} {v : Row}, v ∈ allRows p n ↔ OkR p n v
  | 0, v => by
    unfold allRows
    rw [List.mem_singleton]
    constructor
    · intro e; subst e; exact ⟨rfl, by simp⟩
    · intro h; exact List.length_eq_zero_iff.mp h.1
  | n + 1, v => by
    unfold allRows nexts
    rw [List.mem_flatMap]
    constructor
    · rintro ⟨u, hu, hv⟩
      obtain ⟨x, hx, e⟩ := List.mem_map.mp hv
      have o := (mem_all hp).1 hu
      have := List.mem_range.mp hx
      subst e
      refine ⟨by simp [o.1], fun y hy => ?_⟩
      rcases List.mem_append.mp hy with z | z
      · exact o.2 y z
      · rw [List.mem_singleton.mp z]; omega
    · intro h
      have ne : v ≠ [] := fun z => by have := h.1; rw [z] at this; simp at this
      refine ⟨v.dropLast, (mem_all hp).2 ⟨by rw [List.length_dropLast, h.1]; omega, fun x hx => h.2 x (List.dropLast_subset _ hx)⟩, List.mem_map.mpr ⟨(v.getLast ne).toNat, ?_, ?_⟩⟩
      · have := h.2 _ (List.getLast_mem ne)
        exact List.mem_range.mpr (by omega)
      · have := h.2 _ (List.getLast_mem ne)
        rw [Int.toNat_of_nonneg this.1, List.dropLast_concat_getLast]
theorem all_nd : ∀ (n : Nat), (allRows p n).Nodup
  | 0 => by unfold allRows; simp
  | n + 1 => by
    unfold allRows nexts List.Nodup
    rw [List.pairwise_flatMap]
    refine ⟨fun u hu => ?_, (all_nd n).imp fun {a b} q x hx y hy e => q ?_⟩
    · rw [List.pairwise_map]
      exact List.nodup_range.imp fun {a b} q e => q (by have := List.append_inj_right' e rfl; simp at this; omega)
    · obtain ⟨i, _, e1⟩ := List.mem_map.mp hx
      obtain ⟨j, _, e2⟩ := List.mem_map.mp hy
      subst e1; subst e2
      exact (List.append_inj' e rfl).1
theorem all_len : ∀ (n : Nat), (allRows p n).length = p.toNat ^ n
  | 0 => rfl
  | n + 1 => by
    unfold allRows nexts
    rw [len_flat (k := p.toNat) fun u _ => by rw [List.length_map, List.length_range], all_len n, Nat.pow_succ]
end
end Lin


set_option maxRecDepth 100000
set_option linter.unusedVariables false
namespace Lin
section
variable {p : Int} {n : Nat} {S T R : List Row} {v w r : Row}
theorem Rref.len_le (h : Rref p n S) : S.length ≤ n := by
  have := nd_len (xs := S.map lead) (ys := List.range n) (h.leads_srt.imp fun {a b} z => by omega) fun x hx => by
    obtain ⟨s, hs, e⟩ := List.mem_map.mp hx
    rw [← e]; exact List.mem_range.mpr (h.lt hs)
  rwa [List.length_map, List.length_range] at this
theorem same_snoc (hp : 0 < p) (oS : Oks p n S) (oT : Oks p n T) (o : OkR p n r) (s : Same p n S T) : Same p n (r :: S) (T ++ [r]) := by
  have oT' : Oks p n (T ++ [r]) := fun x hx => by
    rcases List.mem_append.mp hx with e | e
    · exact oT x e
    · rw [List.mem_singleton.mp e]; exact o
  refine same_of hp (oks_cons o oS) oT' (fun x hx => ?_) fun x hx => ?_
  · rcases List.mem_cons.mp hx with e | e
    · rw [e]; exact Sp.gen hp o (List.mem_append_right _ List.mem_cons_self)
    · exact ((s x).1 (Sp.gen hp (oS x e) e)).sub fun y hy => List.mem_append_left _ hy
  · rcases List.mem_append.mp hx with e | e
    · exact ((s x).2 (Sp.gen hp (oT x e) e)).sub fun y hy => List.mem_cons_of_mem _ hy
    · rw [List.mem_singleton.mp e]; exact Sp.gen hp o List.mem_cons_self
theorem oks_take (h : Oks p n S) (i : Nat) : Oks p n (S.take i) := fun x hx => h x (List.mem_of_mem_take hx)
theorem remS_take {i : Nat} {s : Row} (h : S[i]? = some s) : remS p (S.take (i + 1)) r = add p (remS p (S.take i) r) (-(g (remS p (S.take i) r) (lead s))) s := by
  unfold remS
  rw [List.take_add_one, h, List.foldl_append]
  rfl
theorem fset_take {i j : Nat} {s v : Row} (h : S[i]? = some s) : fset p j (S.take (i + 1)) v = (fset p j (S.take i) v).set (lead s) (-(g s j) % p) := by
  unfold fset
  rw [List.take_add_one, h, List.foldl_append]
  rfl
/-- what the rows that meet all of R with 0 are -/
theorem facings_of (hp : 1 < p) (h : Rref p n S) (oR : Oks p n R) (s : Same p n S R) : Sp p n (facings p n S) v ↔ OkR p n v ∧ ∀ r ∈ R, dot p r v = 0 := by
  rw [facings_sp hp h]
  constructor
  · rintro ⟨a, b⟩; exact ⟨a, (perp_same (by omega) oR h.ok s.symm a.1).2 b⟩
  · rintro ⟨a, b⟩; exact ⟨a, (perp_same (by omega) oR h.ok s.symm a.1).1 b⟩
/-- staircases of one span are one -/
theorem Rref.uniq (hp : 1 < p) (h : Rref p n S) (h' : Rref p n T) (s : Same p n S T) : S = T := by
  have hp0 : 0 < p := by omega
  have a := lawStairs_is (L := combos p n S) hp h (fun v => mem_combos hp0 h.ok) (combos_nd hp0 h.ind) h.leads_srt fun a => (h.leads hp (fun v => mem_combos hp0 h.ok) a).symm
  have b := lawStairs_is (L := combos p n S) hp h' (fun v => (mem_combos hp0 h.ok).trans (s v)) (combos_nd hp0 h.ind) (leads := S.map lead) h.leads_srt fun a => (h.leads hp (fun v => mem_combos hp0 h.ok) a).symm
  rw [← a, b]
end
end Lin


set_option Elab.async false
set_option linter.all false
set_option maxRecDepth 100000
set_option maxHeartbeats 4000000
/-! What values stand for, what is handed back, comprehensions -/
namespace K01
open PySem PySem.Spec PyProof.Rows L2
abbrev Ex := Evl.Ex
abbrev Row := List Int
section
variable {K : PySem.W.Frag} {H H1 H2 H' : Hp}
/-- all but the lists stands -/
def ExN (H H' : Hp) : Prop := ∀ a o, H a = some o → (∀ xs, o ≠ .lst xs) → H' a = some o
theorem Evl.Ex.n (e : Ex H H') : ExN H H' := fun a o h _ => e a o h
theorem sqt_n {a : Addr} {xs : List V} (e : ExN H H') (h : SqT K H a xs) : SqT K H' a xs := by
  rcases h with (h | ⟨o, h⟩) | h
  · exact .inl (.inl (e _ _ h fun _ z => by cases z))
  · exact .inl (.inr ⟨o, e _ _ h fun _ z => by cases z⟩)
  · exact .inr h
def RowT (K : PySem.W.Frag) (r : Row) (v : V) (H : Hp) : Prop := ∃ a, v = .ref a ∧ SqT K H a (r.map V.int)
def RowsT (K : PySem.W.Frag) (rs : List Row) (v : V) (H : Hp) : Prop := ∃ a vs, v = .ref a ∧ SqT K H a vs ∧ Paired (fun x r => RowT K r x H) vs rs
def RowsL (K : PySem.W.Frag) (rs : List Row) (v : V) (H : Hp) : Prop := ∃ a vs, v = .ref a ∧ SqL K H a vs ∧ Paired (fun x r => RowT K r x H) vs rs
def IntsL (K : PySem.W.Frag) (ns : List Int) (v : V) (H : Hp) : Prop := ∃ a, v = .ref a ∧ SqL K H a (ns.map V.int)
def Stb (R : V → Hp → Prop) : Prop := ∀ v H1 H2, ExN H1 H2 → R v H1 → R v H2
theorem RowT.n {r : Row} {v : V} (e : ExN H H') (h : RowT K r v H) : RowT K r v H' := by
  obtain ⟨a, z, q⟩ := h
  exact ⟨a, z, sqt_n e q⟩
theorem RowT.stb {r : Row} : Stb (RowT K r) := fun _ _ _ e h => h.n e
theorem pr_mono {α β : Type} {F G : α → β → Prop} {xs : List α} {ys : List β} (h : Paired F xs ys) (i : ∀ a b, F a b → G a b) : Paired G xs ys := Paired.mapP h i
theorem RowsT.n {rs : List Row} {v : V} (e : ExN H H') (h : RowsT K rs v H) : RowsT K rs v H' := by
  obtain ⟨a, vs, z, q, p⟩ := h
  exact ⟨a, vs, z, sqt_n e q, pr_mono p fun _ _ x => x.n e⟩
theorem RowsL.ex {rs : List Row} {v : V} (e : Ex H H') (h : RowsL K rs v H) : RowsL K rs v H' := by
  obtain ⟨a, vs, z, q, p⟩ := h
  exact ⟨a, vs, z, Evl.ex_l e q, pr_mono p fun _ _ x => x.n (Evl.Ex.n e)⟩
theorem IntsL.ex {ns : List Int} {v : V} (e : Ex H H') (h : IntsL K ns v H) : IntsL K ns v H' := by
  obtain ⟨a, z, q⟩ := h
  exact ⟨a, z, Evl.ex_l e q⟩
theorem RowT.ex {r : Row} {v : V} (e : Ex H H') (h : RowT K r v H) : RowT K r v H' := h.n (Evl.Ex.n e)
theorem RowsT.ex {rs : List Row} {v : V} (e : Ex H H') (h : RowsT K rs v H) : RowsT K rs v H' := h.n (Evl.Ex.n e)
theorem RowT.new {r : Row} {p : Addr} (h : H p = some (.tup (r.map V.int))) : RowT K r (.ref p) H := ⟨p, rfl, SqT.of h⟩
end
/-- what a def hands back: a value of which R holds, all that was tracked stands -/
def Ret (R : V → Hp → Prop) (H : Hp) (Q : VK) : Prop := ∀ v H', Ex H H' → R v H' → Q v H'
def IsV (x : V) : V → Hp → Prop := fun v _ => v = x
theorem Ret.go {R : V → Hp → Prop} {H H' : Hp} {Q : VK} (q : Ret R H Q) (e : Ex H H') : Ret R H' Q := fun v H2 e2 r => q v H2 (e.trans e2) r
/-! ### lists beside lists -/
section
variable {α β γ : Type} {F : α → β → Prop} {xs : List α} {ys : List β}
theorem pr_len (h : Paired F xs ys) : xs.length = ys.length := Paired.length h
theorem pr_get (h : Paired F xs ys) {i : Nat} {x : α} (e : xs[i]? = some x) : ∃ y, ys[i]? = some y ∧ F x y := by
  induction h generalizing i with
  | nil => simp at e
  | @cons a b l1 l2 r t ih =>
    cases i with
    | zero => exact ⟨b, rfl, by rw [show a = x by simpa using e] at r; exact r⟩
    | succ i => exact ih (by simpa using e)
theorem pr_getR (h : Paired F xs ys) {i : Nat} {y : β} (e : ys[i]? = some y) : ∃ x, xs[i]? = some x ∧ F x y := by
  have hl := pr_len h
  have hi : i < xs.length := by rw [hl]; exact (List.getElem?_eq_some_iff.mp e).1
  obtain ⟨y', e', f⟩ := pr_get h (List.getElem?_eq_getElem hi)
  rw [Option.some.inj (e'.symm.trans e)] at f
  exact ⟨_, List.getElem?_eq_getElem hi, f⟩
theorem pr_snoc {a : α} {b : β} (h : Paired F xs ys) (r : F a b) : Paired F (xs ++ [a]) (ys ++ [b]) := Paired.snoc h r
theorem pr_app {xs' : List α} {ys' : List β} (h : Paired F xs ys) (h' : Paired F xs' ys') : Paired F (xs ++ xs') (ys ++ ys') := by
  induction h with
  | nil => exact h'
  | cons r _ ih => exact .cons r ih
theorem pr_map {f : β → γ} {G : α → γ → Prop} (h : Paired F xs ys) (i : ∀ a b, F a b → G a (f b)) : Paired G xs (ys.map f) := by
  induction h with
  | nil => exact .nil
  | cons r _ ih => exact .cons (i _ _ r) ih
theorem pr_mem (h : Paired F xs ys) {x : α} (hx : x ∈ xs) : ∃ y ∈ ys, F x y := by
  obtain ⟨i, e⟩ := List.getElem?_of_mem hx
  obtain ⟨y, e', f⟩ := pr_get h e
  exact ⟨y, List.mem_of_getElem? e', f⟩
theorem pr_fun {f : β → α} (h : Paired (fun a b => a = f b) xs ys) : xs = ys.map f := by
  induction h with
  | nil => rfl
  | cons r _ ih => rw [r, ih]; rfl
theorem pr_self {G : α → α → Prop} : ∀ {xs : List α}, (∀ x ∈ xs, G x x) → Paired G xs xs
  | [], _ => .nil
  | x :: l, h => .cons (h x List.mem_cons_self) (pr_self fun y hy => h y (List.mem_cons_of_mem _ hy))
theorem pr_memR (h : Paired F xs ys) {y : β} (hy : y ∈ ys) : ∃ x ∈ xs, F x y := by
  obtain ⟨i, e⟩ := List.getElem?_of_mem hy
  obtain ⟨x, e', f⟩ := pr_getR h e
  exact ⟨x, List.mem_of_getElem? e', f⟩
end
/-! ### a comprehension over any walk: the items' data ds, which are kept, what each makes -/
theorem lc_go {J : It} {n : Nat} {G : Hp → Prop} {Y : Nat → Hp → V → Hp → Prop} (w : Walk J n G Y) {g : TG} {tt : TT} {te : TE} {vs : List Nat} {σ : L2.St} {H : Hp} {Qd : Addr → Hp → Prop} (hn : n ≤ 40000) (hG : ∀ H', Ex H H' → G H')
    {α : Type} (ds : List α) (hds : ds.length = n) (f : α → Bool) (R : α → V → Hp → Prop) (stb : ∀ d, Stb (R d))
    (turn : ∀ i d x H1 H2, ds[i]? = some d → Ex H H1 → Y i H1 x H2 → ∀ (C : V → Hp → Prop) (N : Hp → Prop), (f d = true → ∀ y H3, Ex H1 H3 → R d y H3 → C y H3) → (f d = false → ∀ H3, Ex H1 H3 → N H3) →
      g x (wipe σ vs) H2 fun σ2 H2' => wipe σ2 vs = wipe σ vs ∧ tt σ2 H2' fun b H3 => if b = true then te σ2 H3 C else N H3)
    (q : ∀ D ys H', H D = none → Ex H H' → H' D = some (.lst ys) → Paired (fun y d => R d y H') ys (ds.filter f) → Qd D H') :
    ∀ D, H D = none → ∃ W : Nat → Nat → Hp → Prop, (∃ m, W 0 m (upd H D (.lst []))) ∧ ∀ i m H, W i m H →
      (J.stop i H ∧ Qd D H) ∨ (J.go i H ∧ ∃ Nx : Hp → Prop, (∀ H', Nx H' → ∃ m', m' < m ∧ W (i + 1) m' H') ∧ ∀ x H', J.yld i H x H' → g x (wipe σ vs) H' fun σ2 H2 => wipe σ2 vs = wipe σ vs ∧ tt σ2 H2 fun b H3 =>
        if b = true then te σ2 H3 fun y H4 => ∃ acc, H4 D = some (.lst acc) ∧ acc.length < sizeLine ∧ Nx (upd H4 D (.lst (acc ++ [y]))) else Nx H3) := by
  intro D hD
  refine lc_it w (Qd := Qd D) (fun i H' => Ex H H' ∧ ∃ ys, H' D = some (.lst ys) ∧ ys.length ≤ i ∧ Paired (fun y d => R d y H') ys ((ds.take i).filter f)) ⟨_root_.Evl.Ex.new hD, [], upd_same, Nat.le_refl _, by rw [List.take_zero]; exact .nil⟩
    (fun i H' _ p => hG H' p.1) (fun i x H1 H2 hi p y => ?_) fun H' p => ?_
  · obtain ⟨e1, ys, hy, hl, hp⟩ := p
    have hid : i < ds.length := by omega
    have ed : ds[i]? = some ds[i] := List.getElem?_eq_getElem hid
    have et : (ds.take (i + 1)).filter f = (ds.take i).filter f ++ (if f ds[i] = true then [ds[i]] else []) := by
      rw [List.take_add_one, ed, List.filter_append]
      show _ ++ List.filter f [ds[i]] = _
      rw [List.filter_cons]
      split <;> rfl
    refine turn i ds[i] x H1 H2 ed e1 y _ _ (fun hf y H3 e3 r => ?_) (fun hf H3 e3 => ?_)
    · have h3 := e3 D _ hy
      have up : ExN H3 (upd H3 D (.lst (ys ++ [y]))) := fun a o h nl => by
        rw [upd_ne (fun z => by rw [z, h3] at h; exact nl ys (Option.some.inj h).symm)]
        exact h
      refine ⟨ys, h3, _root_.Evl.sz_lt (by omega), _root_.Evl.Ex.mut (e1.trans e3) hD, ys ++ [y], upd_same, by rw [List.length_append, List.length_singleton]; omega, ?_⟩
      rw [et, if_pos hf]
      exact pr_snoc (pr_mono hp fun a b z => stb b _ _ _ up (stb b _ _ _ (Evl.Ex.n e3) z)) (stb _ _ _ _ up r)
    · refine ⟨e1.trans e3, ys, e3 D _ hy, by omega, ?_⟩
      rw [et, if_neg (by rw [hf]; decide), List.append_nil]
      exact pr_mono hp fun a b z => stb b _ _ _ (Evl.Ex.n e3) z
  · obtain ⟨e1, ys, hy, hl, hp⟩ := p
    rw [List.take_of_length_le (by omega)] at hp
    exact q D ys H' hD e1 hy hp
theorem dne {a b : Int} (c : (!decide (V.int a = V.int b)) = true) : a ≠ b := fun z => by
  subst z
  simp at c
theorem deq {a b : Int} (c : ¬ (!decide (V.int a = V.int b)) = true) : a = b := by
  rcases Classical.em (a = b) with z | z
  · exact z
  · exact absurd (by simp [z]) c
theorem yeq {a b : Int} (c : decide (V.int a = V.int b) = true) : a = b := V.int.inj (of_decide_eq_true c)
theorem yne {a b : Int} (c : ¬ decide (V.int a = V.int b) = true) : a ≠ b := fun z => c (decide_eq_true (by rw [z]))
theorem filter_yes {α : Type} (l : List α) : l.filter (fun _ => true) = l := by simp
theorem yes_go {C : V → Hp → Prop} {N : Hp → Prop} {te : TE} {σ : L2.St} {H : Hp} (h : te σ H C) : tYes σ H fun b H3 => if b = true then te σ H3 C else N H3 := by
  show if true = true then te σ H C else N H
  rw [if_pos rfl]
  exact h
/-! ### a def, for its callers -/
structure Got (P : Program) (w : World) (K : PySem.W.Frag) (mg : Str → Option Value) (base : Heap) (CX : CXT) (k : Nat) (x : Str) (ps : List Str) (sp : Sp) : Prop where
  ex : ∃ f fd, mg x = some (.ref f) ∧ PySem.W.keepIn K (.ref f) = true ∧ L2.Binds K fd ps [] ∧ FnOk P w K mg base CX k f fd ps sp
theorem pe_got {X : Cx} {CX : CXT} {k : Nat} {x : Str} {ps : List Str} {sp : Sp} {E : XK} {p pos : Pos} {e : Expr} {es : List Expr} {t : TA} (F : Got X.prog X.w X.K X.mg X.base CX k x ps sp) (hr : Room k X.A) (hx : Passes CX X E) (ha : PA X (e :: es) t)
    (hg : Gl X x := by rfl) (hdb : (x == ("__debug__" : Str)) = false := by decide) (he : starEach (e :: es) X.env = (false, eval e X.env) :: starEach es X.env := by rfl) (hpl : (backTo pos (starEach es X.env)).any (·.1) = false := by rfl) :
    PE X (.Call (.Name x p) (e :: es) [] pos) (tCall sp [] E t) := by
  obtain ⟨f, fd, h1, h2, h3, h4⟩ := F.ex
  exact pe_call h4 hr hg h1 h2 h3 .nil hx ha hdb he hpl
theorem pe_gotS {X : Cx} {CX : CXT} {k : Nat} {x : Str} {ps : List Str} {sp : Sp} {E : L2.St → XK} {p pos : Pos} {e : Expr} {es : List Expr} {t : TA} (F : Got X.prog X.w X.K X.mg X.base CX k x ps sp) (hr : Room k X.A) (hx : ∀ σ, PassesAt CX X σ (E σ)) (ha : PA X (e :: es) t)
    (hg : Gl X x := by rfl) (hdb : (x == ("__debug__" : Str)) = false := by decide) (he : starEach (e :: es) X.env = (false, eval e X.env) :: starEach es X.env := by rfl) (hpl : (backTo pos (starEach es X.env)).any (·.1) = false := by rfl) :
    PE X (.Call (.Name x p) (e :: es) [] pos) (tCallS sp E t) := by
  obtain ⟨f, fd, h1, h2, h3, h4⟩ := F.ex
  exact pe_callS h4 hr hg h1 h2 h3 hx ha hdb he hpl
theorem Got.mono {P : Program} {w : World} {K : PySem.W.Frag} {mg : Str → Option Value} {base : Heap} {CX : CXT} {j k : Nat} {x : Str} {ps : List Str} {sp : Sp} (F : Got P w K mg base CX j x ps sp) (h : j ≤ k) : Got P w K mg base CX k x ps sp := by
  obtain ⟨f, fd, h1, h2, h3, h4⟩ := F.ex
  exact ⟨f, fd, h1, h2, h3, h4.mono h⟩
/-- the built-in names that the program leaves as they are -/
structure Bare (mg : Str → Option Value) : Prop where
  len : mg "len" = none
  zip : mg "zip" = none
  tuple : mg "tuple" = none
  list : mg "list" = none
  sorted : mg "sorted" = none
  enumerate : mg "enumerate" = none
  range : mg "range" = none
  isinstance : mg "isinstance" = none
  int : mg "int" = none
  bool : mg "bool" = none
  str : mg "str" = none
  all : mg "all" = none
  sum : mg "sum" = none
  max : mg "max" = none
  set : mg "set" = none
end K01


set_option Elab.async false
set_option linter.all false
set_option maxRecDepth 100000
set_option maxHeartbeats 4000000
/-! The defs of the text: where each stands, its names by slot -/
namespace K01
open PySem PySem.Spec PyProof.Rows L2
abbrev s_is_number : Stmt := topS 6
abbrev n_is_number : List Str := ["value", "least", "most"]
abbrev p_is_number : List Str := ["value", "least", "most"]
theorem sc_is_number : FnScope n_is_number p_is_number (defScope s_is_number) := ⟨rfl, rfl, rfl, by decide +kernel, rfl, by decide +kernel, by decide +kernel⟩
abbrev s_is_prime : Stmt := topS 7
abbrev n_is_prime : List Str := ["value"]
abbrev p_is_prime : List Str := ["value"]
theorem sc_is_prime : FnScope n_is_prime p_is_prime (defScope s_is_prime) := ⟨rfl, rfl, rfl, by decide +kernel, rfl, by decide +kernel, by decide +kernel⟩
abbrev s_is_row : Stmt := topS 8
abbrev n_is_row : List Str := ["prime", "value", "width", "number"]
abbrev p_is_row : List Str := ["prime", "value", "width"]
theorem sc_is_row : FnScope n_is_row p_is_row (defScope s_is_row) := ⟨rfl, rfl, rfl, by decide +kernel, rfl, by decide +kernel, by decide +kernel⟩
abbrev s_is_rows : Stmt := topS 9
abbrev n_is_rows : List Str := ["prime", "value", "most", "width", "row"]
abbrev p_is_rows : List Str := ["prime", "value", "most", "width"]
theorem sc_is_rows : FnScope n_is_rows p_is_rows (defScope s_is_rows) := ⟨rfl, rfl, rfl, by decide +kernel, rfl, by decide +kernel, by decide +kernel⟩
abbrev s_meet : Stmt := topS 11
abbrev n_meet : List Str := ["prime", "one", "other", "a", "b"]
abbrev p_meet : List Str := ["prime", "one", "other"]
theorem sc_meet : FnScope n_meet p_meet (defScope s_meet) := ⟨rfl, rfl, rfl, by decide +kernel, rfl, by decide +kernel, by decide +kernel⟩
abbrev s_inverse : Stmt := topS 12
abbrev n_inverse : List Str := ["prime", "number", "found"]
abbrev p_inverse : List Str := ["prime", "number"]
theorem sc_inverse : FnScope n_inverse p_inverse (defScope s_inverse) := ⟨rfl, rfl, rfl, by decide +kernel, rfl, by decide +kernel, by decide +kernel⟩
abbrev s_times : Stmt := topS 13
abbrev n_times : List Str := ["prime", "factor", "row", "number"]
abbrev p_times : List Str := ["prime", "factor", "row"]
theorem sc_times : FnScope n_times p_times (defScope s_times) := ⟨rfl, rfl, rfl, by decide +kernel, rfl, by decide +kernel, by decide +kernel⟩
abbrev s_less : Stmt := topS 14
abbrev n_less : List Str := ["prime", "row", "factor", "other", "a", "b"]
abbrev p_less : List Str := ["prime", "row", "factor", "other"]
theorem sc_less : FnScope n_less p_less (defScope s_less) := ⟨rfl, rfl, rfl, by decide +kernel, rfl, by decide +kernel, by decide +kernel⟩
abbrev s_first_place : Stmt := topS 15
abbrev n_first_place : List Str := ["row", "place", "number"]
abbrev p_first_place : List Str := ["row"]
theorem sc_first_place : FnScope n_first_place p_first_place (defScope s_first_place) := ⟨rfl, rfl, rfl, by decide +kernel, rfl, by decide +kernel, by decide +kernel⟩
abbrev s_remainder : Stmt := topS 16
abbrev n_remainder : List Str := ["prime", "steps", "row", "step"]
abbrev p_remainder : List Str := ["prime", "steps", "row"]
theorem sc_remainder : FnScope n_remainder p_remainder (defScope s_remainder) := ⟨rfl, rfl, rfl, by decide +kernel, rfl, by decide +kernel, by decide +kernel⟩
abbrev s_with_row : Stmt := topS 17
abbrev n_with_row : List Str := ["prime", "steps", "row", "rest", "place", "step", "cleared", "old"]
abbrev p_with_row : List Str := ["prime", "steps", "row"]
theorem sc_with_row : FnScope n_with_row p_with_row (defScope s_with_row) := ⟨rfl, rfl, rfl, by decide +kernel, rfl, by decide +kernel, by decide +kernel⟩
abbrev s_staircase : Stmt := topS 18
abbrev n_staircase : List Str := ["prime", "rows", "steps", "row"]
abbrev p_staircase : List Str := ["prime", "rows"]
theorem sc_staircase : FnScope n_staircase p_staircase (defScope s_staircase) := ⟨rfl, rfl, rfl, by decide +kernel, rfl, by decide +kernel, by decide +kernel⟩
abbrev s_is_stir : Stmt := topS 22
abbrev n_is_stir : List Str := ["prime", "value"]
abbrev p_is_stir : List Str := ["prime", "value"]
theorem sc_is_stir : FnScope n_is_stir p_is_stir (defScope s_is_stir) := ⟨rfl, rfl, rfl, by decide +kernel, rfl, by decide +kernel, by decide +kernel⟩
abbrev s_wrong_part : Stmt := topS 23
abbrev n_wrong_part : List Str := ["machine", "prime", "stir", "writes", "sights"]
abbrev p_wrong_part : List Str := ["machine"]
theorem sc_wrong_part : FnScope n_wrong_part p_wrong_part (defScope s_wrong_part) := ⟨rfl, rfl, rfl, by decide +kernel, rfl, by decide +kernel, by decide +kernel⟩
abbrev s_check_machine : Stmt := topS 24
abbrev n_check_machine : List Str := ["machine", "part"]
abbrev p_check_machine : List Str := ["machine"]
theorem sc_check_machine : FnScope n_check_machine p_check_machine (defScope s_check_machine) := ⟨rfl, rfl, rfl, by decide +kernel, rfl, by decide +kernel, by decide +kernel⟩
abbrev s_check_memory : Stmt := topS 25
abbrev n_check_memory : List Str := ["machine", "memory"]
abbrev p_check_memory : List Str := ["machine", "memory"]
theorem sc_check_memory : FnScope n_check_memory p_check_memory (defScope s_check_memory) := ⟨rfl, rfl, rfl, by decide +kernel, rfl, by decide +kernel, by decide +kernel⟩
abbrev s_stirred : Stmt := topS 26
abbrev n_stirred : List Str := ["prime", "stir", "memory", "row"]
abbrev p_stirred : List Str := ["prime", "stir", "memory"]
theorem sc_stirred : FnScope n_stirred p_stirred (defScope s_stirred) := ⟨rfl, rfl, rfl, by decide +kernel, rfl, by decide +kernel, by decide +kernel⟩
abbrev s_closure : Stmt := topS 28
abbrev n_closure : List Str := ["prime", "table", "rows", "steps", "_", "step"]
abbrev p_closure : List Str := ["prime", "table", "rows"]
theorem sc_closure : FnScope n_closure p_closure (defScope s_closure) := ⟨rfl, rfl, rfl, by decide +kernel, rfl, by decide +kernel, by decide +kernel⟩
abbrev s_looks : Stmt := topS 29
abbrev n_looks : List Str := ["machine", "prime", "stir", "_", "sights"]
abbrev p_looks : List Str := ["machine"]
theorem sc_looks : FnScope n_looks p_looks (defScope s_looks) := ⟨rfl, rfl, rfl, by decide +kernel, rfl, by decide +kernel, by decide +kernel⟩
abbrev s_told_by : Stmt := topS 31
abbrev n_told_by : List Str := ["prime", "rows", "other", "row"]
abbrev p_told_by : List Str := ["prime", "rows", "other"]
theorem sc_told_by : FnScope n_told_by p_told_by (defScope s_told_by) := ⟨rfl, rfl, rfl, by decide +kernel, rfl, by decide +kernel, by decide +kernel⟩
abbrev s_check_memories : Stmt := topS 35
abbrev n_check_memories : List Str := ["machine", "memories", "memory", "one", "other"]
abbrev p_check_memories : List Str := ["machine", "memories"]
theorem sc_check_memories : FnScope n_check_memories p_check_memories (defScope s_check_memories) := ⟨rfl, rfl, rfl, by decide +kernel, rfl, by decide +kernel, by decide +kernel⟩
abbrev s_first_seen_apart : Stmt := topS 36
abbrev n_first_seen_apart : List Str := ["machine", "one", "other", "prime", "stir", "_", "sights", "ticks", "sight", "row", "told", "other_told"]
abbrev p_first_seen_apart : List Str := ["machine", "one", "other"]
theorem sc_first_seen_apart : FnScope n_first_seen_apart p_first_seen_apart (defScope s_first_seen_apart) := ⟨rfl, rfl, rfl, by decide +kernel, rfl, by decide +kernel, by decide +kernel⟩
abbrev s_are_apart : Stmt := topS 37
abbrev n_are_apart : List Str := ["machine", "one", "other"]
abbrev p_are_apart : List Str := ["machine", "one", "other"]
theorem sc_are_apart : FnScope n_are_apart p_are_apart (defScope s_are_apart) := ⟨rfl, rfl, rfl, by decide +kernel, rfl, by decide +kernel, by decide +kernel⟩
abbrev s_first_look : Stmt := topS 38
abbrev n_first_look : List Str := ["machine", "one", "other"]
abbrev p_first_look : List Str := ["machine", "one", "other"]
theorem sc_first_look : FnScope n_first_look p_first_look (defScope s_first_look) := ⟨rfl, rfl, rfl, by decide +kernel, rfl, by decide +kernel, by decide +kernel⟩
abbrev s_parted : Stmt := topS 39
abbrev n_parted : List Str := ["groups", "told", "firsts", "place", "pair"]
abbrev p_parted : List Str := ["groups", "told"]
theorem sc_parted : FnScope n_parted p_parted (defScope s_parted) := ⟨rfl, rfl, rfl, by decide +kernel, rfl, by decide +kernel, by decide +kernel⟩
abbrev s_looks_apart : Stmt := topS 40
abbrev n_looks_apart : List Str := ["machine", "memories", "prime", "groups", "look"]
abbrev p_looks_apart : List Str := ["machine", "memories"]
theorem sc_looks_apart : FnScope n_looks_apart p_looks_apart (defScope s_looks_apart) := ⟨rfl, rfl, rfl, by decide +kernel, rfl, by decide +kernel, by decide +kernel⟩
abbrev s_further_looks : Stmt := topS 41
abbrev n_further_looks : List Str := ["machine", "memories", "ways", "told", "sight", "found", "groups", "way"]
abbrev p_further_looks : List Str := ["machine", "memories", "ways"]
theorem sc_further_looks : FnScope n_further_looks p_further_looks (defScope s_further_looks) := ⟨rfl, rfl, rfl, by decide +kernel, rfl, by decide +kernel, by decide +kernel⟩
abbrev s_fewest_looks : Stmt := topS 42
abbrev n_fewest_looks : List Str := ["machine", "memories", "wanted", "ways", "_", "memory"]
abbrev p_fewest_looks : List Str := ["machine", "memories"]
theorem sc_fewest_looks : FnScope n_fewest_looks p_fewest_looks (defScope s_fewest_looks) := ⟨rfl, rfl, rfl, by decide +kernel, rfl, by decide +kernel, by decide +kernel⟩
abbrev s_law_taken : Stmt := topS 44
abbrev n_law_taken : List Str := ["row", "many", "found", "cell"]
abbrev p_law_taken : List Str := ["row", "many"]
theorem sc_law_taken : FnScope n_law_taken p_law_taken (defScope s_law_taken) := ⟨rfl, rfl, rfl, by decide +kernel, rfl, by decide +kernel, by decide +kernel⟩
abbrev s_law_pick : Stmt := topS 45
abbrev n_law_pick : List Str := ["row", "things"]
abbrev p_law_pick : List Str := ["row", "things"]
theorem sc_law_pick : FnScope n_law_pick p_law_pick (defScope s_law_pick) := ⟨rfl, rfl, rfl, by decide +kernel, rfl, by decide +kernel, by decide +kernel⟩
abbrev s_law_alike : Stmt := topS 46
abbrev n_law_alike : List Str := ["found", "due", "k"]
abbrev p_law_alike : List Str := ["found", "due"]
theorem sc_law_alike : FnScope n_law_alike p_law_alike (defScope s_law_alike) := ⟨rfl, rfl, rfl, by decide +kernel, rfl, by decide +kernel, by decide +kernel⟩
abbrev s_law_is : Stmt := topS 47
abbrev n_law_is : List Str := ["found", "due"]
abbrev p_law_is : List Str := ["found", "due"]
theorem sc_law_is : FnScope n_law_is p_law_is (defScope s_law_is) := ⟨rfl, rfl, rfl, by decide +kernel, rfl, by decide +kernel, by decide +kernel⟩
abbrev s_law_row : Stmt := topS 48
abbrev n_law_row : List Str := ["row", "prime", "many", "place"]
abbrev p_law_row : List Str := ["row", "prime", "many"]
theorem sc_law_row : FnScope n_law_row p_law_row (defScope s_law_row) := ⟨rfl, rfl, rfl, by decide +kernel, rfl, by decide +kernel, by decide +kernel⟩
abbrev s_law_stir : Stmt := topS 49
abbrev n_law_stir : List Str := ["row", "prime", "many", "found", "one", "other", "turn", "factor", "left", "right", "line"]
abbrev p_law_stir : List Str := ["row", "prime", "many"]
theorem sc_law_stir : FnScope n_law_stir p_law_stir (defScope s_law_stir) := ⟨rfl, rfl, rfl, by decide +kernel, rfl, by decide +kernel, by decide +kernel⟩
abbrev s_law_machine : Stmt := topS 50
abbrev n_law_machine : List Str := ["row", "primes", "cells", "plugs", "prime", "many", "writes", "turn", "sights"]
abbrev p_law_machine : List Str := ["row", "primes", "cells", "plugs"]
theorem sc_law_machine : FnScope n_law_machine p_law_machine (defScope s_law_machine) := ⟨rfl, rfl, rfl, by decide +kernel, rfl, by decide +kernel, by decide +kernel⟩
abbrev s_law_met : Stmt := topS 51
abbrev n_law_met : List Str := ["prime", "one", "other", "left", "right"]
abbrev p_law_met : List Str := ["prime", "one", "other"]
theorem sc_law_met : FnScope n_law_met p_law_met (defScope s_law_met) := ⟨rfl, rfl, rfl, by decide +kernel, rfl, by decide +kernel, by decide +kernel⟩
abbrev s_law_stirred : Stmt := topS 52
abbrev n_law_stirred : List Str := ["machine", "memory", "line"]
abbrev p_law_stirred : List Str := ["machine", "memory"]
theorem sc_law_stirred : FnScope n_law_stirred p_law_stirred (defScope s_law_stirred) := ⟨rfl, rfl, rfl, by decide +kernel, rfl, by decide +kernel, by decide +kernel⟩
abbrev s_law_seen : Stmt := topS 53
abbrev n_law_seen : List Str := ["machine", "memory", "looks_v", "found", "sight"]
abbrev p_law_seen : List Str := ["machine", "memory", "looks_v"]
theorem sc_law_seen : FnScope n_law_seen p_law_seen (defScope s_law_seen) := ⟨rfl, rfl, rfl, by decide +kernel, rfl, by decide +kernel, by decide +kernel⟩
abbrev s_law_first : Stmt := topS 54
abbrev n_law_first : List Str := ["machine", "one", "other", "tick", "sight", "line"]
abbrev p_law_first : List Str := ["machine", "one", "other"]
theorem sc_law_first : FnScope n_law_first p_law_first (defScope s_law_first) := ⟨rfl, rfl, rfl, by decide +kernel, rfl, by decide +kernel, by decide +kernel⟩
abbrev s_law_looks : Stmt := topS 55
abbrev n_law_looks : List Str := ["machine", "memories", "kinds", "memory", "one", "seen", "tick", "line", "rows", "turn", "looks_v", "told", "longer", "sight"]
abbrev p_law_looks : List Str := ["machine", "memories"]
theorem sc_law_looks : FnScope n_law_looks p_law_looks (defScope s_law_looks) := ⟨rfl, rfl, rfl, by decide +kernel, rfl, by decide +kernel, by decide +kernel⟩
abbrev s_law : Stmt := topS 56
abbrev n_law : List Str := ["script", "row", "machine", "prime", "many", "one", "other", "due", "memories", "turn", "words", "wrong", "work", "e"]
abbrev p_law : List Str := ["script"]
theorem sc_law : FnScope n_law p_law (defScope s_law) := ⟨rfl, rfl, rfl, by decide +kernel, rfl, by decide +kernel, by decide +kernel⟩
abbrev s_BadMachine_init : Stmt := inClass (topS 2) 0
abbrev n_BadMachine_init : List Str := ["self", "part"]
abbrev p_BadMachine_init : List Str := ["self", "part"]
theorem sc_BadMachine_init : FnScope n_BadMachine_init p_BadMachine_init (defScope s_BadMachine_init) := ⟨rfl, rfl, rfl, by decide +kernel, rfl, by decide +kernel, by decide +kernel⟩
end K01


set_option Elab.async false
set_option linter.all false
set_option maxRecDepth 100000
set_option maxHeartbeats 4000000
namespace K01
open PySem PySem.Spec PyProof.Rows L2
theorem walk_zipT {K : PySem.W.Frag} {a b : Addr} {xs ys : List V} {n : Nat} (h1 : xs.length = n) (h2 : ys.length = n) : Walk (RZ.ItzT K a b) n (fun H => SqT K H a xs ∧ SqT K H b ys) (YPair (fun i => xs[i]?) (fun i => ys[i]?)) := by
  refine ⟨fun i _ hi q => ?_, fun _ q => ⟨xs, ys, q.1, q.2, .inl (by omega)⟩, fun i H v H' _ q y => ?_⟩
  · have z1 : i < xs.length := by omega
    have z2 : i < ys.length := by omega
    exact ⟨xs, ys, xs[i], ys[i], q.1, q.2, List.getElem?_eq_getElem z1, List.getElem?_eq_getElem z2⟩
  · obtain ⟨T, x, z, e1, e2, e3, e4, e5⟩ := y
    exact ⟨T, x, z, e1, e2, e3, e4 xs q.1, e5 ys q.2⟩
theorem zip_map {α β γ : Type} (f : α → β → γ) : ∀ (xs : List α) (ys : List β), List.zipWith f xs ys = (xs.zip ys).map fun z => f z.1 z.2
  | [], _ => rfl
  | _ :: _, [] => rfl
  | x :: xs, y :: ys => by
    rw [List.zipWith_cons_cons, List.zip_cons_cons, List.map_cons, zip_map f xs ys]
theorem map_get {xs : Row} {i : Nat} {y : V} (h : (xs.map V.int)[i]? = some y) : ∃ n, xs[i]? = some n ∧ y = .int n := by
  rw [List.getElem?_map] at h
  cases e : xs[i]? with
  | none => rw [e] at h; cases h
  | some n => rw [e] at h; exact ⟨n, rfl, (Option.some.inj h).symm⟩
theorem zip_at {α β : Type} {xs : List α} {ys : List β} {i : Nat} {x : α} {y : β} (h1 : xs[i]? = some x) (h2 : ys[i]? = some y) : (xs.zip ys)[i]? = some (x, y) := by
  rw [List.getElem?_zip_eq_some]
  exact ⟨h1, h2⟩
section
variable {P : Program} {w : World} {K : PySem.W.Frag} {mg : Str → Option Value} {base : Heap}
def spTimes (K : PySem.W.Frag) : Sp := fun vs H Q _ => ∃ (p f : Int) (v : V) (r : Row), vs = [.int p, .int f, v] ∧ RowT K r v H ∧ 0 < p ∧ (-1000 < f ∧ f < 1000) ∧ r.length ≤ 1000 ∧ Ret (RowT K (Lin.times p f r)) H Q
theorem ok_times {f : Addr} {fd : FuncData} (B : Bare mg) (F : Fun K "times" "times" s_times f fd) : FnOk P w K mg base CX0 1 f fd p_times (spTimes K) := by
  refine F.ok sc_times (fun vs H Q E h => ?_) (fun cdv A outer s H vs Q E hr h => ?_)
  · obtain ⟨p, f, v, r, rfl, _⟩ := h
    rfl
  · obtain ⟨p, f, v, r, rfl, ⟨a, rfl, hq⟩, hp, hf, hl, q⟩ := h
    refine ⟨_, pss_one (ps_ret (pe_callTy call_tuple_of (by rfl) B.tuple (by decide +kernel) (pa_cons (pe_lc (own := [("number", 3)]) (g := gName 3) (tt := tYes) rfl sc_times.nd (pi_tup (pv 2)) (blkOk_by (N := n_times) (sc := defScope s_times) (by decide +kernel))
      (fun _ _ _ _ _ => pg_name (i := 3) sc_times.nd rfl (Or.inl rfl)) (fun _ _ _ _ _ => pts_nil) (fun _ _ _ _ _ => pe_op op_modN (pe_op op_mul (pv 1) (pv 3)) (pv 0))) pa_nil))), ?_⟩
    refine ⟨_, rfl, a, rfl, ⟨_, hq⟩, lc_go walk_tup (by rw [List.length_map]; omega) (fun H' e => _root_.Evl.ex_t e hq) r (by rw [List.length_map]) (fun _ => true) (fun n => IsV (.int (f * n % p))) (fun _ _ _ _ _ h => h)
      (fun i n x H1 H2 hn e y C N hC hN => ?_) fun D ys H' nD e hD hy => ?_⟩
    · obtain ⟨rfl, hx⟩ := y
      rw [List.getElem?_map, hn] at hx
      obtain rfl := Option.some.inj hx
      refine ⟨rfl, yes_go ⟨_, rfl, _, rfl, _, _, rfl, rfl, .inl ⟨by omega, by omega⟩, _, rfl, _, _, rfl, rfl, by omega, hC rfl _ _ (_root_.Evl.Ex.refl _) ?_⟩⟩
      show V.int _ = V.int _
      rw [Int.fmod_eq_emod_of_nonneg _ (by omega)]
    · rw [filter_yes] at hy
      have ey : ys = (Lin.times p f r).map V.int := by
        rw [pr_fun hy]
        unfold Lin.times
        rw [List.map_map]
        rfl
      subst ey
      refine ⟨D, _, rfl, .inl ⟨SqL.of hD, fun l hl => q _ _ (e.trans (_root_.Evl.Ex.new hl)) (RowT.new upd_same)⟩⟩
/-- a row as a def gets it -/
def RowN (K : PySem.W.Frag) (n : Nat) (r : Row) (v : V) (H : Hp) : Prop := RowT K r v H ∧ r.length = n
def spLess (K : PySem.W.Frag) : Sp := fun vs H Q _ => ∃ (p f : Int) (v u : V) (r o : Row), vs = [.int p, v, .int f, u] ∧ RowT K r v H ∧ RowT K o u H ∧ r.length = o.length ∧ 0 < p ∧ (-1000 < f ∧ f < 1000) ∧ r.length ≤ 1000 ∧ Ret (RowT K (Lin.add p r (-f) o)) H Q
theorem ok_less {f : Addr} {fd : FuncData} (B : Bare mg) (F : Fun K "less" "less" s_less f fd) : FnOk P w K mg base CX0 1 f fd p_less (spLess K) := by
  refine F.ok sc_less (fun vs H Q E h => ?_) (fun cdv A outer s H vs Q E hr h => ?_)
  · obtain ⟨p, f, v, u, r, o, rfl, _⟩ := h
    rfl
  · obtain ⟨p, f, v, u, r, o, rfl, ⟨a, rfl, hq⟩, ⟨b, rfl, hq2⟩, hl, hp, hf, hz, q⟩ := h
    refine ⟨_, pss_one (ps_ret (pe_callTy call_tuple_of (by rfl) B.tuple (by decide +kernel) (pa_cons (pe_lc (own := [("a", 4), ("b", 5)]) (g := gTup K 2 (gCons (gName 4) (gCons (gName 5) gNil))) (tt := tYes) rfl sc_less.nd (RZ.pi_zipA (by rfl) B.zip (pa_cons (pv 1) (pa_cons (pv 3) pa_nil))) (blkOk_by (N := n_less) (sc := defScope s_less) (by decide +kernel))
      (fun _ _ _ _ _ => pg_tup rfl (pgs_cons (pg_name (i := 4) sc_less.nd rfl (Or.inl rfl)) (pgs_cons (pg_name (i := 5) sc_less.nd rfl (Or.inl rfl)) pgs_nil))) (fun _ _ _ _ _ => pts_nil) (fun _ _ _ _ _ => pe_op op_modN (pe_op op_sub (pv 4) (pe_op op_mul (pv 2) (pv 5))) (pv 0))) pa_nil))), ?_⟩
    refine ⟨_, rfl, _, rfl, a, b, _, _, rfl, .inr ⟨hq, hq2, ?_⟩⟩
    refine lc_go (walk_zipT (xs := r.map V.int) (ys := o.map V.int) (n := r.length) (by rw [List.length_map]) (by rw [List.length_map]; omega)) (by omega) (fun H' e => ⟨_root_.Evl.ex_t e hq, _root_.Evl.ex_t e hq2⟩) (r.zip o) (by rw [List.length_zip]; omega) (fun _ => true)
      (fun z => IsV (.int ((z.1 + -f * z.2) % p))) (fun _ _ _ _ _ h => h) (fun i z x H1 H2 hn e y C N hC hN => ?_) fun D ys H' nD e hD hy => ?_
    · obtain ⟨T, x1, x2, rfl, nT, rfl, f1, f2⟩ := y
      obtain ⟨n1, g1, rfl⟩ := map_get f1
      obtain ⟨n2, g2, rfl⟩ := map_get f2
      have ez : z = (n1, n2) := by
        rw [zip_at g1 g2] at hn
        exact (Option.some.inj hn).symm
      subst ez
      refine ⟨T, _, rfl, SqT.of upd_same, rfl, _, _, rfl, _, _, rfl, rfl, rfl, yes_go ⟨_, rfl, _, rfl, _, rfl, _, _, rfl, rfl, .inl ⟨by omega, by omega⟩, _, _, rfl, rfl, _, rfl, _, _, rfl, rfl, by omega, hC rfl _ _ (_root_.Evl.Ex.new nT) ?_⟩⟩
      show V.int _ = V.int _
      rw [Int.fmod_eq_emod_of_nonneg _ (by omega), Int.sub_eq_add_neg, ← Int.neg_mul]
    · rw [filter_yes] at hy
      have ey : ys = (Lin.add p r (-f) o).map V.int := by
        rw [pr_fun hy]
        unfold Lin.add
        rw [zip_map, List.map_map]
        rfl
      subst ey
      exact ⟨D, _, rfl, .inl ⟨SqL.of hD, fun l hl => q _ _ (e.trans (_root_.Evl.Ex.new hl)) (RowT.new upd_same)⟩⟩
def spAdded (K : PySem.W.Frag) : Sp := fun vs H Q _ => ∃ (p f : Int) (v u : V) (r o : Row), vs = [.int p, v, u, .int f] ∧ RowT K r v H ∧ RowT K o u H ∧ r.length = o.length ∧ 0 < p ∧ (-1000 < f ∧ f < 1000) ∧ r.length ≤ 1000 ∧ Ret (RowT K (Lin.add p r f o)) H Q
def spMet (K : PySem.W.Frag) : Sp := fun vs H Q _ => ∃ (p : Int) (v u : V) (r o : Row), vs = [.int p, v, u] ∧ RowT K r v H ∧ RowT K o u H ∧ r.length = o.length ∧ 0 < p ∧ (∀ x ∈ r, -1000 < x ∧ x < 1000) ∧ r.length ≤ 1000 ∧ Ret (IsV (.int (Lin.dot p r o))) H Q
theorem ok_met {f : Addr} {fd : FuncData} (B : Bare mg) (F : Fun K "_law_met" "_law_met" s_law_met f fd) : FnOk P w K mg base CX0 1 f fd p_law_met (spMet K) := by
  refine F.ok sc_law_met (fun vs H Q E h => ?_) (fun cdv A outer s H vs Q E hr h => ?_)
  · obtain ⟨p, v, u, r, o, rfl, _⟩ := h
    rfl
  · obtain ⟨p, v, u, r, o, rfl, ⟨a, rfl, hq⟩, ⟨b, rfl, hq2⟩, hl, hp, hf, hz, q⟩ := h
    refine ⟨_, pss_one (ps_ret (pe_op op_modN (pe_callB (cr_sum rfl) (by rfl) B.sum (by decide +kernel) (pa_cons (pe_lc (own := [("left", 3), ("right", 4)]) (g := gTup K 2 (gCons (gName 3) (gCons (gName 4) gNil))) (tt := tYes) rfl sc_law_met.nd (RZ.pi_zipA (by rfl) B.zip (pa_cons (pv 1) (pa_cons (pv 2) pa_nil))) (blkOk_by (N := n_law_met) (sc := defScope s_law_met) (by decide +kernel))
      (fun _ _ _ _ _ => pg_tup rfl (pgs_cons (pg_name (i := 3) sc_law_met.nd rfl (Or.inl rfl)) (pgs_cons (pg_name (i := 4) sc_law_met.nd rfl (Or.inl rfl)) pgs_nil))) (fun _ _ _ _ _ => pts_nil) (fun _ _ _ _ _ => pe_op op_mul (pv 3) (pv 4))) pa_nil)) (pv 0))), ?_⟩
    refine ⟨_, rfl, _, rfl, a, b, _, _, rfl, .inr ⟨hq, hq2, ?_⟩⟩
    refine lc_go (walk_zipT (xs := r.map V.int) (ys := o.map V.int) (n := r.length) (by rw [List.length_map]) (by rw [List.length_map]; omega)) (by omega) (fun H' e => ⟨_root_.Evl.ex_t e hq, _root_.Evl.ex_t e hq2⟩) (r.zip o) (by rw [List.length_zip]; omega) (fun _ => true)
      (fun z => IsV (.int (z.1 * z.2))) (fun _ _ _ _ _ h => h) (fun i z x H1 H2 hn e y C N hC hN => ?_) fun D ys H' nD e hD hy => ?_
    · obtain ⟨T, x1, x2, rfl, nT, rfl, f1, f2⟩ := y
      obtain ⟨n1, g1, rfl⟩ := map_get f1
      obtain ⟨n2, g2, rfl⟩ := map_get f2
      have ez : z = (n1, n2) := by
        rw [zip_at g1 g2] at hn
        exact (Option.some.inj hn).symm
      subst ez
      have hb := hf n1 (List.mem_of_getElem? g1)
      exact ⟨T, _, rfl, SqT.of upd_same, rfl, _, _, rfl, _, _, rfl, rfl, rfl, yes_go ⟨_, rfl, _, rfl, _, _, rfl, rfl, .inl ⟨by omega, by omega⟩, hC rfl _ _ (_root_.Evl.Ex.new nT) rfl⟩⟩
    · rw [filter_yes] at hy
      have ey : ys = (List.zipWith (· * ·) r o).map V.int := by
        rw [pr_fun hy, zip_map, List.map_map]
        rfl
      subst ey
      refine ⟨D, _, rfl, SqL.of hD, _, rfl, _, _, rfl, rfl, by omega, ?_⟩
      refine q _ _ e ?_
      show V.int _ = V.int _
      rw [Int.fmod_eq_emod_of_nonneg _ (by omega)]
      rfl
def spFirst (K : PySem.W.Frag) : Sp := fun vs H Q _ => ∃ (v : V) (r : Row), vs = [v] ∧ RowT K r v H ∧ Ret (IsV (.int (Lin.lead r : Nat))) H Q
theorem ok_first {f : Addr} {fd : FuncData} (B : Bare mg) (F : Fun K "first_place" "first_place" s_first_place f fd) : FnOk P w K mg base CX0 1 f fd p_first_place (spFirst K) := by
  refine F.ok sc_first_place (fun vs H Q E h => ?_) (fun cdv A outer s H vs Q E hr h => ?_)
  · obtain ⟨v, r, rfl, _⟩ := h
    rfl
  · obtain ⟨v, r, rfl, ⟨a, rfl, hq⟩, q⟩ := h
    refine ⟨_, pss_cons (ps_for PassesOwn.never rfl (pi_enumT (by rfl) B.enumerate (pa_cons (pv 0) pa_nil)) (pg_tup rfl (pgs_cons (pg_name (i := 1) sc_first_place.nd rfl (Or.inl rfl)) (pgs_cons (pg_name (i := 2) sc_first_place.nd rfl (Or.inl rfl)) pgs_nil)))
        (pss_one (ps_if (pt_cmpR op_ne (pv 2) pe_int (nomark _)) (pss_one (ps_ret (pv 1))) pss_nil)))
      (pss_one (ps_ret (pe_callB call_len_seq (by rfl) B.len PySem.boot_len (pa_cons (pv 0) pa_nil)))), ?_⟩
    refine ⟨_, rfl, a, _, rfl, hq, ?_⟩
    refine for_it walk_enumT (fun i σ' H' => (∃ y1 y2, σ' = [some (.ref a), y1, y2]) ∧ Ex H H' ∧ ∀ j, j < i → Lin.g r j = 0) ⟨⟨none, none, rfl⟩, _root_.Evl.Ex.refl H, fun j hj => by omega⟩ (fun i σ' H' _ p => _root_.Evl.ex_t p.2.1 hq) (fun i x σ' H1 H2 hi p y => ?_) fun σ' H' p => ?_
    · obtain ⟨⟨y1, y2, rfl⟩, e, h0⟩ := p
      obtain ⟨T, x1, x2, rfl, nT, rfl, f1, f2⟩ := y
      obtain rfl := Option.some.inj f1
      obtain ⟨n2, g2, rfl⟩ := map_get f2
      have gi : Lin.g r i = n2 := by
        have := Lin.g_get? (v := r) (i := i) (by rw [List.length_map] at hi; exact hi)
        exact Option.some.inj (this.symm.trans g2)
      have e2 : Ex H (upd H1 T (.tup [.int (i : Nat), .int n2])) := e.trans (_root_.Evl.Ex.new nT)
      refine ⟨T, _, rfl, SqT.of upd_same, rfl, _, _, rfl, _, _, rfl, rfl, _, rfl, rfl, _, rfl, ite2 (fun c => ?_) (fun c => ?_)⟩
      · have hne : n2 ≠ 0 := fun z => by subst z; simp at c
        refine ⟨_, rfl, ?_⟩
        have el : Lin.lead r = i := Lin.lead_is h0 (by rw [gi]; exact hne)
        exact q _ _ e2 (by rw [el]; rfl)
      · have h0' : n2 = 0 := by
          rcases Classical.em (n2 = 0) with z | z
          · exact z
          · exact absurd (by simp [z]) c
        refine ⟨⟨_, _, rfl⟩, e2, fun j hj => ?_⟩
        rcases Nat.lt_or_ge j i with z | z
        · exact h0 j z
        · have : j = i := by omega
          rw [this, gi, h0']
    · obtain ⟨⟨y1, y2, rfl⟩, e, h0⟩ := p
      rw [List.length_map] at h0
      have el : Lin.lead r = r.length := by
        have := Lin.lead_le r
        rcases Nat.lt_or_ge (Lin.lead r) r.length with z | z
        · exact absurd (h0 _ z) (Lin.lead_ne z)
        · omega
      refine ⟨_, rfl, a, _, rfl, .inr (_root_.Evl.ex_t e hq), ?_⟩
      exact q _ _ e (by rw [el, List.length_map]; rfl)
theorem lead_filter {r : Row} (h : Lin.lead r < r.length) : ((List.range r.length).filter fun i => decide (Lin.g r i ≠ 0))[0]? = some (Lin.lead r) := by
  have e : List.range r.length = List.range (Lin.lead r) ++ (List.range (r.length - Lin.lead r)).map (Lin.lead r + ·) := by
    rw [← List.range_add]
    congr 1
    omega
  rw [e, List.filter_append]
  have e1 : (List.range (Lin.lead r)).filter (fun i => decide (Lin.g r i ≠ 0)) = [] := List.filter_eq_nil_iff.mpr fun i hi z => of_decide_eq_true z (Lin.lead_lt (List.mem_range.mp hi))
  rw [e1, List.nil_append]
  obtain ⟨m, em⟩ : ∃ m, r.length - Lin.lead r = m + 1 := ⟨r.length - Lin.lead r - 1, by omega⟩
  rw [em, List.range_succ_eq_map, List.map_cons, List.filter_cons, if_pos (decide_eq_true (by show Lin.g r (Lin.lead r + 0) ≠ 0; exact Lin.lead_ne h))]
  rfl
def spLead (K : PySem.W.Frag) : Sp := fun vs H Q _ => ∃ (v : V) (r : Row), vs = [v] ∧ RowT K r v H ∧ Lin.lead r < r.length ∧ r.length ≤ 1000 ∧ Ret (IsV (.int (Lin.lead r : Nat))) H Q
def spInverse : Sp := fun vs H Q _ => ∃ (p x : Int), vs = [.int p, .int x] ∧ 1 < p ∧ p ≤ 100 ∧ (0 < x ∧ x < p) ∧ (∃ k, 1 ≤ k ∧ k < p ∧ k * x % p = 1) ∧ ∀ k : Int, 1 ≤ k → k < p → k * x % p = 1 → Ret (IsV (.int k)) H Q
theorem ok_inverse {f : Addr} {fd : FuncData} (F : Fun K "inverse" "inverse" s_inverse f fd) : FnOk P w K mg base CX0 1 f fd p_inverse spInverse := by
  refine F.ok sc_inverse (fun vs H Q E h => ?_) (fun cdv A outer s H vs Q E hr h => ?_)
  · obtain ⟨p, x, rfl, _⟩ := h
    rfl
  · obtain ⟨p, x, rfl, hp, hp2, hx, ⟨k0, hk1, hk2, hk3⟩, q⟩ := h
    refine ⟨_, pss_cons (ps_set (i := 2) sc_inverse.nd rfl (Or.inl rfl) pe_int) (pss_cons (ps_while PassesOwn.never (pt_cmpR op_ne (pe_op op_modN (pe_op op_mul (pv 2) (pv 1)) (pv 0)) pe_int (nomark _)) (pss_one (ps_aug (i := 2) sc_inverse.nd rfl (Or.inl rfl) pe_int ip_add)))
      (pss_one (ps_ret (pv 2)))), ?_⟩
    refine while_by (fun σ' H' => H' = H ∧ ∃ f : Int, σ' = [some (.int p), some (.int x), some (.int f)] ∧ 1 ≤ f ∧ f ≤ k0) (fun σ' _ => match σ' with | [_, _, some (.int f)] => (k0 - f).toNat | _ => 0) ⟨rfl, 1, rfl, by omega, hk1⟩ (fun σ' H' p' => ?_) ?_
    · obtain ⟨rfl, f, rfl, h1, h2⟩ := p'
      refine ⟨_, rfl, _, rfl, _, _, rfl, rfl, .inl ⟨by omega, by omega⟩, _, rfl, _, _, rfl, rfl, by omega, rfl, _, rfl, ite2 (fun c => ?_) (fun c => ?_)⟩
      · have ne : f ≠ k0 := fun z => by
          have c' : (f * x).fmod p ≠ 1 := dne c
          rw [Int.fmod_eq_emod_of_nonneg _ (by omega), z, hk3] at c'
          exact c' rfl
        refine ⟨_, rfl, _, _, rfl, rfl, ⟨rfl, f + 1, rfl, by omega, by omega⟩, ?_⟩
        show (k0 - (f + 1)).toNat < (k0 - f).toNat
        omega
      · have e : f * x % p = 1 := by
          have c' : (f * x).fmod p = 1 := deq c
          rw [Int.fmod_eq_emod_of_nonneg _ (by omega)] at c'
          exact c'
        exact ⟨_, rfl, q f h1 (by omega) e _ _ (_root_.Evl.Ex.refl _) rfl⟩
    · intro σ' H' Q1 Q2 i h
      obtain ⟨v1, z1, v2, z2, i1, j1, r1, r2, r3, v3, z3, i2, j2, r4, r5, r6, r7, b, r8, r9⟩ := h
      exact ⟨v1, z1, v2, z2, i1, j1, r1, r2, r3, v3, z3, i2, j2, r4, r5, r6, r7, b, r8, i _ _ r9⟩
end
end K01


set_option Elab.async false
set_option linter.all false
set_option maxRecDepth 100000
set_option maxHeartbeats 4000000
namespace K01
open PySem PySem.Spec PyProof.Rows L2
/-- over a list or a tuple -/
def iSeq (K : PySem.W.Frag) (tl : TE) : TI := fun σ H R => iList K tl σ H R ∨ iTup K tl σ H R
theorem pi_seq {X : Cx} {tg l : Expr} {tl : TE} (hl : PE X l tl) : PI X tg l (iSeq X.K tl) :=
  ⟨fun pins s σ H R I h => h.elim ((pi_list hl).run pins s σ H R I) ((pi_tup hl).run pins s σ H R I)⟩
def PrmI (p : Int) : Prop := ∀ x : Int, 0 < x → x < p → ∃ k, 1 ≤ k ∧ k < p ∧ k * x % p = 1
theorem ixN_of {n j : Nat} {z : Int} (e : z = (j : Int)) (hj : j < n) : ixN n z = some j := by
  rw [e]
  unfold ixN
  rw [if_pos (by omega), if_pos (by omega)]
  simp
section
variable {P : Program} {w : World} {K : PySem.W.Frag} {mg : Str → Option Value} {base : Heap}
theorem row_at {r : Row} {i : Nat} (h : i < r.length) : atI (r.map V.int) (i : Int) = some (.int (Lin.g r i)) := at_of rfl (by rw [List.getElem?_map, Lin.g_get? h]; rfl)
def spRem (K : PySem.W.Frag) : Sp := fun vs H Q _ => ∃ (p : Int) (n : Nat) (v u : V) (S : List Row) (r : Row), vs = [.int p, v, u] ∧ RowsT K S v H ∧ RowT K r u H ∧ 1 < p ∧ p ≤ 100 ∧ n ≤ 100 ∧ Lin.Rref p n S ∧ Lin.OkR p n r ∧ Ret (RowT K (Lin.remS p S r)) H Q
theorem ok_rem {f : Addr} {fd : FuncData} (F : Fun K "remainder" "remainder" s_remainder f fd) (Gl_ : Got P w K mg base CX0 1 "less" p_less (spLess K)) (Gf : Got P w K mg base CX0 1 "first_place" p_first_place (spFirst K)) :
    FnOk P w K mg base CX0 2 f fd p_remainder (spRem K) := by
  refine F.ok sc_remainder (fun vs H Q E h => ?_) (fun cdv A outer s H vs Q E hr h => ?_)
  · obtain ⟨p, n, v, u, S, r, rfl, _⟩ := h
    rfl
  · obtain ⟨p, n, v, u, S, r, rfl, ⟨a, us, rfl, hq, hp⟩, hu, h1, h2, hn, hS, hR, q⟩ := h
    refine ⟨_, pss_cons (ps_for PassesOwn.never rfl (pi_tup (pv 1)) (pg_name (i := 3) sc_remainder.nd rfl (Or.inl rfl)) (pss_one (ps_set (i := 2) sc_remainder.nd rfl (Or.inl rfl)
        (pe_got Gl_ hr pass0 (pa_cons (pv 0) (pa_cons (pv 2) (pa_cons (pe_ix ix_tup (pv 2) (pe_got Gf hr pass0 (pa_cons (pv 3) pa_nil)) (fun _ _ => rfl)) (pa_cons (pv 3) pa_nil))))))))
      (pss_one (ps_ret (pv 2))), ?_⟩
    refine ⟨_, rfl, a, rfl, ⟨_, hq⟩, ?_⟩
    have hlen := pr_len hp
    refine for_tup (K := K) (a := a) (xs := us) (fun i σ' H' => ∃ u' y3, σ' = [some (.int p), some (.ref a), some u', y3] ∧ Ex H H' ∧ RowT K (Lin.remS p (S.take i) r) u' H') ⟨u, none, rfl, _root_.Evl.Ex.refl H, by rw [List.take_zero]; exact hu⟩
      (fun i σ' H' _ ⟨_, _, _, e, _⟩ => _root_.Evl.ex_t e hq) (fun i x σ' H1 hx p' => ?_) (fun σ' H' p' => ?_)
    · obtain ⟨u', y3, rfl, e, hu'⟩ := p'
      obtain ⟨s, hs, rs⟩ := pr_get hp hx
      have sm : s ∈ S := List.mem_of_getElem? hs
      have os := hS.ok s sm
      have oR := (Lin.remS_inv (by omega) hS (S.take i) (fun t ht => List.mem_of_mem_take ht) r hR).1
      have hl := hS.lt sm
      obtain ⟨b, rfl, hb⟩ := id hu'
      have gb := Lin.g_bd (show 0 < p by omega) oR (Lin.lead s)
      refine ⟨_, rfl, _, rfl, _, rfl, _, rfl, x, s, rfl, rs.ex e, fun z H2 e2 ez => ?_⟩
      cases (show z = _ from ez)
      refine ⟨b, _, _, _, rfl, rfl, _root_.Evl.ex_t e2 hb, row_at (by rw [oR.1]; exact hl), _, rfl, ?_⟩
      refine ⟨p, _, .ref b, x, _, s, rfl, hu'.ex e2, (rs.ex e).ex e2, by rw [oR.1, os.1], by omega, ⟨by omega, by omega⟩, by rw [oR.1]; omega, fun z H3 e3 hz => ?_⟩
      refine ⟨z, _, rfl, e.trans (e2.trans e3), ?_⟩
      rw [Lin.remS_take hs]
      exact hz
    · obtain ⟨u', y3, rfl, e, hu'⟩ := p'
      rw [hlen, List.take_length] at hu'
      exact ⟨_, rfl, q _ _ e hu'⟩
def Stair (K : PySem.W.Frag) (p : Int) (n : Nat) (R : List Row) (v : V) (H : Hp) : Prop := ∃ S, RowsT K S v H ∧ Lin.Rref p n S ∧ Lin.Same p n S R
theorem Stair.ex {p : Int} {n : Nat} {R : List Row} {v : V} {H H' : Hp} (e : Ex H H') (h : Stair K p n R v H) : Stair K p n R v H' := by
  obtain ⟨S, a, b, c⟩ := h
  exact ⟨S, a.ex e, b, c⟩
def spWith (K : PySem.W.Frag) : Sp := fun vs H Q _ => ∃ (p : Int) (n : Nat) (v u : V) (S : List Row) (r : Row), vs = [.int p, v, u] ∧ RowsT K S v H ∧ RowT K r u H ∧ 1 < p ∧ p ≤ 100 ∧ n ≤ 100 ∧ PrmI p ∧ Lin.Rref p n S ∧ Lin.OkR p n r ∧ Ret (Stair K p n (r :: S)) H Q
theorem ok_with {f : Addr} {fd : FuncData} (B : Bare mg) (F : Fun K "with_row" "with_row" s_with_row f fd) (Gl_ : Got P w K mg base CX0 1 "less" p_less (spLess K)) (Gf : Got P w K mg base CX0 1 "first_place" p_first_place (spFirst K))
    (Gr : Got P w K mg base CX0 2 "remainder" p_remainder (spRem K)) (Gt : Got P w K mg base CX0 1 "times" p_times (spTimes K)) (Gi : Got P w K mg base CX0 1 "inverse" p_inverse spInverse) : FnOk P w K mg base CX0 4 f fd p_with_row (spWith K) := by
  refine F.ok sc_with_row (fun vs H Q E h => ?_) (fun cdv A outer s H vs Q E hr h => ?_)
  · obtain ⟨p, n, v, u, S, r, rfl, _⟩ := h
    rfl
  · obtain ⟨p, n, v, u, S, r, rfl, hv, hu, h1, h2, hn, P_, hS, hR, q⟩ := h
    obtain ⟨fF, fdF, m1, m2, m3, m4⟩ := Gf.ex
    have hr1 : Room 1 _ := hr.mono (by decide)
    have hr2 : Room 2 _ := hr.mono (by decide)
    refine ⟨_, pss_cons (ps_set (i := 3) sc_with_row.nd rfl (Or.inl rfl) (pe_got Gr hr2 pass0 (pa_cons (pv 0) (pa_cons (pv 1) (pa_cons (pv 2) pa_nil)))))
      (pss_cons (ps_set (i := 4) sc_with_row.nd rfl (Or.inr rfl) (pe_got Gf hr1 pass0 (pa_cons (pv 3) pa_nil)))
      (pss_cons (ps_if (pt_cmpR op_eq (pv 4) (pe_callB call_len_seq (by rfl) B.len PySem.boot_len (pa_cons (pv 3) pa_nil)) (nomark _)) (pss_one (ps_ret (pv 1))) pss_nil)
      (pss_cons (ps_set (i := 5) sc_with_row.nd rfl (Or.inr rfl) (pe_got Gt hr1 pass0 (pa_cons (pv 0) (pa_cons (pe_got Gi hr1 pass0 (pa_cons (pv 0) (pa_cons (pe_ix ix_tup (pv 3) (pv 4) (fun _ _ => rfl)) pa_nil))) (pa_cons (pv 3) pa_nil)))))
      (pss_cons (ps_set (i := 6) sc_with_row.nd rfl (Or.inl rfl) (pe_callTy call_tuple_of (by rfl) B.tuple (by decide +kernel) (pa_cons (pe_lc (own := [("old", 7)]) (g := gName 7) (tt := tYes) rfl sc_with_row.nd (pi_tup (pv 1)) (blkOk_by (N := n_with_row) (sc := defScope s_with_row) (by decide +kernel))
        (fun _ _ _ _ _ => pg_name (i := 7) sc_with_row.nd rfl (Or.inl rfl)) (fun _ _ _ _ _ => pts_nil) (fun _ _ _ _ _ => pe_got Gl_ hr1 pass0 (pa_cons (pv 0) (pa_cons (pv 7) (pa_cons (pe_ix (show IxR _ (rIxT K) from ix_tup) (pv 7) (pv 4) (fun _ _ => rfl)) (pa_cons (pv 5) pa_nil)))))) pa_nil)))
      (pss_one (ps_ret (pe_callTy call_tuple_of (by rfl) B.tuple (by decide +kernel) (pa_cons (pe_callBK (cr_sortK m4 hr m3) (by rfl) B.sorted (by decide +kernel) (pa_cons (pe_op op_catA (pv 6) (pe_tup (pa_cons (pv 5) pa_nil))) pa_nil) (pk_cons (pe_glob (by rfl) m1 (v := .ref fF) rfl) pk_nil)) pa_nil)))))))), ?_⟩
    have hp0 : 0 < p := by omega
    have rem := Lin.remS_is hp0 hS hR
    generalize eo : Lin.remS p S r = out at rem
    refine ⟨_, rfl, _, rfl, _, rfl, p, n, v, u, S, r, rfl, hv, hu, h1, h2, hn, hS, hR, fun z H1 e1 hz => ?_⟩
    rw [eo] at hz
    refine ⟨_, rfl, z, out, rfl, hz, fun z2 H2 e2 ez2 => ?_⟩
    cases (show z2 = _ from ez2)
    obtain ⟨b, rfl, hb⟩ := id hz
    have hb2 := _root_.Evl.ex_t e2 hb
    refine ⟨_, rfl, _, rfl, b, _, rfl, .inr hb2, rfl, _, rfl, ite2 (fun c => ?_) (fun c => ?_)⟩
    · have c' : ((Lin.lead out : Nat) : Int) = ((out.map V.int).length : Nat) := yeq c
      rw [List.length_map] at c'
      exact ⟨_, rfl, q _ _ (e1.trans e2) ⟨S, hv.ex (e1.trans e2), hS, Lin.withRow_in hp0 hS hR rem (by omega)⟩⟩
    · have c' : ((Lin.lead out : Nat) : Int) ≠ ((out.map V.int).length : Nat) := yne c
      rw [List.length_map] at c'
      have hl : Lin.lead out ≠ out.length := by omega
      have hlt : Lin.lead out < out.length := by have := Lin.lead_le out; omega
      have gb := Lin.g_bd hp0 rem.ok (Lin.lead out)
      have gn := Lin.lead_ne hlt
      refine ⟨_, rfl, _, rfl, _, rfl, _, rfl, b, _, _, _, rfl, rfl, hb2, row_at hlt, ?_⟩
      refine ⟨p, _, rfl, h1, h2, ⟨by omega, by omega⟩, P_ _ (by omega) (by omega), fun k k1 k2 k3 z3 H3 e3 ez3 => ?_⟩
      cases (show z3 = _ from ez3)
      refine ⟨_, rfl, p, k, .ref b, out, rfl, (hz.ex e2).ex e3, hp0, ⟨by omega, by omega⟩, by rw [rem.ok.1]; omega, fun z4 H4 e4 hz4 => ?_⟩
      generalize es : Lin.times p k out = st at hz4
      have ost : Lin.OkR p n st := by rw [← es]; exact Lin.ok_times hp0 rem.ok.1
      have e04 : Ex H H4 := e1.trans (e2.trans (e3.trans e4))
      obtain ⟨a, us, rfl, hq, hp⟩ := hv
      have hq4 := _root_.Evl.ex_t e04 hq
      have hlS := hS.len_le
      have hus := pr_len hp
      refine ⟨_, rfl, a, rfl, ⟨_, hq4⟩, ?_⟩
      refine lc_go (walk_tup (xs := us)) (by omega) (fun H' e => _root_.Evl.ex_t e hq4) S hus.symm (fun _ => true) (fun s => RowT K (Lin.add p s (-(Lin.g s (Lin.lead out))) st)) (fun _ => RowT.stb) (fun i s x H5 H6 hn5 e5 y C N hC hN => ?_) fun D ys H7 nD e7 hD hy => ?_
      · obtain ⟨rfl, hx⟩ := y
        obtain ⟨s', hs', rs⟩ := pr_get hp hx
        cases (show s = s' from Option.some.inj (hn5.symm.trans hs'))
        have sm : s ∈ S := List.mem_of_getElem? hs'
        have os := hS.ok s sm
        have gs := Lin.g_bd hp0 os (Lin.lead out)
        have rs5 := rs.ex (e04.trans e5)
        obtain ⟨c5, rfl, hc5⟩ := id rs5
        refine ⟨rfl, yes_go ⟨_, rfl, _, rfl, _, rfl, _, rfl, c5, _, _, _, rfl, rfl, hc5, row_at (by rw [os.1, ← rem.ok.1]; exact hlt), _, rfl, ?_⟩⟩
        exact ⟨p, _, .ref c5, _, s, st, rfl, rs5, hz4.ex e5, by rw [os.1, ost.1], hp0, ⟨by omega, by omega⟩, by rw [os.1]; omega, fun z8 H8 e8 hz8 => hC rfl z8 H8 e8 hz8⟩
      · rw [filter_yes] at hy
        have hlc := pr_len hy
        refine ⟨D, ys, rfl, .inl ⟨SqL.of hD, fun l hl7 => ?_⟩⟩
        have e8 : Ex H7 (upd H7 l (.tup ys)) := _root_.Evl.Ex.new hl7
        have hz8 := hz4.ex (e7.trans e8)
        obtain ⟨ts, rfl, hts⟩ := id hz8
        -- cleared + (step,)
        refine ⟨_, rfl, _, rfl, (by show 1 ≤ sizeLine; decide), fun t1 ht1 => ?_⟩
        have e9 : Ex (upd H7 l (.tup ys)) (upd (upd H7 l (.tup ys)) t1 (.tup [V.ref ts])) := _root_.Evl.Ex.new ht1
        have fin : ∀ (c : Addr) (H9 : Hp), Ex H H9 → SqT K H9 c (ys ++ [V.ref ts]) → Paired (fun y s => RowT K s y H9) (ys ++ [V.ref ts]) ((S.map fun s => Lin.add p s (-(Lin.g s (Lin.lead out))) st) ++ [st]) →
            ∀ Q' : Addr → Hp → Prop, (∀ p2 H10 xs, Ex H9 H10 → H10 p2 = some (.lst xs) → (∃ S', Paired (fun y s => RowT K s y H10) xs S' ∧ S'.Perm ((S.map fun s => Lin.add p s (-(Lin.g s (Lin.lead out))) st) ++ [st]) ∧ S'.Pairwise fun s t => Lin.lead s ≤ Lin.lead t) → Q' p2 H10) →
            ∃ (a : Addr) (α : Type) (bs : List α) (val : α → V) (key : α → Int), [V.ref c] = [V.ref a] ∧ [V.ref fF] = [V.ref fF] ∧ SqT K H9 a (bs.map val) ∧ (∀ b ∈ bs, ∀ H', Ex H9 H' → ∀ Q2 : VK, (∀ H2, Ex H' H2 → Q2 (.int (key b)) H2) → spFirst K [val b] H' Q2 E0) ∧
              ∀ p2 H', H9 p2 = none → Ex H9 H' → H' p2 = some (.lst ((bs.mergeSort fun x y => decide (key x ≤ key y)).map val)) → Q' p2 H' := by
          intro c H9 e09 hc9 hpr Q' hQ'
          generalize ((S.map fun s => Lin.add p s (-(Lin.g s (Lin.lead out))) st) ++ [st]) = rows at hpr hQ'
          have hl := pr_len hpr
          refine ⟨c, V × Row, (ys ++ [V.ref ts]).zip rows, Prod.fst, fun z => ((Lin.lead z.2 : Nat) : Int), rfl, rfl, by rw [List.map_fst_zip (by omega)]; exact hc9, fun b hb H' e' Q2 q2 => ?_, fun p2 H10 n2 e10 h10 => ?_⟩
          · obtain ⟨i, hi⟩ := List.getElem?_of_mem hb
            have hz := List.getElem?_zip_eq_some.mp hi
            obtain ⟨y, hy1, ry⟩ := pr_get hpr hz.1
            have eb : y = b.2 := Option.some.inj (hy1.symm.trans hz.2)
            subst eb
            exact ⟨b.1, b.2, rfl, ry.ex e', fun z H2 e2 ez => by rw [show z = _ from ez]; exact q2 H2 e2⟩
          · refine hQ' p2 H10 _ e10 h10 ⟨(((ys ++ [V.ref ts]).zip rows).mergeSort fun x y => decide (((Lin.lead x.2 : Nat) : Int) ≤ ((Lin.lead y.2 : Nat) : Int))).map Prod.snd, ?_, ?_, ?_⟩
            · have hall : ∀ z ∈ (((ys ++ [V.ref ts]).zip rows).mergeSort fun x y => decide (((Lin.lead x.2 : Nat) : Int) ≤ ((Lin.lead y.2 : Nat) : Int))), RowT K z.2 z.1 H10 := fun z hz => by
                have hz2 := (List.mergeSort_perm _ _).mem_iff.mp hz
                obtain ⟨i, hi⟩ := List.getElem?_of_mem hz2
                have hz3 := List.getElem?_zip_eq_some.mp hi
                obtain ⟨y, hy1, ry⟩ := pr_get hpr hz3.1
                have eb : y = z.2 := Option.some.inj (hy1.symm.trans hz3.2)
                subst eb
                exact ry.ex e10
              generalize (((ys ++ [V.ref ts]).zip rows).mergeSort fun x y => decide (((Lin.lead x.2 : Nat) : Int) ≤ ((Lin.lead y.2 : Nat) : Int))) = L at hall
              induction L with
              | nil => exact .nil
              | cons z l ih => exact .cons (hall z List.mem_cons_self) (ih fun y hy => hall y (List.mem_cons_of_mem _ hy))
            · have := (List.mergeSort_perm ((ys ++ [V.ref ts]).zip rows) fun x y => decide (((Lin.lead x.2 : Nat) : Int) ≤ ((Lin.lead y.2 : Nat) : Int))).map Prod.snd
              rw [List.map_snd_zip (by omega)] at this
              exact this
            · rw [List.pairwise_map]
              refine (List.pairwise_mergeSort (le := fun x y : V × Row => decide (((Lin.lead x.2 : Nat) : Int) ≤ ((Lin.lead y.2 : Nat) : Int))) (fun a b c h1 h2 => ?_) (fun a b => ?_) _).imp fun {a b} h => ?_
              · simp only [decide_eq_true_eq] at h1 h2 ⊢; omega
              · simp only [Bool.or_eq_true, decide_eq_true_eq]; omega
              · have := of_decide_eq_true h; omega
        have last : ∀ (p2 : Addr) (H10 : Hp) (xs : List V), Ex H H10 → H10 p2 = some (.lst xs) → (∃ S', Paired (fun y s => RowT K s y H10) xs S' ∧ S'.Perm ((S.map fun s => Lin.add p s (-(Lin.g s (Lin.lead out))) st) ++ [st]) ∧ S'.Pairwise fun s t => Lin.lead s ≤ Lin.lead t) →
            ∀ l, H10 l = none → Q (.ref l) (upd H10 l (.tup xs)) := by
          rintro p2 H10 xs e10 h10 ⟨S', hp', perm, srt⟩ l nl
          have ee : Ex H10 (upd H10 l (.tup xs)) := _root_.Evl.Ex.new nl
          have key := Lin.withRow_new h1 hS hR rem hl (inv := k) k3 (S' := S') (by rw [es]; exact perm) srt
          exact q _ _ (e10.trans ee) ⟨S', ⟨l, xs, rfl, SqT.of upd_same, pr_mono hp' fun _ _ z => z.ex ee⟩, key.1, key.2.1⟩
        have e07 : Ex H (upd H7 l (.tup ys)) := e04.trans (e7.trans e8)
        refine ⟨l, t1, ys, [V.ref ts], rfl, rfl, SqT.of (e9 _ _ upd_same), SqT.of upd_same, Nat.le_trans (show ys.length + 1 ≤ 1000 by omega) (by decide), fun ez => ?_, (fun _ ez => (by cases ez)), fun _ _ c9 hc9 => ?_⟩
        · subst ez
          refine fin t1 _ (e07.trans e9) (SqT.of upd_same) ?_ _ fun p2 H10 xs e10 h10 hh => ⟨p2, xs, rfl, .inl ⟨SqL.of h10, last p2 H10 xs ((e07.trans e9).trans e10) h10 hh⟩⟩
          exact pr_app (pr_map (G := fun y s => RowT K s y _) (f := fun s => Lin.add p s (-(Lin.g s (Lin.lead out))) st) hy fun _ _ z => (z.ex e8).ex e9) (.cons (hz8.ex e9) .nil)
        · have e10 : Ex (upd (upd H7 l (.tup ys)) t1 (.tup [V.ref ts])) (upd (upd (upd H7 l (.tup ys)) t1 (.tup [V.ref ts])) c9 (.tup (ys ++ [V.ref ts]))) := _root_.Evl.Ex.new hc9
          refine fin c9 _ ((e07.trans e9).trans e10) (SqT.of upd_same) ?_ _ fun p2 H10 xs e11 h10 hh => ⟨p2, xs, rfl, .inl ⟨SqL.of h10, last p2 H10 xs (((e07.trans e9).trans e10).trans e11) h10 hh⟩⟩
          exact pr_app (pr_map (G := fun y s => RowT K s y _) (f := fun s => Lin.add p s (-(Lin.g s (Lin.lead out))) st) hy fun _ _ z => ((z.ex e8).ex e9).ex e10) (.cons ((hz8.ex e9).ex e10) .nil)
end
end K01


set_option Elab.async false
set_option linter.all false
set_option maxRecDepth 100000
set_option maxHeartbeats 4000000
namespace K01
open PySem PySem.Spec PyProof.Rows L2
section
variable {P : Program} {w : World} {K : PySem.W.Frag} {mg : Str → Option Value} {base : Heap}
/-- rows in a tuple or a list -/
def RowsA (K : PySem.W.Frag) (rs : List Row) (v : V) (H : Hp) : Prop := RowsL K rs v H ∨ RowsT K rs v H
def spStair (K : PySem.W.Frag) : Sp := fun vs H Q _ => ∃ (p : Int) (n : Nat) (v : V) (R : List Row), vs = [.int p, v] ∧ RowsA K R v H ∧ 1 < p ∧ p ≤ 100 ∧ n ≤ 100 ∧ PrmI p ∧ Lin.Oks p n R ∧ Ret (Stair K p n R) H Q
theorem ok_stair {f : Addr} {fd : FuncData} (F : Fun K "staircase" "staircase" s_staircase f fd) (Gw : Got P w K mg base CX0 4 "with_row" p_with_row (spWith K)) : FnOk P w K mg base CX0 5 f fd p_staircase (spStair K) := by
  refine F.ok sc_staircase (fun vs H Q E h => ?_) (fun cdv A outer s H vs Q E hr h => ?_)
  · obtain ⟨p, n, v, R, rfl, _⟩ := h
    rfl
  · obtain ⟨p, n, v, R, rfl, hv, h1, h2, hn, P_, hR, q⟩ := h
    refine ⟨_, pss_cons (ps_set (i := 2) sc_staircase.nd rfl (Or.inl rfl) (pe_tup pa_nil)) (pss_cons (ps_for PassesOwn.never rfl (pi_seq (pv 1)) (pg_name (i := 3) sc_staircase.nd rfl (Or.inl rfl)) (pss_one (ps_set (i := 2) sc_staircase.nd rfl (Or.inl rfl)
        (pe_got Gw hr pass0 (pa_cons (pv 0) (pa_cons (pv 2) (pa_cons (pv 3) pa_nil)))))))
      (pss_one (ps_ret (pv 2)))), ?_⟩
    have hp0 : 0 < p := by omega
    refine ⟨Nat.zero_le _, fun t0 nt => ?_⟩
    have e0 : Ex H (upd H t0 (.tup [])) := _root_.Evl.Ex.new nt
    have start : Stair K p n (R.take 0) (.ref t0) (upd H t0 (.tup [])) := ⟨[], ⟨t0, [], rfl, SqT.of upd_same, .nil⟩, Lin.Rref.nil, by rw [List.take_zero]; exact Lin.Same.refl⟩
    have turn : ∀ (i : Nat) (x u' : V) (y3 : Option V) (r : Row) (H1 : Hp) (D : Ends), R[i]? = some r → RowT K r x H1 → Ex H H1 → Stair K p n (R.take i) u' H1 → (∀ z H2, Ex H1 H2 → Stair K p n (R.take (i + 1)) z H2 → D.nx [some (.int p), some v, some z, some x] H2) →
        (tAsg (tCall (spWith K) [] E0 (tCons (tVar 0) (tCons (tVar 2) (tCons (tVar 3) tNil)))) (gName 2)) D [some (.int p), some v, some u', some x] H1 := by
      intro i x u' y3 r H1 D hr1 hx e1 hS k
      obtain ⟨S, a1, a2, a3⟩ := hS
      have oR := hR r (List.mem_of_getElem? hr1)
      refine ⟨_, rfl, _, rfl, _, rfl, p, n, u', x, S, r, rfl, a1, hx, h1, h2, hn, P_, a2, oR, fun z H2 e2 hz => ?_⟩
      obtain ⟨S', b1, b2, b3⟩ := hz
      refine k z H2 e2 ⟨S', b1, b2, b3.trans ?_⟩
      rw [List.take_add_one, hr1]
      exact Lin.same_snoc hp0 a2.ok (Lin.oks_take hR i) oR a3
    rcases hv with ⟨a, us, rfl, hq, hp⟩ | ⟨a, us, rfl, hq, hp⟩
    · have hlen := pr_len hp
      refine .inl ⟨_, rfl, a, rfl, ⟨_, _root_.Evl.ex_l e0 hq⟩, ?_⟩
      refine for_list (K := K) (a := a) (xs := us) (fun i σ' H' => ∃ u' y3, σ' = [some (.int p), some (.ref a), some u', y3] ∧ Ex H H' ∧ Stair K p n (R.take i) u' H') ⟨_, none, rfl, e0, start⟩ (fun i σ' H' _ ⟨_, _, _, e, _⟩ => _root_.Evl.ex_l e hq) (fun i x σ' H1 hx p' => ?_) (fun σ' H' p' => ?_)
      · obtain ⟨u', y3, rfl, e, hu'⟩ := p'
        obtain ⟨r, hr1, rr⟩ := pr_get hp hx
        exact turn i x u' y3 r H1 _ hr1 (rr.ex e) e hu' fun z H2 e2 hz => ⟨z, _, rfl, e.trans e2, hz⟩
      · obtain ⟨u', y3, rfl, e, hu'⟩ := p'
        rw [hlen, List.take_length] at hu'
        exact ⟨_, rfl, q _ _ e hu'⟩
    · have hlen := pr_len hp
      refine .inr ⟨_, rfl, a, rfl, ⟨_, _root_.Evl.ex_t e0 hq⟩, ?_⟩
      refine for_tup (K := K) (a := a) (xs := us) (fun i σ' H' => ∃ u' y3, σ' = [some (.int p), some (.ref a), some u', y3] ∧ Ex H H' ∧ Stair K p n (R.take i) u' H') ⟨_, none, rfl, e0, start⟩ (fun i σ' H' _ ⟨_, _, _, e, _⟩ => _root_.Evl.ex_t e hq) (fun i x σ' H1 hx p' => ?_) (fun σ' H' p' => ?_)
      · obtain ⟨u', y3, rfl, e, hu'⟩ := p'
        obtain ⟨r, hr1, rr⟩ := pr_get hp hx
        exact turn i x u' y3 r H1 _ hr1 (rr.ex e) e hu' fun z H2 e2 hz => ⟨z, _, rfl, e.trans e2, hz⟩
      · obtain ⟨u', y3, rfl, e, hu'⟩ := p'
        rw [hlen, List.take_length] at hu'
        exact ⟨_, rfl, q _ _ e hu'⟩
def spFRow (K : PySem.W.Frag) : Sp := fun vs H Q _ => ∃ (p : Int) (n j : Nat) (v : V) (S : List Row), vs = [.int p, v, .int (n : Nat), .int (j : Nat)] ∧ RowsT K S v H ∧ 1 < p ∧ p ≤ 100 ∧ n ≤ 100 ∧ j < n ∧ Lin.Rref p n S ∧ Ret (RowT K (Lin.facingRow p n S j)) H Q
theorem set_map {xs : Row} {i : Nat} {x : Int} : (xs.map V.int).set i (.int x) = (xs.set i x).map V.int := by
  rw [List.map_set]
/-- the staircase of all rows that meet each of R with 0 -/
def Face (K : PySem.W.Frag) (p : Int) (n : Nat) (R : List Row) (v : V) (H : Hp) : Prop := ∃ F S, RowsT K F v H ∧ Lin.Rref p n F ∧ Lin.Rref p n S ∧ Lin.Same p n S R ∧ Lin.Same p n F (Lin.facings p n S)
def spFacing (K : PySem.W.Frag) : Sp := fun vs H Q _ => ∃ (p : Int) (n : Nat) (v : V) (R : List Row), vs = [.int p, v, .int (n : Nat)] ∧ RowsA K R v H ∧ 1 < p ∧ p ≤ 100 ∧ n ≤ 100 ∧ PrmI p ∧ Lin.Oks p n R ∧ Ret (Face K p n R) H Q
theorem inV_ints (i : Int) (ns : List Int) : inV (.int i) (ns.map V.int) = ns.contains i := by
  unfold inV
  rw [List.any_map, List.contains_eq_any_beq]
  congr 1
  funext n
  show eqV (.int n) (.int i) = (i == n)
  by_cases z : n = i
  · subst z; simp [eqV]
  · have z' : (i == n) = false := by simp; exact fun q => z q.symm
    rw [z']
    simp [eqV, z]
end
end K01


set_option Elab.async false
set_option linter.all false
set_option maxRecDepth 100000
set_option maxHeartbeats 4000000
namespace K01
open PySem PySem.Spec PyProof.Rows L2
theorem tyx_t {K : PySem.W.Frag} {H : Hp} {a : Addr} {xs : List V} (h : SqT K H a xs) : TyX K H (.ref a) (.type "tuple") := by
  rcases h with (h | ⟨o, h⟩) | ⟨o, its, n, h, c, _⟩
  · exact .base (.tup h)
  · exact .fTuple h
  · exact .kTuple h c
theorem tyx_l {K : PySem.W.Frag} {H : Hp} {a : Addr} {xs : List V} (h : SqL K H a xs) : TyX K H (.ref a) (.type "list") := by
  rcases h with (h | ⟨o, h⟩) | ⟨o, its, n, h, c, _⟩
  · exact .base (.lst h)
  · exact .base (.frz h)
  · exact .kList h c
/-- a whole number from lo to hi, by its value -/
def isNum (lo hi : Int) : V → Bool
  | .int i => decide (lo ≤ i) && decide (i ≤ hi)
  | _ => false
inductive Flt : V → Prop
  | non : Flt .non
  | bl (b : Bool) : Flt (.bl b)
  | int (i : Int) : Flt (.int i)
/-- an own error without fields: its class at C -/
structure ErrC (K : PySem.W.Frag) (mg : Str → Option Value) (x : Str) (C : Addr) : Prop where
  gC : mg x = some (.ref C)
  xC : PySem.W.excIn K C [.type "ValueError", .type "Exception", .type "BaseException", .type "object"] "ValueError.__new__" = true
  kC : PySem.W.keepIn K (.ref C) = true
  bC : PySem.W.subIn K (.ref C) (.type "BaseException") = some true
  tC : PySem.W.typeIn K (.ref C) = some (.type "type")
theorem pmk_own0 {X : Cx} {C : Addr} {bmB : List Value} {B newId initId : String} {x : Str} {p pos : Pos} (F : ExcBaseFacts B newId initId bmB) (q : PySem.W.excIn X.K C bmB newId = true) (gC : X.mg x = some (.ref C)) (kC : PySem.W.keepIn X.K (.ref C) = true) (r : Raises X (.ref C)) (hg : Gl X x)
    (hdb : (x == ("__debug__" : Str)) = false := by decide) : PMk X (.Call (.Name x p) [] [] pos) (fun _ H Q => Q (.ref C) none H) := by
  intro pins s σ H Q I h
  refine wpAny_Call_Name_kw (ld_glob I hg gC ?_ hdb)
  refine PySem.W.callWith_K0 I.kIn kC ?_
  show wpAny _ _ (call (.ref C) []) _ _ _
  obtain ⟨bm, N, nm, qn, bs, hdct, sn, sub, ab, col, dd, k0, k1, k2, k3, k5, mN, hC, hN, hni, T⟩ := exc_obj I.kIn q
  exact wpAny_call_exc_subT F T hC hN hni (fun h' e hm => mk_of I hm r h (I.hok.gone hm.new)) (Nat.zero_le _)
section
variable {P : Program} {w : World} {K : PySem.W.Frag} {mg : Str → Option Value} {base : Heap}
def spNumber : Sp := fun vs H Q _ => ∃ (x : V) (lo hi : Int), vs = [x, .int lo, .int hi] ∧ Flt x ∧ Ret (IsV (.bl (isNum lo hi x))) H Q
theorem ok_number {f : Addr} {fd : FuncData} (B : Bare mg) (F : Fun K "is_number" "is_number" s_is_number f fd) : FnOk P w K mg base CX0 1 f fd p_is_number spNumber := by
  refine F.ok sc_is_number (fun vs H Q E h => ?_) (fun cdv A outer s H vs Q E hr h => ?_)
  · obtain ⟨x, lo, hi, rfl, _⟩ := h
    rfl
  · obtain ⟨x, lo, hi, rfl, hx, q⟩ := h
    refine ⟨_, pss_cons (ps_if (PW.pt (pw_or (pt_val (pe_callB call_isi (by rfl) B.isinstance (by decide +kernel) (pa_cons (pv 0) (pa_cons (pe_bltn (v := .ty "bool") (by rfl) B.bool (by decide +kernel) rfl) pa_nil))))
        (pw_or1 (pt_not (pt_val (pe_callB call_isi (by rfl) B.isinstance (by decide +kernel) (pa_cons (pv 0) (pa_cons (pe_bltn (v := .ty "int") (by rfl) B.int (by decide +kernel) rfl) pa_nil)))))))) (pss_one (ps_ret pe_bl)) pss_nil)
      (pss_one (ps_ret (pe_chain op_le op_le (pv 1) (pv 0) (pv 2)))), ?_⟩
    cases hx with
    | non =>
      refine ⟨_, rfl, .non, .ty "bool", .type "NoneType", .type "bool", false, rfl, .ty _, .base .non, kit_ty (by decide +kernel), false, rfl, iteF ?_⟩
      refine ⟨_, rfl, .non, .ty "int", .type "NoneType", .type "int", false, rfl, .ty _, .base .non, kit_ty (by decide +kernel), false, rfl, iteT ?_⟩
      exact q _ _ (_root_.Evl.Ex.refl _) rfl
    | bl b =>
      refine ⟨_, rfl, .bl b, .ty "bool", .type "bool", .type "bool", true, rfl, .ty _, .base (.bl b), kit_ty (by decide +kernel), true, rfl, iteT (iteT ?_)⟩
      exact q _ _ (_root_.Evl.Ex.refl _) rfl
    | int i =>
      refine ⟨_, rfl, .int i, .ty "bool", .type "int", .type "bool", false, rfl, .ty _, .base (.int i), kit_ty (by decide +kernel), false, rfl, iteF ?_⟩
      refine ⟨_, rfl, .int i, .ty "int", .type "int", .type "int", true, rfl, .ty _, .base (.int i), kit_ty (by decide +kernel), true, rfl, iteF ?_⟩
      refine ⟨_, rfl, _, rfl, _, _, rfl, rfl, _, rfl, ite2 (fun c => ?_) (fun c => ?_)⟩
      · have c' := of_decide_eq_true c
        refine ⟨_, rfl, _, _, rfl, rfl, ?_⟩
        exact q _ _ (_root_.Evl.Ex.refl _) (by show V.bl _ = V.bl _; simp [isNum, c'])
      · have c' : ¬ lo ≤ i := fun z => c (decide_eq_true z)
        exact q _ _ (_root_.Evl.Ex.refl _) (by show V.bl _ = V.bl _; simp [isNum, c'])
def isPrm : V → Bool
  | .int i => decide (i = 2) || decide (i = 3) || decide (i = 5) || decide (i = 7)
  | _ => false
def spPrime : Sp := fun vs H Q _ => ∃ (x : V), vs = [x] ∧ Flt x ∧ Ret (IsV (.bl (isPrm x))) H Q
theorem ok_prime {f aP : Addr} {fd : FuncData} (F : Fun K "is_prime" "is_prime" s_is_prime f fd) (Gn : Got P w K mg base CX0 1 "is_number" p_is_number spNumber) (gP : mg "PRIMES" = some (.ref aP)) (hP : ∀ H : Hp, SqT K H aP [.int 2, .int 3, .int 5, .int 7]) :
    FnOk P w K mg base CX0 2 f fd p_is_prime spPrime := by
  refine F.ok sc_is_prime (fun vs H Q E h => ?_) (fun cdv A outer s H vs Q E hr h => ?_)
  · obtain ⟨x, rfl, _⟩ := h
    rfl
  · obtain ⟨x, rfl, hx, q⟩ := h
    refine ⟨_, pss_one (ps_ret (pe_and (pe_got Gn hr pass0 (pa_cons (pv 0) (pa_cons pe_int (pa_cons pe_int pa_nil)))) (pe_one (pe_cmpR (show OpR _ _ (rIn K false) from op_in_seq) (pv 0) (pe_glob (by rfl) gP (v := .ref aP) rfl) rfl)))), ?_⟩
    refine ⟨_, rfl, x, 2, 7, rfl, hx, fun z H1 e1 ez => ?_⟩
    cases (show z = _ from ez)
    refine ⟨_, rfl, ite2 (fun c => ?_) (fun c => ?_)⟩
    · cases hx with
      | non => cases c
      | bl b => cases c
      | int i =>
        refine ⟨_, rfl, aP, _, rfl, .inr (hP _), rfl, by decide, ?_⟩
        refine q _ _ e1 ?_
        show V.bl _ = V.bl _
        have c' : 2 ≤ i ∧ i ≤ 7 := by simpa [isNum] using c
        congr 1
        show (inV (.int i) [.int 2, .int 3, .int 5, .int 7]) = isPrm (.int i)
        have e := inV_ints i [2, 3, 5, 7]
        rw [show ([2, 3, 5, 7] : List Int).map V.int = [.int 2, .int 3, .int 5, .int 7] from rfl] at e
        rw [e]
        simp [isPrm, Bool.or_assoc]
    · refine q _ _ e1 ?_
      show V.bl _ = V.bl _
      congr 1
      cases hx with
      | non => rfl
      | bl b => rfl
      | int i =>
        have c' : ¬ (2 ≤ i ∧ i ≤ 7) := by simpa [isNum] using c
        have : isPrm (.int i) = false := by
          simp only [isPrm, Bool.or_eq_false_iff, decide_eq_false_iff_not]
          omega
        rw [this]
def spCheckP (C : Addr) : Sp := fun vs H Q E => ∃ (x : V), vs = [x] ∧ Flt x ∧ (isPrm x = true → Ret (IsV .non) H Q) ∧ (isPrm x = false → ∀ H', Ex H H' → E (.ref C) none H')
def TupF (K : PySem.W.Frag) (fs : List V) (v : V) (H : Hp) : Prop := ∃ b, v = .ref b ∧ SqT K H b fs
theorem TupF.ex {fs : List V} {v : V} {H H' : Hp} (e : Ex H H') (h : TupF K fs v H) : TupF K fs v H' := by
  obtain ⟨b, z, q⟩ := h
  exact ⟨b, z, _root_.Evl.ex_t e q⟩
def isRowB (p : Int) (width : Int) (fs : List V) : Bool := decide ((fs.length : Int) = width) && fs.all (isNum 0 (p - 1))
def spIsRow (K : PySem.W.Frag) : Sp := fun vs H Q _ => ∃ (p : Int) (v : V) (fs : List V) (wd : Int), vs = [.int p, v, .int wd] ∧ TupF K fs v H ∧ (∀ f ∈ fs, Flt f) ∧ fs.length ≤ 1000 ∧ Ret (IsV (.bl (isRowB p wd fs))) H Q
theorem ok_isrow {f : Addr} {fd : FuncData} (B : Bare mg) (F : Fun K "is_row" "is_row" s_is_row f fd) (Gn : Got P w K mg base CX0 1 "is_number" p_is_number spNumber) : FnOk P w K mg base CX0 2 f fd p_is_row (spIsRow K) := by
  refine F.ok sc_is_row (fun vs H Q E h => ?_) (fun cdv A outer s H vs Q E hr h => ?_)
  · obtain ⟨p, v, fs, wd, rfl, _⟩ := h
    rfl
  · obtain ⟨p, v, fs, wd, rfl, ⟨b, rfl, hb⟩, hf, hz, q⟩ := h
    refine ⟨_, pss_cons (ps_if (PW.pt (pw_or (pt_not (pt_val (pe_callB call_isi (by rfl) B.isinstance (by decide +kernel) (pa_cons (pv 1) (pa_cons (pe_bltn (v := .ty "tuple") (by rfl) B.tuple (by decide +kernel) rfl) pa_nil)))))
        (pw_or1 (pt_cmpR op_ne (pe_callB call_len_seq (by rfl) B.len PySem.boot_len (pa_cons (pv 1) pa_nil)) (pv 2) (nomark _))))) (pss_one (ps_ret pe_bl)) pss_nil)
      (pss_one (ps_ret (pe_callB (cr_all rfl) (by rfl) B.all (by decide +kernel) (pa_cons (pe_lc (own := [("number", 3)]) (g := gName 3) (tt := tYes) rfl sc_is_row.nd (pi_tup (pv 1)) (blkOk_by (N := n_is_row) (sc := defScope s_is_row) (by decide +kernel)) (fun _ _ _ _ _ => pg_name (i := 3) sc_is_row.nd rfl (Or.inl rfl)) (fun _ _ _ _ _ => pts_nil)
        (fun _ _ _ _ _ => pe_got Gn hr pass0 (pa_cons (pv 3) (pa_cons pe_int (pa_cons (pe_op op_sub (pv 0) pe_int) pa_nil))))) pa_nil)))), ?_⟩
    refine ⟨_, rfl, .ref b, .ty "tuple", .type "tuple", .type "tuple", true, rfl, .ty _, tyx_t hb, kit_ty (by decide +kernel), true, rfl, iteF ?_⟩
    refine ⟨_, rfl, b, fs, rfl, .inr hb, _, rfl, rfl, _, rfl, ite2 (fun c => ?_) (fun c => ?_)⟩
    · have c' := dne c
      exact q _ _ (_root_.Evl.Ex.refl _) (by show V.bl _ = V.bl _; simp [isRowB, c'])
    · have c' := deq c
      refine ⟨_, rfl, b, rfl, ⟨_, hb⟩, ?_⟩
      refine lc_go (walk_tup (xs := fs)) (by omega) (fun H' e => _root_.Evl.ex_t e hb) fs rfl (fun _ => true) (fun x => IsV (.bl (isNum 0 (p - 1) x))) (fun _ _ _ _ _ h => h) (fun i d x H1 H2 hn e y C N hC hN => ?_) fun D ys H' nD e hD hy => ?_
      · obtain ⟨rfl, hx⟩ := y
        cases (show d = x from Option.some.inj (hn.symm.trans hx))
        exact ⟨rfl, yes_go ⟨_, rfl, _, rfl, _, _, rfl, rfl, d, 0, p - 1, rfl, hf d (List.mem_of_getElem? hn), fun z H3 e3 ez => hC rfl z H3 e3 ez⟩⟩
      · rw [filter_yes] at hy
        have ey : ys = (fs.map (isNum 0 (p - 1))).map V.bl := by
          rw [List.map_map]
          exact pr_fun hy
        subst ey
        refine ⟨D, _, rfl, SqL.of hD, q _ _ e ?_⟩
        show V.bl _ = V.bl _
        simp [isRowB, c', List.all_map]
def RowsF (K : PySem.W.Frag) (fss : List (List V)) (v : V) (H : Hp) : Prop := ∃ a vs, v = .ref a ∧ SqT K H a vs ∧ Paired (fun x fs => TupF K fs x H) vs fss
theorem RowsF.ex {fss : List (List V)} {v : V} {H H' : Hp} (e : Ex H H') (h : RowsF K fss v H) : RowsF K fss v H' := by
  obtain ⟨a, vs, z, q, p⟩ := h
  exact ⟨a, vs, z, _root_.Evl.ex_t e q, pr_mono p fun _ _ x => x.ex e⟩
def OkF (fss : List (List V)) : Prop := fss.length ≤ 1000 ∧ ∀ fs ∈ fss, fs.length ≤ 1000 ∧ ∀ f ∈ fs, Flt f
def isRowsB (p most width : Int) (fss : List (List V)) : Bool := decide (1 ≤ (fss.length : Int)) && decide ((fss.length : Int) ≤ most) && fss.all (isRowB p width)
def spIsRows (K : PySem.W.Frag) : Sp := fun vs H Q _ => ∃ (p : Int) (v : V) (fss : List (List V)) (most wd : Int), vs = [.int p, v, .int most, .int wd] ∧ RowsF K fss v H ∧ OkF fss ∧ Ret (IsV (.bl (isRowsB p most wd fss))) H Q
theorem ok_isrows {f : Addr} {fd : FuncData} (B : Bare mg) (F : Fun K "is_rows" "is_rows" s_is_rows f fd) (Gr : Got P w K mg base CX0 2 "is_row" p_is_row (spIsRow K)) : FnOk P w K mg base CX0 3 f fd p_is_rows (spIsRows K) := by
  refine F.ok sc_is_rows (fun vs H Q E h => ?_) (fun cdv A outer s H vs Q E hr h => ?_)
  · obtain ⟨p, v, fss, most, wd, rfl, _⟩ := h
    rfl
  · obtain ⟨p, v, fss, most, wd, rfl, ⟨b, us, rfl, hb, hp⟩, ⟨hz, hf⟩, q⟩ := h
    have hlen := pr_len hp
    refine ⟨_, pss_cons (ps_if (PW.pt (pw_or (pt_not (pt_val (pe_callB call_isi (by rfl) B.isinstance (by decide +kernel) (pa_cons (pv 1) (pa_cons (pe_bltn (v := .ty "tuple") (by rfl) B.tuple (by decide +kernel) rfl) pa_nil)))))
        (pw_or1 (pt_not (pt_chain op_le op_le pe_int (pe_callB call_len_seq (by rfl) B.len PySem.boot_len (pa_cons (pv 1) pa_nil)) (pv 2)))))) (pss_one (ps_ret pe_bl)) pss_nil)
      (pss_one (ps_ret (pe_callB (cr_all rfl) (by rfl) B.all (by decide +kernel) (pa_cons (pe_lc (own := [("row", 4)]) (g := gName 4) (tt := tYes) rfl sc_is_rows.nd (pi_tup (pv 1)) (blkOk_by (N := n_is_rows) (sc := defScope s_is_rows) (by decide +kernel)) (fun _ _ _ _ _ => pg_name (i := 4) sc_is_rows.nd rfl (Or.inl rfl)) (fun _ _ _ _ _ => pts_nil)
        (fun _ _ _ _ _ => pe_got Gr hr pass0 (pa_cons (pv 0) (pa_cons (pv 4) (pa_cons (pv 3) pa_nil))))) pa_nil)))), ?_⟩
    refine ⟨_, rfl, .ref b, .ty "tuple", .type "tuple", .type "tuple", true, rfl, .ty _, tyx_t hb, kit_ty (by decide +kernel), true, rfl, iteF ?_⟩
    refine ⟨_, rfl, b, us, rfl, .inr hb, _, _, rfl, rfl, _, rfl, ite2 (fun c => ?_) (fun c => ?_)⟩
    · have c1 := of_decide_eq_true c
      refine ⟨_, rfl, _, _, rfl, rfl, _, rfl, ite2 (fun c2 => ?_) (fun c2 => ?_)⟩
      · have c3 : ¬ ((us.length : Int) ≤ most) := by simpa using c2
        refine q _ _ (_root_.Evl.Ex.refl _) ?_
        show V.bl _ = V.bl _
        rw [hlen] at c3
        simp [isRowsB, c3]
      · have c3 : (us.length : Int) ≤ most := by simpa using c2
        refine ⟨_, rfl, b, rfl, ⟨_, hb⟩, ?_⟩
        refine lc_go (walk_tup (xs := us)) (by omega) (fun H' e => _root_.Evl.ex_t e hb) fss hlen.symm (fun _ => true) (fun fs => IsV (.bl (isRowB p wd fs))) (fun _ _ _ _ _ h => h) (fun i d x H1 H2 hn e y C N hC hN => ?_) fun D ys H' nD e hD hy => ?_
        · obtain ⟨rfl, hx⟩ := y
          obtain ⟨d', hd', td⟩ := pr_get hp hx
          cases (show d = d' from Option.some.inj (hn.symm.trans hd'))
          have hd := hf d (List.mem_of_getElem? hn)
          exact ⟨rfl, yes_go ⟨_, rfl, _, rfl, _, rfl, p, x, d, wd, rfl, td.ex e, hd.2, hd.1, fun z H3 e3 ez => hC rfl z H3 e3 ez⟩⟩
        · rw [filter_yes] at hy
          have ey : ys = (fss.map (isRowB p wd)).map V.bl := by
            rw [List.map_map]
            exact pr_fun hy
          subst ey
          refine ⟨D, _, rfl, SqL.of hD, q _ _ e ?_⟩
          show V.bl _ = V.bl _
          rw [hlen] at c1 c3
          simp only [isRowsB, decide_eq_true c1, decide_eq_true c3, Bool.true_and, List.all_map]
          rfl
    · have c1 : ¬ (1 ≤ (us.length : Int)) := fun z => c (decide_eq_true z)
      refine ⟨_, rfl, iteT ?_⟩
      refine q _ _ (_root_.Evl.Ex.refl _) ?_
      show V.bl _ = V.bl _
      rw [hlen] at c1
      simp [isRowsB, c1]
end
end K01


set_option Elab.async false
set_option linter.all false
set_option maxRecDepth 100000
set_option maxHeartbeats 4000000
namespace K01
open PySem PySem.Spec PyProof.Rows L2
theorem prmI_of {p : Int} (h : isPrm (.int p) = true) : (p = 2 ∨ p = 3 ∨ p = 5 ∨ p = 7) := by
  simp only [isPrm, Bool.or_eq_true, decide_eq_true_eq] at h
  omega
theorem prmI {p : Int} (h : isPrm (.int p) = true) : PrmI p := by
  intro x h1 h2
  rcases prmI_of h with rfl | rfl | rfl | rfl
  · have : x = 1 := by omega
    subst this; exact ⟨1, by decide⟩
  · have : x = 1 ∨ x = 2 := by omega
    rcases this with rfl | rfl
    · exact ⟨1, by decide⟩
    · exact ⟨2, by decide⟩
  · have : x = 1 ∨ x = 2 ∨ x = 3 ∨ x = 4 := by omega
    rcases this with rfl | rfl | rfl | rfl
    · exact ⟨1, by decide⟩
    · exact ⟨3, by decide⟩
    · exact ⟨2, by decide⟩
    · exact ⟨4, by decide⟩
  · have : x = 1 ∨ x = 2 ∨ x = 3 ∨ x = 4 ∨ x = 5 ∨ x = 6 := by omega
    rcases this with rfl | rfl | rfl | rfl | rfl | rfl
    · exact ⟨1, by decide⟩
    · exact ⟨4, by decide⟩
    · exact ⟨5, by decide⟩
    · exact ⟨2, by decide⟩
    · exact ⟨3, by decide⟩
    · exact ⟨6, by decide⟩
def NotTup (K : PySem.W.Frag) (v : V) (H : Hp) : Prop := ∃ T, TyX K H v (.type T) ∧ kitB T "tuple" = some false
def goodF (p : Int) : List (List V) → Bool
  | [] => false
  | f0 :: r => decide (1 ≤ (f0.length : Int)) && decide ((f0.length : Int) ≤ 12) && isRowsB p 12 f0.length (f0 :: r)
def BadR (K : PySem.W.Frag) (p : Int) (v : V) (H : Hp) : Prop := (∀ H', Ex H H' → NotTup K v H') ∨ ∃ fss, RowsF K fss v H ∧ OkF fss ∧ goodF p fss = false
theorem BadR.ex {K : PySem.W.Frag} {p : Int} {v : V} {H H' : Hp} (e : Ex H H') (h : BadR K p v H) : BadR K p v H' := by
  rcases h with h | ⟨fss, a, b, c⟩
  · exact .inl fun H2 e2 => h H2 (e.trans e2)
  · exact .inr ⟨fss, a.ex e, b, c⟩
theorem rowsF_of {K : PySem.W.Frag} {R : List Row} {v : V} {H : Hp} (h : RowsT K R v H) : RowsF K (R.map fun r => r.map V.int) v H := by
  obtain ⟨a, vs, z, q, p⟩ := h
  exact ⟨a, vs, z, q, pr_map p fun _ _ x => x⟩
theorem okF_of {p : Int} {n : Nat} {R : List Row} (o : Lin.Oks p n R) (hn : n ≤ 1000) (hl : R.length ≤ 1000) : OkF (R.map fun r => r.map V.int) := by
  refine ⟨by rw [List.length_map]; exact hl, fun fs hfs => ?_⟩
  obtain ⟨r, hr, rfl⟩ := List.mem_map.mp hfs
  refine ⟨by rw [List.length_map, (o r hr).1]; exact hn, fun f hf => ?_⟩
  obtain ⟨i, _, rfl⟩ := List.mem_map.mp hf
  exact .int i
theorem goodF_of {p : Int} {n : Nat} {R : List Row} (o : Lin.Oks p n R) (h1 : 1 ≤ n) (hn : n ≤ 12) (hl : R.length ≤ 12) (ne : R ≠ []) : goodF p (R.map fun r => r.map V.int) = true := by
  cases R with
  | nil => exact absurd rfl ne
  | cons r0 l =>
    have l0 : ((r0.map V.int).length : Int) = n := by rw [List.length_map, (o r0 List.mem_cons_self).1]
    have hall : (((r0 :: l).map fun r => r.map V.int).all (isRowB p (r0.map V.int).length)) = true := by
      rw [List.all_eq_true]
      intro fs hfs
      obtain ⟨r, hr, rfl⟩ := List.mem_map.mp hfs
      have orr := o r hr
      simp only [isRowB, Bool.and_eq_true, decide_eq_true_eq, List.all_eq_true]
      refine ⟨by rw [l0, List.length_map, orr.1], fun f hf => ?_⟩
      obtain ⟨i, hi, rfl⟩ := List.mem_map.mp hf
      have := orr.2 i hi
      simp only [isNum, Bool.and_eq_true, decide_eq_true_eq]
      omega
    show (decide (1 ≤ ((r0.map V.int).length : Int)) && decide (((r0.map V.int).length : Int) ≤ 12) && isRowsB p 12 (r0.map V.int).length ((r0 :: l).map fun r => r.map V.int)) = true
    have hb : isRowsB p 12 (r0.map V.int).length ((r0 :: l).map fun r => r.map V.int) = true := by
      unfold isRowsB
      rw [hall, List.length_map]
      have hl2 : l.length + 1 ≤ 12 := hl
      simp only [Bool.and_eq_true, decide_eq_true_eq, List.length_cons, and_true]
      omega
    rw [hb, l0]
    simp only [Bool.and_eq_true, decide_eq_true_eq, and_true]
    omega
section
variable {P : Program} {w : World} {K : PySem.W.Frag} {mg : Str → Option Value} {base : Heap}
/-- the two limits of the text -/
structure Lims (mg : Str → Option Value) : Prop where
  rows : ∃ t, mg "MOST_ROWS" = some (.int 12 t)
  width : ∃ t, mg "MOST_WIDTH" = some (.int 12 t)
def spCheckR (K : PySem.W.Frag) (C : Addr) : Sp := fun vs H Q E => ∃ (p : Int) (v : V), vs = [.int p, v] ∧ ((BadR K p v H ∧ ∀ H', Ex H H' → E (.ref C) none H') ∨ ∃ fss, RowsF K fss v H ∧ OkF fss ∧ goodF p fss = true ∧ Ret (IsV .non) H Q)
/-- what stairs, rank, against are called with, and how they end -/
def Asked (K : PySem.W.Frag) (CN CR : Addr) (R' : Int → Nat → List Row → V → Hp → Prop) : Sp := fun vs H Q E => ∃ x v, vs = [x, v] ∧ Flt x ∧ ((isPrm x = false ∧ ∀ H', Ex H H' → E (.ref CN) none H') ∨ (∃ p, x = .int p ∧ isPrm x = true ∧ BadR K p v H ∧ ∀ H', Ex H H' → E (.ref CR) none H') ∨
  ∃ p n R, x = .int p ∧ isPrm x = true ∧ RowsT K R v H ∧ Lin.Oks p n R ∧ R ≠ [] ∧ R.length ≤ 12 ∧ 1 ≤ n ∧ n ≤ 12 ∧ Ret (R' p n R) H Q)
theorem asked_go {CN CR : Addr} {R' : Int → Nat → List Row → V → Hp → Prop} {vs : List V} {H : Hp} {Q : VK} {E : XK} {x v : V} (h : Asked K CN CR R' [x, v] H Q E) (t : TS) (D : Ends)
    (k : ∀ p n R H', x = .int p → 1 < p → p ≤ 100 → PrmI p → Ex H H' → RowsT K R v H' → Lin.Oks p n R → n ≤ 12 → R.length ≤ 12 → R ≠ [] → Ret (R' p n R) H' Q → t D [some x, some v] H') :
    tSeq (tDrop (tCall (spCheckP CN) [] E (tCons (tVar 0) tNil))) (tSeq (tDrop (tCall (spCheckR K CR) [] E (tCons (tVar 0) (tCons (tVar 1) tNil)))) t) D [some x, some v] H := by
  obtain ⟨x', v', ev, hx, h⟩ := h
  have e1 : x = x' := by injection ev
  have e2 : v = v' := by injection ev with _ e; injection e
  subst e1; subst e2
  refine ⟨_, rfl, x, rfl, hx, fun hp => ?_, fun hp => ?_⟩
  · intro z H1 ex1 _
    rcases h with ⟨h0, _⟩ | ⟨p, rfl, _, hb, q⟩ | ⟨p, n, R, rfl, h0, hR, o, ne, hl, h1, hn, q⟩
    · rw [h0] at hp; cases hp
    · exact ⟨_, rfl, _, rfl, p, v, rfl, .inl ⟨hb.ex ex1, fun H2 e2 => q H2 (ex1.trans e2)⟩⟩
    · have pp := prmI_of h0
      refine ⟨_, rfl, _, rfl, p, v, rfl, .inr ⟨_, rowsF_of (hR.ex ex1), okF_of o (by omega) (by omega), goodF_of o h1 hn hl ne, fun z2 H2 e2 _ => ?_⟩⟩
      exact k p n R H2 rfl (by omega) (by omega) (prmI h0) (ex1.trans e2) ((hR.ex ex1).ex e2) o hn hl ne (q.go (ex1.trans e2))
  · intro H1 ex1
    rcases h with ⟨_, q⟩ | ⟨p, rfl, h0, _⟩ | ⟨p, n, R, rfl, h0, _⟩
    · exact q _ ex1
    · rw [h0] at hp; cases hp
    · rw [h0] at hp; cases hp
theorem Asked.len {CN CR : Addr} {R' : Int → Nat → List Row → V → Hp → Prop} {vs : List V} {H : Hp} {Q : VK} {E : XK} (h : Asked K CN CR R' vs H Q E) : ∃ x v, vs = [x, v] := by
  obtain ⟨x, v, e, _⟩ := h
  exact ⟨x, v, e⟩
def Rank (p : Int) (n : Nat) (R : List Row) (v : V) (H : Hp) : Prop := ∃ S, v = .int (S.length : Nat) ∧ Lin.Rref p n S ∧ Lin.Same p n S R
end
end K01


set_option Elab.async false
set_option linter.all false
set_option maxRecDepth 100000
set_option maxHeartbeats 4000000
/-! set(a list of whole numbers), and it sorted -/
namespace K01
open PySem PySem.Spec PyProof.Rows L2
open Sem (wp)
abbrev bareSet (b : Bool) : Obj := { cls := .type "set", dict := none, data := .set #[] 0 (.fresh 0 0 b) }
abbrev lstIt (l : Addr) : Obj := { cls := .type "list_iterator", data := .fields #[.ref l, .int 0 0] }
section
variable {P : Program} {w : World} {A : Around} {E : Value → Shared → Prop} {s : Shared}
abbrev ledB (w : World) : Bool := !w.params.followText "set-order"
def SetEnd (w : World) (s : Shared) (ns : List Int) (r : Value) (s2 : Shared) : Prop := r = .none ∧ ∃ h' tk c, s2 = { s with heap := h', toks := tk } ∧ SetR w h' s.heap.objs.size (fun j => decide (j ∈ ns)) c ∧ c ≤ ns.length ∧ ∀ b o, s.heap.get? b = some o → h'.get? b = some o
theorem call_set_ls {l : Addr} {its : Array Value} (ns : List Int) {Q : Value → Shared → Prop} (hd0 : A.handled = none) (hL : s.heap.IsList l its) (hI : IntsAre its.toList ns) (room : ns.length + 1 < scanBound)
    (k : ∀ (h' : Heap) (tk c : Nat), SetR w h' s.heap.objs.size (fun j => decide (j ∈ ns)) c → c ≤ ns.length → (∀ b o, s.heap.get? b = some o → h'.get? b = some o) → Q (.ref s.heap.objs.size) { s with heap := h', toks := tk }) :
    wpAny (model P w) A (call (.type "set") [.ref l]) Q E s := by
  have szE : its.size = ns.length := by
    have zz := IntsAre.length hI
    rwa [Array.length_toList] at zz
  obtain ⟨c0, tl0, hmro⟩ := F.called_set.mro
  have f1 := F.called_set.made
  have f2 := F.called_set.sub
  have f3 := F.called_set.notType
  have f4 := F.called_set.canCreate
  have f5 := F.typeCall_set_1 (.ref l)
  refine wpAny_call (codeAny_of_tree ?_)
  show wpAny _ _ (callAny (.type "set") _) _ _ _
  refine wpAny_pure ⟨Code.quiet_builtin _ (by decide +kernel), codeAny_builtin F.entry_type_call ?_⟩
  rw [Around.under_plain (weight_type_call_type "set" [.ref l] []) rfl]
  repeat (any_goals (first | assumption | wp_step))
  refine codeAny_mono (code_set_led1 (.ref l) (E := E) (Q₁ := fun ob s1 => ob = .ref s.heap.objs.size ∧ s1 = { s with heap := s.heap.push (bareSet (ledB w)) }) ⟨rfl, rfl⟩) fun rr s1 hrr => ?_
  cases rr with
  | error z => exact hrr
  | ok fl =>
    cases fl with
    | ret ob =>
      obtain ⟨rfl, rfl⟩ := hrr
      have gS : (s.heap.push (bareSet (ledB w))).get? s.heap.objs.size = some (bareSet (ledB w)) := Heap.get?_push_size _ rfl
      have gT : Shared.TypeIs { s with heap := s.heap.push (bareSet (ledB w)) } (.ref s.heap.objs.size) "set" := ⟨_, gS, rfl⟩
      have f6 := F.called_set.init.lookup
      have f7 := F.called_set.init.bind (.ref s.heap.objs.size)
      repeat (any_goals (first | assumption | wp_step))
      refine codeAny_mono (codeAny_call_builtin (R := wants (SetEnd w s ns) E) F.called_set.init.plain F.entry_set_init (check_set_init_1 gT ?_)) fun r2 s2 hr2 => ?_
      · obtain ⟨ol, hol, hcl, nl, hdl⟩ := hL
        obtain ⟨ocls, odict, odata, oslots⟩ := ol
        simp only at hcl hdl
        subst hcl
        subst hdl
        have hol2 := Heap.get?_push_of_some (bareSet (ledB w)) hol
        have g1 := F.sub_list_set
        have g2 := F.sub_list_frozenset
        have g3 : (Value.type "list" == Value.type "dict") = false := by decide
        have hL1 : (s.heap.push (bareSet (ledB w))).IsList l its := ⟨_, hol2, rfl, nl, rfl⟩
        unfold Builtin.«set.__init__» noKeywords Builtin.Frozenset.updateFrom
        generalize hPI : pyIter = PI
        wp_walk
        subst hPI
        refine wpAny_pyIter_list hL1 ?_
        refine wpAny_bind (wpAny_runValue ?_)
        have lS : l < s.heap.objs.size := Heap.lt_size hol
        have hd3 : A.in1.in1.in1.handled = none := by simp [hd0]
        have sz1 : (s.heap.push (bareSet (ledB w))).objs.size = s.heap.objs.size + 1 := Heap.size_push ..
        have neI : l ≠ (s.heap.push (bareSet (ledB w))).objs.size := by
          rw [sz1]
          exact Nat.ne_of_lt (Nat.lt_succ_of_lt lS)
        have neS : s.heap.objs.size ∉ [(s.heap.push (bareSet (ledB w))).objs.size] := by
          rw [sz1]
          simp
        have vals : ∀ (i : Nat) (v : Value), its[i]? = some v → ∃ k t, ns[i]? = some k ∧ v = .int k t := fun i v hv => by
          have hi : i < ns.length := by
            rw [← szE]
            exact (Array.getElem?_eq_some_iff.mp hv).1
          obtain ⟨t, e⟩ := PyProof.Rows.IntsAre.int_at hI i v (by rw [Array.getElem?_toList]; exact hv)
          refine ⟨ns[i], t, List.getElem?_eq_getElem hi, ?_⟩
          rw [e, List.getD_eq_getElem?_getD, List.getElem?_eq_getElem hi]
          rfl
        have gS2 : ((s.heap.push (bareSet (ledB w))).push (lstIt l)).get? s.heap.objs.size = some (bareSet (ledB w)) := Heap.get?_push_of_some _ gS
        have neF : s.heap.objs.size ∉ [(s.heap.push (bareSet (ledB w))).objs.size, l] := by
          rw [sz1]
          simp only [List.mem_cons, List.not_mem_nil, or_false, not_or]
          exact ⟨Nat.ne_of_lt (Nat.lt_succ_self _), Nat.ne_of_gt lS⟩
        refine set_update_ints ((Walks.list hd3 _ l neI its).toS) s.heap.objs.size neF ns szE room vals (its.size - 0) 0 _ (by omega) (Nat.zero_le _) ⟨⟨_, Heap.get?_push_size _ rfl, rfl, rfl⟩, hL1.push _⟩ ⟨0, Nat.le_refl 0, setR_new_at gS2⟩ ?_
        intro s' c' hm hc' hS'
        obtain ⟨h', gg, dd, tk', oo⟩ := s'
        obtain rfl : gg = s.gens := hm.gens
        obtain rfl : dd = s.drawn := hm.drawn
        obtain rfl : oo = s.os := hm.os
        show wpAny _ _ _ _ _ _
        refine wpAny_pure ?_
        show wpAny _ _ (ret Value.none) _ _ _
        rw [szE] at hc'
        refine wpAny_pure ⟨rfl, h', tk', c', rfl, hS', hc', fun b o e => ?_⟩
        have lb : b < s.heap.objs.size := Heap.lt_size e
        refine hm.heap b o ?_ (Heap.get?_push_of_some _ (Heap.get?_push_of_some _ e))
        rw [sz1]
        simp only [List.mem_cons, List.not_mem_nil, or_false, not_or]
        exact ⟨Nat.ne_of_lt lb, Nat.ne_of_lt (Nat.lt_succ_of_lt lb)⟩
      · cases r2 with
        | error z => exact hr2
        | ok fl2 =>
          cases fl2 with
          | ret r =>
            obtain ⟨rfl, h', tk, c', rfl, hS', hc', hk'⟩ := hr2
            repeat (any_goals (first | assumption | wp_step))
            exact k _ _ _ hS' hc' hk'
          | _ => exact hr2.elim
    | _ => exact hrr.elim
end
def rSetL (K : PySem.W.Frag) (w : World) : List V → Hp → VK → Prop := fun xs H Q => ∃ (l : Addr) (ns : List Int), xs = [.ref l] ∧ SqL K H l (ns.map V.int) ∧ ns.length ≤ 1000 ∧ ∀ p c, H p = none → c ≤ ns.length → Q (.ref p) (upd H p (SetO w p (fun j => decide (j ∈ ns)) c))
theorem cr_setL {X : Cx} (hc : X.calm = true) : CallR X (.type "set") (rSetL X.K X.w) := by
  intro pins s σ H xs us Q I r hh
  obtain ⟨l, ns, rfl, hq, hz, q⟩ := hh
  obtain ⟨its, rv, hL, _⟩ := I.list hq
  obtain rfl := Vals.ref1 r
  refine call_set_ls ns (I.ok.hd hc) hL.isList (ints_of_vals rv) (by unfold scanBound; omega) fun h' tk c hS hc' hk => ?_
  exact ⟨.ref _, upd H s.heap.objs.size (SetO X.w s.heap.objs.size (fun j => decide (j ∈ ns)) c), I.laid (t' := tk) hk (Nat.le_refl _) (setO_new hS), rfl, q _ c (I.hok.fresh (Nat.le_refl _)) hc'⟩
end K01


set_option Elab.async false
set_option linter.all false
set_option maxRecDepth 100000
set_option maxHeartbeats 4000000
namespace K01
open PySem PySem.Spec PyProof.Rows L2
section
variable {P : Program} {w : World} {K : PySem.W.Frag} {mg : Str → Option Value} {base : Heap}
/-- all but what stands at a is as it was -/
def ExB (a : Addr) (H H' : Hp) : Prop := ∀ b o, b ≠ a → H b = some o → H' b = some o
theorem ExB.refl (a : Addr) (H : Hp) : ExB a H H := fun _ _ _ e => e
theorem ExB.trans {a : Addr} {H H1 H2 : Hp} (e : ExB a H H1) (e' : ExB a H1 H2) : ExB a H H2 := fun b o n h => e' b o n (e b o n h)
theorem ExB.of {a : Addr} {H H1 : Hp} (e : Ex H H1) : ExB a H H1 := fun b o _ h => e b o h
theorem ExB.new {a p : Addr} {H H1 : Hp} {o : HO} (e : ExB a H H1) (h : H p = none) : ExB a H (upd H1 p o) := fun b u n q => by
  rw [upd_ne (ne_of_none q h)]
  exact e b u n q
theorem ExB.lay {a p : Addr} {H H1 : Hp} {o : HO} (e : ExB a H H1) (h : H1 p = none) : ExB a H (upd H1 p o) := fun b u n q => by
  have q1 := e b u n q
  rw [upd_ne (ne_of_none q1 h)]
  exact q1
theorem ExB.at {a : Addr} {H H1 : Hp} {o : HO} (e : ExB a H H1) : ExB a H (upd H1 a o) := fun b u n q => by
  rw [upd_ne n]
  exact e b u n q
/-- the drawer's row at a: the script, how many of its cells are taken, the mixed number, the rest of a great cell -/
def Off (K : PySem.W.Frag) (a sc : Addr) (ns : List Int) : Prop := a ≠ sc ∨ SqL K (fun _ => none) sc (ns.map V.int)
def Row0 (K : PySem.W.Frag) (a sc : Addr) (ns : List Int) (H : Hp) : Prop := ∃ (i sd gr : Int), H a = some (.lst [.ref sc, .int i, .int sd, .int gr]) ∧ Off K a sc ns ∧ SqL K H sc (ns.map V.int) ∧ 0 ≤ i ∧ 0 ≤ sd ∧ sd < 2147483647
theorem sql_b {a b : Addr} {H H' : Hp} {xs : List V} (e : ExB a H H') (n : b ≠ a) (h : SqL K H b xs) : SqL K H' b xs := by
  rcases h with (h | ⟨o, h⟩) | h
  · exact .inl (.inl (e _ _ n h))
  · exact .inl (.inr ⟨o, e _ _ n h⟩)
  · exact .inr h
theorem sql_o {a sc : Addr} {H H' : Hp} {ns : List Int} (e : ExB a H H') (n : Off K a sc ns) (h : SqL K H sc (ns.map V.int)) : SqL K H' sc (ns.map V.int) := by
  rcases n with n | (z | ⟨o, z⟩) | z
  · exact sql_b e n.symm h
  · cases z
  · cases z
  · exact .inr z
theorem off_of {a sc : Addr} {H : Hp} {ns : List Int} (n : H a = none) (h : SqL K H sc (ns.map V.int)) : Off K a sc ns := by
  rcases h with (h | ⟨o, h⟩) | h
  · exact .inl fun z => by rw [z, h] at n; cases n
  · exact .inl fun z => by rw [z, h] at n; cases n
  · exact .inr (.inr h)
theorem Row0.ex {a sc : Addr} {ns : List Int} {H H' : Hp} (e : Ex H H') (h : Row0 K a sc ns H) : Row0 K a sc ns H' := by
  obtain ⟨i, sd, gr, h1, h2, h3, h4⟩ := h
  exact ⟨i, sd, gr, e _ _ h1, h2, _root_.Evl.ex_l e h3, h4⟩
theorem Row0.n {a sc : Addr} {ns : List Int} {H H' : Hp} (h : Row0 K a sc ns H) (e : ExB a H H') : ExN H H' := by
  obtain ⟨i, sd, gr, h1, _⟩ := h
  intro b o hb nl
  exact e b o (fun z => by rw [z, h1] at hb; exact nl _ (Option.some.inj hb).symm) hb
theorem row0_new {a sc : Addr} {H : Hp} {ns : List Int} {i sd gr : Int} (n : Off K a sc ns) (h : SqL K H sc (ns.map V.int)) (h1 : 0 ≤ i) (h2 : 0 ≤ sd) (h3 : sd < 2147483647) : Row0 K a sc ns (upd H a (.lst [.ref sc, .int i, .int sd, .int gr])) :=
  ⟨i, sd, gr, upd_same, n, sql_o (ExB.at (ExB.refl a H)) n h, h1, h2, h3⟩
def spTaken (K : PySem.W.Frag) : Sp := fun vs H Q _ => ∃ (a sc : Addr) (ns : List Int) (many : Int), vs = [.ref a, .int many] ∧ Row0 K a sc ns H ∧ 1 ≤ many ∧ many ≤ 1000 ∧ ∀ (r : Int) H', 0 ≤ r → r < many → ExB a H H' → Row0 K a sc ns H' → Q (.int r) H'
theorem fmod_nn {a b : Int} (h : 0 < b) : a.fmod b = a % b := Int.fmod_eq_emod_of_nonneg _ (by omega)
theorem ok_taken {f : Addr} {fd : FuncData} (B : Bare mg) (F : Fun K "_law_taken" "_law_taken" s_law_taken f fd) : FnOk P w K mg base CX0 1 f fd p_law_taken (spTaken K) := by
  refine F.ok sc_law_taken (fun vs H Q E h => ?_) (fun cdv A outer s H vs Q E hr h => ?_)
  · obtain ⟨a, sc, ns, many, rfl, _⟩ := h
    rfl
  · obtain ⟨a, sc, ns, many, rfl, ⟨i, sd, gr, ha, na, hs, hi, hs0, hs1⟩, h1, h2, q⟩ := h
    have r0 : ∀ (H' : Hp) (xs : List V) (j : Nat) (v : V), H' a = some (.lst xs) → xs[j]? = some v → ∃ p ys z y, V.ref a = .ref p ∧ V.int (j : Int) = .int z ∧ SqL K H' p ys ∧ atI ys z = some y ∧ y = v := fun H' xs j v e1 e2 => ⟨a, xs, j, v, rfl, rfl, SqL.of e1, at_of rfl e2, rfl⟩
    refine ⟨_, pss_cons (ps_if (pt_cmpR op_gt (pe_ix ix_list (pv 0) pe_int (fun _ _ => rfl)) pe_int (nomark _))
        (pss_cons (ps_set (i := 2) sc_law_taken.nd rfl (Or.inl rfl) (pe_op op_modN (pe_callTy call_int1 (by rfl) B.int (by decide +kernel) (pa_cons (pe_ix ix_list (pv 0) pe_int (fun _ _ => rfl)) pa_nil)) (pv 1)))
        (pss_cons (ps_asg (pe_op op_fdivN (pe_ix ix_list (pv 0) pe_int (fun _ _ => rfl)) (pv 1)) (pg_sub (pv 0) pe_int set_list))
        (pss_one (ps_ret (pv 2))))) pss_nil)
      (pss_cons (ps_asg (pe_op op_add (pe_ix ix_list (pv 0) pe_int (fun _ _ => rfl)) pe_int) (pg_sub (pv 0) pe_int set_list))
      (pss_cons (ps_if (pt_cmpR op_gt (pe_ix ix_list (pv 0) pe_int (fun _ _ => rfl)) (pe_callB call_len_seq (by rfl) B.len PySem.boot_len (pa_cons (pe_ix ix_list (pv 0) pe_int (fun _ _ => rfl)) pa_nil)) (nomark _))
        (pss_cons (ps_asg (pe_op op_modN (pe_callTy call_int1 (by rfl) B.int (by decide +kernel) (pa_cons (pe_op op_add (pe_op op_mul (pe_ix ix_list (pv 0) pe_int (fun _ _ => rfl)) pe_int) pe_int) pa_nil)) pe_int) (pg_sub (pv 0) pe_int set_list))
        (pss_one (ps_ret (pe_op op_modN (pe_callTy call_int1 (by rfl) B.int (by decide +kernel) (pa_cons (pe_op op_fdivN (pe_ix ix_list (pv 0) pe_int (fun _ _ => rfl)) pe_int) pa_nil)) (pv 1))))) pss_nil)
      (pss_cons (ps_set (i := 3) sc_law_taken.nd rfl (Or.inl rfl) (pe_ix ix_list (pe_ix ix_list (pv 0) pe_int (fun _ _ => rfl)) (pe_op op_sub (pe_ix ix_list (pv 0) pe_int (fun _ _ => rfl)) pe_int) (fun _ _ => rfl)))
      (pss_cons (ps_asg (pe_op op_modN (pe_callTy call_int1 (by rfl) B.int (by decide +kernel) (pa_cons (pe_op op_add (pe_op op_add (pe_op op_mul (pe_ix ix_list (pv 0) pe_int (fun _ _ => rfl)) pe_int) (pv 3)) pe_int) pa_nil)) pe_int) (pg_sub (pv 0) pe_int set_list))
      (pss_cons (ps_if (pt_cmpR op_ge (pv 3) (pe_op op_pow pe_int pe_int) (nomark _)) (pss_one (ps_asg (pe_op op_fdivN (pv 3) (pv 1)) (pg_sub (pv 0) pe_int set_list))) pss_nil)
      (pss_one (ps_ret (pe_op op_modN (pe_callTy call_int1 (by rfl) B.int (by decide +kernel) (pa_cons (pv 3) pa_nil)) (pv 1))))))))), ?_⟩
    have S0 : ∀ {H' : Hp} {xs : List V}, H' a = some (.lst xs) → SqL K H' a xs := fun e => SqL.of e
    refine ⟨_, rfl, a, _, _, _, rfl, rfl, S0 ha, at_of (j := 3) rfl rfl, _, _, rfl, rfl, _, rfl, ite2 (fun c => ?_) (fun c => ?_)⟩
    · -- a great cell's rest
      refine ⟨_, rfl, a, _, _, _, rfl, rfl, S0 ha, at_of (j := 3) rfl rfl, .inl ⟨_, rfl, _, rfl, _, _, rfl, rfl, by omega, ?_⟩⟩
      refine ⟨_, rfl, a, _, _, _, rfl, rfl, S0 ha, at_of (j := 3) rfl rfl, _, rfl, _, _, rfl, rfl, ⟨by omega, by omega⟩, ?_⟩
      refine ⟨_, rfl, a, _, _, 3, rfl, rfl, ha, ixN_of (j := 3) rfl (by show 3 < 4; decide), _, rfl, ?_⟩
      have e1 : gr.fmod many = gr % many := fmod_nn (by omega)
      exact q _ _ (by rw [e1]; exact Int.emod_nonneg _ (by omega)) (by rw [e1]; exact Int.emod_lt_of_pos _ (by omega)) (ExB.at (ExB.refl a H)) (row0_new na hs hi hs0 hs1)
    · refine ⟨_, rfl, a, _, _, _, rfl, rfl, S0 ha, at_of (j := 1) rfl rfl, _, _, rfl, rfl, ?_⟩
      refine ⟨_, rfl, a, _, _, 1, rfl, rfl, ha, ixN_of (j := 1) rfl (by show 1 < 4; decide), ?_⟩
      have hb : ExB a H (upd H a (.lst [.ref sc, .int (i + 1), .int sd, .int gr])) := ExB.at (ExB.refl a H)
      have hs2 := sql_o hb na hs
      refine ⟨_, rfl, a, _, _, _, rfl, rfl, S0 upd_same, at_of (j := 1) rfl rfl, ?_⟩
      refine ⟨_, rfl, a, _, _, _, rfl, rfl, S0 upd_same, at_of (j := 0) rfl rfl, sc, _, rfl, .inl hs2, _, _, rfl, rfl, _, rfl, ite2 (fun d => ?_) (fun d => ?_)⟩
      · refine ⟨_, rfl, a, _, _, _, rfl, rfl, S0 upd_same, at_of (j := 2) rfl rfl, _, _, rfl, rfl, .inr ⟨by decide, by decide⟩, _, _, rfl, rfl, .inl ⟨_, rfl, _, _, rfl, rfl, (by show (2147483647 : Int) ≠ 0; decide), ?_⟩⟩
        refine ⟨_, rfl, a, _, _, 2, rfl, rfl, upd_same, ixN_of (j := 2) rfl (by show 2 < 4; decide), ?_⟩
        rw [upd_upd]
        refine ⟨_, rfl, a, _, _, _, rfl, rfl, S0 upd_same, at_of (j := 2) rfl rfl, _, _, rfl, rfl, ⟨by decide, by decide⟩, .inl ⟨_, rfl, _, rfl, _, _, rfl, rfl, by omega, ?_⟩⟩
        have e1 : ((sd * 48271 + 11).fmod 2147483647) = (sd * 48271 + 11) % 2147483647 := fmod_nn (by decide)
        have e2 : (((sd * 48271 + 11).fmod 2147483647).fdiv 7).fmod many = (((sd * 48271 + 11).fmod 2147483647).fdiv 7) % many := fmod_nn (by omega)
        have m0 := Int.emod_nonneg (sd * 48271 + 11) (show (2147483647 : Int) ≠ 0 by decide)
        have m1 := Int.emod_lt_of_pos (sd * 48271 + 11) (show (0 : Int) < 2147483647 by decide)
        exact q _ _ (by rw [e2]; exact Int.emod_nonneg _ (by omega)) (by rw [e2]; exact Int.emod_lt_of_pos _ (by omega)) (ExB.at (ExB.refl a H)) (row0_new na hs (by omega) (by rw [e1]; exact m0) (by rw [e1]; exact m1))
      · have d' : ¬ (((ns.map V.int).length : Int) < i + 1) := fun z => d (decide_eq_true z)
        rw [List.length_map] at d'
        have hj : i.toNat < ns.length := by omega
        have ej : i + 1 - 1 = ((i.toNat : Nat) : Int) := by omega
        refine ⟨_, rfl, a, _, _, _, rfl, rfl, S0 upd_same, at_of (j := 0) rfl rfl, _, rfl, a, _, _, _, rfl, rfl, S0 upd_same, at_of (j := 1) rfl rfl, _, _, rfl, rfl, sc, _, _, .int ns[i.toNat], rfl, rfl, hs2, at_of ej (by rw [List.getElem?_map, List.getElem?_eq_getElem hj]; rfl), ?_⟩
        generalize ns[i.toNat] = cell
        refine ⟨_, rfl, a, _, _, _, rfl, rfl, S0 upd_same, at_of (j := 2) rfl rfl, _, _, rfl, rfl, .inr ⟨by decide, by decide⟩, _, rfl, _, _, rfl, rfl, _, _, rfl, rfl, .inl ⟨_, rfl, _, _, rfl, rfl, (by show (2147483647 : Int) ≠ 0; decide), ?_⟩⟩
        refine ⟨_, rfl, a, _, _, 2, rfl, rfl, upd_same, ixN_of (j := 2) rfl (by show 2 < 4; decide), ?_⟩
        rw [upd_upd]
        have e1 : ((sd * 48271 + cell + 11).fmod 2147483647) = (sd * 48271 + cell + 11) % 2147483647 := fmod_nn (by decide)
        have m0 := Int.emod_nonneg (sd * 48271 + cell + 11) (show (2147483647 : Int) ≠ 0 by decide)
        have m1 := Int.emod_lt_of_pos (sd * 48271 + cell + 11) (show (0 : Int) < 2147483647 by decide)
        have e2 : cell.fmod many = cell % many := fmod_nn (by omega)
        have c0 := Int.emod_nonneg cell (show many ≠ 0 by omega)
        have c1 := Int.emod_lt_of_pos cell (show 0 < many by omega)
        refine ⟨_, rfl, _, _, rfl, rfl, ⟨by decide, by decide, by decide⟩, _, _, rfl, rfl, _, rfl, ite2 (fun k => ?_) (fun k => ?_)⟩
        · refine ⟨_, rfl, _, rfl, _, _, rfl, rfl, ⟨by omega, by omega⟩, ?_⟩
          refine ⟨_, rfl, a, _, _, 3, rfl, rfl, upd_same, ixN_of (j := 3) rfl (by show 3 < 4; decide), ?_⟩
          rw [upd_upd]
          refine ⟨_, rfl, .inl ⟨_, rfl, _, rfl, _, _, rfl, rfl, by omega, ?_⟩⟩
          exact q _ _ (by rw [e2]; exact c0) (by rw [e2]; exact c1) (ExB.at (ExB.refl a H)) (row0_new na hs (by omega) (by rw [e1]; exact m0) (by rw [e1]; exact m1))
        · refine ⟨_, rfl, .inl ⟨_, rfl, _, rfl, _, _, rfl, rfl, by omega, ?_⟩⟩
          exact q _ _ (by rw [e2]; exact c0) (by rw [e2]; exact c1) (ExB.at (ExB.refl a H)) (row0_new na hs (by omega) (by rw [e1]; exact m0) (by rw [e1]; exact m1))
def spPick (K : PySem.W.Frag) : Sp := fun vs H Q _ => ∃ (a t sc : Addr) (ns : List Int) (xs : List V), vs = [.ref a, .ref t] ∧ Row0 K a sc ns H ∧ t ≠ a ∧ SqL K H t xs ∧ 1 ≤ xs.length ∧ xs.length ≤ 1000 ∧ ∀ (j : Nat) (v : V) H', xs[j]? = some v → ExB a H H' → Row0 K a sc ns H' → Q v H'
theorem ok_pick {f : Addr} {fd : FuncData} (B : Bare mg) (F : Fun K "_law_pick" "_law_pick" s_law_pick f fd) (Gt : Got P w K mg base CX0 1 "_law_taken" p_law_taken (spTaken K)) : FnOk P w K mg base CX0 2 f fd p_law_pick (spPick K) := by
  refine F.ok sc_law_pick (fun vs H Q E h => ?_) (fun cdv A outer s H vs Q E hr h => ?_)
  · obtain ⟨a, t, sc, ns, xs, rfl, _⟩ := h
    rfl
  · obtain ⟨a, t, sc, ns, xs, rfl, ha, nt, ht, h1, h2, q⟩ := h
    refine ⟨_, pss_one (ps_ret (pe_ix ix_list (pv 1) (pe_got Gt hr pass0 (pa_cons (pv 0) (pa_cons (pe_callB call_len_seq (by rfl) B.len PySem.boot_len (pa_cons (pv 1) pa_nil)) pa_nil))) (fun _ _ => rfl))), ?_⟩
    refine ⟨_, rfl, _, rfl, _, rfl, t, xs, rfl, .inl ht, a, sc, ns, _, rfl, ha, by omega, by omega, fun r H' r0 r1 e hr' => ?_⟩
    have hj : r.toNat < xs.length := by omega
    exact ⟨t, xs, r, xs[r.toNat], rfl, rfl, sql_b e nt ht, at_of (j := r.toNat) (by omega) (List.getElem?_eq_getElem hj), q _ _ _ (List.getElem?_eq_getElem hj) e hr'⟩
/-- a comprehension over a range in which the drawer's row turns -/
theorem lc_row {a sc : Addr} {ns : List Int} {n : Nat} {g : TG} {tt : TT} {te : TE} {vs : List Nat} {σ : L2.St} {H : Hp} {Qd : Addr → Hp → Prop} (hn : n ≤ 40000) (h0 : Row0 K a sc ns H) (R : V → Hp → Prop) (stb : Stb R)
    (turn : ∀ i x H1, i < n → x = .int (0 + (i : Int)) → ExB a H H1 → Row0 K a sc ns H1 → ∀ (C : V → Hp → Prop) (N : Hp → Prop), (∀ y H3, ExB a H1 H3 → Row0 K a sc ns H3 → R y H3 → C y H3) →
      g x (wipe σ vs) H1 fun σ2 H2' => wipe σ2 vs = wipe σ vs ∧ tt σ2 H2' fun b H3 => if b = true then te σ2 H3 C else N H3)
    (q : ∀ D ys H', H D = none → ExB a H H' → Row0 K a sc ns H' → H' D = some (.lst ys) → ys.length = n → (∀ y ∈ ys, R y H') → Qd D H') :
    ∀ D, H D = none → ∃ W : Nat → Nat → Hp → Prop, (∃ m, W 0 m (upd H D (.lst []))) ∧ ∀ i m H, W i m H →
      ((Itr 0 n).stop i H ∧ Qd D H) ∨ ((Itr 0 n).go i H ∧ ∃ Nx : Hp → Prop, (∀ H', Nx H' → ∃ m', m' < m ∧ W (i + 1) m' H') ∧ ∀ x H', (Itr 0 n).yld i H x H' → g x (wipe σ vs) H' fun σ2 H2 => wipe σ2 vs = wipe σ vs ∧ tt σ2 H2 fun b H3 =>
        if b = true then te σ2 H3 fun y H4 => ∃ acc, H4 D = some (.lst acc) ∧ acc.length < sizeLine ∧ Nx (upd H4 D (.lst (acc ++ [y]))) else Nx H3) := by
  intro D hD
  have haD : D ≠ a := fun z => by
    obtain ⟨i, sd, gr, h1, _⟩ := h0
    rw [z, h1] at hD
    cases hD
  have keep : ∀ {H1 : Hp} {o : HO}, ExB a H H1 → Row0 K a sc ns H1 → Row0 K a sc ns (upd H1 D o) := fun {H1 o} e hr => by
    obtain ⟨i, sd, gr, h1, h2, h3, h4⟩ := hr
    obtain ⟨_, _, _, _, n0, s0, _⟩ := h0
    exact ⟨i, sd, gr, by rw [upd_ne haD.symm]; exact h1, h2, sql_o (ExB.new e hD) n0 s0, h4⟩
  refine lc_it (walk_range (lo := 0) (n := n)) (Qd := Qd D) (fun i H' => ExB a H H' ∧ Row0 K a sc ns H' ∧ ∃ ys, H' D = some (.lst ys) ∧ ys.length = i ∧ ∀ y ∈ ys, R y H') ⟨ExB.new (ExB.refl a H) hD, keep (ExB.refl a H) h0, [], upd_same, rfl, by simp⟩
    (fun _ _ _ _ => trivial) (fun i x H1 H2 hi p y => ?_) fun H' p => ?_
  · obtain ⟨e1, hr1, ys, hy, hl, hR⟩ := p
    obtain ⟨rfl, ex⟩ := y
    refine turn i x H2 hi ex e1 hr1 _ _ fun y H3 e3 hr3 r => ?_
    have h3 := e3 D _ haD hy
    have up : ExN H3 (upd H3 D (.lst (ys ++ [y]))) := fun b o h nl => by
      rw [upd_ne (fun z => by rw [z, h3] at h; exact nl ys (Option.some.inj h).symm)]
      exact h
    refine ⟨ys, h3, _root_.Evl.sz_lt (by omega), ExB.new (e1.trans e3) hD, keep (e1.trans e3) hr3, ys ++ [y], upd_same, by rw [List.length_append, List.length_singleton, hl], fun z hz => ?_⟩
    rcases List.mem_append.mp hz with hz | hz
    · exact stb _ _ _ up (stb _ _ _ (Row0.n hr1 e3) (hR z hz))
    · rw [List.mem_singleton.mp hz]
      exact stb _ _ _ up r
  · obtain ⟨e1, hr1, ys, hy, hl, hR⟩ := p
    exact q D ys H' hD e1 hr1 hy hl hR
end
end K01


set_option Elab.async false
set_option linter.all false
set_option maxRecDepth 100000
set_option maxHeartbeats 4000000
/-! a tuple times 1 is itself -/
namespace K01
open PySem PySem.Spec PyProof.Rows L2
theorem tup_mul1 (l : Addr) (items : Array Value) (n : Nat) (dd : Option Addr) (sl : Array (Option Value)) (u : Tok) :
    Meets (Builtin.«tuple.__mul__» ⟨[.ref l, .int 1 u], []⟩) (fun _ R s => s.heap.get? l = some { cls := .type "tuple", dict := dd, data := .seq items n, slots := sl } ∧ R (.ok (.ret (Value.ref l))) s) :=
  .of_wp fun prog w A R s hh => by
    obtain ⟨hp, gg, dd0, tt, oo⟩ := s
    obtain ⟨hl, hR⟩ := hh
    have ff := AutoSeq1.idx_int
    wp_walk using wpAny_loadPart' hl
    all_goals first | exact ⟨_, rfl, hR⟩ | skip
/-- a tuple times 1 up to 1000 -/
def rRepA (K : PySem.W.Frag) : R2 := fun x y H Q => ∃ l k xs, x = .ref l ∧ y = .int k ∧ SqT K H l xs ∧ xs ≠ [] ∧ 1 ≤ k ∧ k ≤ 1000 ∧ xs.length ≤ 1000 ∧ ∀ p H', Ex H H' → SqT K H' p (List.replicate k.toNat xs).flatten → Q (.ref p) H'
theorem op_repA {X : Cx} : OpR X (binaryOp .Mult) (rRepA X.K) := by
  intro pins s σ H x y v u Q I rx ry hh
  obtain ⟨l, k, xs, rfl, rfl, hT, hne, h1, h2, hz, q⟩ := hh
  by_cases hk : 2 ≤ k
  · exact op_repT pins s σ H _ _ v u Q I rx ry ⟨l, k, xs, rfl, rfl, hT, hne, hk, h2, hz, fun p hp => q p _ (_root_.Evl.Ex.new hp) (SqT.of upd_same)⟩
  · have e : k = 1 := by omega
    subst e
    cases rx
    obtain ⟨t, rfl⟩ := ry
    obtain ⟨its, r, ⟨⟨cls, dd, data, sl⟩, ho, hc, n, hd⟩, hs⟩ := I.tuple hT
    simp only at hc hd
    subst hc hd
    refine wpAny_binaryOp_repeat_ref (T := "tuple") (U := "int") (by decide) ⟨_, ho, rfl⟩ (fun s' => typeIs_int s' 1 t) noFill_tuple_mul F.fills_int_mul F.slot_int_rmul repeat_tuple F.slot_int_index.lookup
      (call_meets F.slot_int_rmul (typeIs_int s 1 t) F.entry_int_rmul (F.args_int_rmul_2 _ _) (int_rmul_tuple 1 t l its.toArray n dd sl)
        ⟨ho, rfl, ⟨_, ho, rfl⟩, call_meets F.slot_tuple_mul ⟨_, ho, rfl⟩ F.entry_tuple_mul (F.args_tuple_mul_2 _ _) (tup_mul1 l its.toArray n dd sl t) ⟨ho, ?_⟩⟩)
    refine ⟨.ref l, H, I, rfl, q l H (_root_.Evl.Ex.refl H) ?_⟩
    have : (List.replicate (1 : Int).toNat xs).flatten = xs := by simp
    rw [this]
    exact hT
end K01


set_option Elab.async false
set_option linter.all false
set_option maxRecDepth 100000
set_option maxHeartbeats 4000000
namespace K01
open PySem PySem.Spec PyProof.Rows L2
theorem ints_of_all {p : Int} : ∀ {ys : List V}, (∀ y ∈ ys, ∃ x : Int, y = .int x ∧ 0 ≤ x ∧ x < p) → ∃ r : Row, ys = r.map V.int ∧ ∀ x ∈ r, 0 ≤ x ∧ x < p
  | [], _ => ⟨[], rfl, by simp⟩
  | y :: l, h => by
    obtain ⟨x, rfl, hx⟩ := h y List.mem_cons_self
    obtain ⟨r, e, hr⟩ := ints_of_all fun z hz => h z (List.mem_cons_of_mem _ hz)
    exact ⟨x :: r, by rw [e]; rfl, fun z hz => by
      rcases List.mem_cons.mp hz with q | q
      · rw [q]; exact hx
      · exact hr z q⟩
section
variable {P : Program} {w : World} {K : PySem.W.Frag} {mg : Str → Option Value} {base : Heap}
def spRow (K : PySem.W.Frag) : Sp := fun vs H Q _ => ∃ (a sc : Addr) (ns : List Int) (p : Int) (n : Nat), vs = [.ref a, .int p, .int (n : Nat)] ∧ Row0 K a sc ns H ∧ 1 < p ∧ p ≤ 100 ∧ n ≤ 100 ∧ ∀ v H', ExB a H H' → Row0 K a sc ns H' → (∃ r, RowT K r v H' ∧ Lin.OkR p n r) → Q v H'
theorem ok_row {f : Addr} {fd : FuncData} (B : Bare mg) (F : Fun K "_law_row" "_law_row" s_law_row f fd) (Gt : Got P w K mg base CX0 1 "_law_taken" p_law_taken (spTaken K)) : FnOk P w K mg base CX0 2 f fd p_law_row (spRow K) := by
  refine F.ok sc_law_row (fun vs H Q E h => ?_) (fun cdv A outer s H vs Q E hr h => ?_)
  · obtain ⟨a, sc, ns, p, n, rfl, _⟩ := h
    rfl
  · obtain ⟨a, sc, ns, p, n, rfl, ha, h1, h2, hn, q⟩ := h
    refine ⟨_, pss_one (ps_ret (pe_callTy call_tuple_of (by rfl) B.tuple (by decide +kernel) (pa_cons (pe_lc (own := [("place", 3)]) (g := gName 3) (tt := tYes) rfl sc_law_row.nd (pi_range1 rfl B.range (pa_cons (pv 2) pa_nil)) (blkOk_by (N := n_law_row) (sc := defScope s_law_row) (by decide +kernel))
      (fun _ _ _ _ _ => pg_name (i := 3) sc_law_row.nd rfl (Or.inl rfl)) (fun _ _ _ _ _ => pts_nil)
      (fun _ _ _ _ _ => pe_ifExp (pt_cmpR op_gt (pe_got Gt hr pass0 (pa_cons (pv 0) (pa_cons pe_int pa_nil))) pe_int (nomark _)) (pe_got Gt hr pass0 (pa_cons (pv 0) (pa_cons (pv 1) pa_nil))) pe_int)) pa_nil))), ?_⟩
    refine ⟨_, rfl, _, rfl, by omega, by omega, ?_⟩
    refine lc_row (a := a) (n := (n : Int).toNat) (by omega) ha (fun y _ => ∃ x : Int, y = .int x ∧ 0 ≤ x ∧ x < p) (fun _ _ _ _ h => h) (fun i x H1 hi ex e1 hr1 C N hC => ?_) fun D ys H' nD e hr' hD hl hy => ?_
    · subst ex
      refine ⟨rfl, yes_go ⟨_, rfl, a, sc, ns, 3, rfl, hr1, by decide, by decide, fun z H2 z0 z1 e2 hr2 => ?_⟩⟩
      refine ⟨_, _, rfl, rfl, _, rfl, ite2 (fun c => ?_) (fun c => ?_)⟩
      · refine ⟨_, rfl, _, rfl, a, sc, ns, p, rfl, hr2, by omega, by omega, fun z2 H3 y0 y1 e3 hr3 => hC _ _ (e2.trans e3) hr3 ⟨z2, rfl, y0, y1⟩⟩
      · exact hC _ _ e2 hr2 ⟨0, rfl, by omega, by omega⟩
    · obtain ⟨r, er, hr⟩ := ints_of_all hy
      subst er
      refine ⟨D, _, rfl, .inl ⟨SqL.of hD, fun l nl => ?_⟩⟩
      refine q _ _ (ExB.lay e nl) (hr'.ex (_root_.Evl.Ex.new nl)) ⟨r, RowT.new upd_same, ?_, hr⟩
      rw [List.length_map] at hl
      omega
def spSize : Sp := fun vs H Q _ => ∃ (p : Int) (k : Nat), vs = [.int p, .int ((p.toNat ^ k : Nat) : Int)] ∧ 1 < p ∧ p ≤ 100 ∧ k ≤ 20 ∧ Ret (IsV (.int (k : Nat))) H Q
/-- rows in a list of the heap -/
def RowsH (K : PySem.W.Frag) (rs : List Row) (v : V) (H : Hp) : Prop := ∃ l xs, v = .ref l ∧ H l = some (.lst xs) ∧ Paired (fun x r => RowT K r x H) xs rs
theorem RowsH.ex {rs : List Row} {v : V} {H H' : Hp} (e : Ex H H') (h : RowsH K rs v H) : RowsH K rs v H' := by
  obtain ⟨l, xs, z, h1, p⟩ := h
  exact ⟨l, xs, z, e _ _ h1, pr_mono p fun _ _ x => x.ex e⟩
theorem RowsH.l {rs : List Row} {v : V} {H : Hp} (h : RowsH K rs v H) : RowsL K rs v H := by
  obtain ⟨l, xs, z, h1, p⟩ := h
  exact ⟨l, xs, z, SqL.of h1, p⟩
theorem rowsH_cat {rs rs' : List Row} {v v' : V} {H : Hp} {Q : VK} (h : RowsH K rs v H) (h' : RowsH K rs' v' H) (hz : rs.length + rs'.length ≤ 10000) (k : ∀ z H', Ex H H' → RowsH K (rs ++ rs') z H' → Q z H') : rCat v v' H Q := by
  obtain ⟨l, xs, rfl, h1, p⟩ := h
  obtain ⟨l', xs', rfl, h1', p'⟩ := h'
  refine ⟨l, l', xs, xs', rfl, rfl, h1, h1', ?_, fun t nt => ?_⟩
  · rw [pr_len p, pr_len p']
    exact Nat.le_trans hz (by decide)
  · have e : Ex H (upd H t (.lst (xs ++ xs'))) := _root_.Evl.Ex.new nt
    exact k _ _ e ⟨t, _, rfl, upd_same, pr_app (pr_mono p fun _ _ x => x.ex e) (pr_mono p' fun _ _ x => x.ex e)⟩
theorem rowsH_new {ys : List V} {rs : List Row} {D : Addr} {H : Hp} (hD : H D = some (.lst ys)) (hy : Paired (fun y r => RowT K r y H) ys rs) : RowsH K rs (.ref D) H := ⟨D, ys, rfl, hD, hy⟩
def spRows (K : PySem.W.Frag) : Sp := fun vs H Q _ => ∃ (p : Int) (n : Nat), vs = [.int p, .int (n : Nat)] ∧ 1 < p ∧ p ≤ 100 ∧ n ≤ 100 ∧ p.toNat ^ n ≤ 1000 ∧ Ret (RowsL K (Lin.allRows p n)) H Q
theorem take_flat {α β : Type} {xs : List α} {f : α → List β} {i : Nat} {x : α} (h : xs[i]? = some x) : (xs.take (i + 1)).flatMap f = (xs.take i).flatMap f ++ f x := by
  rw [List.take_add_one, h, List.flatMap_append]
  simp
theorem flat_take_len {α β : Type} (xs : List α) (f : α → List β) (i : Nat) : ((xs.take i).flatMap f).length ≤ (xs.flatMap f).length := by
  have e : xs = xs.take i ++ xs.drop i := (List.take_append_drop i xs).symm
  conv => rhs; rw [e, List.flatMap_append, List.length_append]
  omega
end
end K01


set_option Elab.async false
set_option linter.all false
set_option maxRecDepth 100000
set_option maxHeartbeats 4000000
namespace K01
open PySem PySem.Spec PyProof.Rows L2
def rowD (r : Row) : PyData := .tuple (r.map PyData.int)
theorem rowD_shaped (r : Row) : SeqAt.shaped (rowD r) = true := by
  simp [rowD, SeqAt.shaped, PyData.canLay0, PyData.depth, PySem.W.ke_canLayAll0, PySem.W.ke_depthAll]
theorem rowsD_lay : ∀ rs : List Row, PyData.canLayAll0 (rs.map rowD) = true
  | [] => rfl
  | r :: l => by simp [PyData.canLayAll0, rowD, PyData.canLay0, PySem.W.ke_canLayAll0, rowsD_lay l]
theorem rowsD_depth : ∀ rs : List Row, PyData.depthAll (rs.map rowD) ≤ 1
  | [] => by simp [PyData.depthAll]
  | r :: l => by
    have := rowsD_depth l
    simp only [List.map_cons, PyData.depthAll, rowD, PyData.depth, PySem.W.ke_depthAll]
    omega
theorem rowsD_shaped (rs : List Row) : SeqAt.shaped (.list (rs.map rowD)) = true := by
  have := rowsD_depth rs
  unfold SeqAt.shaped
  rw [PyData.canLay0, PyData.depth, rowsD_lay, Bool.true_and, decide_eq_true_eq]
  omega
theorem rowsD_any (one : Row) : ∀ rs : List Row, (rs.map rowD).any (fun z => PyData.eqv z (rowD one)) = decide (one ∈ rs)
  | [] => by simp
  | r :: l => by
    have e : PyData.eqv (rowD r) (rowD one) = decide (r = one) := by
      unfold rowD
      rw [PyData.eqv, PySem.W.ked_eqvAll]
    rw [List.map_cons, List.any_cons, rowsD_any one l, e]
    by_cases h : r = one <;> by_cases h2 : one ∈ l <;> simp [h, h2]
    exact fun z => h z.symm
theorem pr_perm {α β : Type} {F : α → β → Prop} {xs : List α} {rs : List β} (h : Paired F xs rs) {ys : List α} (p : ys.Perm xs) : ∃ ss : List β, Paired F ys ss ∧ ss.Perm rs := by
  induction p generalizing rs with
  | nil => cases h; exact ⟨[], .nil, .nil⟩
  | cons a _ ih =>
    cases h with
    | cons r t =>
      obtain ⟨ss, h1, h2⟩ := ih t
      exact ⟨_, .cons r h1, h2.cons _⟩
  | swap a b l =>
    cases h with
    | cons r t =>
      cases t with
      | cons r2 t2 => exact ⟨_, .cons r2 (.cons r t2), .swap _ _ _⟩
  | trans p1 p2 ih1 ih2 =>
    obtain ⟨s2, h1, h2⟩ := ih2 h
    obtain ⟨s1, h3, h4⟩ := ih1 h1
    exact ⟨s1, h3, h4.trans h2⟩
section
variable {P : Program} {w : World} {K : PySem.W.Frag} {mg : Str → Option Value} {base : Heap}
theorem dpAll_ints {H : Hp} : ∀ ns : List Int, DpAll K H (ns.map V.int) (ns.map PyData.int)
  | [] => .nil
  | n :: l => .cons (.int _) (dpAll_ints l)
theorem rowD_dp {r : Row} {v : V} {H : Hp} (h : RowT K r v H) : Dp K H v (rowD r) := by
  obtain ⟨a, rfl, hq⟩ := h
  exact .tup hq (dpAll_ints r)
theorem rowsD_dp {rs : List Row} {xs : List V} {H : Hp} (h : Paired (fun x r => RowT K r x H) xs rs) : DpAll K H xs (rs.map rowD) := by
  induction h with
  | nil => exact .nil
  | cons r _ ih => exact .cons (rowD_dp r) ih
theorem flat_one (n : Nat) : (List.replicate n [V.int 0]).flatten = (Lin.zero n).map V.int := by
  unfold Lin.zero
  induction n with
  | zero => rfl
  | succ n ih => rw [List.replicate_succ, List.flatten_cons, ih, List.replicate_succ, List.map_cons]; rfl
def LotL (K : PySem.W.Frag) (p : Int) (n : Nat) (R : List Row) (v : V) (H : Hp) : Prop := ∃ L, RowsL K L v H ∧ Lin.Lot p n R L
def spSpan (K : PySem.W.Frag) : Sp := fun vs H Q _ => ∃ (p : Int) (n : Nat) (v : V) (R : List Row), vs = [.int p, v, .int (n : Nat)] ∧ RowsT K R v H ∧ 1 < p ∧ p ≤ 100 ∧ 1 ≤ n ∧ n ≤ 100 ∧ p.toNat ^ n < 64 ∧ Lin.Prm p ∧ Lin.Oks p n R ∧ Ret (LotL K p n R) H Q
theorem lot_small {p : Int} {n : Nat} {R L : List Row} (hp : 1 < p) (hn : p.toNat ^ n < 64) (o : Lin.Oks p n R) (l : Lin.Lot p n R L) : L.length < 64 ∧ ∀ r ∈ L, Lin.OkR p n r := by
  have ok : ∀ r ∈ L, Lin.OkR p n r := fun r hr => ((l.mem r).1 hr).ok (by omega) o
  refine ⟨?_, ok⟩
  have := Lin.nd_len (ys := Lin.allRows p n) l.nd fun r hr => (Lin.mem_all (by omega)).2 (ok r hr)
  rw [Lin.all_len] at this
  omega
theorem un65 {k : Nat} {A : Around} (r : Room k A) : A.units + 65 < cLine := by have := r.un; omega
end
end K01


set_option Elab.async false
set_option linter.all false
set_option maxRecDepth 100000
set_option maxHeartbeats 4000000
namespace K01
open PySem PySem.Spec PyProof.Rows L2
theorem ones_eq (xs : List V) (n : Nat) (h : xs = List.replicate n (V.int 1)) : xs = (List.replicate n (1 : Int)).map V.int := by
  rw [h, List.map_replicate]
theorem eqv_nil (ns : List Int) : PyData.eqv (.list (ns.map PyData.int)) (.list []) = decide (ns = []) := by
  rw [PyData.eqv]
  exact PySem.W.ked_eqvAll ns []
theorem pr_const {α β : Type} {F : α → β → Prop} {c : α} {xs : List α} {ys : List β} (h : Paired F xs ys) (i : ∀ a b, F a b → a = c) : xs = List.replicate ys.length c := by
  induction h with
  | nil => rfl
  | cons r _ ih => rw [i _ _ r, ih]; rfl
theorem flat_le {α β : Type} {xs : List α} {f : α → List β} {k : Nat} (h : ∀ x ∈ xs, (f x).length ≤ k) : (xs.flatMap f).length ≤ xs.length * k := by
  induction xs with
  | nil => simp
  | cons a l ih =>
    have h1 := h a List.mem_cons_self
    have h2 := ih fun x hx => h x (List.mem_cons_of_mem _ hx)
    rw [List.flatMap_cons, List.length_append, List.length_cons, Nat.succ_mul]
    omega
section
variable {P : Program} {w : World} {K : PySem.W.Frag} {mg : Str → Option Value} {base : Heap}
def LawStair (K : PySem.W.Frag) (L : List Row) (v : V) (H : Hp) : Prop := ∃ leads : List Nat, leads.Pairwise (· < ·) ∧ (∀ a, a ∈ leads ↔ a ∈ (Lin.lawRows L).map Lin.lead) ∧ RowsT K (Lin.lawStairs leads L) v H
def spLStairs (K : PySem.W.Frag) : Sp := fun vs H Q _ => ∃ (p : Int) (n : Nat) (v : V) (L : List Row), vs = [.int p, v] ∧ RowsL K L v H ∧ 1 < p ∧ p ≤ 100 ∧ 1 ≤ n ∧ n ≤ 100 ∧ L.length < 64 ∧ (∀ r ∈ L, Lin.OkR p n r) ∧ Ret (LawStair K L) H Q
end
end K01


set_option Elab.async false
set_option linter.all false
set_option maxRecDepth 100000
set_option maxHeartbeats 4000000
namespace K01
open PySem PySem.Spec PyProof.Rows L2
/-- data of one shape and one content: whole numbers, tuples of such -/
def AlikeV (K : PySem.W.Frag) : Nat → V → V → Hp → Prop
  | 0, x, y, _ => ∃ i : Int, x = .int i ∧ y = .int i
  | k + 1, x, y, H => (∃ i : Int, x = .int i ∧ y = .int i) ∨ ∃ a b xs ys, x = .ref a ∧ y = .ref b ∧ SqT K H a xs ∧ SqT K H b ys ∧ xs.length = ys.length ∧ ys.length ≤ 1000 ∧ ∀ (i : Nat) (u v : V), xs[i]? = some u → ys[i]? = some v → AlikeV K k u v H
theorem AlikeV.ex {K : PySem.W.Frag} {H H' : Hp} (e : Ex H H') : ∀ {k : Nat} {x y : V}, AlikeV K k x y H → AlikeV K k x y H'
  | 0, _, _, h => h
  | k + 1, _, _, h => by
    rcases h with h | ⟨a, b, xs, ys, h1, h2, h3, h4, h5, h6, h7⟩
    · exact .inl h
    · exact .inr ⟨a, b, xs, ys, h1, h2, _root_.Evl.ex_t e h3, _root_.Evl.ex_t e h4, h5, h6, fun i u v e1 e2 => AlikeV.ex e (h7 i u v e1 e2)⟩
def spAlike (K : PySem.W.Frag) (k : Nat) : Sp := fun vs H Q _ => ∃ x y, vs = [x, y] ∧ AlikeV K k x y H ∧ Ret (IsV (.bl true)) H Q
def spA (K : PySem.W.Frag) : Nat → Sp
  | 0 => fun _ _ _ _ => False
  | k + 1 => spAlike K k
section
variable {P : Program} {w : World} {K : PySem.W.Frag} {mg : Str → Option Value} {base : Heap}
theorem any_int : PySem.W.kitAny K (.type "int") [.type "tuple", .type "list"] = some false := kitAny_cons (b := false) (kit_ty (by decide +kernel)) (fun _ => kitAny_cons (b := false) (kit_ty (by decide +kernel)) (fun _ => kitAny_nil) (fun z => nomatch z)) (fun z => nomatch z)
theorem any_tup : PySem.W.kitAny K (.type "tuple") [.type "tuple", .type "list"] = some true := kitAny_cons (b := true) (kit_ty (by decide +kernel)) (fun z => nomatch z) (fun _ => rfl)
theorem ok_alike0 {f : Addr} {fd : FuncData} : FnOk P w K mg base CX0 0 f fd p_law_alike (spA K 0) := ⟨fun _ _ _ _ h => h.elim, fun _ _ _ _ _ _ _ _ _ _ _ _ _ h => h.elim⟩
theorem ok_alike {f : Addr} {fd : FuncData} (B : Bare mg) (F : Fun K "_law_alike" "_law_alike" s_law_alike f fd) (k : Nat) (Gs : Got P w K mg base CX0 k "_law_alike" p_law_alike (spA K k)) : FnOk P w K mg base CX0 (k + 1) f fd p_law_alike (spAlike K k) := by
  refine F.ok sc_law_alike (fun vs H Q E h => ?_) (fun cdv A outer s H vs Q E hr h => ?_)
  · obtain ⟨x, y, rfl, _⟩ := h
    rfl
  · obtain ⟨x, y, rfl, hal, q⟩ := h
    have hr1 : Room k _ := hr
    refine ⟨_, pss_cons (ps_if (pt_val (pe_callB call_isiT (by rfl) B.isinstance (by decide +kernel) (pa_cons (pv 1) (pa_cons (pe_tup (pa_cons (pe_bltn (v := .ty "tuple") (by rfl) B.tuple (by decide +kernel) rfl) (pa_cons (pe_bltn (v := .ty "list") (by rfl) B.list (by decide +kernel) rfl) pa_nil))) pa_nil))))
        (pss_cons (ps_if (PW.pt (pw_or (pt_not (pt_val (pe_callB call_isiT (by rfl) B.isinstance (by decide +kernel) (pa_cons (pv 0) (pa_cons (pe_tup (pa_cons (pe_bltn (v := .ty "tuple") (by rfl) B.tuple (by decide +kernel) rfl) (pa_cons (pe_bltn (v := .ty "list") (by rfl) B.list (by decide +kernel) rfl) pa_nil))) pa_nil)))))
            (pw_or1 (pt_cmpR op_ne (pe_callB call_isi (by rfl) B.isinstance (by decide +kernel) (pa_cons (pv 0) (pa_cons (pe_bltn (v := .ty "list") (by rfl) B.list (by decide +kernel) rfl) pa_nil))) (pe_callB call_isi (by rfl) B.isinstance (by decide +kernel) (pa_cons (pv 1) (pa_cons (pe_bltn (v := .ty "list") (by rfl) B.list (by decide +kernel) rfl) pa_nil))) rfl))))
            (pss_one (ps_ret pe_bl)) pss_nil)
        (pss_cons (ps_if (pt_cmpR op_ne (pe_callB call_len_seq (by rfl) B.len PySem.boot_len (pa_cons (pv 0) pa_nil)) (pe_callB call_len_seq (by rfl) B.len PySem.boot_len (pa_cons (pv 1) pa_nil)) rfl) (pss_one (ps_ret pe_bl)) pss_nil)
        (pss_one (ps_ret (pe_cmpR (op_eqD hr.units) (pe_lc (own := [("k", 2)]) (g := gName 2) rfl sc_law_alike.nd (pi_range1 rfl B.range (pa_cons (pe_callB call_len_seq (by rfl) B.len PySem.boot_len (pa_cons (pv 1) pa_nil)) pa_nil)) (blkOk_by (N := n_law_alike) (sc := defScope s_law_alike) (by decide +kernel)) (fun _ _ _ _ _ => pg_name (i := 2) sc_law_alike.nd rfl (Or.inl rfl))
          (fun _ _ _ _ _ => pts_one (pt_not (pt_val (pe_got Gs hr1 pass0 (pa_cons (pe_ix (show IxR _ (rIxT K) from ix_tup) (pv 0) (pv 2) (fun _ _ => rfl)) (pa_cons (pe_ix (show IxR _ (rIxT K) from ix_tup) (pv 1) (pv 2) (fun _ _ => rfl)) pa_nil)))))) (fun _ _ _ _ _ => pv 2)) (pe_lst pa_nil) (nomark _)))))) pss_nil)
      (pss_cons (ps_if (PW.pt (pw_or (pt_cmp (pc_isN (pv 1))) (pw_or1 (pt_val (pe_callB call_isi (by rfl) B.isinstance (by decide +kernel) (pa_cons (pv 1) (pa_cons (pe_bltn (v := .ty "str") (by rfl) B.str (by decide +kernel) rfl) pa_nil)))))))
        (pss_one (ps_ret (pe_and (pe_cmpR op_eq (pv 0) (pv 1) rfl) (pe_one (pe_cmpR op_eq (pe_callB call_isi (by rfl) B.isinstance (by decide +kernel) (pa_cons (pv 0) (pa_cons (pe_bltn (v := .ty "str") (by rfl) B.str (by decide +kernel) rfl) pa_nil))) (pe_callB call_isi (by rfl) B.isinstance (by decide +kernel) (pa_cons (pv 1) (pa_cons (pe_bltn (v := .ty "str") (by rfl) B.str (by decide +kernel) rfl) pa_nil))) rfl))))) pss_nil)
      (pss_one (ps_ret (pe_and (pe_callB call_isi (by rfl) B.isinstance (by decide +kernel) (pa_cons (pv 0) (pa_cons (pe_bltn (v := .ty "int") (by rfl) B.int (by decide +kernel) rfl) pa_nil)))
        (pe_and (pe_cmpR op_eq (pe_callB call_isi (by rfl) B.isinstance (by decide +kernel) (pa_cons (pv 0) (pa_cons (pe_bltn (v := .ty "bool") (by rfl) B.bool (by decide +kernel) rfl) pa_nil))) (pe_callB call_isi (by rfl) B.isinstance (by decide +kernel) (pa_cons (pv 1) (pa_cons (pe_bltn (v := .ty "bool") (by rfl) B.bool (by decide +kernel) rfl) pa_nil))) rfl)
          (pe_one (pe_cmpR op_eq (pv 0) (pv 1) rfl))))))), ?_⟩
    have hh : (∃ i : Int, x = .int i ∧ y = .int i) ∨ ∃ j a b xs ys, k = j + 1 ∧ x = .ref a ∧ y = .ref b ∧ SqT K H a xs ∧ SqT K H b ys ∧ xs.length = ys.length ∧ ys.length ≤ 1000 ∧ ∀ (i : Nat) (u v : V), xs[i]? = some u → ys[i]? = some v → AlikeV K j u v H := by
      cases k with
      | zero => exact .inl hal
      | succ j =>
        rcases hal with h | ⟨a, b, xs, ys, h⟩
        · exact .inl h
        · exact .inr ⟨j, a, b, xs, ys, rfl, h⟩
    have two : Paired ClsV [V.ty "tuple", V.ty "list"] [.type "tuple", .type "list"] := .cons (.ty _) (.cons (.ty _) .nil)
    rcases hh with ⟨i, rfl, rfl⟩ | ⟨j, a, b, xs, ys, rfl, rfl, rfl, ha, hb, hl, hz, hi⟩
    · refine ⟨_, rfl, (by show 2 ≤ sizeLine; decide), fun tp np => ?_⟩
      refine ⟨.int i, tp, _, .type "int", _, false, rfl, upd_same, two, .base (.int i), any_int, false, rfl, iteF ?_⟩
      refine ⟨_, rfl, _, rfl, iteF ?_⟩
      refine ⟨_, rfl, .int i, .ty "str", .type "int", .type "str", false, rfl, .ty _, .base (.int i), kit_ty (by decide +kernel), false, rfl, iteF ?_⟩
      refine ⟨_, rfl, .int i, .ty "int", .type "int", .type "int", true, rfl, .ty _, .base (.int i), kit_ty (by decide +kernel), _, rfl, iteT ?_⟩
      refine ⟨_, rfl, .int i, .ty "bool", .type "int", .type "bool", false, rfl, .ty _, .base (.int i), kit_ty (by decide +kernel), ?_⟩
      refine ⟨_, rfl, .int i, .ty "bool", .type "int", .type "bool", false, rfl, .ty _, .base (.int i), kit_ty (by decide +kernel), rfl, ?_⟩
      refine ⟨_, rfl, iteT ?_⟩
      refine ⟨_, rfl, _, rfl, rfl, ?_⟩
      exact q _ _ (_root_.Evl.Ex.new np) (by show V.bl _ = V.bl _; simp)
    · refine ⟨_, rfl, (by show 2 ≤ sizeLine; decide), fun tp np => ?_⟩
      have e1 : Ex H (upd H tp (.tup [.ty "tuple", .ty "list"])) := _root_.Evl.Ex.new np
      refine ⟨.ref b, tp, _, .type "tuple", _, true, rfl, upd_same, two, tyx_t (_root_.Evl.ex_t e1 hb), any_tup, true, rfl, iteT ?_⟩
      refine ⟨_, rfl, (by show 2 ≤ sizeLine; decide), fun tp2 np2 => ?_⟩
      have e2 : Ex (upd H tp (.tup [.ty "tuple", .ty "list"])) (upd (upd H tp (.tup [.ty "tuple", .ty "list"])) tp2 (.tup [.ty "tuple", .ty "list"])) := _root_.Evl.Ex.new np2
      have e12 := e1.trans e2
      refine ⟨.ref a, tp2, _, .type "tuple", _, true, rfl, upd_same, two, tyx_t (_root_.Evl.ex_t e12 ha), any_tup, true, rfl, iteF ?_⟩
      refine ⟨_, rfl, .ref a, .ty "list", .type "tuple", .type "list", false, rfl, .ty _, tyx_t (_root_.Evl.ex_t e12 ha), kit_ty (by decide +kernel), ?_⟩
      refine ⟨_, rfl, .ref b, .ty "list", .type "tuple", .type "list", false, rfl, .ty _, tyx_t (_root_.Evl.ex_t e12 hb), kit_ty (by decide +kernel), rfl, ?_⟩
      refine ⟨_, rfl, iteF ?_⟩
      refine ⟨_, rfl, a, xs, rfl, .inr (_root_.Evl.ex_t e12 ha), _, rfl, b, ys, rfl, .inr (_root_.Evl.ex_t e12 hb), rfl, _, rfl, ?_⟩
      refine ite2 (fun c => absurd (by rw [hl]) (dne c)) (fun _ => ?_)
      refine ⟨_, rfl, b, ys, rfl, .inr (_root_.Evl.ex_t e12 hb), _, rfl, by omega, by omega, ?_⟩
      refine lc_go (walk_range (lo := 0) (n := ((ys.length : Nat) : Int).toNat)) (by omega) (fun _ _ => trivial) (List.range ys.length) (by rw [List.length_range, Int.toNat_natCast]) (fun _ => false) (fun _ _ _ => True) (fun _ _ _ _ _ h => h) (fun i m x H3 H4 hn3 e3 yy C N hC hN => ?_) fun D zs H3 nD e3 hD hz0 => ?_
      · obtain ⟨rfl, ex⟩ := yy
        have ex' : x = V.int ((i : Nat) : Int) := ex.trans (by show V.int _ = V.int _; rw [Int.zero_add])
        subst ex'
        have hi0 : i < ys.length := by
          have := (List.getElem?_eq_some_iff.mp hn3).1
          rwa [List.length_range] at this
        have hi1 : i < xs.length := by omega
        refine ⟨rfl, _, rfl, _, rfl, a, xs, _, xs[i], rfl, rfl, _root_.Evl.ex_t (e12.trans e3) ha, at_of rfl (List.getElem?_eq_getElem hi1), _, rfl, _, rfl, b, ys, _, ys[i], rfl, rfl, _root_.Evl.ex_t (e12.trans e3) hb, at_of rfl (List.getElem?_eq_getElem hi0), xs[i], ys[i], rfl, (hi i _ _ (List.getElem?_eq_getElem hi1) (List.getElem?_eq_getElem hi0)).ex (e12.trans e3), fun z H5 e5 ez => ?_⟩
        cases (show z = _ from ez)
        exact ⟨_, rfl, hN rfl _ e5⟩
      · have hz1 : Paired (fun y d => True) zs ((List.range ys.length).filter fun _ => false) := hz0
        have l0 : zs.length = 0 := by
          rw [pr_len hz1]
          simp
        have : zs = [] := List.length_eq_zero_iff.mp l0
        subst this
        refine ⟨Nat.zero_le _, fun g1 ng1 => ?_⟩
        have e4 : Ex H3 (upd H3 g1 (.lst [])) := _root_.Evl.Ex.new ng1
        refine ⟨.list [], .list [], .lst (SqL.of (e4 _ _ hD)) .nil, .lst (SqL.of upd_same) .nil, rfl, rfl, ?_⟩
        exact q _ _ ((e12.trans e3).trans e4) rfl
end
end K01


set_option Elab.async false
set_option linter.all false
set_option maxRecDepth 100000
set_option maxHeartbeats 4000000
/-! try with several clauses 'except C as e', the one name e in all of them -/
namespace K01
open PySem PySem.Spec PyProof.Rows L2
/-- behind a suite the name at slot i stands no more -/
def offE (i : Nat) (D : Ends) : Ends := { nx := fun t G => D.nx (t.set i none) G, rt := D.rt, bk := fun t G => D.bk (t.set i none) G, ct := fun t G => D.ct (t.set i none) G }
abbrev Sui := Addr → Value → Option Addr → TS
def wEach (K : PySem.W.Frag) (i : Nat) (Wo : WX) (D : Ends) : List (Value × Sui) → WX
  | [] => Wo
  | (c, ts) :: r => fun cls d t G => ∃ b, PySem.W.exmOne K cls c = some b ∧ (b = true → ∀ a, G a = none → ts a cls d (offE i D) (t.set i (some (.ref a))) G) ∧ (b = false → wEach K i Wo D r cls d t G)
inductive EachOk (X : Cx) (n : Str) : List ExceptHandler → List (Value × Sui) → Prop
  | nil : EachOk X n [] []
  | cons {x : Str} {c : Value} {ts : Sui} {st0 : Stmt} {sts : List Stmt} {q1 q2 : Pos} {hs : List ExceptHandler} {l : List (Value × Sui)} (hc : Names X x c)
      (su : ∀ (a : Addr) (o : Obj) (cls : Value) (d : Option Addr) (pn : List (Addr × Obj)), Zc cls d o → (∃ vs, o.data = .fields vs) → PSs (X.suite a ((a, o) :: pn)) (st0 :: sts) (ts a cls d)) (r : EachOk X n hs l) :
      EachOk X n (.ExceptHandler (some (.Name x q1)) (some n) (st0 :: sts) q2 :: hs) ((c, ts) :: l)
section
variable {X : Cx} {bd : List Stmt} {hd0 : ExceptHandler} {hs : List ExceptHandler} {l : List (Value × Sui)} {pos : Pos} {tb : WX → TS} {Wo : WX} {i : Nat} {n : Str}
theorem ps_try_each (stk : X.stack = X.env :: X.outer) (frm : X.env.frame = some X.env.locals) (ndN : X.N.Nodup) (atI : X.N[i]? = some n) (lcl : X.env.kindOf n = some .local) (tk : Takes X Wo)
    (run : ∀ (W : WX) (pn : List (Addr × Obj)) (xe : Value → Shared → Prop), Takes (X.tr pn xe) W → PassesOwn (model X.prog X.w) X.A X.env xe → PSs (X.tr pn xe) bd (tb W)) (all : EachOk X n (hd0 :: hs) l) :
    PS X (.Try bd (hd0 :: hs) [] [] pos) (fun D t G => tb (wEach X.K i Wo D l) D t G) := by
  refine ⟨fun pins s t G D I hh => ?_⟩
  have okX := I.ok
  have frA : X.A.frames = some (X.env :: X.outer) := by rw [okX.frames, stk]
  refine wpAny_Try_except ?_
  refine wpAny_mono ((run (wEach X.K i Wo D l) (X.pn ++ pins) (fun e z₁ => wpAny (model X.prog X.w) X.A (noteFrame e X.env) (fun _ z₂ => wpAny (model X.prog X.w) X.A (setFlight e none) (fun _ z₃ =>
    wpAny (model X.prog X.w) X.A (handleBy e X.env (hd0 :: hs)) (SP X pins D) X.xe z₃) X.xe z₂) X.xe z₁) (fun u z xx => ?_) PassesOwn.looking).run [] s t G D (I.toTry _) hh) (fun fl z hsp => ?_) (fun e z he => he)
  · obtain ⟨a, B, sI, pins1, t1, G1, cls, d, rfl, J1, nb, up, sk, na, os, ag, ww⟩ := xx
    have J : Inv X pins t1 G1 sI := J1.ofTry okX
    have sk2 : Sky B (X.env :: X.outer) a (Zc cls d) X.env.locals z.heap := by rw [← stk]; exact sk
    show wpAny (model X.prog X.w) X.A (noteFrame (.ref a) X.env) _ _ _
    refine Sky.land Zc.steady frA frm sk2 fun k3 land3 up3 => ?_
    have K3 : Inv X pins t1 G1 { z with heap := k3 } := J.landed nb land3.1 (up.trans up3) os ag
    obtain ⟨o3, v3, g3, z3, d3⟩ := land3.there
    have out : ∀ {k : Heap} {o : Obj} {vs : Array Value}, k.FunFrames B (X.env :: X.outer) → k.get? a = some o → o.data = .fields vs → a ∉ frs (X.env :: X.outer) := fun {k o vs} ff e dd hm => by
      obtain ⟨_, o', e', bad⟩ := ff.mem hm
      rw [e] at e'
      cases e'
      exact bad _ dd
    have nfr := out land3.2.2.1 g3 d3
    have nLoc : a ≠ X.env.locals := fun q => nfr (List.mem_filterMap.mpr ⟨X.env, List.mem_cons_self, by rw [frm, q]⟩)
    have nFs : a ∉ X.fs := fun hm => by
      obtain ⟨e, he, q⟩ := List.mem_filterMap.mp hm
      exact nfr (List.mem_filterMap.mpr ⟨e, List.mem_cons_of_mem _ he, q⟩)
    have Su3 := K3.suite g3 d3 na nLoc nFs
    have each : ∀ {hs' : List ExceptHandler} {l' : List (Value × Sui)}, EachOk X n hs' l' → wEach X.K i Wo D l' cls d t1 G1 → wpAny (model X.prog X.w) X.A (handleBy (.ref a) X.env hs') (SP X pins D) X.xe { z with heap := k3 } := by
      intro hs' l' ok
      induction ok with
      | nil =>
        intro w0
        refine wpAny_handleBy_nil ?_
        obtain ⟨_, _, _, oe, vs, T, oT, ts', he, hz, dd, h1, hr⟩ := id land3
        unfold PySem.passOn
        refine wpAny_bind (wpAny_field he dd h1 ?_)
        rw [if_neg (show ¬ ((Value.ref T == Value.none) = true) by simp)]
        have away : wpAny (model X.prog X.w) X.A (setFlight (.ref a) X.env.frame) (fun _ y => wpAny (model X.prog X.w) X.A (throw (.ref a) : Sem Flow) (SP X pins D) X.xe y) X.xe { z with heap := k3 } := by
          rw [frm]
          refine HandSPX.setFlight_upZ land3 fun k4 sk4 up4 => wpAny_throw (tk _ _ ?_)
          exact ⟨a, B, sI, pins, t1, G1, cls, d, rfl, J, nb, (up.trans up3).trans up4, .inr (.inr (by rw [stk]; exact sk4)), na, os, ag, w0⟩
        first
          | exact wpAny_bind (wpAny_pure (wpAny_bind away))
          | exact wpAny_bind away
      | @cons x c ts st0 sts q1 q2 hs2 l2 hc su r ih =>
        intro w0
        obtain ⟨b, hb, yes, no⟩ := w0
        refine wpAny_handleBy_cons (codeAny_handlers_test ?_) (by intro q; cases q)
        have ty : PySem.W.Looks (model X.prog X.w) k3 (typeOf (.ref a)) cls := fun A Q E y k q => wpAny_typeOf_ref (k _ _ g3) (by rw [z3.1]; exact q)
        have met := PySem.W.exm_one (M := model X.prog X.w) (K3.kIn) ty hb
        have named : ∀ {Q : Value → Shared → Prop} {E : Value → Shared → Prop}, Q c { z with heap := k3 } → wpAny (model X.prog X.w) (X.A.mark (some (.ref a))) (eval (.Name x q1) X.env) Q E { z with heap := k3 } := fun {Q E} q => by
          obtain ⟨hg, hdb, hm | ⟨hm, hv, hn⟩⟩ := hc
          · exact ld_glob (X := X.suite a ((a, o3) :: (X.pn ++ pins))) Su3 hg hm q hdb
          · exact ld_blt (X := X.suite a ((a, o3) :: (X.pn ++ pins))) Su3 hg hm hv q hn hdb
        refine named (met.here ?_)
        cases b with
        | true =>
          refine codeAny_handlers_suite_as ?_
          refine HandSPX.lands_againZ land3 fun k4 land4 up4 => ?_
          have K4 : Inv X pins t1 G1 { z with heap := k4 } := J.landed nb land4.1 ((up.trans up3).trans up4) os ag
          obtain ⟨o4, v4, g4, z4, d4⟩ := land4.there
          have Su4 := K4.suite g4 d4 na nLoc nFs
          refine store_ok (X := X.suite a ((a, o4) :: (X.pn ++ pins))) (v := .ref a) Su4 ndN atI (.inl lcl) rfl (fun y5 Su5 => ?_) (.inr lcl)
          refine wpAny_mono ((su a o4 cls d (X.pn ++ pins) z4 ⟨_, d4⟩).run [] y5 _ G1 _ Su5 (yes rfl a na)) (fun f y6 hsp => ?_) (fun _ _ q => False.elim q)
          have drop : ∀ {t6 : L2.St} {G6 : Hp} {Q : Shared → Prop}, Inv (X.suite a ((a, o4) :: (X.pn ++ pins))) [] t6 G6 y6 → (∀ y7, Inv X pins (t6.set i none) G6 y7 → Q y7) → wpAny (model X.prog X.w) X.A (do bindName X.env n .none; unbindBehindTheSuite X.env n q2) (fun _ y7 => Q y7) X.xe y6 := fun {t6 G6 Q} S6 hq => gone_ok (S6.unsuite okX) ndN atI lcl hq
          cases f with
          | next =>
            obtain ⟨t6, G6, S6, q⟩ := hsp
            exact drop S6 fun y7 J7 => ⟨_, _, J7, q⟩
          | brk =>
            obtain ⟨t6, G6, S6, q⟩ := hsp
            exact drop S6 fun y7 J7 => ⟨_, _, J7, q⟩
          | cont =>
            obtain ⟨t6, G6, S6, q⟩ := hsp
            exact drop S6 fun y7 J7 => ⟨_, _, J7, q⟩
          | ret u =>
            obtain ⟨v6, t6, G6, S6, rel, q⟩ := hsp
            exact drop S6 fun y7 J7 => ⟨_, _, _, J7, rel, q⟩
        | false =>
          show wpAny _ X.A (handleBy (.ref a) X.env hs2) _ _ _
          exact ih (no rfl)
    exact each all ww
  · cases fl with
    | next =>
      obtain ⟨t1, G1, J1, q⟩ := hsp
      exact wpAny_execs_nil ⟨t1, G1, J1.ofTry okX, q⟩
    | brk =>
      obtain ⟨t1, G1, J1, q⟩ := hsp
      exact ⟨t1, G1, J1.ofTry okX, q⟩
    | cont =>
      obtain ⟨t1, G1, J1, q⟩ := hsp
      exact ⟨t1, G1, J1.ofTry okX, q⟩
    | ret u =>
      obtain ⟨v1, t1, G1, J1, rel, q⟩ := hsp
      exact ⟨v1, t1, G1, J1.ofTry okX, rel, q⟩
end
end K01


set_option Elab.async false
set_option linter.all false
set_option maxRecDepth 100000
set_option maxHeartbeats 4000000
/-! lambdas that are kept as values: made in a body, called by the same body -/
namespace K01
open PySem PySem.Spec PyProof.Rows L2 LamX
open PySem.W (CodeHd envX)
abbrev LFd (q : Str) (ps : Arguments) (b : Expr) (sc : Scope) (cl : List (Str × Addr)) (dV pm cd ct : Value) : FuncData := { PySem.W.kla_fn "<lambda>" q ps b sc cl pm cd ct with defaults := dV }
abbrev LOb (q : Str) (ps : Arguments) (b : Expr) (sc : Scope) (cl : List (Str × Addr)) (dV pm cd ct : Value) : Obj := { cls := .type "function", data := .func (LFd q ps b sc cl dV pm cd ct) }
section
variable {M : Model} {A : Around} {E : Value → Shared → Prop} {s : Shared} {q : Str} {ps : Arguments} {b : Expr} {sc : Scope} {env : Env} {c Pt : Addr} {tb : Array Value} {pos : Pos} {ln : Nat} {mg : Str → Option Value} {cl : List (Str × Addr)} {dV : Value} {Q : Value → Shared → Prop}
theorem lamMiss (ecl : closureFor sc env = pure cl) (eg : env.globals = mainGlobals) (ns : s.heap.Ns mainGlobals mg) (ec : env.code = .ref c) (C : CodeHd s.heap c Pt) (gT : s.heap.get? Pt = some { cls := .none, data := .fields tb }) (tr : TriplesOk tb.toList) (no : codeAmong pos tb.toList = none)
    (gP : mainGlobals ≠ Pt) (bm : s.heap.BuiltinsAt mg Pt)
    (h : ∀ c' ct g tk, Heap.ExtBut Pt s.heap g → s.heap.objs.size ≤ c' → c' < g.objs.size → g.CodeRec (.ref c') q → g.get? Pt = some { cls := .none, data := .fields (tb ++ #[rawInt pos.line, rawInt pos.col, .ref c']) } →
      Q (.ref g.objs.size) { s with heap := g.push (LOb q ps b sc cl dV ((mg "__name__").getD .none) (.ref c') ct), toks := tk }) :
    wpAny M A (makeTail "<lambda>" q ps (.expr b) sc env dV .none none pos ln) Q E s := by
  obtain ⟨bo, oB, e1, ne0, _, neP, gB, kB, dB, pB⟩ := bm
  unfold makeTail
  rw [ecl, eg]
  refine wpAny_bind (wpAny_pure ?_)
  cases cl with
  | nil =>
    simp only [List.isEmpty_nil, if_true]
    refine wpAny_bind (wpAny_pure ?_)
    refine wpAny_bind (wpAny_functionCodeX ec (C.code gT tr) (C.tab gT) no fun c' g tk xB lo hi _ rec at_ _ => ?_)
    have ns2 := ns.extBut xB gP
    refine wpAny_bind (wpAny_builtinsFor ns2 e1 ne0 (xB _ _ neP gB) kB dB pB ?_)
    refine wpAny_bind (wpAny_nsGet ns2 ?_)
    exact wpAny_bind (wpAny_pure (wpAny_newObj_type (h c' .none g tk xB lo hi rec at_.2) (by size_fits)))
  | cons y r =>
    simp only [List.isEmpty_cons, Bool.false_eq_true, if_false]
    refine wpAny_bind (wpAny_newTextTuple ?_)
    have C2 := C.keeps (fun b o e => Heap.get?_push_of_some { cls := .type "tuple", data := .seq (((y :: r).mergeSort fun a b => a.1.cps.toList ≤ b.1.cps.toList).map (.ref ·.2)).toArray } e)
    have gT2 := Heap.get?_push_of_some { cls := .type "tuple", data := .seq (((y :: r).mergeSort fun a b => a.1.cps.toList ≤ b.1.cps.toList).map (.ref ·.2)).toArray } gT
    refine wpAny_bind (wpAny_functionCodeX ec (C2.code gT2 tr) (C2.tab gT2) no fun c' g tk xB lo hi _ rec at_ _ => ?_)
    have ns2 := (ns.push _).extBut xB gP
    have xB2 : Heap.ExtBut Pt s.heap g := fun b o n e => xB b o n (Heap.get?_push_of_some _ e)
    have lo2 : s.heap.objs.size ≤ c' := Nat.le_trans (by rw [Heap.size_push]; omega) lo
    refine wpAny_bind (wpAny_builtinsFor ns2 e1 ne0 (xB2 _ _ neP gB) kB dB pB ?_)
    refine wpAny_bind (wpAny_nsGet ns2 ?_)
    exact wpAny_bind (wpAny_pure (wpAny_newObj_type (h c' _ g tk xB2 lo2 hi rec at_.2) (by size_fits)))
theorem lamHit {cv : Value} (ecl : closureFor sc env = pure cl) (eg : env.globals = mainGlobals) (ns : s.heap.Ns mainGlobals mg) (ec : env.code = .ref c) (C : CodeHd s.heap c Pt) (gT : s.heap.get? Pt = some { cls := .none, data := .fields tb }) (tr : TriplesOk tb.toList) (yes : codeAmong pos tb.toList = some cv)
    (bm : s.heap.BuiltinsAt mg Pt)
    (h : ∀ (ct : Value) (g : Heap) (tk : Tok), (∀ b o, s.heap.get? b = some o → g.get? b = some o) → s.heap.objs.size ≤ g.objs.size → Q (.ref g.objs.size) { s with heap := g.push (LOb q ps b sc cl dV ((mg "__name__").getD .none) cv ct), toks := tk }) :
    wpAny M A (makeTail "<lambda>" q ps (.expr b) sc env dV .none none pos ln) Q E s := by
  obtain ⟨bo, oB, e1, ne0, _, neP, gB, kB, dB, pB⟩ := bm
  unfold makeTail
  rw [ecl, eg]
  refine wpAny_bind (wpAny_pure ?_)
  cases cl with
  | nil =>
    simp only [List.isEmpty_nil, if_true]
    refine wpAny_bind (wpAny_pure ?_)
    refine wpAny_bind (wpAny_functionCode_hit ec (C.code gT tr) yes ?_)
    refine wpAny_bind (wpAny_builtinsFor ns e1 ne0 gB kB dB pB ?_)
    refine wpAny_bind (wpAny_nsGet ns ?_)
    exact wpAny_bind (wpAny_pure (wpAny_newObj_type (h .none s.heap s.toks (fun _ _ e => e) (Nat.le_refl _)) (by size_fits)))
  | cons y r =>
    simp only [List.isEmpty_cons, Bool.false_eq_true, if_false]
    refine wpAny_bind (wpAny_newTextTuple ?_)
    have C2 := C.keeps (fun b o e => Heap.get?_push_of_some { cls := .type "tuple", data := .seq (((y :: r).mergeSort fun a b => a.1.cps.toList ≤ b.1.cps.toList).map (.ref ·.2)).toArray } e)
    have gT2 := Heap.get?_push_of_some { cls := .type "tuple", data := .seq (((y :: r).mergeSort fun a b => a.1.cps.toList ≤ b.1.cps.toList).map (.ref ·.2)).toArray } gT
    refine wpAny_bind (wpAny_functionCode_hit ec (C2.code gT2 tr) yes ?_)
    refine wpAny_bind (wpAny_builtinsFor (ns.push _) e1 ne0 (Heap.get?_push_of_some _ gB) kB dB pB ?_)
    refine wpAny_bind (wpAny_nsGet (ns.push _) ?_)
    exact wpAny_bind (wpAny_pure (wpAny_newObj_type (h _ _ s.toks (fun b o e => Heap.get?_push_of_some _ e) (by rw [Heap.size_push]; omega)) (by size_fits)))
end

/-- the object at f, whole -/
def FunO (f : Addr) (ob : Obj) : HO := .ext fun h => h.get? f = some ob
theorem funO_ne {f : Addr} {ob : Obj} (ps : Array Value) : FunO f ob ≠ .tbl ps := fun z => by
  unfold FunO at z
  cases z
/-- f is the lambda of this body, its code object known, its default standing -/
def IsLam (env : Env) (ps : Arguments) (b : Expr) (sc : Scope) (dd : Option Int) (f : Addr) (H : Hp) : Prop :=
  ∃ (c' : Addr) (dV pm ct : Value), H f = some (FunO f (LOb (env.qual ++ "<lambda>") ps b sc (cloFrom env.cells sc.names []) dV pm (.ref c') ct)) ∧ H c' = some (CodeO c' (env.qual ++ "<lambda>")) ∧
    match dd with
    | none => dV = .none
    | some i => ∃ t, dV = .ref t ∧ H t = some (.tup [.int i])
theorem IsLam.ex {env : Env} {ps : Arguments} {b : Expr} {sc : Scope} {dd : Option Int} {f : Addr} {H H' : Hp} (e : ExtN H H') (h : IsLam env ps b sc dd f H) : IsLam env ps b sc dd f H' := by
  obtain ⟨c', dV, pm, ct, h1, h2, h3⟩ := h
  refine ⟨c', dV, pm, ct, e _ _ h1 funO_ne, e _ _ h2 codeO_ne, ?_⟩
  cases dd with
  | none => exact h3
  | some i =>
    obtain ⟨t, h4, h5⟩ := h3
    exact ⟨t, h4, e _ _ h5 fun _ z => by cases z⟩
section
variable {X : Cx} {pins : List (Addr × Obj)} {σ : L2.St} {H : Hp} {s : Shared}
theorem extN_new {H : Hp} {a : Addr} {o : HO} (n : H a = none) : ExtN H (upd H a o) := fun b u e _ => by rw [upd_ne (ne_of_none e n)]; exact e
/-- the lambda laid, all tracked -/
theorem lam_laid {T : List (Addr × Str)} {c Pt : Addr} {ps : Arguments} {b : Expr} {sc : Scope} {pos : Pos} {ln : Nat} {dV : Value} {E Q : Value → Shared → Prop} (I : Inv X pins σ H s) (TB : TabB X.base X.mg c Pt) (ec : X.env.code = .ref c)
    (mT : (Pt, X.env.qual ++ "<lambda>") ∈ T) (only : ∀ p ∈ T, p.1 = Pt → p.2 = X.env.qual ++ "<lambda>") (hT : Tabs T H) (fr : ∀ y ∈ sc.names, y.2 = .free → ∃ c, X.env.cells.lookup y.1 = some c)
    (h : ∀ (f c' : Addr) (pm ct : Value) (H1 : Hp) (s1 : Shared), ExtN H H1 → Tabs T H1 → H1 f = some (FunO f (LOb (X.env.qual ++ "<lambda>") ps b sc (cloFrom X.env.cells sc.names []) dV pm (.ref c') ct)) → H1 c' = some (CodeO c' (X.env.qual ++ "<lambda>")) → Inv X pins σ H1 s1 → Q (.ref f) s1) :
    wpAny (model X.prog X.w) X.A (makeTail "<lambda>" (X.env.qual ++ "<lambda>") ps (.expr b) sc X.env dV .none none pos ln) Q E s := by
  obtain ⟨tb, hP, tr, al⟩ := hT _ mT
  have bP : s.heap.BuiltinsAt X.mg Pt := TB.bm.keeps I.bk
  have gP : s.heap.get? Pt = some { cls := .none, data := .fields tb } := I.hok Pt _ hP
  cases hc : codeAmong pos tb.toList with
  | none =>
    refine lamMiss (mg := X.mg) (c := c) (Pt := Pt) (tb := tb) (closure_ok fr) I.ok.glob (I.mod.glob.keeps I.bk) ec (TB.code.keeps I.bk) gP tr hc TB.gP bP fun c' ct g tk xB lo hi rec at_ => ?_
    obtain ⟨c2, oc, vs, t, e2, hoc, hd, hv⟩ := rec
    cases e2
    have nC : H c' = none := I.hok.fresh lo
    have I1 := inv_table (t' := tk) (more := #[rawInt pos.line, rawInt pos.col, .ref c']) (h' := g) I hP xB at_ lo ⟨oc, vs, t, hoc, hd, hv⟩
    have eN : ExtN H (upd (upd H Pt (.tbl (tb ++ #[rawInt pos.line, rawInt pos.col, .ref c']))) c' (CodeO c' (X.env.qual ++ "<lambda>"))) := fun b o e n => by
      rw [upd_ne (ne_of_none e nC), upd_ne (fun z => n tb (Option.some.inj (e.symm.trans (by rw [z]; exact hP))))]
      exact e
    have eL : (tb ++ #[rawInt pos.line, rawInt pos.col, .ref c']).toList = tb.toList ++ [rawInt pos.line, rawInt pos.col, .ref c'] := by simp
    have T1 : Tabs T (upd (upd H Pt (.tbl (tb ++ #[rawInt pos.line, rawInt pos.col, .ref c']))) c' (CodeO c' (X.env.qual ++ "<lambda>"))) := fun p hp => by
      by_cases hb : p.1 = Pt
      · rw [only p hp hb, hb]
        refine ⟨_, by rw [upd_ne (ne_of_none hP nC), upd_same], by rw [eL]; exact PySem.TriplesOk_snoc _ _ _ _ tr, fun p1 cv hcv => ?_⟩
        rw [eL] at hcv
        rcases among_app _ tr hcv with z | z
        · obtain ⟨c0, e1, e2⟩ := al p1 cv z
          exact ⟨c0, e1, eN _ _ e2 codeO_ne⟩
        · exact ⟨c', z, upd_same⟩
      · obtain ⟨tb1, a1, a2, a3⟩ := hT p hp
        refine ⟨tb1, by rw [upd_ne (ne_of_none a1 nC), upd_ne hb]; exact a1, a2, fun p1 cv hcv => ?_⟩
        obtain ⟨c0, e1, e2⟩ := a3 p1 cv hcv
        exact ⟨c0, e1, eN _ _ e2 codeO_ne⟩
    have gN := I1.hok.fresh (Nat.le_refl g.objs.size)
    have I2 := I1.laid (a := g.objs.size) (o := FunO g.objs.size (LOb (X.env.qual ++ "<lambda>") ps b sc (cloFrom X.env.cells sc.names []) dV ((X.mg "__name__").getD .none) (.ref c') ct)) (t' := tk) (fun y u e => Heap.get?_push_of_some (LOb (X.env.qual ++ "<lambda>") ps b sc (cloFrom X.env.cells sc.names []) dV ((X.mg "__name__").getD .none) (.ref c') ct) e) (Nat.le_refl _)
      ⟨Heap.get?_push_size _ rfl, ⟨_, Heap.get?_push_size _ rfl⟩, fun h1 h2 a st => st _ a⟩
    have e3 := extN_new (o := FunO g.objs.size (LOb (X.env.qual ++ "<lambda>") ps b sc (cloFrom X.env.cells sc.names []) dV ((X.mg "__name__").getD .none) (.ref c') ct)) gN
    exact h g.objs.size c' _ ct _ _ (eN.trans e3) (T1.ext fun b o e => by rw [upd_ne (ne_of_none e gN)]; exact e) upd_same (e3 _ _ upd_same codeO_ne) I2
  | some cv =>
    obtain ⟨c', e, hco⟩ := al pos cv hc
    subst e
    refine lamHit (mg := X.mg) (c := c) (Pt := Pt) (tb := tb) (closure_ok fr) I.ok.glob (I.mod.glob.keeps I.bk) ec (TB.code.keeps I.bk) gP tr hc bP fun ct g tk kp sz => ?_
    have gN := I.hok.fresh sz
    have I2 := I.laid (a := g.objs.size) (o := FunO g.objs.size (LOb (X.env.qual ++ "<lambda>") ps b sc (cloFrom X.env.cells sc.names []) dV ((X.mg "__name__").getD .none) (.ref c') ct)) (t' := tk) (fun y u e => Heap.get?_push_of_some (LOb (X.env.qual ++ "<lambda>") ps b sc (cloFrom X.env.cells sc.names []) dV ((X.mg "__name__").getD .none) (.ref c') ct) (kp y u e)) sz
      ⟨Heap.get?_push_size _ rfl, ⟨_, Heap.get?_push_size _ rfl⟩, fun h1 h2 a st => st _ a⟩
    have e3 := extN_new (o := FunO g.objs.size (LOb (X.env.qual ++ "<lambda>") ps b sc (cloFrom X.env.cells sc.names []) dV ((X.mg "__name__").getD .none) (.ref c') ct)) gN
    exact h g.objs.size c' _ ct _ _ e3 (hT.ext fun b o e => by rw [upd_ne (ne_of_none e gN)]; exact e) upd_same (e3 _ _ hco codeO_ne) I2
/-- what is read of a lambda's making -/
def tLamb (T : List (Addr × Str)) (env : Env) (ps : Arguments) (b : Expr) (sc : Scope) (dd : Option Int) : TE := fun _ H Q => Tabs T H ∧ ∀ f H1, ExtN H H1 → Tabs T H1 → IsLam env ps b sc dd f H1 → Q (.ref f) H1
theorem pe_lamb0 {T : List (Addr × Str)} {c Pt : Addr} {ps : Arguments} {b : Expr} {sc : Scope} {pos : Pos} (TB : TabB X.base X.mg c Pt) (ec : X.env.code = .ref c) (mT : (Pt, X.env.qual ++ "<lambda>") ∈ T) (only : ∀ p ∈ T, p.1 = Pt → p.2 = X.env.qual ++ "<lambda>")
    (fr : ∀ y ∈ sc.names, y.2 = .free → X.env.scope.names.lookup y.1 = some .cell ∨ X.env.scope.names.lookup y.1 = some .free) (hdef : defaultsOf ps X.env = ([], [])) : PE X (.Lambda ps b sc pos) (tLamb T X.env ps b sc none) := by
  refine ⟨fun pins s σ H Q I h => ?_⟩
  obtain ⟨hT, h⟩ := h
  refine PySem.W.kla_eval hdef ?_
  rw [makeFunction_eq]
  simp only [List.zip_nil_right, List.filterMap_nil, List.isEmpty_nil, if_true, pure_bind]
  refine lam_laid I TB ec mT only hT (fun y hy e => I.ok.has _ (fr y hy e)) fun f c' pm ct H1 s1 e1 T1 h1 h2 I1 => ?_
  exact ⟨.ref f, H1, I1, rfl, h f H1 e1 T1 ⟨c', _, pm, ct, h1, h2, rfl⟩⟩
theorem pe_lamb1 {T : List (Addr × Str)} {c Pt : Addr} {ps : Arguments} {b : Expr} {sc : Scope} {pos p1 : Pos} {j : Nat} {i : Int} (TB : TabB X.base X.mg c Pt) (ec : X.env.code = .ref c) (mT : (Pt, X.env.qual ++ "<lambda>") ∈ T) (only : ∀ p ∈ T, p.1 = Pt → p.2 = X.env.qual ++ "<lambda>")
    (fr : ∀ y ∈ sc.names, y.2 = .free → X.env.scope.names.lookup y.1 = some .cell ∨ X.env.scope.names.lookup y.1 = some .free) (hdef : defaultsOf ps X.env = ([eval (.Constant (.int i) j p1) X.env], [])) (hkw : ps.kwonlyargs = []) : PE X (.Lambda ps b sc pos) (tLamb T X.env ps b sc (some i)) := by
  refine ⟨fun pins s σ H Q I h => ?_⟩
  obtain ⟨hT, h⟩ := h
  rw [arm_eval_Lambda, hdef]
  show wpAny _ _ (do let dv ← evalAll [eval (.Constant (.int i) j p1) X.env]; let kdv ← holding dv (evalAllOpt []); makeFunction "<lambda>" (X.env.qual ++ "<lambda>") ps (.expr b) sc X.env dv kdv [] pos pos.line) _ _ s
  refine wpAny_bind (wpAny_evalAll_cons ?_)
  refine thn ((pe_int (X := X) (pos := p1)).run pins s σ H (fun v H1 => v = .int i ∧ H1 = H) I ⟨rfl, rfl⟩) fun v s1 ⟨x, H1, I1, rv, ex, eH⟩ => ?_
  subst ex
  rw [eH] at I1
  refine wpAny_evalAll_nil (wpAny_bind (wpAny_holding (wpAny_pure ?_)))
  rw [makeFunction_eq, hkw]
  simp only [List.zip_nil_left, List.filterMap_nil, List.isEmpty_nil, List.isEmpty_cons, if_true, if_false, pure_bind, Bool.false_eq_true]
  refine wpAny_bind (wpAny_newTextTuple ?_)
  have nT := I1.hok.fresh (Nat.le_refl s1.heap.objs.size)
  have I2 := I1.laid (a := s1.heap.objs.size) (o := .tup [.int i]) (t' := s1.toks) (fun b u q => Heap.get?_push_of_some { cls := .type "tuple", data := .seq [v].toArray } q) (Nat.le_refl _) ⟨(by show 1 ≤ sizeLine; decide), [v], .cons rv .nil, IsTup.new _ _⟩
  have e2 := extN_new (o := .tup [.int i]) nT
  have T2 : Tabs T (upd H s1.heap.objs.size (.tup [.int i])) := hT.ext fun b o e => by rw [upd_ne (ne_of_none e nT)]; exact e
  refine lam_laid I2 TB ec mT only T2 (fun y hy e => I.ok.has _ (fr y hy e)) fun f c' pm ct H1 s1 e1 T1 h1 h2 I1 => ?_
  exact ⟨.ref f, H1, I1, rfl, h f H1 (e2.trans e1) T1 ⟨c', _, pm, ct, h1, h2, _, rfl, e1 _ _ upd_same fun _ z => by cases z⟩⟩
end
end K01


set_option Elab.async false
set_option linter.all false
set_option maxRecDepth 100000
set_option maxHeartbeats 4000000
/-! a lambda that is kept, called by the body that made it -/
namespace K01
open PySem PySem.Spec PyProof.Rows L2 LamX
/-- captured names, globals, and own parameters that bear no name of the maker's -/
structure LamW (out sc : Scope) (N : List Str) : Prop where
  kind : sc.kind = .function
  co : sc.isCoroutine = false
  gen : sc.isGenerator = false
  own : ∀ y ∈ sc.names, y.2 ≠ .cell ∧ (y.2 = .local → y.1 ∉ N)
  free : ∀ y ∈ sc.names, y.2 = .free → out.names.lookup y.1 = some .cell ∨ out.names.lookup y.1 = some .free
def BindW (ps : Arguments) (b : Expr) (sc : Scope) : Option Int → Prop
  | none => ∀ (q : Str) (cl : List (Str × Addr)) (pm cd ct : Value), bindArgs (LFd q ps b sc cl .none pm cd ct) ⟨[], []⟩ = pure []
  | some _ => ∃ y, sc.names.lookup y = some .local ∧ ∀ (q : Str) (cl : List (Str × Addr)) (t : Addr) (pm cd ct v : Value), ∃ k, bindArgs (LFd q ps b sc cl (.ref t) pm cd ct) ⟨[], []⟩ = seqItems? (.ref t) >>= k ∧ k (some #[v]) = pure [(y, v)]
section
variable {X : Cx} {pins : List (Addr × Obj)} {σ : L2.St} {H : Hp} {s : Shared}
theorem lam_in {E : XK} {sc : Scope} {f c' : Addr} {g : Heap} {tk : Nat} {m : Str → Option Value} (I : Inv X pins σ H s) (L : LamW X.env.scope sc X.N) (nh : X.A.handled = none) (hns : g.Ns s.heap.objs.size m) (kp : ∀ b o, s.heap.get? b = some o → g.get? b = some o) :
    Inv (lamCx X X.A X.stack s H E sc f c') [] σ H { s with heap := g, toks := tk } := by
  have e0 := I.env0
  have cap : ∀ {y c}, (cloFrom X.env.cells sc.names []).lookup y = some c → X.env.cells.lookup y = some c := fun {y c} e => by
    rcases cloFrom_mem (PySem.mem_of_lookup e) with z | ⟨z1, z2⟩
    · cases z
    · obtain ⟨c1, h1⟩ := I.ok.has _ (L.free _ z1 rfl)
      have h1 : X.env.cells.lookup y = some c1 := h1
      have e2 : c = c1 := by rw [z2, h1] <;> rfl
      rw [e2]; exact h1
  have cel : ∀ {y}, sc.names.lookup y = some .free → ∃ c, (cloFrom X.env.cells sc.names []).lookup y = some c := fun {y} z => mem_lookup (cloFrom_has (cells := X.env.cells) (acc := []) (PySem.mem_of_lookup z))
  have up : ∀ {c : Addr} {v : Option Value}, s.heap.IsCell c v → g.IsCell c v := fun {c v} ⟨o, z1, z2⟩ => ⟨o, kp _ _ z1, z2⟩
  have nil : ∀ b : Addr, b ∉ (lamCx X X.A X.stack s H E sc f c').ex := fun b z => absurd (show b ∈ ([] : List Addr) from z) (by simp)
  have ok : (lamCx X X.A X.stack s H E sc f c').Ok := {
    mod := e0.mod
    kind := L.kind
    glob := rfl
    blt := rfl
    above := Nat.le_refl _
    inj := fun y z c e1 e2 => I.ok.inj y z c (cap e1) (cap e2)
    has := fun y hy => by
      have hy : sc.names.lookup y = some .cell ∨ sc.names.lookup y = some .free := hy
      rcases hy with hy | hy
      · exact absurd rfl (L.own _ (PySem.mem_of_lookup hy)).1
      · exact cel hy
    cab := fun y c z _ => Bool.noConfusion (show false = true from z)
    hd := fun _ => nh
    frames := Around.frames_deeper e0.frames
    stk := .inr ⟨rfl, rfl⟩
    exf := fun b z => absurd z (nil b)
    bs := e0.bs
    bsz := e0.bsz
    noex := fun b _ _ => nil b
    exfs := fun b z => absurd z (nil b)
    funs := e0.funs
    frf := e0.frf }
  refine ⟨ok, rfl, e0.bare, Un.kept kp, ⟨_, hns, fun i y v e1 e2 e3 => ?_⟩, fun y c e => ?_, e0.hok.fresh (Nat.le_refl _), fun y c e => I.freeC y c (cap e), fun q hq => absurd (show q ∈ ([] : List (Addr × Obj)) ++ [] from hq) (by simp), e0.hok.kept kp, I.len⟩
  · have e3 : Vis sc y := e3
    have e1 : X.N[i]? = some y := e1
    rcases e3 with k | k | k
    · exact absurd (List.mem_of_getElem? e1) ((L.own _ (PySem.mem_of_lookup k)).2 rfl)
    · exact absurd rfl (L.own _ (PySem.mem_of_lookup k)).1
    · obtain ⟨m2, _, lk⟩ := I.loc
      have fr := L.free _ (PySem.mem_of_lookup k) rfl
      obtain ⟨u, rel, w0⟩ := lk i y v e1 e2 (fr.elim (fun k => .inr (.inl k)) fun k => .inr (.inr k))
      obtain ⟨c2, h2⟩ := cel k
      refine ⟨u, rel, .inr ⟨.inr k, c2, h2, ?_⟩⟩
      have c1 := cap h2
      rcases w0 with ⟨k1, _⟩ | ⟨_, c3, e', z⟩
      · have k1 : X.env.scope.names.lookup y = some .local := k1
        rcases fr with k2 | k2 <;> rw [show X.env.scope.names.lookup y = _ from k2] at k1 <;> cases k1
      · rw [c1] at e'
        cases e'
        exact up z
  · obtain ⟨u, z⟩ := I.cell y c (cap e)
    exact ⟨u, up z⟩
def tWork (env : Env) (ps : Arguments) (b : Expr) (sc : Scope) (dd : Option Int) (i : Nat) (tb : XK → TE) (W : WX) : TE := fun t G Q => ∃ (f : Addr) (E : XK), t[i]? = some (some (.ref f)) ∧ IsLam env ps b sc dd f G ∧ (∀ cls d G', E cls d G' → W cls d t G') ∧ tb E t G Q
/-- x(), x a name that holds such a lambda -/
theorem pe_work {ps : Arguments} {b : Expr} {sc : Scope} {dd : Option Int} {k i : Nat} {a : Str} {W : WX} {tb : XK → TE} {p1 p2 : Pos} (L : LamW X.env.scope sc X.N) (bw : BindW ps b sc dd) (tk : Takes X W) (hr : Room (k + 1) X.A)
    (body : ∀ (E : XK) (f c' : Addr) (s : Shared) (H : Hp), Room k (X.A.deeper (lamEnv X sc s.heap.objs.size f c')) → PE (lamCx X X.A X.stack s H E sc f c') b (tb E))
    (hN : X.N[i]? = some a) (hv : Vis X.env.scope a) (hd : (a == ("__debug__" : Str)) = false := by decide) (hcd : (a == ("__classdict__" : Str)) = false := by decide) :
    PE X (.Call (.Name a p1) [] [] p2) (tWork X.env ps b sc dd i tb W) := by
  refine ⟨fun pins s t G Q I0 h => ?_⟩
  obtain ⟨f, E, ht, lam, hW, hq⟩ := h
  refine wpAny_Call_Name_kw (thn ((pe_var (pos := p1) (i := i) hN hv hd hcd).run pins s t G (fun v G1 => v = .ref f ∧ G1 = G) I0 ⟨.ref f, ht, rfl, rfl⟩) fun u s1 ⟨v, G1, I1, rv, ev, eG⟩ => ?_)
  subst ev
  rw [eG] at I1
  obtain rfl : u = Value.ref f := rv
  obtain ⟨c', dV, pm, ct, l1, l2, l3⟩ := lam
  have of1 : s1.heap.get? f = some (LOb (X.env.qual ++ "<lambda>") ps b sc (cloFrom X.env.cells sc.names []) dV pm (.ref c') ct) := (I1.hok f _ l1).1
  obtain ⟨⟨oc, vs, tq, g1, g2, g3⟩, _, _⟩ := I1.hok c' _ l2
  refine PySem.W.callWith_F0 ⟨_, _, _, _, of1⟩ ?_
  have bnd : ∃ binds, BindsTo s1 (LFd (X.env.qual ++ "<lambda>") ps b sc (cloFrom X.env.cells sc.names []) dV pm (.ref c') ct) ⟨[], []⟩ binds ∧ ∀ y ∈ binds, sc.names.lookup y.1 = some .local := by
    cases dd with
    | none =>
      have e : dV = .none := l3
      subst e
      exact ⟨[], .of_eq (bw _ _ _ _ _), fun y hy => by cases hy⟩
    | some i0 =>
      obtain ⟨T, e, hT⟩ := l3
      subst e
      obtain ⟨y, hy, bb⟩ := bw
      obtain ⟨_, its, rvs, o, o1, o2, n, o3⟩ := (show ObjOk X.prog X.w G s1.heap T (.tup [.int i0]) from I1.hok T _ hT)
      cases rvs with
      | @cons _ v0 _ _ rv0 rest =>
        cases rest
        obtain ⟨k0, e1, e2⟩ := bb (X.env.qual ++ "<lambda>") (cloFrom X.env.cells sc.names []) T pm (.ref c') ct v0
        refine ⟨[(y, v0)], fun M A E Q q0 => ?_, fun z hz => by rw [List.mem_singleton.mp hz]; exact hy⟩
        rw [e1]
        refine wpAny_bind (wpAny_seqItems o1 o3 ?_)
        rw [show ([v0] : List Value).toArray = #[v0] from rfl, e2]
        exact wpAny_pure q0
  obtain ⟨binds, hb, hl⟩ := bnd
  have rc : codeAny (model X.prog X.w) X.A (.call (.ref f) ⟨[], []⟩) (CR (L2.CX X.prog X.w) X.stack X.prog X.w G s1 Q E) s1 := by
    refine PySem.W.kla_callFunE hr.depth of1 rfl L.co L.gen rfl ⟨c', oc, vs, tq, rfl, g1, g2, g3⟩ ?_
    refine hb _ _ _ _ ?_
    refine wpAny_newFunctionEnv (fun y hy => (L.own y hy).1) hl (fun h₁ hns hsb => ⟨I1.nolimit.fresh _ hsb, ?_⟩) L.kind
    show codeAny _ _ (.expr b (lamEnv X sc s1.heap.objs.size f c')) _ _
    have kp : ∀ b o, s1.heap.get? b = some o → h₁.get? b = some o := fun b o e => hsb.extBut b o (Nat.ne_of_lt (Heap.lt_size e)) (Heap.get?_push_of_some _ e)
    have J := lam_in (E := E) (sc := sc) (f := f) (c' := c') (tk := s1.toks + binds.length) I1 L hr.hd hns kp
    refine PySem.W.kla_codeExpr (wpAny_mono ((body E f c' s1 G (hr.deeper _)).run [] _ _ G Q J hq) (fun v s2 z => ?_) fun e s2 z => z)
    obtain ⟨w0, G2, J2, rel, q2⟩ := z
    exact ⟨w0, G2, J2.os, J2.bare, J2.base, J2.hok, rel, q2⟩
  refine wpAny_call (codeAny_mono rc fun r s2 z => ?_)
  cases r with
  | error e => exact tk e s2 (XE.of_call I1 (fun cls d G2 h => hW cls d G2 h) z)
  | ok fl =>
    cases fl with
    | ret u => exact I1.after z
    | next => exact False.elim z
    | brk => exact False.elim z
    | cont => exact False.elim z
theorem pe_either {e : Expr} {t1 t2 : TE} (h1 : PE X e t1) (h2 : PE X e t2) : PE X e (fun t G Q => t1 t G Q ∨ t2 t G Q) :=
  ⟨fun pins s t G Q I h => h.elim (h1.run pins s t G Q I) (h2.run pins s t G Q I)⟩
end
end K01


set_option Elab.async false
set_option linter.all false
set_option maxRecDepth 100000
set_option maxHeartbeats 4000000
/-! sorted(a list of tuples of whole numbers), however many -/
namespace K01
open PySem PySem.Spec PyProof.Rows L2 PySem.W
theorem alike_ints : ∀ a b : List Int, PySem.W.alikeAll (a.map PyData.int) (b.map PyData.int) = true
  | [], _ => by simp [PySem.W.alikeAll]
  | _ :: _, [] => by simp [PySem.W.alikeAll]
  | x :: a, y :: b => by
    simp only [List.map_cons, PySem.W.alikeAll, PySem.W.alike, alike_ints a b, Bool.and_self]
theorem alike_rowD (a b : Row) : PySem.W.alike (rowD a) (rowD b) = true := by
  unfold rowD
  rw [PySem.W.alike]
  exact alike_ints a b
theorem rowD_depth (r : Row) : (rowD r).depth ≤ 2 := by
  unfold rowD
  rw [PyData.depth, PySem.W.ke_depthAll]
  decide
def rSortD (K : PySem.W.Frag) : List V → Hp → VK → Prop := fun vs H Q => ∃ (a : Addr) (xs : List V) (rs : List Row), vs = [.ref a] ∧ SqL K H a xs ∧ Paired (fun x r => RowT K r x H) xs rs ∧ xs.length ≤ 10000 ∧ (∀ r ∈ rs, r ≠ []) ∧ ∀ (ys : List V) (p : Addr), ys.Perm xs → H p = none → Q (.ref p) (upd H p (.lst ys))
theorem each_two {α β γ : Type} {R : α → β → Prop} {F : β → γ → Prop} : ∀ {us : List α} {xs : List β} {rs : List γ}, EachIs R us xs → Paired F xs rs → EachIs (fun u (b : β × γ) => R u b.1 ∧ F b.1 b.2) us (xs.zip rs)
  | _, _, _, .nil, .nil => .nil
  | _, _, _, .cons r t, .cons f q => .cons ⟨r, f⟩ (each_two t q)
theorem each_fst {α β γ : Type} {R : α → β → Prop} {F : β → γ → Prop} : ∀ {us : List α} {bs : List (β × γ)}, EachIs (fun u (b : β × γ) => R u b.1 ∧ F b.1 b.2) us bs → EachIs R us (bs.map Prod.fst)
  | _, _, .nil => .nil
  | _, _, .cons r t => .cons r.1 (each_fst t)
theorem zip_fst {α β : Type} : ∀ {xs : List α} {rs : List β}, xs.length = rs.length → (xs.zip rs).map Prod.fst = xs
  | [], [], _ => rfl
  | x :: xs, r :: rs, h => by rw [List.zip_cons_cons, List.map_cons, zip_fst (by simpa using h)]
  | [], _ :: _, h => by simp at h
  | _ :: _, [], h => by simp at h
theorem cr_sortD {X : Cx} (hu : X.A.units + 65 < cLine) : CallR X (.builtin "sorted") (rSortD X.K) := by
  intro pins s σ H vs us Q I r hh
  obtain ⟨a, xs, rs, rfl, hq, hp, hz, hne, q⟩ := hh
  obtain rfl := Vals.ref1 r
  obtain ⟨its, rv, hL, hzL⟩ := I.list hq
  have lx := pr_len hp
  have lv := rv.length
  have each := each_two (vals_each rv) hp
  refine PySem.W.sorted_data (enc := fun b : V × Row => rowD b.2) (R := fun u b => RelV b.1 u ∧ RowT X.K b.2 b.1 H) hL.isList each (each.mono fun u b hb => ?_) (PySem.W.AllAlike.of fun b b' => alike_rowD b.2 b'.2) (.inl fun d hd => ?_) (Nat.le_trans (show _ ≤ 10000 by rw [List.length_zip]; omega) (by decide)) (fun b _ => by have := rowD_depth b.2; omega) fun out ho eo => ?_
  · exact Dp.reads I (rowD b.2) b.1 u (rowD_dp hb.2) hb.1
  · obtain ⟨b, hb, rfl⟩ := List.mem_map.mp hd
    have hr : b.2 ∈ rs := (List.of_mem_zip hb).2
    cases e : b.2 with
    | nil => exact absurd e (hne _ hr)
    | cons x t => exact ⟨PyData.int x, t.map PyData.int, rfl⟩
  · have ev := each_vals (each_fst (R := fun (u : Value) (x : V) => RelV x u) (F := fun x r => RowT X.K r x H) eo)
    have pm := List.mergeSort_perm (xs.zip rs) (PySem.W.dataLe false fun b : V × Row => rowD b.2)
    have pv : (((xs.zip rs).mergeSort (PySem.W.dataLe false fun b : V × Row => rowD b.2)).map Prod.fst).Perm xs := by
      have := pm.map Prod.fst
      rw [zip_fst lx] at this
      exact this
    obtain ⟨ep, he'⟩ := PyProof.Rows.sortedAll_at s.heap its out.toArray
    refine ⟨.ref _, upd H (s.heap.objs.size + 1) (.lst (((xs.zip rs).mergeSort (PySem.W.dataLe false fun b : V × Row => rowD b.2)).map Prod.fst)), I.laid (t' := s.toks) (fun _ _ => PyProof.Rows.sortedAll_old) (Nat.le_succ _) ⟨by rw [pv.length_eq]; exact Nat.le_trans hz (by decide), out, ep, ev, he'⟩, rfl, q _ _ pv (I.hok.fresh (Nat.le_succ _))⟩
end K01


set_option Elab.async false
set_option linter.all false
set_option maxRecDepth 100000
set_option maxHeartbeats 4000000
/-! set(a list of whole numbers): how many it has at most, by any list that has them all -/
namespace K01
open PySem PySem.Spec PyProof.Rows L2
theorem setR_few {w : World} {h : Heap} {a : Addr} {ns : List Int} {c : Nat} (R : SetR w h a (fun j => decide (j ∈ ns)) c) (L : List Int) (hL : ∀ k ∈ ns, k ∈ L) : c ≤ L.length := by
  obtain ⟨o, es, ep, t, _, _, _, _, nd, mem, _, _, sz, _⟩ := R
  have := Lin.nd_len nd (ys := L) fun k hk => hL k (of_decide_eq_true ((mem k).2 hk))
  rw [List.length_map, Array.length_toList, sz] at this
  exact this
def rSetF (K : PySem.W.Frag) (w : World) : List V → Hp → VK → Prop := fun xs H Q => ∃ (l : Addr) (ns : List Int), xs = [.ref l] ∧ SqL K H l (ns.map V.int) ∧ ns.length ≤ 4000 ∧ ∀ p c, H p = none → (∀ L : List Int, (∀ k ∈ ns, k ∈ L) → c ≤ L.length) → Q (.ref p) (upd H p (SetO w p (fun j => decide (j ∈ ns)) c))
theorem cr_setF {X : Cx} (hc : X.calm = true) : CallR X (.type "set") (rSetF X.K X.w) := by
  intro pins s σ H xs us Q I r hh
  obtain ⟨l, ns, rfl, hq, hz, q⟩ := hh
  obtain ⟨its, rv, hL, _⟩ := I.list hq
  obtain rfl := Vals.ref1 r
  refine call_set_ls ns (I.ok.hd hc) hL.isList (ints_of_vals rv) (by unfold scanBound; omega) fun h' tk c hS hc' hk => ?_
  exact ⟨.ref _, upd H s.heap.objs.size (SetO X.w s.heap.objs.size (fun j => decide (j ∈ ns)) c), I.laid (t' := tk) hk (Nat.le_refl _) (setO_new hS), rfl, q _ c (I.hok.fresh (Nat.le_refl _)) fun L h => setR_few hS L h⟩
end K01


set_option maxRecDepth 100000
set_option linter.unusedVariables false
/-! tables that act on rows; what is come to by them; staircases for all rows -/
namespace Lin
section
variable {p : Int} {n : Nat} {S T R : List Row} {A : List Row} {v w r u : Row}
theorem exists_rref (hp : 1 < p) (P : Prm p) : ∀ {R : List Row}, Oks p n R → ∃ S, Rref p n S ∧ Same p n S R
  | [], _ => ⟨[], Rref.nil, Same.refl⟩
  | r :: R, hR => by
    have hp0 : 0 < p := by omega
    have o := hR r List.mem_cons_self
    have oR : Oks p n R := fun x hx => hR x (List.mem_cons_of_mem _ hx)
    obtain ⟨S, rS, sS⟩ := exists_rref hp P oR
    have m := remS_is hp0 rS o
    have two : Same p n (r :: S) (r :: R) := same_of hp0 (oks_cons o rS.ok) (oks_cons o oR) (fun x hx => by
      rcases List.mem_cons.mp hx with e | e
      · rw [e]; exact Sp.gen hp0 o List.mem_cons_self
      · exact ((sS x).1 (Sp.gen hp0 (rS.ok x e) e)).sub fun y hy => List.mem_cons_of_mem _ hy) (fun x hx => by
      rcases List.mem_cons.mp hx with e | e
      · rw [e]; exact Sp.gen hp0 o List.mem_cons_self
      · exact ((sS x).2 (Sp.gen hp0 (oR x e) e)).sub fun y hy => List.mem_cons_of_mem _ hy)
    rcases Nat.lt_or_ge (lead (remS p S r)) (remS p S r).length with h | h
    · have nz := lead_ne h
      have bd := g_bd hp0 m.ok (lead (remS p S r))
      obtain ⟨k, hk⟩ := P _ (by omega) bd.2
      have pm := List.mergeSort_perm ((S.map fun old => add p old (-(g old (lead (remS p S r)))) (times p k (remS p S r))) ++ [times p k (remS p S r)]) (fun a b => decide (lead a ≤ lead b))
      have so := List.pairwise_mergeSort (le := fun a b : Row => decide (lead a ≤ lead b)) (fun a b c h1 h2 => by simp only [decide_eq_true_eq] at *; omega) (fun a b => by simp only [Bool.or_eq_true, decide_eq_true_eq]; omega)
        ((S.map fun old => add p old (-(g old (lead (remS p S r)))) (times p k (remS p S r))) ++ [times p k (remS p S r)])
      obtain ⟨rN, sN, _⟩ := withRow_new hp rS o m (by omega) hk pm (so.imp fun {a b} z => of_decide_eq_true z)
      exact ⟨_, rN, sN.trans two⟩
    · have e : lead (remS p S r) = (remS p S r).length := by have := lead_le (remS p S r); omega
      exact ⟨S, rS, (withRow_in hp0 rS o m e).trans two⟩
/-- more is spanned by more -/
theorem len_mono (hp : 1 < p) (hS : Rref p n S) (hT : Rref p n T) (h : ∀ v, Sp p n S v → Sp p n T v) : S.length ≤ T.length := by
  have hp0 : 0 < p := by omega
  have := nd_len (combos_nd hp0 hS.ind) (ys := combos p n T) fun x hx => (mem_combos hp0 hT.ok).2 (h x ((mem_combos hp0 hS.ok).1 hx))
  rw [combos_len, combos_len] at this
  exact (Nat.pow_le_pow_iff_right (a := p.toNat) (by omega)).1 this
theorem len_less (hp : 1 < p) (hS : Rref p n S) (hT : Rref p n T) (h : ∀ v, Sp p n S v → Sp p n T v) (hv : Sp p n T v) (no : ¬ Sp p n S v) : S.length < T.length := by
  have hp0 : 0 < p := by omega
  have nd : (v :: combos p n S).Nodup := List.nodup_cons.mpr ⟨fun z => no ((mem_combos hp0 hS.ok).1 z), combos_nd hp0 hS.ind⟩
  have := nd_len nd (ys := combos p n T) fun x hx => (mem_combos hp0 hT.ok).2 (by
    rcases List.mem_cons.mp hx with e | e
    · rw [e]; exact hv
    · exact h x ((mem_combos hp0 hS.ok).1 e))
  rw [List.length_cons, combos_len, combos_len] at this
  exact (Nat.pow_lt_pow_iff_right (a := p.toNat) (by omega)).1 (by omega)
/-! ### a table acts -/
def app (p : Int) (A : List Row) (v : Row) : Row := A.map fun r => dot p r v
theorem dot_bd (hp : 0 < p) : 0 ≤ dot p u w ∧ dot p u w < p := ⟨Int.emod_nonneg _ (by omega), Int.emod_lt_of_pos _ hp⟩
theorem app_ok (hp : 0 < p) (hl : A.length = n) : OkR p n (app p A v) := by
  refine ⟨by unfold app; rw [List.length_map]; exact hl, fun x hx => ?_⟩
  obtain ⟨r, _, e⟩ := List.mem_map.mp hx
  rw [← e]
  exact dot_bd hp
theorem g_app {i : Nat} (hi : i < A.length) : g (app p A v) i = dot p A[i] v := by
  unfold app
  rw [g_lt (by rw [List.length_map]; exact hi), List.getElem_map]
theorem dot_add2 (h1 : u.length = n) (hx : v.length = n) (h2 : w.length = n) (c : Int) : dot p w (add p u c v) = (dot p w u + c * dot p w v) % p := by
  rw [dot_comm h2 (len_add h1 hx), dot_add h1 hx h2, dot_comm h1 h2, dot_comm hx h2]
theorem app_add (hp : 0 < p) (hA : Oks p n A) (hl : A.length = n) (hu : u.length = n) (hv : v.length = n) (c : Int) : app p A (add p u c v) = add p (app p A u) c (app p A v) := by
  have l1 : (app p A u).length = n := by unfold app; rw [List.length_map]; exact hl
  have l2 : (app p A v).length = n := by unfold app; rw [List.length_map]; exact hl
  refine ext (n := n) (by unfold app; rw [List.length_map]; exact hl) (len_add l1 l2) fun i hi => ?_
  have hi2 : i < A.length := by omega
  rw [g_add (by rw [l1, l2]), g_app hi2, g_app hi2, g_app hi2, dot_add2 hu hv (hA _ (List.getElem_mem hi2)).1]
theorem app_zero (hA : Oks p n A) (hl : A.length = n) : app p A (zero n) = zero n := by
  refine ext (n := n) (by unfold app; rw [List.length_map]; exact hl) List.length_replicate fun i hi => ?_
  have hi2 : i < A.length := by omega
  rw [g_app hi2, g_zero, dot_comm (w := zero n) (hA _ (List.getElem_mem hi2)).1 (show (List.replicate n (0 : Int)).length = n from List.length_replicate), dot_zero (hA _ (List.getElem_mem hi2)).1]
theorem app_sp (hp : 0 < p) (hA : Oks p n A) (hl : A.length = n) (hR : Oks p n R) (h : Sp p n R v) : Sp p n (R.map (app p A)) (app p A v) := by
  induction h with
  | zero => rw [app_zero hA hl]; exact .zero
  | @step u r c hu hr ih =>
    rw [app_add hp hA hl (hu.ok hp hR).1 (hR r hr).1]
    exact ih.step c (List.mem_map.mpr ⟨r, hr, rfl⟩)
/-! ### what is come to -/
def it (p : Int) (A : List Row) : Nat → Row → Row
  | 0, v => v
  | t + 1, v => app p A (it p A t v)
def kry (p : Int) (A : List Row) (ws : List Row) (k : Nat) : List Row := (List.range k).flatMap fun t => ws.map (it p A t)
theorem it_ok (hp : 0 < p) (hl : A.length = n) (hv : OkR p n v) : ∀ t, OkR p n (it p A t v)
  | 0 => hv
  | t + 1 => app_ok hp hl
theorem mem_kry {ws : List Row} {k : Nat} : r ∈ kry p A ws k ↔ ∃ t, t < k ∧ ∃ w ∈ ws, it p A t w = r := by
  unfold kry
  simp only [List.mem_flatMap, List.mem_range, List.mem_map]
theorem kry_ok {ws : List Row} {k : Nat} (hp : 0 < p) (hl : A.length = n) (hw : Oks p n ws) : Oks p n (kry p A ws k) := fun x hx => by
  obtain ⟨t, _, w, hw2, e⟩ := mem_kry.1 hx
  rw [← e]
  exact it_ok hp hl (hw w hw2) t
theorem kry_up {ws : List Row} {j k : Nat} (h : j ≤ k) (hv : Sp p n (kry p A ws j) v) : Sp p n (kry p A ws k) v :=
  hv.sub fun x hx => by
    obtain ⟨t, h1, w, hw2, e⟩ := mem_kry.1 hx
    exact mem_kry.2 ⟨t, by omega, w, hw2, e⟩
theorem kry_closed {ws : List Row} {k : Nat} (hp : 0 < p) (hA : Oks p n A) (hl : A.length = n) (hw : Oks p n ws) (stop : ∀ w ∈ ws, Sp p n (kry p A ws k) (it p A k w)) (hv : Sp p n (kry p A ws k) v) : Sp p n (kry p A ws k) (app p A v) := by
  have ok := kry_ok (k := k) hp hl hw
  refine (app_sp hp hA hl ok hv).mono hp ok fun x hx => ?_
  obtain ⟨y, hy, e⟩ := List.mem_map.mp hx
  obtain ⟨t, h1, w, hw2, e2⟩ := mem_kry.1 hy
  rw [← e, ← e2]
  rcases Nat.lt_or_ge (t + 1) k with z | z
  · exact Sp.gen hp (it_ok hp hl (hw w hw2) (t + 1)) (mem_kry.2 ⟨t + 1, z, w, hw2, rfl⟩)
  · have : k = t + 1 := by omega
    have q := stop w hw2
    rw [this] at q ⊢
    exact q
theorem kry_all {ws : List Row} {k : Nat} (hp : 0 < p) (hA : Oks p n A) (hl : A.length = n) (hw : Oks p n ws) (stop : ∀ w ∈ ws, Sp p n (kry p A ws k) (it p A k w)) (hw2 : w ∈ ws) : ∀ t, Sp p n (kry p A ws k) (it p A t w)
  | 0 => by
    rcases Nat.eq_zero_or_pos k with z | z
    · have q := stop w hw2
      rw [z] at q ⊢
      exact q
    · exact Sp.gen hp (hw w hw2) (mem_kry.2 ⟨0, z, w, hw2, rfl⟩)
  | t + 1 => kry_closed hp hA hl hw stop (kry_all hp hA hl hw stop hw2 t)
/-- so many steps as there are places are enough -/
theorem kry_stop {ws : List Row} (hp : 1 < p) (P : Prm p) (hA : Oks p n A) (hl : A.length = n) (hw : Oks p n ws) : ∃ k, k ≤ n ∧ ∀ w ∈ ws, Sp p n (kry p A ws k) (it p A k w) := by
  have hp0 : 0 < p := by omega
  refine Classical.byContradiction fun no => ?_
  have grow : ∀ k, k ≤ n + 1 → ∀ S, Rref p n S → Same p n S (kry p A ws k) → k ≤ S.length := by
    intro k
    induction k with
    | zero => intro _ S _ _; omega
    | succ k ih =>
      intro hk S hS sS
      obtain ⟨S0, r0, s0⟩ := exists_rref (n := n) hp P (kry_ok (A := A) (k := k) hp0 hl hw)
      have l0 := ih (by omega) S0 r0 s0
      obtain ⟨w, hw2, nw⟩ : ∃ w ∈ ws, ¬ Sp p n (kry p A ws k) (it p A k w) := Classical.byContradiction fun z => no ⟨k, by omega, fun w hw2 => Classical.byContradiction fun q => z ⟨w, hw2, q⟩⟩
      have := len_less hp r0 hS (fun v hv => (sS v).2 (kry_up (by omega) ((s0 v).1 hv))) (v := it p A k w) ((sS _).2 (Sp.gen hp0 (it_ok hp0 hl (hw w hw2) k) (mem_kry.2 ⟨k, by omega, w, hw2, rfl⟩))) fun q => nw ((s0 _).1 q)
      omega
  obtain ⟨S, rS, sS⟩ := exists_rref (n := n) hp P (kry_ok (A := A) (k := n + 1) hp0 hl hw)
  have h1 := grow (n + 1) (Nat.le_refl _) S rS sS
  have h2 := rS.len_le
  omega
theorem kry_n {ws : List Row} (hp : 1 < p) (P : Prm p) (hA : Oks p n A) (hl : A.length = n) (hw : Oks p n ws) {k : Nat} (hk : n ≤ k) (hw2 : w ∈ ws) (t : Nat) : Sp p n (kry p A ws k) (it p A t w) := by
  obtain ⟨k0, h0, stop⟩ := kry_stop hp P hA hl hw
  exact kry_up (by omega) (kry_all (by omega) hA hl hw stop hw2 t)
theorem kry_same {ws : List Row} (hp : 1 < p) (P : Prm p) (hA : Oks p n A) (hl : A.length = n) (hw : Oks p n ws) {j k : Nat} (hj : n ≤ j) (hk : n ≤ k) : Same p n (kry p A ws j) (kry p A ws k) :=
  same_of (by omega) (kry_ok (by omega) hl hw) (kry_ok (by omega) hl hw) (fun x hx => by
    obtain ⟨t, _, w, hw2, e⟩ := mem_kry.1 hx
    rw [← e]
    exact kry_n hp P hA hl hw hk hw2 t) fun x hx => by
    obtain ⟨t, _, w, hw2, e⟩ := mem_kry.1 hx
    rw [← e]
    exact kry_n hp P hA hl hw hj hw2 t
theorem kry_stable {ws : List Row} (hp : 1 < p) (P : Prm p) (hA : Oks p n A) (hl : A.length = n) (hw : Oks p n ws) {k : Nat} (hk : n ≤ k) (hv : Sp p n (kry p A ws k) v) : Sp p n (kry p A ws k) (app p A v) :=
  kry_closed (by omega) hA hl hw (fun w hw2 => kry_n hp P hA hl hw hk hw2 k) hv
/-! ### the table turned over -/
def tr (n : Nat) (A : List Row) : List Row := (List.range n).map fun j => A.map fun r => g r j
theorem tr_len : (tr n A).length = n := by unfold tr; rw [List.length_map, List.length_range]
theorem tr_ok (hp : 0 < p) (hA : Oks p n A) (hl : A.length = n) : Oks p n (tr n A) := fun x hx => by
  obtain ⟨j, _, e⟩ := List.mem_map.mp hx
  rw [← e]
  refine ⟨by rw [List.length_map]; exact hl, fun y hy => ?_⟩
  obtain ⟨r, hr, e2⟩ := List.mem_map.mp hy
  rw [← e2]
  exact g_bd hp (hA r hr) j
theorem tr_row {j : Nat} (hj : j < n) : (tr n A)[j]'(by rw [tr_len]; exact hj) = A.map fun r => g r j := by
  unfold tr
  rw [List.getElem_map, List.getElem_range]
theorem g_col {j i : Nat} (hi : i < A.length) : g (A.map fun r => g r j) i = g A[i] j := by
  rw [g_lt (by rw [List.length_map]; exact hi), List.getElem_map]
theorem sum_mod {α : Type} {l : List α} {f h : α → Int} (e : ∀ x ∈ l, f x % p = h x % p) : (l.map f).sum % p = (l.map h).sum % p := by
  induction l with
  | nil => rfl
  | cons a t ih =>
    rw [List.map_cons, List.sum_cons, List.map_cons, List.sum_cons]
    exact mod_add_cong (e a List.mem_cons_self) (ih fun x hx => e x (List.mem_cons_of_mem _ hx))
theorem sum_scale {α : Type} {l : List α} {f : α → Int} {c : Int} : c * (l.map f).sum = (l.map fun x => c * f x).sum := by
  induction l with
  | nil => simp
  | cons a t ih => rw [List.map_cons, List.sum_cons, Int.mul_add, ih, List.map_cons, List.sum_cons]
theorem sum_plus {α : Type} {l : List α} {f h : α → Int} : (l.map f).sum + (l.map h).sum = (l.map fun x => f x + h x).sum := by
  induction l with
  | nil => rfl
  | cons a t ih =>
    simp only [List.map_cons, List.sum_cons]
    omega
theorem sum_swap {α β : Type} {l : List α} {m : List β} {f : α → β → Int} : (l.map fun a => (m.map fun b => f a b).sum).sum = (m.map fun b => (l.map fun a => f a b).sum).sum := by
  induction l with
  | nil => simp [sum_none]
  | cons a t ih =>
    rw [List.map_cons, List.sum_cons, ih, sum_plus]
    rfl
theorem dot_app (hp : 0 < p) (hA : Oks p n A) (hl : A.length = n) (hs : u.length = n) (hv : v.length = n) : dot p u (app p A v) = dot p (app p (tr n A) u) v := by
  have la : (app p A v).length = n := (app_ok hp hl).1
  have lb : (app p (tr n A) u).length = n := (app_ok hp tr_len).1
  have e1 : dot p u (app p A v) = ((List.range n).map fun i => ((List.range n).map fun j => g u i * (g (A.getD i []) j * g v j)).sum).sum % p := by
    rw [dot_eq hs la]
    refine sum_mod fun i hi => ?_
    have hi2 : i < A.length := by rw [hl]; exact List.mem_range.mp hi
    have ea : A.getD i [] = A[i] := by rw [List.getD_eq_getElem?_getD, List.getElem?_eq_getElem hi2]; rfl
    rw [g_app hi2, dot_eq (hA _ (List.getElem_mem hi2)).1 hv, ← sum_scale, ea]
    exact mod_mul_cong rfl (mm _ _)
  have e2 : dot p (app p (tr n A) u) v = ((List.range n).map fun j => ((List.range n).map fun i => g u i * (g (A.getD i []) j * g v j)).sum).sum % p := by
    rw [dot_eq lb hv]
    refine sum_mod fun j hj => ?_
    have hj2 : j < n := List.mem_range.mp hj
    have ht : j < (tr n A).length := by rw [tr_len]; exact hj2
    rw [g_app ht, tr_row hj2, dot_eq (by rw [List.length_map]; exact hl) hs]
    have e3 : ((List.range n).map fun i => g u i * (g (A.getD i []) j * g v j)).sum = g v j * ((List.range n).map fun i => g (A.map fun r => g r j) i * g u i).sum := by
      rw [sum_scale]
      refine congrArg List.sum (List.map_congr_left fun i hi => ?_)
      have hi2 : i < A.length := by rw [hl]; exact List.mem_range.mp hi
      have ea : A.getD i [] = A[i] := by rw [List.getD_eq_getElem?_getD, List.getElem?_eq_getElem hi2]; rfl
      rw [g_col hi2, ea]
      grind
    rw [e3, Int.mul_comm]
    exact mod_mul_cong rfl (mm _ _)
  rw [e1, e2, sum_swap]
theorem dot_it (hp : 0 < p) (hA : Oks p n A) (hl : A.length = n) (hu : OkR p n u) (hv : OkR p n v) : ∀ t, dot p u (it p A t v) = dot p (it p (tr n A) t u) v := by
  have two : ∀ t (u : Row), it p (tr n A) t (app p (tr n A) u) = app p (tr n A) (it p (tr n A) t u) := fun t => by
    induction t with
    | zero => intro u; rfl
    | succ t ih => intro u; show app p _ (it p _ t _) = app p _ (app p _ (it p _ t u)); rw [ih]
  intro t
  induction t generalizing u with
  | zero => rfl
  | succ t ih =>
    show dot p u (app p A (it p A t v)) = _
    rw [dot_app hp hA hl hu.1 (it_ok hp hl hv t).1, ih (app_ok hp tr_len), two]
    rfl
/-- what is never seen is what is not seen in so many ticks as there are cells -/
theorem unseen_n {ss : List Row} (hp : 1 < p) (P : Prm p) (hA : Oks p n A) (hl : A.length = n) (hs : Oks p n ss) {k : Nat} (hk : n ≤ k) (hv : OkR p n v) (h : ∀ t, t < k → ∀ s ∈ ss, dot p s (it p A t v) = 0) : ∀ t, ∀ s ∈ ss, dot p s (it p A t v) = 0 := fun t s hs2 => by
  have hp0 : 0 < p := by omega
  rw [dot_it hp0 hA hl (hs s hs2) hv]
  refine perp_sp hp0 (kry_ok (k := k) hp0 tr_len hs) hv.1 (fun x hx => ?_) (kry_n hp P (tr_ok hp0 hA hl) tr_len hs hk hs2 t)
  obtain ⟨j, hj, w, hw, e⟩ := mem_kry.1 hx
  rw [← e, ← dot_it hp0 hA hl (hs w hw) hv]
  exact h j hj w hw
end
end Lin


set_option maxRecDepth 100000
set_option linter.unusedVariables false
/-! a table that can be undone: it comes round -/
namespace Lin
section
variable {p : Int} {n : Nat} {S T R : List Row} {A : List Row} {v w r u : Row}
def unit (n j : Nat) : Row := (zero n).set j 1
theorem unit_len {j : Nat} : (unit n j).length = n := by unfold unit zero; rw [List.length_set, List.length_replicate]
theorem g_unit {j i : Nat} (hj : j < n) : g (unit n j) i = if i = j then 1 else 0 := by
  unfold unit
  rw [g_set (by unfold zero; rw [List.length_replicate]; exact hj), g_zero]
theorem unit_ok (hp : 1 < p) {j : Nat} (hj : j < n) : OkR p n (unit n j) := by
  refine ⟨unit_len, fun x hx => ?_⟩
  obtain ⟨i, hi, e⟩ := List.mem_iff_getElem.mp hx
  have q := g_unit (n := n) (i := i) hj
  rw [g_lt hi, e] at q
  rw [q]
  split <;> omega
theorem dot_unit (hp : 0 < p) {j : Nat} (hj : j < n) (hv : OkR p n v) : dot p (unit n j) v = g v j := by
  rw [dot_eq unit_len hv.1]
  have e : ((List.range n).map fun i => g (unit n j) i * g v i).sum = g (unit n j) j * g v j :=
    sum_one (f := fun i => g (unit n j) i * g v i) List.nodup_range (List.mem_range.mpr hj) fun i _ d => by rw [g_unit hj, if_neg d, Int.zero_mul]
  rw [e, g_unit hj, if_pos rfl, Int.one_mul, g_mod hp hv]
/-- as many steps as places: all rows are spanned -/
theorem span_all (hp : 1 < p) (hS : Rref p n S) (hl : S.length = n) (hv : OkR p n v) : Sp p n S v := by
  have hp0 : 0 < p := by omega
  refine Classical.byContradiction fun no => ?_
  have nd : (v :: combos p n S).Nodup := List.nodup_cons.mpr ⟨fun z => no ((mem_combos hp0 hS.ok).1 z), combos_nd hp0 hS.ind⟩
  have := nd_len nd (ys := allRows p n) fun x hx => (mem_all hp0).2 (by
    rcases List.mem_cons.mp hx with e | e
    · rw [e]; exact hv
    · exact ((mem_combos hp0 hS.ok).1 e).ok hp0 hS.ok)
  rw [List.length_cons, combos_len, all_len, hl] at this
  omega
theorem app_inj (hp : 1 < p) (hA : Oks p n A) (hl : A.length = n) (hS : Rref p n S) (hn : S.length = n) (sS : Same p n S A) (hu : OkR p n u) (hv : OkR p n v) (e : app p A u = app p A v) : u = v := by
  have hp0 : 0 < p := by omega
  refine ext hu.1 hv.1 fun j hj => ?_
  have od := ok_add (p := p) (c := -1) hp0 hu.1 hv.1
  have z : ∀ r ∈ A, dot p r (add p u (-1) v) = 0 := fun r hr => by
    obtain ⟨i, hi, ei⟩ := List.mem_iff_getElem.mp hr
    have q := congrArg (fun x => g x i) e
    simp only [g_app hi, ei] at q
    rw [dot_add2 hu.1 hv.1 (hA r hr).1, q]
    have : dot p r v + -1 * dot p r v = 0 := by omega
    rw [this]; rfl
  have q := perp_sp hp0 hA od.1 z ((sS _).1 (span_all hp hS hn (unit_ok hp hj)))
  rw [dot_unit hp0 hj od, g_add (by rw [hu.1, hv.1])] at q
  have b1 := g_bd hp0 hu j
  have b2 := g_bd hp0 hv j
  have := small_dvd (x := g u j + -1 * g v j) hp0 (by omega) (by omega) q
  omega
theorem it_add (s t : Nat) (v : Row) : it p A (s + t) v = it p A s (it p A t v) := by
  induction s with
  | zero => rw [Nat.zero_add]; rfl
  | succ s ih => rw [Nat.succ_add]; show app p A (it p A (s + t) v) = _; rw [ih]; rfl
theorem it_inj (hp : 1 < p) (hA : Oks p n A) (hl : A.length = n) (hS : Rref p n S) (hn : S.length = n) (sS : Same p n S A) : ∀ (t : Nat) {u v : Row}, OkR p n u → OkR p n v → it p A t u = it p A t v → u = v
  | 0, _, _, _, _, e => e
  | t + 1, u, v, hu, hv, e => it_inj hp hA hl hS hn sS t hu hv (app_inj hp hA hl hS hn sS (it_ok (by omega) hl hu t) (it_ok (by omega) hl hv t) e)
theorem comes_round (hp : 1 < p) (hA : Oks p n A) (hl : A.length = n) (hS : Rref p n S) (hn : S.length = n) (sS : Same p n S A) (hv : OkR p n v) : ∃ t, 1 ≤ t ∧ it p A t v = v := by
  have hp0 : 0 < p := by omega
  refine Classical.byContradiction fun no => ?_
  have ne : ∀ i j, i < j → it p A i v ≠ it p A j v := fun i j hij e => by
    refine no ⟨j - i, by omega, ?_⟩
    have e2 : j = i + (j - i) := by omega
    rw [e2, it_add] at e
    exact (it_inj hp hA hl hS hn sS i hv (it_ok hp0 hl hv _) e).symm
  have nd : ((List.range (p.toNat ^ n + 1)).map fun t => it p A t v).Nodup := List.pairwise_map.mpr (List.pairwise_lt_range.imp fun {a b} h => ne a b h)
  have := nd_len nd (ys := allRows p n) fun x hx => (mem_all hp0).2 (by
    obtain ⟨t, _, e⟩ := List.mem_map.mp hx
    rw [← e]
    exact it_ok hp0 hl hv t)
  rw [List.length_map, List.length_range, all_len] at this
  omega
theorem it_mul {t : Nat} (h : it p A t v = v) : ∀ k, it p A (t * k) v = v
  | 0 => rfl
  | k + 1 => by rw [Nat.mul_succ, it_add, h]; exact it_mul h k
/-- all of some rows come round together -/
theorem all_round (hp : 1 < p) (hA : Oks p n A) (hl : A.length = n) (hS : Rref p n S) (hn : S.length = n) (sS : Same p n S A) : ∀ {vs : List Row}, Oks p n vs → ∃ t, 1 ≤ t ∧ ∀ v ∈ vs, it p A t v = v
  | [], _ => ⟨1, Nat.le_refl 1, fun _ z => by cases z⟩
  | v :: l, h => by
    obtain ⟨t, h1, h2⟩ := all_round hp hA hl hS hn sS (vs := l) fun x hx => h x (List.mem_cons_of_mem _ hx)
    obtain ⟨k, k1, k2⟩ := comes_round hp hA hl hS hn sS (h v List.mem_cons_self)
    refine ⟨t * k, Nat.mul_pos h1 k1, fun x hx => ?_⟩
    rcases List.mem_cons.mp hx with e | e
    · rw [e, Nat.mul_comm]; exact it_mul k2 t
    · exact it_mul (h2 x e) k
/-- the round: the least such number -/
theorem least_round {Q : Nat → Prop} (h : ∃ t, 1 ≤ t ∧ Q t) : ∃ t, 1 ≤ t ∧ Q t ∧ ∀ s, 1 ≤ s → s < t → ¬ Q s := by
  obtain ⟨t, h1, h2⟩ := h
  induction t using Nat.strongRecOn with
  | _ t ih =>
    rcases Classical.em (∃ s, 1 ≤ s ∧ s < t ∧ Q s) with ⟨s, s1, s2, s3⟩ | no
    · exact ih s s2 s1 s3
    · exact ⟨t, h1, h2, fun s s1 s2 s3 => no ⟨s, s1, s2, s3⟩⟩
/-! ### tables one behind the other -/
/-- what one table makes of the columns of another one -/
def behind (p : Int) (n : Nat) (A C : List Row) : List Row := tr n ((tr n C).map (app p A))
theorem g_tr {i j : Nat} (hA : A.length = n) (hi : i < n) (hj : j < n) : g ((tr n A).getD j []) i = g (A.getD i []) j := by
  have ht : j < (tr n A).length := by rw [tr_len]; exact hj
  have hi2 : i < A.length := by omega
  have e1 : (tr n A).getD j [] = A.map fun r => g r j := by
    rw [List.getD_eq_getElem?_getD, List.getElem?_eq_getElem ht]
    exact tr_row hj
  have e2 : A.getD i [] = A[i] := by rw [List.getD_eq_getElem?_getD, List.getElem?_eq_getElem hi2]; rfl
  rw [e1, e2, g_col hi2]
theorem tr_tr (hA : A.length = n) (hr : ∀ r ∈ A, r.length = n) : tr n (tr n A) = A := by
  refine List.ext_getElem (by rw [tr_len, hA]) fun i h1 h2 => ?_
  have hi : i < n := by omega
  rw [tr_row hi]
  refine ext (n := n) (by rw [List.length_map, tr_len]) (hr _ (List.getElem_mem h2)) fun j hj => ?_
  have ht : j < (tr n A).length := by rw [tr_len]; exact hj
  rw [g_col ht]
  have := g_tr hA hi hj
  rw [List.getD_eq_getElem?_getD, List.getElem?_eq_getElem ht, List.getD_eq_getElem?_getD, List.getElem?_eq_getElem h2] at this
  exact this
end
end Lin


set_option maxRecDepth 100000
set_option linter.unusedVariables false
/-! powers of a table -/
namespace Lin
section
variable {p : Int} {n : Nat} {S T R : List Row} {A C : List Row} {v w r u : Row}
theorem behind_row {i : Nat} (hi : i < n) (h : i < (behind p n A C).length) : (behind p n A C)[i] = ((tr n C).map (app p A)).map fun r => g r i := tr_row (A := (tr n C).map (app p A)) hi
theorem units_row {i : Nat} (h : i < ((List.range n).map (unit n)).length) : ((List.range n).map (unit n))[i] = unit n i := by rw [List.getElem_map, List.getElem_range]
theorem behind_is (hp : 0 < p) (hA : Oks p n A) (hl : A.length = n) (hC : Oks p n C) (hlC : C.length = n) : behind p n A C = A.map fun r => app p (tr n C) r := by
  have lt : ((tr n C).map (app p A)).length = n := by rw [List.length_map, tr_len]
  refine List.ext_getElem (by unfold behind; rw [tr_len, List.length_map, hl]) fun i h1 h2 => ?_
  have hi : i < n := by unfold behind at h1; rw [tr_len] at h1; exact h1
  have hi2 : i < A.length := by omega
  rw [behind_row hi h1, List.getElem_map]
  refine ext (n := n) (by rw [List.length_map, lt]) (app_ok hp tr_len).1 fun j hj => ?_
  have ht : j < (tr n C).length := by rw [tr_len]; exact hj
  rw [g_col (by rw [lt]; exact hj), List.getElem_map, g_app hi2, g_app ht]
  exact dot_comm (hA _ (List.getElem_mem hi2)).1 (tr_ok hp hC hlC _ (List.getElem_mem ht)).1
theorem behind_ok (hp : 0 < p) (hl : A.length = n) : Oks p n (behind p n A C) := by
  unfold behind
  refine tr_ok hp (fun x hx => ?_) (by rw [List.length_map, tr_len])
  obtain ⟨y, _, e⟩ := List.mem_map.mp hx
  rw [← e]
  exact app_ok hp hl
theorem behind_len : (behind p n A C).length = n := tr_len
theorem app_behind (hp : 0 < p) (hA : Oks p n A) (hl : A.length = n) (hC : Oks p n C) (hlC : C.length = n) (hv : OkR p n v) : app p (behind p n A C) v = app p A (app p C v) := by
  rw [behind_is hp hA hl hC hlC]
  unfold app
  rw [List.map_map]
  refine List.map_congr_left fun r hr => ?_
  exact (dot_app hp hC hlC (hA r hr).1 hv.1).symm
def units (n : Nat) : List Row := (List.range n).map (unit n)
theorem units_len : (units n).length = n := by unfold units; rw [List.length_map, List.length_range]
theorem units_ok (hp : 1 < p) : Oks p n (units n) := fun x hx => by
  obtain ⟨j, hj, e⟩ := List.mem_map.mp hx
  rw [← e]
  exact unit_ok hp (List.mem_range.mp hj)
theorem app_units (hp : 1 < p) (hv : OkR p n v) : app p (units n) v = v := by
  refine ext (app_ok (by omega) units_len).1 hv.1 fun i hi => ?_
  have hi2 : i < (units n).length := by rw [units_len]; exact hi
  have e : (units n)[i] = unit n i := units_row hi2
  rw [g_app hi2, e, dot_unit (by omega) hi hv]
/-- a table is told by what it makes of the unit rows -/
theorem table_ext (hp : 1 < p) (hA : Oks p n A) (hl : A.length = n) (hC : Oks p n C) (hlC : C.length = n) (h : ∀ j, j < n → app p A (unit n j) = app p C (unit n j)) : A = C := by
  refine List.ext_getElem (by omega) fun i h1 h2 => ?_
  have oA := hA _ (List.getElem_mem h1)
  have oC := hC _ (List.getElem_mem h2)
  refine ext oA.1 oC.1 fun j hj => ?_
  have q := congrArg (fun x => g x i) (h j hj)
  simp only [g_app h1, g_app h2] at q
  rw [dot_comm oA.1 unit_len, dot_comm oC.1 unit_len, dot_unit (by omega) hj oA, dot_unit (by omega) hj oC] at q
  exact q
/-- the table that acts as A does t times -/
def pw (p : Int) (n : Nat) (A : List Row) : Nat → List Row
  | 0 => units n
  | t + 1 => behind p n A (pw p n A t)
theorem pw_ok (hp : 1 < p) (hl : A.length = n) : ∀ t, Oks p n (pw p n A t) ∧ (pw p n A t).length = n
  | 0 => ⟨units_ok hp, units_len⟩
  | t + 1 => ⟨behind_ok (by omega) hl, behind_len⟩
theorem app_pw (hp : 1 < p) (hA : Oks p n A) (hl : A.length = n) (hv : OkR p n v) : ∀ t, app p (pw p n A t) v = it p A t v
  | 0 => app_units hp hv
  | t + 1 => by
    show app p (behind p n A (pw p n A t)) v = app p A (it p A t v)
    rw [app_behind (by omega) hA hl (pw_ok hp hl t).1 (pw_ok hp hl t).2 hv, app_pw hp hA hl hv t]
theorem pw_one (hp : 1 < p) (hA : Oks p n A) (hl : A.length = n) : pw p n A 1 = A :=
  table_ext hp (pw_ok hp hl 1).1 (pw_ok hp hl 1).2 hA hl fun j hj => by rw [app_pw hp hA hl (unit_ok hp hj)]; rfl
theorem pw_add (hp : 1 < p) (hA : Oks p n A) (hl : A.length = n) (s t : Nat) : behind p n (pw p n A s) (pw p n A t) = pw p n A (s + t) :=
  table_ext hp (behind_ok (by omega) (pw_ok hp hl s).2) behind_len (pw_ok hp hl _).1 (pw_ok hp hl _).2 fun j hj => by
    have o := unit_ok (n := n) hp hj
    rw [app_behind (by omega) (pw_ok hp hl s).1 (pw_ok hp hl s).2 (pw_ok hp hl t).1 (pw_ok hp hl t).2 o, app_pw hp hA hl o, app_pw hp hA hl (it_ok (by omega) hl o t), app_pw hp hA hl o, it_add]
theorem pw_still (hp : 1 < p) (hA : Oks p n A) (hl : A.length = n) (t : Nat) : pw p n A t = units n ↔ ∀ v ∈ units n, it p A t v = v := by
  constructor
  · intro e v hv
    have o := units_ok hp v hv
    rw [← app_pw hp hA hl o, e, app_units hp o]
  · intro h
    refine table_ext hp (pw_ok hp hl t).1 (pw_ok hp hl t).2 (units_ok hp) units_len fun j hj => ?_
    have o := unit_ok (n := n) hp hj
    rw [app_pw hp hA hl o, app_units hp o]
    exact h _ (List.mem_map.mpr ⟨j, List.mem_range.mpr hj, rfl⟩)
/-- the round of a table that can be undone -/
theorem round (hp : 1 < p) (hA : Oks p n A) (hl : A.length = n) (hS : Rref p n S) (hn : S.length = n) (sS : Same p n S A) : ∃ t, 1 ≤ t ∧ pw p n A t = units n ∧ ∀ s, 1 ≤ s → s < t → pw p n A s ≠ units n := by
  obtain ⟨t, h1, h2⟩ := all_round hp hA hl hS hn sS (units_ok (n := n) hp)
  exact least_round ⟨t, h1, (pw_still hp hA hl t).2 h2⟩
end
end Lin


set_option maxRecDepth 100000
set_option linter.unusedVariables false
/-! tables that can be undone: how they are drawn, how they are told -/
namespace Lin
section
variable {p : Int} {n : Nat} {S T R : List Row} {A C : List Row} {v w r u : Row}
/-- all rows are sums of multiples -/
def Full (p : Int) (n : Nat) (A : List Row) : Prop := ∀ v, OkR p n v → Sp p n A v
theorem full_rank (hp : 1 < p) (hS : Rref p n S) (sS : Same p n S A) : Full p n A ↔ S.length = n := by
  have hp0 : 0 < p := by omega
  constructor
  · intro h
    have := nd_len (all_nd (p := p) n) (ys := combos p n S) fun x hx => (mem_combos hp0 hS.ok).2 ((sS x).2 (h x ((mem_all hp0).1 hx)))
    rw [all_len, combos_len] at this
    have := (Nat.pow_le_pow_iff_right (a := p.toNat) (by omega)).1 this
    have := hS.len_le
    omega
  · intro h v hv
    exact (sS v).1 (span_all hp hS h hv)
theorem full_units (hp : 1 < p) : Full p n (units n) := fun v hv => by
  have hp0 : 0 < p := by omega
  -- the first k places of v
  have part : ∀ k, k ≤ n → ∃ u, Sp p n (units n) u ∧ ∀ i, i < n → g u i = if i < k then g v i else 0 := by
    intro k
    induction k with
    | zero => intro _; exact ⟨zero n, .zero, fun i _ => by rw [g_zero, if_neg (by omega)]⟩
    | succ k ih =>
      intro hk
      obtain ⟨u, h1, h2⟩ := ih (by omega)
      have ou := h1.ok hp0 (units_ok hp)
      refine ⟨add p u (g v k) (unit n k), h1.step _ (List.mem_map.mpr ⟨k, List.mem_range.mpr (by omega), rfl⟩), fun i hi => ?_⟩
      rw [g_add (by rw [ou.1, unit_len]), h2 i hi, g_unit (by omega)]
      by_cases e : i = k
      · subst e
        rw [if_neg (by omega), if_pos rfl, if_pos (by omega), Int.zero_add, Int.mul_one, g_mod hp0 hv]
      · rw [if_neg e, Int.mul_zero, Int.add_zero]
        by_cases l : i < k
        · rw [if_pos l, if_pos (by omega), g_mod hp0 hv]
        · rw [if_neg l, if_neg (by omega)]; rfl
  obtain ⟨u, h1, h2⟩ := part n (Nat.le_refl n)
  have e : u = v := ext (h1.ok hp0 (units_ok hp)).1 hv.1 fun i hi => by rw [h2 i hi, if_pos hi]
  rw [← e]
  exact h1
theorem full_of (hp : 0 < p) (hA : Oks p n A) (hC : Oks p n C) (h : ∀ r ∈ A, Sp p n C r) (f : Full p n A) : Full p n C := fun v hv => (f v hv).mono hp hC h
/-- another row's multiple added to a row -/
theorem full_step (hp : 0 < p) (hA : Oks p n A) {i j : Nat} (hi : i < A.length) (hj : j < A.length) (ne : i ≠ j) (c : Int) (f : Full p n A) : Oks p n (A.set i (add p A[i] c A[j])) ∧ Full p n (A.set i (add p A[i] c A[j])) := by
  have oi := hA _ (List.getElem_mem hi)
  have oj := hA _ (List.getElem_mem hj)
  have on : OkR p n (add p A[i] c A[j]) := ok_add hp oi.1 oj.1
  have oC : Oks p n (A.set i (add p A[i] c A[j])) := fun x hx => by
    rcases List.mem_or_eq_of_mem_set hx with e | e
    · exact hA x e
    · rw [e]; exact on
  have mj : A[j] ∈ A.set i (add p A[i] c A[j]) := by
    refine List.mem_iff_getElem.mpr ⟨j, by rw [List.length_set]; exact hj, ?_⟩
    rw [List.getElem_set_ne ne]
  have mi : add p A[i] c A[j] ∈ A.set i (add p A[i] c A[j]) := List.mem_iff_getElem.mpr ⟨i, by rw [List.length_set]; exact hi, by rw [List.getElem_set_self]⟩
  refine ⟨oC, full_of hp hA oC (fun r hr => ?_) f⟩
  obtain ⟨k, hk, e⟩ := List.mem_iff_getElem.mp hr
  by_cases ek : k = i
  · subst ek
    have back : add p (add p A[k] c A[j]) (-c) A[j] = r := by
      rw [← e]
      refine ext (len_add on.1 oj.1) oi.1 fun i _ => ?_
      rw [g_add (by rw [on.1, oj.1]), g_add (by rw [oi.1, oj.1]), md (g A[k] i + c * g A[j] i) p]
      have q := g_mod hp oi i
      conv => rhs; rw [← q]
      refine modEq (-((g A[k] i + c * g A[j] i) / p)) ?_
      grind
    rw [← back]
    exact (Sp.gen hp on mi).add hp oC (Sp.gen hp oj mj) (-c)
  · refine Sp.gen hp (hA r hr) ?_
    rw [← e]
    exact List.mem_iff_getElem.mpr ⟨k, by rw [List.length_set]; exact hk, by rw [List.getElem_set_ne (fun z => ek z.symm)]⟩
/-- two rows change places -/
theorem full_swap (hp : 0 < p) (hA : Oks p n A) {i j : Nat} (hi : i < A.length) (hj : j < A.length) (f : Full p n A) : Oks p n ((A.set i A[j]).set j A[i]) ∧ Full p n ((A.set i A[j]).set j A[i]) := by
  have oC : Oks p n ((A.set i A[j]).set j A[i]) := fun x hx => by
    rcases List.mem_or_eq_of_mem_set hx with e | e
    · rcases List.mem_or_eq_of_mem_set e with e | e
      · exact hA x e
      · rw [e]; exact hA _ (List.getElem_mem hj)
    · rw [e]; exact hA _ (List.getElem_mem hi)
  refine ⟨oC, full_of hp hA oC (fun r hr => ?_) f⟩
  refine Sp.gen hp (hA r hr) ?_
  obtain ⟨k, hk, e⟩ := List.mem_iff_getElem.mp hr
  have lz : ((A.set i A[j]).set j A[i]).length = A.length := by rw [List.length_set, List.length_set]
  by_cases e1 : k = j
  · subst e1
    by_cases e2 : k = i
    · subst e2
      refine List.mem_iff_getElem.mpr ⟨k, by omega, ?_⟩
      rw [List.getElem_set_self]
      exact e
    · refine List.mem_iff_getElem.mpr ⟨i, by omega, ?_⟩
      rw [List.getElem_set_ne e2, List.getElem_set_self]
      exact e
  · by_cases e2 : k = i
    · subst e2
      refine List.mem_iff_getElem.mpr ⟨j, by omega, ?_⟩
      rw [List.getElem_set_self]
      exact e
    · refine List.mem_iff_getElem.mpr ⟨k, by omega, ?_⟩
      rw [List.getElem_set_ne (fun z => e1 z.symm), List.getElem_set_ne (fun z => e2 z.symm)]
      exact e
/-! ### spaces told by a property -/
structure Space (p : Int) (n : Nat) (V : Row → Prop) : Prop where
  ok : ∀ v, V v → OkR p n v
  zero : V (zero n)
  add : ∀ u w c, V u → V w → V (add p u c w)
theorem Space.sp {V : Row → Prop} (h : Space p n V) (hR : ∀ r ∈ R, V r) (hv : Sp p n R v) : V v := by
  induction hv with
  | zero => exact h.zero
  | step c _ hr ih => exact h.add _ _ c ih (hR _ hr)
/-- a space has a staircase -/
theorem Space.rref {V : Row → Prop} (hp : 1 < p) (P : Prm p) (h : Space p n V) : ∃ S, Rref p n S ∧ ∀ v, Sp p n S v ↔ V v := by
  classical
  have hp0 : 0 < p := by omega
  have ok : Oks p n ((allRows p n).filter fun v => decide (V v)) := fun x hx => (mem_all hp0).1 (List.mem_filter.mp hx).1
  obtain ⟨S, rS, sS⟩ := exists_rref hp P ok
  refine ⟨S, rS, fun v => (sS v).trans ⟨fun q => h.sp (fun r hr => of_decide_eq_true (List.mem_filter.mp hr).2) q, fun q => ?_⟩⟩
  exact Sp.gen hp0 (h.ok v q) (List.mem_filter.mpr ⟨(mem_all hp0).2 (h.ok v q), decide_eq_true q⟩)
theorem sp_space (hp : 0 < p) (hR : Oks p n R) : Space p n (Sp p n R) := ⟨fun v h => h.ok hp hR, .zero, fun u w c h1 h2 => h1.add hp hR h2 c⟩
theorem Space.and {V W : Row → Prop} (h : Space p n V) (h' : Space p n W) : Space p n fun v => V v ∧ W v :=
  ⟨fun v q => h.ok v q.1, ⟨h.zero, h'.zero⟩, fun u w c q1 q2 => ⟨h.add u w c q1.1 q2.1, h'.add u w c q1.2 q2.2⟩⟩
/-- the rows that meet told rows with 0, told ticks later -/
theorem unseen_space {ss : List Row} {I : Nat → Prop} (hp : 0 < p) (hA : Oks p n A) (hl : A.length = n) (hs : Oks p n ss) : Space p n fun v => OkR p n v ∧ ∀ t, I t → ∀ s ∈ ss, dot p s (it p A t v) = 0 := by
  have lin : ∀ (t : Nat) (u w : Row) (c : Int), OkR p n u → OkR p n w → it p A t (add p u c w) = add p (it p A t u) c (it p A t w) := fun t u w c hu hw => by
    induction t with
    | zero => rfl
    | succ t ih =>
      show app p A (it p A t (add p u c w)) = _
      rw [ih, app_add hp hA hl (it_ok hp hl hu t).1 (it_ok hp hl hw t).1]
      rfl
  have zero_it : ∀ t, it p A t (Lin.zero n) = Lin.zero n := fun t => by
    induction t with
    | zero => rfl
    | succ t ih => show app p A (it p A t (Lin.zero n)) = _; rw [ih, app_zero hA hl]
  refine ⟨fun v q => q.1, ⟨ok_zero n hp, fun t _ s hs2 => ?_⟩, fun u w c q1 q2 => ⟨ok_add hp q1.1.1 q2.1.1, fun t ht s hs2 => ?_⟩⟩
  · rw [zero_it, dot_comm (w := Lin.zero n) (hs s hs2).1 (show (List.replicate n (0 : Int)).length = n from List.length_replicate), dot_zero (hs s hs2).1]
  · rw [lin t u w c q1.1 q2.1, dot_add2 (it_ok hp hl q1.1 t).1 (it_ok hp hl q2.1 t).1 (hs s hs2).1, q1.2 t ht s hs2, q2.2 t ht s hs2]
    simp
/-- two spaces: what both span, and what they share (the sum's and the meeting's lengths) -/
theorem Space.count {V : Row → Prop} (hp : 1 < p) (hS : Rref p n S) (h : ∀ v, Sp p n S v ↔ V v) {L : List Row} (nd : L.Nodup) (hL : ∀ v, v ∈ L ↔ V v) : L.length = p.toNat ^ S.length :=
  hS.ind.count (by omega) nd fun v => (hL v).trans (h v).symm
end
end Lin


set_option Elab.async false
set_option linter.all false
set_option maxRecDepth 100000
set_option maxHeartbeats 4000000
namespace K01
open PySem PySem.Spec PyProof.Rows L2
/-- a machine: its prime, its table, its writes, its sights -/
def MachT (K : PySem.W.Frag) (p : Int) (A W S : List Row) (v : V) (H : Hp) : Prop := ∃ m a w s, v = .ref m ∧ SqT K H m [.int p, a, w, s] ∧ RowsT K A a H ∧ RowsT K W w H ∧ RowsT K S s H
theorem MachT.n {K : PySem.W.Frag} {p : Int} {A W S : List Row} {v : V} {H H' : Hp} (e : ExN H H') (h : MachT K p A W S v H) : MachT K p A W S v H' := by
  obtain ⟨m, a, w, s, h1, h2, h3, h4, h5⟩ := h
  exact ⟨m, a, w, s, h1, sqt_n e h2, h3.n e, h4.n e, h5.n e⟩
theorem MachT.ex {K : PySem.W.Frag} {p : Int} {A W S : List Row} {v : V} {H H' : Hp} (e : Ex H H') (h : MachT K p A W S v H) : MachT K p A W S v H' := h.n (Evl.Ex.n e)
section
variable {P : Program} {w : World} {K : PySem.W.Frag} {mg : Str → Option Value} {base : Heap}
def spStirred (K : PySem.W.Frag) : Sp := fun vs H Q _ => ∃ (p : Int) (n : Nat) (v u : V) (A W S : List Row) (r : Row), vs = [v, u] ∧ MachT K p A W S v H ∧ RowT K r u H ∧ 1 < p ∧ p ≤ 100 ∧ n ≤ 100 ∧ Lin.Oks p n A ∧ A.length = n ∧ Lin.OkR p n r ∧ Ret (RowT K (Lin.app p A r)) H Q
theorem ok_stirred {f : Addr} {fd : FuncData} (B : Bare mg) (F : Fun K "_law_stirred" "_law_stirred" s_law_stirred f fd) (Gm : Got P w K mg base CX0 1 "_law_met" p_law_met (spMet K)) : FnOk P w K mg base CX0 2 f fd p_law_stirred (spStirred K) := by
  refine F.ok sc_law_stirred (fun vs H Q E h => ?_) (fun cdv A outer s H vs Q E hr h => ?_)
  · obtain ⟨p, n, v, u, A, W, S, r, rfl, _⟩ := h
    rfl
  · obtain ⟨p, n, v, u, A, W, S, r, rfl, hM, hr0, h1, h2, hn, oA, lA, oR, q⟩ := h
    have hr1 : Room 1 _ := hr.mono (by decide)
    refine ⟨_, pss_one (ps_ret (pe_callTy call_tuple_of (by rfl) B.tuple (by decide +kernel) (pa_cons (pe_lc (own := [("line", 2)]) (g := gName 2) (tt := tYes) rfl sc_law_stirred.nd (pi_tup (pe_ix ix_tup (pv 0) pe_int (fun _ _ => rfl))) (blkOk_by (N := n_law_stirred) (sc := defScope s_law_stirred) (by decide +kernel))
      (fun _ _ _ _ _ => pg_name (i := 2) sc_law_stirred.nd rfl (Or.inl rfl)) (fun _ _ _ _ _ => pts_nil) (fun _ _ _ _ _ => pe_got Gm hr1 pass0 (pa_cons (pe_ix (show IxR _ (rIxT K) from ix_tup) (pv 0) pe_int (fun _ _ => rfl)) (pa_cons (pv 2) (pa_cons (pv 1) pa_nil))))) pa_nil))), ?_⟩
    obtain ⟨m, a, w', s', rfl, hm, hA, hW, hS⟩ := hM
    obtain ⟨b, us, rfl, hb, pb⟩ := hA
    have lu := pr_len pb
    refine ⟨_, rfl, m, _, _, _, rfl, rfl, hm, at_of (j := 1) rfl rfl, b, rfl, ⟨_, hb⟩, ?_⟩
    refine lc_go (walk_tup (xs := us)) (by omega) (fun H' e => _root_.Evl.ex_t e hb) A lu.symm (fun _ => true) (fun line => IsV (.int (Lin.dot p line r))) (fun _ _ _ _ _ h => h) (fun i d x H1 H2 hn1 e y C N hC hN => ?_) fun D ys H' nD e hD hy => ?_
    · obtain ⟨rfl, ex'⟩ := y
      obtain ⟨d', hd', rd⟩ := pr_get pb ex'
      obtain rfl : d' = d := Option.some.inj (hd'.symm.trans hn1)
      have od := oA d' (List.mem_of_getElem? hd')
      refine ⟨rfl, yes_go ⟨_, rfl, m, _, _, _, rfl, rfl, _root_.Evl.ex_t e hm, at_of (j := 0) rfl rfl, _, rfl, _, rfl, p, x, u, d', r, rfl, rd.ex e, hr0.ex e, by rw [od.1, oR.1], by omega, fun z hz => (by have := od.2 z hz; omega), by rw [od.1]; omega, fun z H3 e3 ez => hC rfl z H3 e3 ez⟩⟩
    · rw [filter_yes] at hy
      have ey : ys = (Lin.app p A r).map V.int := by
        rw [pr_fun hy]
        unfold Lin.app
        rw [List.map_map]
        rfl
      subst ey
      exact ⟨D, _, rfl, .inl ⟨SqL.of hD, fun l hl => q _ _ (e.trans (_root_.Evl.Ex.new hl)) (RowT.new upd_same)⟩⟩
end
end K01


set_option Elab.async false
set_option linter.all false
set_option maxRecDepth 100000
set_option maxHeartbeats 4000000
namespace K01
open PySem PySem.Spec PyProof.Rows L2
section
variable {P : Program} {w : World} {K : PySem.W.Frag} {mg : Str → Option Value} {base : Heap}
def spSpanB (K : PySem.W.Frag) : Sp := fun vs H Q _ => ∃ (p : Int) (n : Nat) (v : V) (R : List Row), vs = [.int p, v, .int (n : Nat)] ∧ RowsT K R v H ∧ 1 < p ∧ p ≤ 100 ∧ 1 ≤ n ∧ n ≤ 100 ∧ p.toNat ^ n ≤ 200 ∧ Lin.Prm p ∧ Lin.Oks p n R ∧ Ret (LotL K p n R) H Q
theorem lot_smallB {p : Int} {n : Nat} {R L : List Row} (hp : 1 < p) (hn : p.toNat ^ n ≤ 200) (o : Lin.Oks p n R) (l : Lin.Lot p n R L) : L.length ≤ 200 ∧ ∀ r ∈ L, Lin.OkR p n r := by
  have ok : ∀ r ∈ L, Lin.OkR p n r := fun r hr => ((l.mem r).1 hr).ok (by omega) o
  refine ⟨?_, ok⟩
  have := Lin.nd_len (ys := Lin.allRows p n) l.nd fun r hr => (Lin.mem_all (by omega)).2 (ok r hr)
  rw [Lin.all_len] at this
  omega
def spLStairsB (K : PySem.W.Frag) : Sp := fun vs H Q _ => ∃ (p : Int) (n : Nat) (v : V) (L : List Row), vs = [.int p, v] ∧ RowsL K L v H ∧ 1 < p ∧ p ≤ 100 ∧ 1 ≤ n ∧ n ≤ 12 ∧ L.length ≤ 200 ∧ (∀ r ∈ L, Lin.OkR p n r) ∧ Ret (LawStair K L) H Q
end
end K01


set_option Elab.async false
set_option linter.all false
set_option maxRecDepth 100000
set_option maxHeartbeats 4000000
namespace K01
open PySem PySem.Spec PyProof.Rows L2
/-- a comprehension whose items may be lists: what is known of an item stays where all but the comprehension's own list stays -/
theorem lc_goD {J : It} {n : Nat} {G : Hp → Prop} {Y : Nat → Hp → V → Hp → Prop} (w : Walk J n G Y) {g : TG} {tt : TT} {te : TE} {vs : List Nat} {σ : L2.St} {H : Hp} {Qd : Addr → Hp → Prop} (hn : n ≤ 40000) (hG : ∀ H', Ex H H' → G H')
    {α : Type} (ds : List α) (hds : ds.length = n) (R : Addr → α → V → Hp → Prop) (stb : ∀ D d v H1 H2, ExB D H1 H2 → R D d v H1 → R D d v H2)
    (turn : ∀ D acc i d x H1 H2, ds[i]? = some d → Ex H H1 → H1 D = some (.lst acc) → Y i H1 x H2 → ∀ (C : V → Hp → Prop) (N : Hp → Prop), (∀ y H3, Ex H1 H3 → R D d y H3 → C y H3) →
      g x (wipe σ vs) H2 fun σ2 H2' => wipe σ2 vs = wipe σ vs ∧ tt σ2 H2' fun b H3 => if b = true then te σ2 H3 C else N H3)
    (q : ∀ D ys H', H D = none → Ex H H' → H' D = some (.lst ys) → Paired (fun y d => R D d y H') ys ds → Qd D H') :
    ∀ D, H D = none → ∃ W : Nat → Nat → Hp → Prop, (∃ m, W 0 m (upd H D (.lst []))) ∧ ∀ i m H, W i m H →
      (J.stop i H ∧ Qd D H) ∨ (J.go i H ∧ ∃ Nx : Hp → Prop, (∀ H', Nx H' → ∃ m', m' < m ∧ W (i + 1) m' H') ∧ ∀ x H', J.yld i H x H' → g x (wipe σ vs) H' fun σ2 H2 => wipe σ2 vs = wipe σ vs ∧ tt σ2 H2 fun b H3 =>
        if b = true then te σ2 H3 fun y H4 => ∃ acc, H4 D = some (.lst acc) ∧ acc.length < sizeLine ∧ Nx (upd H4 D (.lst (acc ++ [y]))) else Nx H3) := by
  intro D hD
  refine lc_it w (Qd := Qd D) (fun i H' => Ex H H' ∧ ∃ ys, H' D = some (.lst ys) ∧ ys.length = i ∧ Paired (fun y d => R D d y H') ys (ds.take i)) ⟨_root_.Evl.Ex.new hD, [], upd_same, rfl, by rw [List.take_zero]; exact .nil⟩
    (fun i H' _ p => hG H' p.1) (fun i x H1 H2 hi p y => ?_) fun H' p => ?_
  · obtain ⟨e1, ys, hy, hl, hp⟩ := p
    have ed : ds[i]? = some (ds[i]'(by omega)) := List.getElem?_eq_getElem (by omega)
    refine turn D ys i _ x H1 H2 ed e1 hy y _ _ fun y H3 e3 r => ?_
    have h3 := e3 D _ hy
    have up : ExB D H3 (upd H3 D (.lst (ys ++ [y]))) := ExB.at (ExB.refl D H3)
    refine ⟨ys, h3, _root_.Evl.sz_lt (by omega), _root_.Evl.Ex.mut (e1.trans e3) hD, ys ++ [y], upd_same, by rw [List.length_append, List.length_singleton]; omega, ?_⟩
    rw [List.take_add_one, ed]
    exact pr_snoc (pr_mono hp fun a b z => stb D b _ _ _ up (stb D b _ _ _ (ExB.of e3) z)) (stb D _ _ _ _ up r)
  · obtain ⟨e1, ys, hy, hl, hp⟩ := p
    rw [List.take_of_length_le (by omega)] at hp
    exact q D ys H' hD e1 hy hp
def rTupK (K : PySem.W.Frag) : List V → Hp → VK → Prop := fun xs H Q => ∃ p ys, xs = [.ref p] ∧ ((SqL K H p ys ∧ ∀ l, H l = none → Q (.ref l) (upd H l (.tup ys))) ∨ (SqT K H p ys ∧ Q (.ref p) H))
/-- a list of lists of whole numbers, none of them at a -/
def TabL (a : Addr) (rs : List Row) (l : Addr) (H : Hp) : Prop := l ≠ a ∧ ∃ ls, H l = some (.lst ls) ∧ Paired (fun x r => ∃ b, x = .ref b ∧ b ≠ a ∧ b ≠ l ∧ H b = some (.lst (r.map V.int))) ls rs
theorem TabL.b {a l : Addr} {rs : List Row} {H H' : Hp} (e : ExB a H H') (h : TabL a rs l H) : TabL a rs l H' := by
  obtain ⟨nl, ls, h1, h2⟩ := h
  refine ⟨nl, ls, e _ _ nl h1, pr_mono h2 fun x r z => ?_⟩
  obtain ⟨b, z1, z2, z3, z4⟩ := z
  exact ⟨b, z1, z2, z3, e _ _ z2 z4⟩
theorem unit_is {n j : Nat} (hj : j < n) : (List.range n).map (fun (i : Nat) => if i = j then (1 : Int) else 0) = Lin.unit n j := by
  refine Lin.ext (n := n) (by rw [List.length_map, List.length_range]) Lin.unit_len fun i hi => ?_
  rw [Lin.g_unit hj, Lin.g_lt (by rw [List.length_map, List.length_range]; exact hi), List.getElem_map, List.getElem_range]
theorem pr_set {α β : Type} {F : α → β → Prop} {xs : List α} {ys : List β} {a : α} {b : β} (h : Paired F xs ys) (r : F a b) : ∀ i, Paired F (xs.set i a) (ys.set i b) := by
  induction h with
  | nil => intro i; exact .nil
  | cons r0 t ih =>
    intro i
    cases i with
    | zero => exact .cons r t
    | succ i => exact .cons r0 (ih i)
/-- all but what stands at a and at D is as it was -/
def ExC (a D : Addr) (H H' : Hp) : Prop := ∀ b o, b ≠ a → b ≠ D → H b = some o → H' b = some o
theorem ExC.of {a D : Addr} {H H' : Hp} (e : ExB a H H') : ExC a D H H' := fun b o n _ h => e b o n h
theorem ExC.trans {a D : Addr} {H H1 H2 : Hp} (e : ExC a D H H1) (e' : ExC a D H1 H2) : ExC a D H H2 := fun b o n m h => e' b o n m (e b o n m h)
theorem ExC.mk {a D : Addr} {H H1 : Hp} {o : HO} (e : Ex H H1) : ExC a D H (upd H1 D o) := fun b u _ m h => by rw [upd_ne m]; exact e _ _ h
theorem Row0.up {a b sc : Addr} {K : PySem.W.Frag} {ns : List Int} {G : Hp} {ys : List V} (nb : b ≠ a) (o : Off K b sc ns) (h : Row0 K a sc ns G) : Row0 K a sc ns (upd G b (.lst ys)) := by
  obtain ⟨i, sd, gr, h1, h2, h3, h4⟩ := h
  exact ⟨i, sd, gr, by rw [upd_ne nb.symm]; exact h1, h2, sql_o (ExB.at (ExB.refl b G)) o h3, h4⟩
theorem Row0.sql {a sc : Addr} {K : PySem.W.Frag} {ns : List Int} {G : Hp} (h : Row0 K a sc ns G) : SqL K G sc (ns.map V.int) := by
  obtain ⟨_, _, _, _, _, h3, _⟩ := h
  exact h3
def spStir (K : PySem.W.Frag) : Sp := fun vs H Q _ => ∃ (a sc : Addr) (ns : List Int) (p : Int) (n : Nat), vs = [.ref a, .int p, .int (n : Nat)] ∧ Row0 K a sc ns H ∧ 1 < p ∧ p ≤ 100 ∧ 1 ≤ n ∧ n ≤ 100 ∧ ∀ v H', ExB a H H' → Row0 K a sc ns H' → (∃ A, RowsT K A v H' ∧ Lin.Oks p n A ∧ A.length = n ∧ Lin.Full p n A) → Q v H'
section
variable {P : Program} {w : World} {K : PySem.W.Frag} {mg : Str → Option Value} {base : Heap}
theorem ok_stirL {f : Addr} {fd : FuncData} (B : Bare mg) (F : Fun K "_law_stir" "_law_stir" s_law_stir f fd) (Gt : Got P w K mg base CX0 1 "_law_taken" p_law_taken (spTaken K)) : FnOk P w K mg base CX0 2 f fd p_law_stir (spStir K) := by
  refine F.ok sc_law_stir (fun vs H Q E h => by obtain ⟨a, sc, ns, p, n, rfl, _⟩ := h; rfl) (fun cdv A outer s H vs Q E hr h => ?_)
  obtain ⟨a, sc, ns, p, n, rfl, hr0, h1, h2, hn1, hn, q⟩ := h
  refine ⟨_, pss_cons (ps_setLc (i := 3) (own := [("other", 5)]) (g := gName 5) (tt := tYes) rfl sc_law_stir.nd rfl rfl (sw_true rfl rfl rfl (by decide +kernel)) (pi_range1 rfl B.range (pa_cons (pv 2) pa_nil)) (blkOk_by (N := n_law_stir) (sc := defScope s_law_stir) (by decide +kernel)) (fun _ _ _ _ _ => pg_name (i := 5) sc_law_stir.nd rfl (Or.inr rfl)) (fun _ _ _ _ _ => pts_nil)
      (fun _ _ _ _ _ => pe_lc (own := [("one", 4)]) (g := gName 4) (tt := tYes) rfl sc_law_stir.nd (pi_range1 rfl B.range (pa_cons (pv 2) pa_nil)) (blkOk_by (by rfl)) (fun _ _ _ _ _ => pg_name (i := 4) sc_law_stir.nd rfl (Or.inl rfl)) (fun _ _ _ _ _ => pts_nil)
        (fun _ _ _ _ _ => pe_callTy call_int1 (by rfl) B.int (by decide +kernel) (pa_cons (pe_cmpR op_eq (pv 4) (pv 5) (nomark _)) pa_nil))))
    (pss_cons (ps_for PassesOwn.never rfl (pi_range1 rfl B.range (pa_cons (pe_got Gt hr pass0 (pa_cons (pv 0) (pa_cons pe_int pa_nil))) pa_nil)) (pg_name (i := 6) sc_law_stir.nd rfl (Or.inl rfl))
      (pss_cons (ps_asg (pe_tup (pa_cons (pe_got Gt hr pass0 (pa_cons (pv 0) (pa_cons (pv 2) pa_nil))) (pa_cons (pe_got Gt hr pass0 (pa_cons (pv 0) (pa_cons (pv 2) pa_nil))) (pa_cons (pe_op op_add pe_int (pe_got Gt hr pass0 (pa_cons (pv 0) (pa_cons (pe_op op_sub (pv 1) pe_int) pa_nil)))) pa_nil))))
          (pg_tup rfl (pgs_cons (pg_name (i := 4) sc_law_stir.nd rfl (Or.inl rfl)) (pgs_cons (pg_name (i := 5) sc_law_stir.nd rfl (Or.inl rfl)) (pgs_cons (pg_name (i := 7) sc_law_stir.nd rfl (Or.inr rfl)) pgs_nil)))))
      (pss_cons (ps_if (pt_cmpR op_ne (pv 4) (pv 5) (nomark _)) (pss_one (ps_asg (pe_lc (own := [("left", 8), ("right", 9)]) (g := gTup K 2 (gCons (gName 8) (gCons (gName 9) gNil))) (tt := tYes) rfl sc_law_stir.nd (RZ.pi_zipA (by rfl) B.zip (pa_cons (pe_ix ix_list (pv 3) (pv 4) (fun _ _ => rfl)) (pa_cons (pe_ix ix_list (pv 3) (pv 5) (fun _ _ => rfl)) pa_nil))) (blkOk_by (N := n_law_stir) (sc := defScope s_law_stir) (by decide +kernel))
            (fun _ _ _ _ _ => pg_tup rfl (pgs_cons (pg_name (i := 8) sc_law_stir.nd rfl (Or.inl rfl)) (pgs_cons (pg_name (i := 9) sc_law_stir.nd rfl (Or.inl rfl)) pgs_nil))) (fun _ _ _ _ _ => pts_nil) (fun _ _ _ _ _ => pe_op op_modN (pe_op op_add (pv 8) (pe_op op_mul (pv 7) (pv 9))) (pv 1)))
          (pg_sub (pv 3) (pv 4) set_list))) pss_nil)
      (pss_one (ps_asg (pe_tup (pa_cons (pe_ix ix_list (pv 3) (pv 5) (fun _ _ => rfl)) (pa_cons (pe_ix ix_list (pv 3) (pv 4) (fun _ _ => rfl)) pa_nil))) (pg_tup rfl (pgs_cons (pg_sub (pv 3) (pv 4) set_list) (pgs_cons (pg_sub (pv 3) (pv 5) set_list) pgs_nil))))))))
    (pss_one (ps_ret (pe_callTy call_tuple_of (by rfl) B.tuple (by decide +kernel) (pa_cons (pe_lc (own := [("line", 10)]) (g := gName 10) (tt := tYes) rfl sc_law_stir.nd (pi_list (pv 3)) (blkOk_by (N := n_law_stir) (sc := defScope s_law_stir) (by decide +kernel)) (fun _ _ _ _ _ => pg_name (i := 10) sc_law_stir.nd rfl (Or.inl rfl)) (fun _ _ _ _ _ => pts_nil)
        (fun _ _ _ _ _ => pe_callTy (show CallR _ (.type "tuple") (rTupK K) from call_tuple_of) (by rfl) B.tuple (by decide +kernel) (pa_cons (pv 10) pa_nil))) pa_nil))))), ?_⟩
  have hp0 : 0 < p := by omega
  -- the unit rows
  refine ⟨_, rfl, _, rfl, by omega, by omega, ?_⟩
  refine lc_goD (walk_range (lo := 0) (n := ((n : Nat) : Int).toNat)) (by omega) (fun _ _ => trivial) (List.range n) (by rw [List.length_range, Int.toNat_natCast]) (fun D j y H' => ∃ b, y = .ref b ∧ b ≠ a ∧ b ≠ D ∧ H' b = some (.lst ((Lin.unit n j).map V.int)))
    (fun D d v H1 H2 e ⟨b, z1, z2, z3, z4⟩ => ⟨b, z1, z2, z3, e _ _ z3 z4⟩) (fun D acc i j x H1 H2 hj e1 hD yy C N hC => ?_) fun D ls H1 nD e1 hD hls => ?_
  · obtain ⟨rfl, ex⟩ := yy
    have ex' : x = V.int ((i : Nat) : Int) := ex.trans (by show V.int _ = V.int _; rw [Int.zero_add])
    subst ex'
    have hi : i < n := by
      have := (List.getElem?_eq_some_iff.mp hj).1
      rwa [List.length_range] at this
    have ej : j = i := by
      rw [List.getElem?_range hi] at hj
      exact (Option.some.inj hj).symm
    subst ej
    refine ⟨rfl, yes_go ⟨_, rfl, _, rfl, by omega, by omega, ?_⟩⟩
    refine lc_go (walk_range (lo := 0) (n := ((n : Nat) : Int).toNat)) (by omega) (fun _ _ => trivial) (List.range n) (by rw [List.length_range, Int.toNat_natCast]) (fun _ => true) (fun m => IsV (.int (if m = j then 1 else 0))) (fun _ _ _ _ _ h => h) (fun m k y H3 H4 hm e3 yy2 C2 N2 hC2 hN2 => ?_) fun D2 ys H3 nD2 e3 hD2 hy => ?_
    · obtain ⟨rfl, ey⟩ := yy2
      have ey' : y = V.int ((m : Nat) : Int) := ey.trans (by show V.int _ = V.int _; rw [Int.zero_add])
      subst ey'
      have hm2 : m < n := by
        have := (List.getElem?_eq_some_iff.mp hm).1
        rwa [List.length_range] at this
      have em : k = m := by
        rw [List.getElem?_range hm2] at hm
        exact (Option.some.inj hm).symm
      subst em
      refine ⟨rfl, yes_go ⟨_, rfl, _, rfl, rfl, .inr ⟨_, rfl, ?_⟩⟩⟩
      refine hC2 rfl _ _ (_root_.Evl.Ex.refl _) ?_
      show V.int _ = V.int _
      by_cases e : k = j
      · subst e; simp
      · have : ¬ (k : Int) = (j : Int) := by omega
        simp [e, this]
    · rw [filter_yes] at hy
      have ey : ys = (Lin.unit n j).map V.int := by
        rw [pr_fun hy, ← unit_is hi, List.map_map]
        rfl
      subst ey
      have na : D2 ≠ a := fun z => by
        obtain ⟨_, _, _, ha, _⟩ := hr0.ex e1
        rw [z, ha] at nD2
        cases nD2
      exact hC _ _ e3 ⟨D2, rfl, na, fun z => (by rw [z, hD] at nD2; cases nD2), hD2⟩
  · have nDa : D ≠ a := fun z => by
      obtain ⟨_, _, _, ha, _⟩ := hr0
      rw [z, ha] at nD
      cases nD
    have t0 : TabL a (Lin.units n) D H1 := ⟨nDa, ls, hD, by
      have := pr_map (f := Lin.unit n) hls (G := fun x r => ∃ b, x = .ref b ∧ b ≠ a ∧ b ≠ D ∧ H1 b = some (.lst (r.map V.int))) fun _ _ z => z
      exact this⟩
    have r1 := hr0.ex e1
    refine ⟨_, rfl, a, sc, ns, 5, rfl, r1, by decide, by decide, fun k H2 k0 k1 eB2 r2 => ⟨_, rfl, by omega, by omega, ?_⟩⟩
    have offW : Off K D sc ns := off_of nD hr0.sql
    refine for_range (n := k.toNat) (fun i t G => ∃ y4 y5 y6 y7 y8 y9 y10 A, t = [some (.ref a), some (.int p), some (.int (n : Nat)), some (.ref D), y4, y5, y6, y7, y8, y9, y10] ∧ ExC a D H1 G ∧ Row0 K a sc ns G ∧ TabL a A D G ∧ Lin.Oks p n A ∧ A.length = n ∧ Lin.Full p n A)
      ⟨_, _, _, _, _, _, _, _, rfl, ExC.of eB2, r2, t0.b eB2, Lin.units_ok h1, Lin.units_len, Lin.full_units h1⟩ (fun i t G hi p' => ?_) (fun t G p' => ?_)
    · obtain ⟨y4, y5, y6, y7, y8, y9, y10, A0, rfl, bG, rG, tG, oG, lG, fG⟩ := p'
      refine ⟨_, rfl, _, rfl, a, sc, ns, (n : Nat), rfl, rG, by omega, by omega, fun o1 Ga o10 o11 eBa ra => ?_⟩
      refine ⟨_, rfl, _, rfl, a, sc, ns, (n : Nat), rfl, ra, by omega, by omega, fun o2 Gb o20 o21 eBb rb => ?_⟩
      refine ⟨_, rfl, _, rfl, _, _, rfl, rfl, a, sc, ns, p - 1, rfl, rb, by omega, by omega, fun fc Gc f0 f1 eBc rc => ?_⟩
      refine ⟨_, _, rfl, rfl, (by show 3 ≤ sizeLine; decide), fun t3 nt3 => ?_⟩
      refine ⟨t3, _, rfl, SqT.of upd_same, rfl, _, _, rfl, _, _, rfl, _, _, rfl, rfl, ?_⟩
      have e3 : Ex Gc (upd Gc t3 (.tup [.int o1, .int o2, .int (1 + fc)])) := _root_.Evl.Ex.new nt3
      have bC : ExC a D H1 (upd Gc t3 (.tup [.int o1, .int o2, .int (1 + fc)])) := bG.trans (ExC.of (((eBa.trans eBb).trans eBc).trans (ExB.of e3)))
      have rC := rc.ex e3
      have tC := (((tG.b eBa).b eBb).b eBc).b (ExB.of e3)
      generalize upd Gc t3 (.tup [.int o1, .int o2, .int (1 + fc)]) = GC at bC rC tC ⊢
      refine ⟨_, rfl, _, rfl, rfl, _, rfl, ite2 (fun c => ?_) (fun c => ?_)⟩
      · have ne : o1 ≠ o2 := dne c
        obtain ⟨_, lsC, hCl, pC⟩ := id tC
        have lC := pr_len pC
        have j1 : o1.toNat < A0.length := by omega
        have j2 : o2.toNat < A0.length := by omega
        have g1' : lsC[o1.toNat]? = some (lsC[o1.toNat]'(by omega)) := List.getElem?_eq_getElem (by omega)
        have g2' : lsC[o2.toNat]? = some (lsC[o2.toNat]'(by omega)) := List.getElem?_eq_getElem (by omega)
        obtain ⟨ra1, qa1, b1, eb1, nb1, _, hb1⟩ := pr_get pC g1'
        obtain ⟨ra2, qa2, b2, eb2, nb2, _, hb2⟩ := pr_get pC g2'
        have ea1 : ra1 = A0[o1.toNat] := Option.some.inj (qa1.symm.trans (List.getElem?_eq_getElem j1))
        have ea2 : ra2 = A0[o2.toNat] := Option.some.inj (qa2.symm.trans (List.getElem?_eq_getElem j2))
        rw [ea1] at hb1
        rw [ea2] at hb2
        rw [eb1] at g1'
        rw [eb2] at g2'
        have oa1 := oG _ (List.getElem_mem j1)
        have oa2 := oG _ (List.getElem_mem j2)
        refine ⟨_, rfl, _, rfl, D, lsC, o1, _, rfl, rfl, SqL.of hCl, at_of (by omega) g1', _, rfl, _, rfl, D, lsC, o2, _, rfl, rfl, SqL.of hCl, at_of (by omega) g2', b1, b2, _, _, rfl, .inl ⟨SqL.of hb1, SqL.of hb2, ?_⟩⟩
        refine lc_go (walk_zip (xs := A0[o1.toNat].map V.int) (ys := A0[o2.toNat].map V.int) (n := n) (by rw [List.length_map, List.length_map, oa1.1, oa2.1]; omega)) (by omega) (fun H' e => ⟨SqL.of (e _ _ hb1), SqL.of (e _ _ hb2)⟩) (A0[o1.toNat].zip A0[o2.toNat]) (by rw [List.length_zip, oa1.1, oa2.1]; omega) (fun _ => true)
          (fun z => IsV (.int ((z.1 + (1 + fc) * z.2) % p))) (fun _ _ _ _ _ h => h) (fun m z x G1 G2 hm e yy C N hC hN => ?_) fun D3 ys G3 nD3 e hD3 hy => ?_
        · obtain ⟨T, x1, x2, rfl, nT, rfl, f1, f2⟩ := yy
          obtain ⟨n1, gg1, rfl⟩ := map_get f1
          obtain ⟨n2, gg2, rfl⟩ := map_get f2
          have ez : z = (n1, n2) := by
            rw [zip_at gg1 gg2] at hm
            exact (Option.some.inj hm).symm
          subst ez
          refine ⟨T, _, rfl, SqT.of upd_same, rfl, _, _, rfl, _, _, rfl, rfl, rfl, yes_go ⟨_, rfl, _, rfl, _, rfl, _, _, rfl, rfl, .inl ⟨by omega, by omega⟩, _, _, rfl, rfl, _, rfl, _, _, rfl, rfl, by omega, hC rfl _ _ (_root_.Evl.Ex.new nT) ?_⟩⟩
          show V.int _ = V.int _
          rw [Int.fmod_eq_emod_of_nonneg _ (by omega)]
        · rw [filter_yes] at hy
          have ey : ys = (Lin.add p A0[o1.toNat] (1 + fc) A0[o2.toNat]).map V.int := by
            rw [pr_fun hy]
            unfold Lin.add
            rw [zip_map, List.map_map]
            rfl
          subst ey
          have st := Lin.full_step hp0 oG j1 j2 (by omega) (1 + fc) fG
          refine ⟨_, rfl, _, rfl, D, lsC, o1, o1.toNat, rfl, rfl, e _ _ hCl, ixN_of (by omega) (by omega), ?_⟩
          have n3a : D3 ≠ a := fun z => by
            obtain ⟨_, _, _, ha, _⟩ := rC
            rw [z, ha] at nD3
            cases nD3
          have n3D : D3 ≠ D := fun z => by rw [z, hCl] at nD3; cases nD3
          have tX : TabL a (A0.set o1.toNat (Lin.add p A0[o1.toNat] (1 + fc) A0[o2.toNat])) D (upd G3 D (.lst (lsC.set o1.toNat (.ref D3)))) := ⟨nDa, _, upd_same, pr_set (pr_mono pC fun x r z => by
            obtain ⟨b, w1, w2, w3, w4⟩ := z
            exact ⟨b, w1, w2, w3, by rw [upd_ne w3]; exact e _ _ w4⟩) ⟨D3, rfl, n3a, n3D, by rw [upd_ne n3D]; exact hD3⟩ _⟩
          have rX : Row0 K a sc ns (upd G3 D (.lst (lsC.set o1.toNat (.ref D3)))) := (rC.ex e).up nDa offW
          have bX : ExC a D H1 (upd G3 D (.lst (lsC.set o1.toNat (.ref D3)))) := bC.trans (ExC.mk e)
          have lAX : (A0.set o1.toNat (Lin.add p A0[o1.toNat] (1 + fc) A0[o2.toNat])).length = n := by rw [List.length_set]; exact lG
          have oX := st.1
          have fX := st.2
          generalize A0.set o1.toNat (Lin.add p A0[o1.toNat] (1 + fc) A0[o2.toNat]) = AX at tX lAX oX fX
          generalize upd G3 D (.lst (lsC.set o1.toNat (.ref D3))) = GX at tX rX bX ⊢
          -- two rows change places
          obtain ⟨_, lsX, hX, pX⟩ := id tX
          have lX := pr_len pX
          have i1 : o1.toNat < AX.length := by omega
          have i2 : o2.toNat < AX.length := by omega
          have g1 : lsX[o1.toNat]? = some (lsX[o1.toNat]'(by omega)) := List.getElem?_eq_getElem (by omega)
          have g2 : lsX[o2.toNat]? = some (lsX[o2.toNat]'(by omega)) := List.getElem?_eq_getElem (by omega)
          refine ⟨_, rfl, _, rfl, D, lsX, o2, _, rfl, rfl, SqL.of hX, at_of (by omega) g2, _, rfl, _, rfl, D, lsX, o1, _, rfl, rfl, SqL.of hX, at_of (by omega) g1, (by show 2 ≤ sizeLine; decide), fun tp np => ?_⟩
          have eT : Ex GX (upd GX tp (.tup [lsX[o2.toNat]'(by omega), lsX[o1.toNat]'(by omega)])) := _root_.Evl.Ex.new np
          refine ⟨tp, _, rfl, SqT.of upd_same, rfl, _, _, rfl, _, rfl, _, rfl, D, lsX, o1, o1.toNat, rfl, rfl, eT _ _ hX, ixN_of (by omega) (by omega), _, _, rfl, _, rfl, _, rfl, D, _, o2, o2.toNat, rfl, rfl, upd_same, ixN_of (by omega) (by rw [List.length_set]; omega), rfl, ?_⟩
          rw [upd_upd]
          have sw := Lin.full_swap hp0 oX i1 i2 fX
          have ntD : tp ≠ D := fun z => by rw [z, hX] at np; cases np
          have eU : ExB D GX (upd (upd GX tp (.tup [lsX[o2.toNat]'(by omega), lsX[o1.toNat]'(by omega)])) D (.lst ((lsX.set o1.toNat (lsX[o2.toNat]'(by omega))).set o2.toNat (lsX[o1.toNat]'(by omega))))) := (ExB.of eT).trans (ExB.at (ExB.refl D _))
          obtain ⟨r1', q1, z1⟩ := pr_get pX g1
          obtain ⟨r2', q2, z2⟩ := pr_get pX g2
          have ra : r1' = AX[o1.toNat] := Option.some.inj (q1.symm.trans (List.getElem?_eq_getElem i1))
          have rb : r2' = AX[o2.toNat] := Option.some.inj (q2.symm.trans (List.getElem?_eq_getElem i2))
          rw [ra] at z1
          rw [rb] at z2
          have offD : Off K D sc ns := offW
          refine ⟨_, _, _, _, _, _, _, _, rfl, bX.trans (ExC.mk eT), ?_, ⟨nDa, _, upd_same, pr_mono (pr_set (pr_set pX z2 _) z1 _) fun x r z => ?_⟩, sw.1, by rw [List.length_set, List.length_set]; exact lAX, sw.2⟩
          · exact (rX.ex eT).up nDa offD
          · obtain ⟨b, w1, w2, w3, w4⟩ := z
            exact ⟨b, w1, w2, w3, by rw [upd_ne w3]; exact eT _ _ w4⟩
      · have mk : ∃ AX GX, AX = A0 ∧ GX = GC := ⟨_, _, rfl, rfl⟩
        obtain ⟨AX, GX, eA, eG⟩ := mk
        rw [← eG] at bC rC tC ⊢
        rw [← eA] at tC oG lG fG
        have tX := tC; have rX := rC; have bX := bC; have oX := oG; have lAX := lG; have fX := fG
        -- two rows change places
        obtain ⟨_, lsX, hX, pX⟩ := id tX
        have lX := pr_len pX
        have i1 : o1.toNat < AX.length := by omega
        have i2 : o2.toNat < AX.length := by omega
        have g1 : lsX[o1.toNat]? = some (lsX[o1.toNat]'(by omega)) := List.getElem?_eq_getElem (by omega)
        have g2 : lsX[o2.toNat]? = some (lsX[o2.toNat]'(by omega)) := List.getElem?_eq_getElem (by omega)
        refine ⟨_, rfl, _, rfl, D, lsX, o2, _, rfl, rfl, SqL.of hX, at_of (by omega) g2, _, rfl, _, rfl, D, lsX, o1, _, rfl, rfl, SqL.of hX, at_of (by omega) g1, (by show 2 ≤ sizeLine; decide), fun tp np => ?_⟩
        have eT : Ex GX (upd GX tp (.tup [lsX[o2.toNat]'(by omega), lsX[o1.toNat]'(by omega)])) := _root_.Evl.Ex.new np
        refine ⟨tp, _, rfl, SqT.of upd_same, rfl, _, _, rfl, _, rfl, _, rfl, D, lsX, o1, o1.toNat, rfl, rfl, eT _ _ hX, ixN_of (by omega) (by omega), _, _, rfl, _, rfl, _, rfl, D, _, o2, o2.toNat, rfl, rfl, upd_same, ixN_of (by omega) (by rw [List.length_set]; omega), rfl, ?_⟩
        rw [upd_upd]
        have sw := Lin.full_swap hp0 oX i1 i2 fX
        have ntD : tp ≠ D := fun z => by rw [z, hX] at np; cases np
        have eU : ExB D GX (upd (upd GX tp (.tup [lsX[o2.toNat]'(by omega), lsX[o1.toNat]'(by omega)])) D (.lst ((lsX.set o1.toNat (lsX[o2.toNat]'(by omega))).set o2.toNat (lsX[o1.toNat]'(by omega))))) := (ExB.of eT).trans (ExB.at (ExB.refl D _))
        obtain ⟨r1', q1, z1⟩ := pr_get pX g1
        obtain ⟨r2', q2, z2⟩ := pr_get pX g2
        have ra : r1' = AX[o1.toNat] := Option.some.inj (q1.symm.trans (List.getElem?_eq_getElem i1))
        have rb : r2' = AX[o2.toNat] := Option.some.inj (q2.symm.trans (List.getElem?_eq_getElem i2))
        rw [ra] at z1
        rw [rb] at z2
        have offD : Off K D sc ns := offW
        refine ⟨_, _, _, _, _, _, _, _, rfl, bX.trans (ExC.mk eT), ?_, ⟨nDa, _, upd_same, pr_mono (pr_set (pr_set pX z2 _) z1 _) fun x r z => ?_⟩, sw.1, by rw [List.length_set, List.length_set]; exact lAX, sw.2⟩
        · exact (rX.ex eT).up nDa offD
        · obtain ⟨b, w1, w2, w3, w4⟩ := z
          exact ⟨b, w1, w2, w3, by rw [upd_ne w3]; exact eT _ _ w4⟩
    · obtain ⟨y4, y5, y6, y7, y8, y9, y10, A0, rfl, bG, rG, tG, oG, lG, fG⟩ := p'
      obtain ⟨_, lsG, hG, pG⟩ := id tG
      have lsL := pr_len pG
      refine ⟨_, rfl, D, rfl, ⟨_, SqL.of hG⟩, ?_⟩
      refine lc_go (walk_list (xs := lsG)) (by omega) (fun H' e => SqL.of (e _ _ hG)) A0 lsL.symm (fun _ => true) (fun r => RowT K r) (fun _ => RowT.stb) (fun m r x G1 G2 hm e yy C N hC hN => ?_) fun D3 ys G3 nD3 e hD3 hy => ?_
      · obtain ⟨rfl, ex'⟩ := yy
        obtain ⟨r', hr', b, rfl, _, _, hb⟩ := pr_get pG ex'
        obtain rfl : r' = r := Option.some.inj (hr'.symm.trans hm)
        exact ⟨rfl, yes_go ⟨_, rfl, b, _, rfl, .inl ⟨SqL.of (e _ _ hb), fun l nl => hC rfl _ _ (_root_.Evl.Ex.new nl) (RowT.new upd_same)⟩⟩⟩
      · rw [filter_yes] at hy
        refine ⟨D3, ys, rfl, .inl ⟨SqL.of hD3, fun l nl => ?_⟩⟩
        have e9 := e.trans (_root_.Evl.Ex.new (o := .tup ys) nl)
        refine q _ _ (fun b o nb hb => ?_) (rG.ex e9) ⟨A0, ⟨l, ys, rfl, SqT.of upd_same, pr_mono hy fun _ _ z => z.ex (_root_.Evl.Ex.new nl)⟩, oG, lG, fG⟩
        have nbD : b ≠ D := fun z => by rw [z, nD] at hb; cases hb
        exact e9 _ _ (bG b o nb nbD (e1 _ _ hb))
end
end K01


set_option Elab.async false
set_option linter.all false
set_option maxRecDepth 100000
set_option maxHeartbeats 4000000
namespace K01
open PySem PySem.Spec PyProof.Rows L2
theorem rows_ofB {K : PySem.W.Frag} {ys : List V} {p : Int} {n : Nat} {H : Hp} (h : ∀ y ∈ ys, ∃ r, RowT K r y H ∧ Lin.OkR p n r) : ∃ R, Paired (fun y r => RowT K r y H) ys R ∧ Lin.Oks p n R := by
  induction ys with
  | nil => exact ⟨[], .nil, fun _ z => by cases z⟩
  | cons y l ih =>
    obtain ⟨r, h1, h2⟩ := h y List.mem_cons_self
    obtain ⟨R, h3, h4⟩ := ih fun z hz => h z (List.mem_cons_of_mem _ hz)
    refine ⟨r :: R, .cons h1 h3, fun z hz => ?_⟩
    rcases List.mem_cons.mp hz with e | e
    · rw [e]; exact h2
    · exact h4 z e
/-- a drawn machine -/
def Drawn (K : PySem.W.Frag) (Ps : List Int) (c d : Int) (v : V) (H : Hp) : Prop := ∃ (p : Int) (n : Nat) (A W S : List Row), p ∈ Ps ∧ 1 ≤ n ∧ (n : Int) ≤ c ∧ MachT K p A W S v H ∧ Lin.Oks p n A ∧ A.length = n ∧ Lin.Full p n A ∧ Lin.Oks p n W ∧ Lin.Oks p n S ∧ W ≠ [] ∧ (W.length : Int) ≤ d ∧ S ≠ [] ∧ (S.length : Int) ≤ d
def spMachine (K : PySem.W.Frag) : Sp := fun vs H Q _ => ∃ (a t sc : Addr) (ns Ps : List Int) (c d : Int), vs = [.ref a, .ref t, .int c, .int d] ∧ Row0 K a sc ns H ∧ t ≠ a ∧ SqL K H t (Ps.map V.int) ∧ (∀ p ∈ Ps, 1 < p ∧ p ≤ 100) ∧ 1 ≤ Ps.length ∧ Ps.length ≤ 1000 ∧ 1 ≤ c ∧ c ≤ 99 ∧ 1 ≤ d ∧ d ≤ 1000 ∧
  ∀ v H', ExB a H H' → Row0 K a sc ns H' → Drawn K Ps c d v H' → Q v H'
section
variable {P : Program} {w : World} {K : PySem.W.Frag} {mg : Str → Option Value} {base : Heap}
theorem ok_machine {f : Addr} {fd : FuncData} (B : Bare mg) (F : Fun K "_law_machine" "_law_machine" s_law_machine f fd) (Gt : Got P w K mg base CX0 1 "_law_taken" p_law_taken (spTaken K)) (Gp : Got P w K mg base CX0 2 "_law_pick" p_law_pick (spPick K))
    (Gr : Got P w K mg base CX0 2 "_law_row" p_law_row (spRow K)) (Gs : Got P w K mg base CX0 2 "_law_stir" p_law_stir (spStir K)) : FnOk P w K mg base CX0 3 f fd p_law_machine (spMachine K) := by
  refine F.ok sc_law_machine (fun vs H Q E h => ?_) (fun cdv A outer s H vs Q E hr h => ?_)
  · obtain ⟨a, t, sc, ns, Ps, c, d, rfl, _⟩ := h
    rfl
  · obtain ⟨a, t, sc, ns, Ps, c, d, rfl, hr0, hta, ht, hPs, hP1, hP2, c1, c2, d1, d2, q⟩ := h
    have hr1 : Room 1 _ := hr.mono (by decide)
    refine ⟨_, pss_cons (ps_asg (pe_tup (pa_cons (pe_got Gp hr pass0 (pa_cons (pv 0) (pa_cons (pv 1) pa_nil))) (pa_cons (pe_op op_add pe_int (pe_got Gt hr1 pass0 (pa_cons (pv 0) (pa_cons (pv 2) pa_nil)))) pa_nil)))
        (pg_tup rfl (pgs_cons (pg_name (i := 4) sc_law_machine.nd rfl (Or.inr rfl)) (pgs_cons (pg_name (i := 5) sc_law_machine.nd rfl (Or.inr rfl)) pgs_nil))))
      (pss_cons (ps_setLc (i := 6) (own := [("turn", 7)]) (g := gName 7) (tt := tYes) rfl sc_law_machine.nd rfl rfl (sw_true rfl rfl rfl (by decide +kernel)) (pi_range1 rfl B.range (pa_cons (pe_op op_add pe_int (pe_got Gt hr1 pass0 (pa_cons (pv 0) (pa_cons (pv 3) pa_nil)))) pa_nil)) (blkOk_by (N := n_law_machine) (sc := defScope s_law_machine) (by decide +kernel))
          (fun _ _ _ _ _ => pg_name (i := 7) sc_law_machine.nd rfl (Or.inl rfl)) (fun _ _ _ _ _ => pts_nil) (fun _ _ _ _ _ => pe_got Gr hr pass0 (pa_cons (pv 0) (pa_cons (pv 4) (pa_cons (pv 5) pa_nil)))))
      (pss_cons (ps_setLc (i := 8) (own := [("turn", 7)]) (g := gName 7) (tt := tYes) rfl sc_law_machine.nd rfl rfl (sw_true rfl rfl rfl (by decide +kernel)) (pi_range1 rfl B.range (pa_cons (pe_op op_add pe_int (pe_got Gt hr1 pass0 (pa_cons (pv 0) (pa_cons (pv 3) pa_nil)))) pa_nil)) (blkOk_by (N := n_law_machine) (sc := defScope s_law_machine) (by decide +kernel))
          (fun _ _ _ _ _ => pg_name (i := 7) sc_law_machine.nd rfl (Or.inl rfl)) (fun _ _ _ _ _ => pts_nil) (fun _ _ _ _ _ => pe_got Gr hr pass0 (pa_cons (pv 0) (pa_cons (pv 4) (pa_cons (pv 5) pa_nil)))))
      (pss_one (ps_ret (pe_tup (pa_cons (pv 4) (pa_cons (pe_got Gs hr pass0 (pa_cons (pv 0) (pa_cons (pv 4) (pa_cons (pv 5) pa_nil)))) (pa_cons (pe_callTy call_tuple_of (by rfl) B.tuple (by decide +kernel) (pa_cons (pv 6) pa_nil)) (pa_cons (pe_callTy call_tuple_of (by rfl) B.tuple (by decide +kernel) (pa_cons (pv 8) pa_nil)) pa_nil))))))))), ?_⟩
    refine ⟨_, rfl, _, rfl, a, t, sc, ns, _, rfl, hr0, hta, ht, by rw [List.length_map]; exact hP1, by rw [List.length_map]; exact hP2, fun j x H1 hj e1 r1 => ?_⟩
    obtain ⟨p, hp, rfl⟩ := map_get hj
    have pm := List.mem_of_getElem? hp
    have hpb := hPs p pm
    refine ⟨_, rfl, _, rfl, a, sc, ns, c, rfl, r1, c1, by omega, fun k H2 k0 k1 e2 r2 => ⟨_, _, rfl, rfl, ?_⟩⟩
    obtain ⟨n, en⟩ : ∃ n : Nat, 1 + k = (n : Int) := ⟨(1 + k).toNat, by omega⟩
    refine ⟨(by show 2 ≤ sizeLine; decide), fun t2 nt2 => ?_⟩
    refine ⟨t2, _, rfl, SqT.of upd_same, rfl, _, _, rfl, _, _, rfl, rfl, ?_⟩
    have e3 : Ex H2 (upd H2 t2 (.tup [.int p, .int (1 + k)])) := _root_.Evl.Ex.new nt2
    have r3 := r2.ex e3
    have b3 : ExB a H (upd H2 t2 (.tup [.int p, .int (1 + k)])) := (e1.trans e2).trans (ExB.of e3)
    generalize upd H2 t2 (.tup [.int p, .int (1 + k)]) = H3 at r3 b3 ⊢
    have hn1 : 1 ≤ n := by omega
    have hnc : (n : Int) ≤ c := by omega
    refine ⟨_, rfl, _, rfl, a, sc, ns, d, rfl, r3, d1, d2, fun m H4 m0 m1 e4 r4 => ⟨_, _, rfl, rfl, _, rfl, by omega, by omega, ?_⟩⟩
    refine lc_row (a := a) (n := (1 + m).toNat) (by omega) r4 (fun y H' => ∃ r, RowT K r y H' ∧ Lin.OkR p n r) (fun y G G' e ⟨r, z, o⟩ => ⟨r, z.n e, o⟩) (fun i x G hi ex eG rG C N hC => ?_) fun D ys H5 nD e5 r5 hD hl hy => ?_
    · exact ⟨rfl, yes_go ⟨_, rfl, _, rfl, _, rfl, a, sc, ns, p, n, (by rw [← en]; rfl), rG, hpb.1, hpb.2, by omega, fun y G' e' rG' hh => hC y G' e' rG' hh⟩⟩
    · obtain ⟨W, pW, oW⟩ := rows_ofB hy
      have lW := pr_len pW
      have nDa : D ≠ a := fun z => by
        obtain ⟨_, _, _, ha, _⟩ := r4
        rw [z, ha] at nD
        cases nD
      refine ⟨_, rfl, _, rfl, a, sc, ns, d, rfl, r5, d1, d2, fun m' H6 m0' m1' e6 r6 => ⟨_, _, rfl, rfl, _, rfl, by omega, by omega, ?_⟩⟩
      refine lc_row (a := a) (n := (1 + m').toNat) (by omega) r6 (fun y H' => ∃ r, RowT K r y H' ∧ Lin.OkR p n r) (fun y G G' e ⟨r, z, o⟩ => ⟨r, z.n e, o⟩) (fun i x G hi ex eG rG C N hC => ?_) fun D' ys' H7 nD' e7 r7 hD' hl' hy' => ?_
      · exact ⟨rfl, yes_go ⟨_, rfl, _, rfl, _, rfl, a, sc, ns, p, n, (by rw [← en]; rfl), rG, hpb.1, hpb.2, by omega, fun y G' e' rG' hh => hC y G' e' rG' hh⟩⟩
      · obtain ⟨S, pS, oS⟩ := rows_ofB hy'
        have lS := pr_len pS
        have nDa' : D' ≠ a := fun z => by
          obtain ⟨_, _, _, ha, _⟩ := r6
          rw [z, ha] at nD'
          cases nD'
        refine ⟨_, rfl, _, rfl, _, rfl, _, rfl, a, sc, ns, p, n, (by rw [← en]; rfl), r7, hpb.1, hpb.2, hn1, by omega, fun v8 H8 e8 r8 hA => ?_⟩
        obtain ⟨A, hA8, oA, lA, fA⟩ := hA
        have b58 := (e6.trans e7).trans e8
        have hD8 := b58 D _ nDa hD
        have hD8' := e8 D' _ nDa' hD'
        have pW8 := pr_mono pW fun x r z => RowT.n (r5.n b58) z
        have pS8 := pr_mono pS fun x r z => RowT.n (r7.n e8) z
        refine ⟨_, rfl, D, ys, rfl, .inl ⟨SqL.of hD8, fun l nl => ?_⟩⟩
        have e9 : Ex H8 (upd H8 l (.tup ys)) := _root_.Evl.Ex.new nl
        refine ⟨_, rfl, D', ys', rfl, .inl ⟨SqL.of (e9 _ _ hD8'), fun l' nl' => ?_⟩⟩
        have e10 : Ex (upd H8 l (.tup ys)) (upd (upd H8 l (.tup ys)) l' (.tup ys')) := _root_.Evl.Ex.new nl'
        refine ⟨(by show 4 ≤ sizeLine; decide), fun l4 nl4 => ?_⟩
        have e11 := _root_.Evl.Ex.new (o := .tup [.int p, v8, .ref l, .ref l']) nl4
        have eF := (e9.trans e10).trans e11
        refine q _ _ (((((b3.trans e4).trans e5).trans b58).trans (ExB.of eF))) (r8.ex eF) ⟨p, n, A, W, S, pm, hn1, hnc, ⟨l4, _, _, _, rfl, SqT.of upd_same, hA8.ex eF, ?_, ?_⟩, oA, lA, fA, oW, oS, fun z => ?_, by omega, fun z => ?_, by omega⟩
        · exact RowsT.ex (e10.trans e11) ⟨l, ys, rfl, SqT.of upd_same, pr_mono pW8 fun _ _ z => z.ex e9⟩
        · exact RowsT.ex e11 ⟨l', ys', rfl, SqT.of upd_same, pr_mono pS8 fun _ _ z => z.ex (e9.trans e10)⟩
        · rw [z, List.length_nil] at lW; omega
        · rw [z, List.length_nil] at lS; omega
end
end K01


set_option Elab.async false
set_option linter.all false
set_option maxRecDepth 100000
set_option maxHeartbeats 4000000
namespace K01
open PySem PySem.Spec PyProof.Rows L2
section
variable {P : Program} {w : World} {K : PySem.W.Frag} {mg : Str → Option Value} {base : Heap}
def spSpanBL (K : PySem.W.Frag) : Sp := fun vs H Q _ => ∃ (p : Int) (n : Nat) (v : V) (R : List Row), vs = [.int p, v, .int (n : Nat)] ∧ RowsL K R v H ∧ 1 < p ∧ p ≤ 100 ∧ 1 ≤ n ∧ n ≤ 100 ∧ p.toNat ^ n ≤ 200 ∧ Lin.Prm p ∧ Lin.Oks p n R ∧ Ret (LotL K p n R) H Q
/-- what the writes come to in four ticks, write by write -/
def goes (p : Int) (A W : List Row) : List Row := W.flatMap fun w => (List.range 4).map fun t => Lin.it p A t w
theorem exN_of {l : Addr} {xs : List V} {H H' : Hp} (h : H l = some (.lst xs)) (e : ExB l H H') : ExN H H' := fun b o hb nl => e b o (fun z => by rw [z, h] at hb; exact nl _ (Option.some.inj hb).symm) hb
theorem ExN.trans {H H1 H2 : Hp} (e : ExN H H1) (e' : ExN H1 H2) : ExN H H2 := fun b o h n => e' b o (e b o h n) n
theorem goes_len {p : Int} {A : List Row} : ∀ {W : List Row}, (goes p A W).length = W.length * 4
  | [] => rfl
  | w :: l => by
    have := goes_len (p := p) (A := A) (W := l)
    unfold goes at this ⊢
    rw [List.flatMap_cons, List.length_append, this, List.length_map, List.length_range, List.length_cons]
    omega
theorem Lot.sub {p : Int} {n : Nat} {R R' L : List Row} (h : ∀ r, r ∈ R ↔ r ∈ R') (l : Lin.Lot p n R L) : Lin.Lot p n R' L := ⟨l.nd, fun v => (l.mem v).trans ⟨fun q => q.sub fun r hr => (h r).1 hr, fun q => q.sub fun r hr => (h r).2 hr⟩⟩
theorem mem_goes {p : Int} {A W : List Row} {r : Row} : r ∈ goes p A W ↔ r ∈ Lin.kry p A W 4 := by
  unfold goes
  rw [Lin.mem_kry]
  simp only [List.mem_flatMap, List.mem_map, List.mem_range]
  exact ⟨fun ⟨w, hw, t, ht, e⟩ => ⟨t, ht, w, hw, e⟩, fun ⟨t, ht, w, hw, e⟩ => ⟨w, hw, t, ht, e⟩⟩
def spReached (K : PySem.W.Frag) : Sp := fun vs H Q _ => ∃ (p : Int) (n : Nat) (v : V) (A W S : List Row), vs = [v] ∧ MachT K p A W S v H ∧ 1 < p ∧ p ≤ 100 ∧ 1 ≤ n ∧ n ≤ 100 ∧ p.toNat ^ n ≤ 200 ∧ Lin.Prm p ∧ Lin.Oks p n A ∧ A.length = n ∧ Lin.Oks p n W ∧ W.length ≤ 100 ∧ ∀ z H', Ex H H' → LotL K p n (Lin.kry p A W 4) z H' → Q z H'
end
end K01


set_option Elab.async false
set_option linter.all false
set_option maxRecDepth 100000
set_option maxHeartbeats 4000000
namespace K01
open PySem PySem.Spec PyProof.Rows L2
/-- what nobody sees in four ticks -/
def dark (p : Int) (n : Nat) (A S : List Row) : List Row := (Lin.allRows p n).filter fun v => (List.range 4).all fun t => S.all fun s => decide (Lin.dot p s (Lin.it p A t v) = 0)
theorem mem_dark {p : Int} {n : Nat} {A S : List Row} {v : Row} (hp : 0 < p) : v ∈ dark p n A S ↔ Lin.OkR p n v ∧ ∀ t, t < 4 → ∀ s ∈ S, Lin.dot p s (Lin.it p A t v) = 0 := by
  unfold dark
  rw [List.mem_filter, Lin.mem_all hp, List.all_eq_true]
  simp only [List.mem_range, List.all_eq_true, decide_eq_true_eq]
section
variable {P : Program} {w : World} {K : PySem.W.Frag} {mg : Str → Option Value} {base : Heap}
def spUnseen (K : PySem.W.Frag) : Sp := fun vs H Q _ => ∃ (p : Int) (n : Nat) (v : V) (A W S : List Row), vs = [v] ∧ MachT K p A W S v H ∧ 1 < p ∧ p ≤ 100 ∧ 1 ≤ n ∧ n ≤ 100 ∧ p.toNat ^ n ≤ 200 ∧ Lin.Oks p n A ∧ A.length = n ∧ Lin.Oks p n S ∧ S ≠ [] ∧ S.length ≤ 100 ∧ ∀ z H', Ex H H' → RowsL K (dark p n A S) z H' → Q z H'
end
end K01


set_option Elab.async false
set_option linter.all false
set_option maxRecDepth 100000
set_option maxHeartbeats 4000000
namespace K01
open PySem PySem.Spec PyProof.Rows L2
theorem prm_of {p : Int} (h : PrmI p) : Lin.Prm p := fun x z1 z2 => by
  obtain ⟨k, _, _, z⟩ := h x z1 z2
  exact ⟨k, z⟩
theorem isRowsB_of {p : Int} {n : Nat} {R : List Row} {most : Int} (o : Lin.Oks p n R) (h1 : 1 ≤ R.length) (h2 : (R.length : Int) ≤ most) : isRowsB p most (n : Nat) (R.map fun r => r.map V.int) = true := by
  unfold isRowsB
  have hall : (R.map fun r => r.map V.int).all (isRowB p (n : Nat)) = true := by
    rw [List.all_map, List.all_eq_true]
    intro r hr
    have orr := o r hr
    show isRowB p (n : Nat) (r.map V.int) = true
    unfold isRowB
    rw [List.length_map, orr.1, List.all_map, Bool.and_eq_true, List.all_eq_true]
    refine ⟨decide_eq_true rfl, fun i hi => ?_⟩
    have := orr.2 i hi
    show isNum 0 (p - 1) (.int i) = true
    simp only [isNum, Bool.and_eq_true, decide_eq_true_eq]
    omega
  rw [hall, List.length_map]
  simp only [Bool.and_eq_true, decide_eq_true_eq, and_true]
  omega
section
variable {P : Program} {w : World} {K : PySem.W.Frag} {mg : Str → Option Value} {base : Heap}
/-- a table that is one, or tuples of which one is none -/
def spIsStir (K : PySem.W.Frag) : Sp := fun vs H Q _ => ∃ (p : Int) (v : V), vs = [.int p, v] ∧ 1 < p ∧ p ≤ 100 ∧ PrmI p ∧ ((∃ (n : Nat) (A : List Row), RowsT K A v H ∧ Lin.Oks p n A ∧ A.length = n ∧ 1 ≤ n ∧ n ≤ 4 ∧ ∀ b H', Ex H H' → (b = true ↔ Lin.Full p n A) → Q (.bl b) H') ∨
  (∃ fss, RowsF K fss v H ∧ OkF fss ∧ isRowsB p 4 (fss.length : Nat) fss = false ∧ Ret (IsV (.bl false)) H Q) ∨ ((∀ H', Ex H H' → NotTup K v H') ∧ Ret (IsV (.bl false)) H Q))
theorem ok_isstir {f : Addr} {fd : FuncData} (B : Bare mg) (F : Fun K "is_stir" "is_stir" s_is_stir f fd) (Gr : Got P w K mg base CX0 3 "is_rows" p_is_rows (spIsRows K)) (Gs : Got P w K mg base CX0 5 "staircase" p_staircase (spStair K)) {t4 : Tok} (g4 : mg "MOST_CELLS" = some (.int 4 t4)) :
    FnOk P w K mg base CX0 6 f fd p_is_stir (spIsStir K) := by
  refine F.ok sc_is_stir (fun vs H Q E h => ?_) (fun cdv Ar outer s H vs Q E hr h => ?_)
  · obtain ⟨p, v, rfl, _⟩ := h
    rfl
  · obtain ⟨p, v, rfl, h1, h2, P_, h⟩ := h
    have hr3 : Room 3 _ := hr.mono (by decide)
    refine ⟨_, pss_cons (ps_if (PW.pt (pw_or (pt_not (pt_val (pe_callB call_isi (by rfl) B.isinstance (by decide +kernel) (pa_cons (pv 1) (pa_cons (pe_bltn (v := .ty "tuple") (by rfl) B.tuple (by decide +kernel) rfl) pa_nil)))))
        (pw_or1 (pt_not (pt_val (pe_got Gr hr3 pass0 (pa_cons (pv 0) (pa_cons (pv 1) (pa_cons (pe_glob (by rfl) g4 (v := .int 4) ⟨_, rfl⟩) (pa_cons (pe_callB call_len_seq (by rfl) B.len PySem.boot_len (pa_cons (pv 1) pa_nil)) pa_nil)))))))))) (pss_one (ps_ret pe_bl)) pss_nil)
      (pss_one (ps_ret (pe_cmpR op_eq (pe_callB call_len_seq (by rfl) B.len PySem.boot_len (pa_cons (pe_got Gs hr pass0 (pa_cons (pv 0) (pa_cons (pv 1) pa_nil))) pa_nil)) (pe_callB call_len_seq (by rfl) B.len PySem.boot_len (pa_cons (pv 1) pa_nil)) rfl))), ?_⟩
    rcases h with ⟨n, A, hA, oA, lA, n1, n4, q⟩ | ⟨fss, hR, hO, hg, q⟩ | ⟨hk, q⟩
    · obtain ⟨b, us, rfl, hb, pb⟩ := id hA
      have lu := pr_len pb
      refine ⟨_, rfl, .ref b, .ty "tuple", .type "tuple", .type "tuple", true, rfl, .ty _, tyx_t hb, kit_ty (by decide +kernel), true, rfl, iteF ?_⟩
      refine ⟨_, rfl, _, rfl, _, rfl, b, us, rfl, .inr hb, p, .ref b, _, 4, (us.length : Nat), rfl, rowsF_of hA, okF_of oA (by omega) (by omega), fun z H1 e1 ez => ?_⟩
      cases (show z = _ from ez)
      have gd : isRowsB p 4 (us.length : Nat) (A.map fun r => r.map V.int) = true := by
        rw [lu, lA]
        exact isRowsB_of oA (by omega) (by omega)
      refine ⟨_, rfl, ?_⟩
      rw [gd]
      refine iteF ?_
      refine ⟨_, rfl, _, rfl, p, n, .ref b, A, rfl, .inr (hA.ex e1), h1, h2, by omega, P_, oA, fun z H2 e2 hz => ?_⟩
      obtain ⟨S, ⟨sa, sus, rfl, hsq, hsp⟩, rS, sS⟩ := hz
      have lsu := pr_len hsp
      refine ⟨sa, sus, rfl, .inr hsq, _, rfl, b, us, rfl, .inr (_root_.Evl.ex_t (e1.trans e2) hb), rfl, ?_⟩
      refine q _ _ (e1.trans e2) ?_
      rw [decide_eq_true_eq, Lin.full_rank h1 rS sS]
      constructor
      · intro z
        have := V.int.inj z
        omega
      · intro z
        exact congrArg V.int (by omega)
    · obtain ⟨b, us, rfl, hb, pb⟩ := id hR
      have lu := pr_len pb
      refine ⟨_, rfl, .ref b, .ty "tuple", .type "tuple", .type "tuple", true, rfl, .ty _, tyx_t hb, kit_ty (by decide +kernel), true, rfl, iteF ?_⟩
      refine ⟨_, rfl, _, rfl, _, rfl, b, us, rfl, .inr hb, p, .ref b, _, 4, (us.length : Nat), rfl, hR, hO, fun z H1 e1 ez => ?_⟩
      cases (show z = _ from ez)
      refine ⟨_, rfl, ?_⟩
      rw [lu, hg]
      exact iteT (q _ _ e1 rfl)
    · obtain ⟨T, hT, hk2⟩ := hk H (_root_.Evl.Ex.refl _)
      exact ⟨_, rfl, v, .ty "tuple", .type T, .type "tuple", false, rfl, .ty _, hT, kit_ty hk2, false, rfl, iteT (iteT (q _ _ (_root_.Evl.Ex.refl _) rfl))⟩
end
end K01


set_option Elab.async false
set_option linter.all false
set_option maxRecDepth 100000
set_option maxHeartbeats 4000000
namespace K01
open PySem PySem.Spec PyProof.Rows L2
/-- a table that can be undone, by what stands -/
structure StirOk (K : PySem.W.Frag) (H : Hp) (p : Int) (n : Nat) (A : List Row) (a : V) : Prop where
  rows : RowsT K A a H
  ok : Lin.Oks p n A
  len : A.length = n
  n1 : 1 ≤ n
  n4 : n ≤ 4
  full : Lin.Full p n A
/-- what is wrong with a machine, none if nothing is -/
inductive WP (K : PySem.W.Frag) (H : Hp) : V → Option Str → Prop
  | noTup {v : V} : (∀ H', Ex H H' → NotTup K v H') → WP K H v (some "machine")
  | len {m : Addr} {us : List V} : SqT K H m us → us.length ≠ 4 → WP K H (.ref m) (some "machine")
  | prime {m : Addr} {x a w s : V} : SqT K H m [x, a, w, s] → Flt x → isPrm x = false → WP K H (.ref m) (some "prime")
  | stir {m : Addr} {p : Int} {a w s : V} {fss : List (List V)} : SqT K H m [.int p, a, w, s] → isPrm (.int p) = true → RowsF K fss a H → OkF fss → isRowsB p 4 (fss.length : Nat) fss = false → WP K H (.ref m) (some "stir")
  | flat {m : Addr} {p : Int} {n : Nat} {A : List Row} {a w s : V} : SqT K H m [.int p, a, w, s] → isPrm (.int p) = true → RowsT K A a H → Lin.Oks p n A → A.length = n → 1 ≤ n → n ≤ 4 → ¬ Lin.Full p n A → WP K H (.ref m) (some "stir")
  | writes {m : Addr} {p : Int} {n : Nat} {A : List Row} {a w s : V} {fss : List (List V)} : SqT K H m [.int p, a, w, s] → isPrm (.int p) = true → StirOk K H p n A a → RowsF K fss w H → OkF fss → isRowsB p 4 (n : Nat) fss = false → WP K H (.ref m) (some "writes")
  | sights {m : Addr} {p : Int} {n : Nat} {A W : List Row} {a w s : V} {fss : List (List V)} : SqT K H m [.int p, a, w, s] → isPrm (.int p) = true → StirOk K H p n A a → RowsT K W w H → Lin.Oks p n W → 1 ≤ W.length → W.length ≤ 4 → RowsF K fss s H → OkF fss → isRowsB p 4 (n : Nat) fss = false → WP K H (.ref m) (some "sights")
  | good {m : Addr} {p : Int} {n : Nat} {A W S : List Row} {a w s : V} : SqT K H m [.int p, a, w, s] → isPrm (.int p) = true → StirOk K H p n A a → RowsT K W w H → Lin.Oks p n W → 1 ≤ W.length → W.length ≤ 4 → RowsT K S s H → Lin.Oks p n S → 1 ≤ S.length → S.length ≤ 4 → WP K H (.ref m) none
theorem prm_bd {p : Int} (h : isPrm (.int p) = true) : 1 < p ∧ p ≤ 100 := by
  simp only [isPrm, Bool.or_eq_true, decide_eq_true_eq] at h
  omega
def partV : Option Str → V
  | none => .non
  | some z => .str z
section
variable {P : Program} {w : World} {K : PySem.W.Frag} {mg : Str → Option Value} {base : Heap}
def spWrong (K : PySem.W.Frag) : Sp := fun vs H Q _ => ∃ (v : V) (part : Option Str), vs = [v] ∧ WP K H v part ∧ Ret (IsV (partV part)) H Q
theorem ok_wrong {f : Addr} {fd : FuncData} (B : Bare mg) (F : Fun K "wrong_part" "wrong_part" s_wrong_part f fd) (Gp : Got P w K mg base CX0 2 "is_prime" p_is_prime spPrime) (Gs : Got P w K mg base CX0 6 "is_stir" p_is_stir (spIsStir K)) (Gr : Got P w K mg base CX0 3 "is_rows" p_is_rows (spIsRows K)) {t4 : Tok} (g4 : mg "MOST_PLUGS" = some (.int 4 t4)) :
    FnOk P w K mg base CX0 7 f fd p_wrong_part (spWrong K) := by
  refine F.ok sc_wrong_part (fun vs H Q E h => ?_) (fun cdv Ar outer s H vs Q E hr h => ?_)
  · obtain ⟨v, part, rfl, _⟩ := h
    rfl
  · obtain ⟨v, part, rfl, h, q⟩ := h
    have hr2 : Room 2 _ := hr.mono (by decide)
    have hr3 : Room 3 _ := hr.mono (by decide)
    refine ⟨_, pss_cons (ps_if (PW.pt (pw_or (pt_not (pt_val (pe_callB call_isi (by rfl) B.isinstance (by decide +kernel) (pa_cons (pv 0) (pa_cons (pe_bltn (v := .ty "tuple") (by rfl) B.tuple (by decide +kernel) rfl) pa_nil)))))
        (pw_or1 (pt_cmpR op_ne (pe_callB call_len_seq (by rfl) B.len PySem.boot_len (pa_cons (pv 0) pa_nil)) pe_int (nomark _))))) (pss_one (ps_ret pe_str)) pss_nil)
      (pss_cons (ps_asg (pv 0) (pg_tup rfl (pgs_cons (pg_name (i := 1) sc_wrong_part.nd rfl (Or.inl rfl)) (pgs_cons (pg_name (i := 2) sc_wrong_part.nd rfl (Or.inl rfl)) (pgs_cons (pg_name (i := 3) sc_wrong_part.nd rfl (Or.inl rfl)) (pgs_cons (pg_name (i := 4) sc_wrong_part.nd rfl (Or.inl rfl)) pgs_nil))))))
      (pss_cons (ps_if (pt_not (pt_val (pe_got Gp hr2 pass0 (pa_cons (pv 1) pa_nil)))) (pss_one (ps_ret pe_str)) pss_nil)
      (pss_cons (ps_if (pt_not (pt_val (pe_got Gs hr pass0 (pa_cons (pv 1) (pa_cons (pv 2) pa_nil))))) (pss_one (ps_ret pe_str)) pss_nil)
      (pss_cons (ps_if (pt_not (pt_val (pe_got Gr hr3 pass0 (pa_cons (pv 1) (pa_cons (pv 3) (pa_cons (pe_glob (by rfl) g4 (v := .int 4) ⟨_, rfl⟩) (pa_cons (pe_callB call_len_seq (by rfl) B.len PySem.boot_len (pa_cons (pv 2) pa_nil)) pa_nil))))))) (pss_one (ps_ret pe_str)) pss_nil)
      (pss_cons (ps_if (pt_not (pt_val (pe_got Gr hr3 pass0 (pa_cons (pv 1) (pa_cons (pv 4) (pa_cons (pe_glob (by rfl) g4 (v := .int 4) ⟨_, rfl⟩) (pa_cons (pe_callB call_len_seq (by rfl) B.len PySem.boot_len (pa_cons (pv 2) pa_nil)) pa_nil))))))) (pss_one (ps_ret pe_str)) pss_nil)
      (pss_one (ps_ret pe_non))))))), ?_⟩
    cases h with
    | noTup hk =>
      obtain ⟨T, hT, hk2⟩ := hk H (_root_.Evl.Ex.refl _)
      exact ⟨_, rfl, v, .ty "tuple", .type T, .type "tuple", false, rfl, .ty _, hT, kit_ty hk2, false, rfl, iteT (iteT (q _ _ (_root_.Evl.Ex.refl _) rfl))⟩
    | len hm hl =>
      refine ⟨_, rfl, .ref _, .ty "tuple", .type "tuple", .type "tuple", true, rfl, .ty _, tyx_t hm, kit_ty (by decide +kernel), true, rfl, iteF ?_⟩
      refine ⟨_, rfl, _, _, rfl, .inr hm, rfl, _, rfl, ite2 (fun _ => q _ _ (_root_.Evl.Ex.refl _) rfl) (fun c => absurd (deq c) (by omega))⟩
    | prime hm hf hx =>
      refine ⟨_, rfl, .ref _, .ty "tuple", .type "tuple", .type "tuple", true, rfl, .ty _, tyx_t hm, kit_ty (by decide +kernel), true, rfl, iteF ?_⟩
      refine ⟨_, rfl, _, _, rfl, .inr hm, rfl, _, rfl, ite2 (fun c => absurd rfl (dne c)) (fun _ => ?_)⟩
      refine ⟨_, rfl, _, _, rfl, hm, rfl, _, _, rfl, _, _, rfl, _, _, rfl, _, _, rfl, rfl, ?_⟩
      refine ⟨_, rfl, _, rfl, hf, fun z H1 e1 ez => ?_⟩
      cases (show z = _ from ez)
      refine ⟨_, rfl, ?_⟩
      rw [hx]
      exact iteT (q _ _ e1 rfl)
    | stir hm hx hR hO hg =>
      refine ⟨_, rfl, .ref _, .ty "tuple", .type "tuple", .type "tuple", true, rfl, .ty _, tyx_t hm, kit_ty (by decide +kernel), true, rfl, iteF ?_⟩
      refine ⟨_, rfl, _, _, rfl, .inr hm, rfl, _, rfl, ite2 (fun c => absurd rfl (dne c)) (fun _ => ?_)⟩
      refine ⟨_, rfl, _, _, rfl, hm, rfl, _, _, rfl, _, _, rfl, _, _, rfl, _, _, rfl, rfl, ?_⟩
      refine ⟨_, rfl, _, rfl, .int _, fun z H1 e1 ez => ?_⟩
      cases (show z = _ from ez)
      refine ⟨_, rfl, ?_⟩
      rw [hx]
      refine iteF ?_
      have P_ := prmI hx
      have pb := prm_bd hx
      refine ⟨_, rfl, _, rfl, _, _, rfl, pb.1, pb.2, P_, .inr (.inl ⟨_, hR.ex e1, hO, hg, fun z H2 e2 ez => ?_⟩)⟩
      cases (show z = _ from ez)
      exact ⟨false, rfl, iteT (q _ _ (e1.trans e2) rfl)⟩
    | flat hm hx hR hO hl n1 n4 nf =>
      refine ⟨_, rfl, .ref _, .ty "tuple", .type "tuple", .type "tuple", true, rfl, .ty _, tyx_t hm, kit_ty (by decide +kernel), true, rfl, iteF ?_⟩
      refine ⟨_, rfl, _, _, rfl, .inr hm, rfl, _, rfl, ite2 (fun c => absurd rfl (dne c)) (fun _ => ?_)⟩
      refine ⟨_, rfl, _, _, rfl, hm, rfl, _, _, rfl, _, _, rfl, _, _, rfl, _, _, rfl, rfl, ?_⟩
      refine ⟨_, rfl, _, rfl, .int _, fun z H1 e1 ez => ?_⟩
      cases (show z = _ from ez)
      refine ⟨_, rfl, ?_⟩
      rw [hx]
      refine iteF ?_
      have P_ := prmI hx
      have pb := prm_bd hx
      refine ⟨_, rfl, _, rfl, _, _, rfl, pb.1, pb.2, P_, .inl ⟨_, _, hR.ex e1, hO, hl, n1, n4, fun b H2 e2 hb => ?_⟩⟩
      have hb' : b = false := by
        cases b with
        | true => exact absurd (hb.1 rfl) nf
        | false => rfl
      subst hb'
      exact ⟨false, rfl, iteT (q _ _ (e1.trans e2) rfl)⟩
    | writes hm hx st hR hO hg =>
      refine ⟨_, rfl, .ref _, .ty "tuple", .type "tuple", .type "tuple", true, rfl, .ty _, tyx_t hm, kit_ty (by decide +kernel), true, rfl, iteF ?_⟩
      refine ⟨_, rfl, _, _, rfl, .inr hm, rfl, _, rfl, ite2 (fun c => absurd rfl (dne c)) (fun _ => ?_)⟩
      refine ⟨_, rfl, _, _, rfl, hm, rfl, _, _, rfl, _, _, rfl, _, _, rfl, _, _, rfl, rfl, ?_⟩
      refine ⟨_, rfl, _, rfl, .int _, fun z H1 e1 ez => ?_⟩
      cases (show z = _ from ez)
      refine ⟨_, rfl, ?_⟩
      rw [hx]
      refine iteF ?_
      have P_ := prmI hx
      have pb := prm_bd hx
      refine ⟨_, rfl, _, rfl, _, _, rfl, pb.1, pb.2, P_, .inl ⟨_, _, st.rows.ex e1, st.ok, st.len, st.n1, st.n4, fun b H2 e2 hb => ?_⟩⟩
      have hb' := hb.2 st.full
      subst hb'
      refine ⟨true, rfl, iteF ?_⟩
      obtain ⟨ab, aus, rfl, hab, pab⟩ := st.rows
      have la : aus.length = _ := (pr_len pab).trans st.len
      refine ⟨_, rfl, _, rfl, _, rfl, ab, aus, rfl, .inr (_root_.Evl.ex_t (e1.trans e2) hab), _, _, _, 4, (aus.length : Nat), rfl, hR.ex (e1.trans e2), hO, fun z H3 e3 ez => ?_⟩
      cases (show z = _ from ez)
      refine ⟨_, rfl, ?_⟩
      rw [la, hg]
      exact iteT (q _ _ ((e1.trans e2).trans e3) rfl)
    | sights hm hx st hW oW w1 w4 hR hO hg =>
      refine ⟨_, rfl, .ref _, .ty "tuple", .type "tuple", .type "tuple", true, rfl, .ty _, tyx_t hm, kit_ty (by decide +kernel), true, rfl, iteF ?_⟩
      refine ⟨_, rfl, _, _, rfl, .inr hm, rfl, _, rfl, ite2 (fun c => absurd rfl (dne c)) (fun _ => ?_)⟩
      refine ⟨_, rfl, _, _, rfl, hm, rfl, _, _, rfl, _, _, rfl, _, _, rfl, _, _, rfl, rfl, ?_⟩
      refine ⟨_, rfl, _, rfl, .int _, fun z H1 e1 ez => ?_⟩
      cases (show z = _ from ez)
      refine ⟨_, rfl, ?_⟩
      rw [hx]
      refine iteF ?_
      have P_ := prmI hx
      have pb := prm_bd hx
      refine ⟨_, rfl, _, rfl, _, _, rfl, pb.1, pb.2, P_, .inl ⟨_, _, st.rows.ex e1, st.ok, st.len, st.n1, st.n4, fun b H2 e2 hb => ?_⟩⟩
      have hb' := hb.2 st.full
      subst hb'
      refine ⟨true, rfl, iteF ?_⟩
      obtain ⟨ab, aus, rfl, hab, pab⟩ := st.rows
      have la : aus.length = _ := (pr_len pab).trans st.len
      refine ⟨_, rfl, _, rfl, _, rfl, ab, aus, rfl, .inr (_root_.Evl.ex_t (e1.trans e2) hab), _, _, _, 4, (aus.length : Nat), rfl, rowsF_of (hW.ex (e1.trans e2)), okF_of oW (by have := st.n4; omega) (by omega), fun z H3 e3 ez => ?_⟩
      cases (show z = _ from ez)
      refine ⟨_, rfl, ?_⟩
      rw [la, isRowsB_of oW w1 (by omega)]
      refine iteF ?_
      refine ⟨_, rfl, _, rfl, _, rfl, ab, aus, rfl, .inr (_root_.Evl.ex_t ((e1.trans e2).trans e3) hab), _, _, _, 4, (aus.length : Nat), rfl, hR.ex ((e1.trans e2).trans e3), hO, fun z H4 e4 ez => ?_⟩
      cases (show z = _ from ez)
      refine ⟨_, rfl, ?_⟩
      rw [la, hg]
      exact iteT (q _ _ (((e1.trans e2).trans e3).trans e4) rfl)
    | good hm hx st hW oW w1 w4 hS oS s1 s4 =>
      refine ⟨_, rfl, .ref _, .ty "tuple", .type "tuple", .type "tuple", true, rfl, .ty _, tyx_t hm, kit_ty (by decide +kernel), true, rfl, iteF ?_⟩
      refine ⟨_, rfl, _, _, rfl, .inr hm, rfl, _, rfl, ite2 (fun c => absurd rfl (dne c)) (fun _ => ?_)⟩
      refine ⟨_, rfl, _, _, rfl, hm, rfl, _, _, rfl, _, _, rfl, _, _, rfl, _, _, rfl, rfl, ?_⟩
      refine ⟨_, rfl, _, rfl, .int _, fun z H1 e1 ez => ?_⟩
      cases (show z = _ from ez)
      refine ⟨_, rfl, ?_⟩
      rw [hx]
      refine iteF ?_
      have P_ := prmI hx
      have pb := prm_bd hx
      refine ⟨_, rfl, _, rfl, _, _, rfl, pb.1, pb.2, P_, .inl ⟨_, _, st.rows.ex e1, st.ok, st.len, st.n1, st.n4, fun b H2 e2 hb => ?_⟩⟩
      have hb' := hb.2 st.full
      subst hb'
      refine ⟨true, rfl, iteF ?_⟩
      obtain ⟨ab, aus, rfl, hab, pab⟩ := st.rows
      have la : aus.length = _ := (pr_len pab).trans st.len
      refine ⟨_, rfl, _, rfl, _, rfl, ab, aus, rfl, .inr (_root_.Evl.ex_t (e1.trans e2) hab), _, _, _, 4, (aus.length : Nat), rfl, rowsF_of (hW.ex (e1.trans e2)), okF_of oW (by have := st.n4; omega) (by omega), fun z H3 e3 ez => ?_⟩
      cases (show z = _ from ez)
      refine ⟨_, rfl, ?_⟩
      rw [la, isRowsB_of oW w1 (by omega)]
      refine iteF ?_
      refine ⟨_, rfl, _, rfl, _, rfl, ab, aus, rfl, .inr (_root_.Evl.ex_t ((e1.trans e2).trans e3) hab), _, _, _, 4, (aus.length : Nat), rfl, rowsF_of (hS.ex ((e1.trans e2).trans e3)), okF_of oS (by have := st.n4; omega) (by omega), fun z H4 e4 ez => ?_⟩
      cases (show z = _ from ez)
      refine ⟨_, rfl, ?_⟩
      rw [la, isRowsB_of oS s1 (by omega)]
      refine iteF ?_
      exact q _ _ (((e1.trans e2).trans e3).trans e4) rfl
end
end K01


set_option Elab.async false
set_option linter.all false
set_option maxRecDepth 100000
set_option maxHeartbeats 4000000
namespace K01
open PySem PySem.Spec PyProof.Rows L2
/-- the making of BadMachine -/
structure BadM (K : PySem.W.Frag) (mg : Str → Option Value) (C fI : Addr) : Prop where
  ex : OexC K C
  gC : mg "BadMachine" = some (.ref C)
  no : PySem.W.findIn K (.ref C) "part" = some none
  ini : PySem.W.findIn K (.ref C) "__init__" = some (some (.ref fI))
  tyI : PySem.W.typeIn K (.ref fI) = some (.type "function")
section
variable {P : Program} {w : World} {K : PySem.W.Frag} {mg : Str → Option Value} {base : Heap}
def spBadI (K : PySem.W.Frag) (C : Addr) : Sp := fun vs H Q _ => ∃ (a : Addr) (z : Str) (H0 : Hp), vs = [.ref a, .str z] ∧ H = upd H0 a (exo a C none) ∧ H0 a = none ∧ ∀ H2 d, H2 a = some (exo a C (some d)) → H2 d = some (exd d [("part", .str z)]) → (∀ b o, H0 b = some o → H2 b = some o) → H0 d = none → d ≠ a → Q .non H2
theorem ok_badinit {f C fI : Addr} {fd : FuncData} (M : BadM K mg C fI) (F : Fun K "__init__" "BadMachine.__init__" s_BadMachine_init f fd) : FnOk P w K mg base CX0 1 f fd ["self", "part"] (spBadI K C) := by
  refine F.ok sc_BadMachine_init (fun vs H Q E h => ?_) (fun cdv Ar outer s H vs Q E hr h => ?_)
  · obtain ⟨a, z, H0, rfl, _⟩ := h
    rfl
  · obtain ⟨a, z, H0, rfl, rfl, n0, q⟩ := h
    refine ⟨_, pss_one (ps_ost (pv 0) (pv 1)), ?_⟩
    refine ⟨_, rfl, _, rfl, a, C, rfl, M.ex, M.no, .inl ⟨upd_same, fun dx ndx nda => ?_⟩⟩
    have n1 : H0 dx = none := by rw [upd_ne nda] at ndx; exact ndx
    refine q _ dx upd_same (by rw [upd_ne nda]; exact upd_same) (fun b o hb => ?_) n1 nda
    rw [upd_ne (ne_of_none hb n0), upd_ne (ne_of_none hb n1), upd_ne (ne_of_none hb n0)]
    exact hb
def spCheckM (K : PySem.W.Frag) (C : Addr) : Sp := fun vs H Q E => ∃ (v : V) (part : Option Str), vs = [v] ∧ WP K H v part ∧ match part with
  | none => Ret (IsV .non) H Q
  | some z => ∀ d H', Ex H H' → H' d = some (.xd [("part", .str z)]) → E (.ref C) (some d) H'
theorem ok_checkM {f C fI : Addr} {fd fdI : FuncData} (M : BadM K mg C fI) (F : Fun K "check_machine" "check_machine" s_check_machine f fd) (FI : Fun K "__init__" "BadMachine.__init__" s_BadMachine_init fI fdI) (Gw : Got P w K mg base CX0 7 "wrong_part" p_wrong_part (spWrong K)) :
    FnOk P w K mg base (L2.CX P w) 8 f fd p_check_machine (spCheckM K C) := by
  have bI := FI.binds (ps := ["self", "part"]) fun _ _ _ _ _ _ us hl => match us, hl with | [_, _], _ => rfl
  refine F.okX sc_check_machine (fun vs H Q E h => ?_) (fun cdv Ar outer s H vs Q E hr h => ?_)
  · obtain ⟨v, part, rfl, _⟩ := h
    rfl
  · obtain ⟨v, part, rfl, hw, h⟩ := h
    refine ⟨_, pss_cons (ps_set (i := 1) sc_check_machine.nd rfl (Or.inl rfl) (pe_got Gw hr pass0 (pa_cons (pv 0) pa_nil)))
      (pss_one (ps_if (pt_cmp (pc_notN (pv 1))) (pss_one (ps_raise rfl (takes_of rfl rfl rfl rfl) (pmk_oex (CX := CX0) M.ex M.ini M.tyI (ok_badinit M FI) (hr.mono (by decide)) bI .nil pass0 rfl M.gC (pa_cons (pv 1) pa_nil)))) pss_nil)), ?_⟩
    refine ⟨_, rfl, v, part, rfl, hw, fun z H1 e1 ez => ?_⟩
    cases (show z = _ from ez)
    cases part with
    | none => exact ⟨_, rfl, false, rfl, iteF (h _ _ e1 rfl)⟩
    | some z =>
      refine ⟨_, rfl, true, rfl, iteT ?_⟩
      refine ⟨_, rfl, (by show 1 ≤ 1000; decide), fun a na => ?_⟩
      refine ⟨a, z, H1, rfl, rfl, na, fun H2 d h2 h3 h4 h5 h6 => ⟨rfl, d, _, h2, h3, h5, ?_⟩⟩
      refine h d _ (fun b o hb => ?_) upd_same
      have hb1 := e1 _ _ hb
      rw [upd_ne (ne_of_none hb1 h5), del_ne (ne_of_none hb1 na)]
      exact h4 _ _ hb1
end
end K01


set_option Elab.async false
set_option linter.all false
set_option maxRecDepth 100000
set_option maxHeartbeats 4000000
namespace K01
open PySem PySem.Spec PyProof.Rows L2
/-- a suite that is never come to -/
theorem pss_never {X : Cx} {body : List Stmt} : PSs X body (fun _ _ _ => False) := ⟨fun _ _ _ _ _ _ h => h.elim⟩
section
variable {P : Program} {w : World} {K : PySem.W.Frag} {mg : Str → Option Value} {base : Heap}
/-- add: the hand's multiple of a write is added -/
def spDeedAdd (K : PySem.W.Frag) : Sp := fun vs H Q _ => ∃ (p : Int) (n : Nat) (v u d : V) (A W S : List Row) (r : Row) (hd : Int) (j : Nat) (wr : Row), vs = [v, u, .int hd, d] ∧ MachT K p A W S v H ∧ RowT K r u H ∧ TupF K [.str "add", .int (j : Nat)] d H ∧ W[j]? = some wr ∧ 1 < p ∧ p ≤ 100 ∧ n ≤ 100 ∧ Lin.Oks p n A ∧ A.length = n ∧ Lin.Oks p n W ∧ Lin.OkR p n r ∧ 0 ≤ hd ∧ hd < p ∧
  ∀ t H', Ex H H' → (∃ b m, t = .ref b ∧ SqT K H' b [m, .int hd] ∧ RowT K (Lin.app p A (Lin.add p r hd wr)) m H') → Q t H'
end
end K01


set_option Elab.async false
set_option linter.all false
set_option maxRecDepth 100000
set_option maxHeartbeats 4000000
namespace K01
open PySem PySem.Spec PyProof.Rows L2
/-- data of one shape and one content: whole numbers, tuples and lists of such -/
def AlikeW (K : PySem.W.Frag) : Nat → V → V → Hp → Prop
  | 0, x, y, _ => ∃ i : Int, x = .int i ∧ y = .int i
  | k + 1, x, y, H => (∃ i : Int, x = .int i ∧ y = .int i) ∨ (∃ a b xs ys, x = .ref a ∧ y = .ref b ∧ SqT K H a xs ∧ SqT K H b ys ∧ xs.length = ys.length ∧ ys.length ≤ 1000 ∧ ∀ (i : Nat) (u v : V), xs[i]? = some u → ys[i]? = some v → AlikeW K k u v H) ∨
    (∃ a b xs ys, x = .ref a ∧ y = .ref b ∧ SqL K H a xs ∧ SqL K H b ys ∧ xs.length = ys.length ∧ ys.length ≤ 1000 ∧ ∀ (i : Nat) (u v : V), xs[i]? = some u → ys[i]? = some v → AlikeW K k u v H)
theorem AlikeW.ex {K : PySem.W.Frag} {H H' : Hp} (e : Ex H H') : ∀ {k : Nat} {x y : V}, AlikeW K k x y H → AlikeW K k x y H'
  | 0, _, _, h => h
  | k + 1, _, _, h => by
    rcases h with h | ⟨a, b, xs, ys, h1, h2, h3, h4, h5, h6, h7⟩ | ⟨a, b, xs, ys, h1, h2, h3, h4, h5, h6, h7⟩
    · exact .inl h
    · exact .inr (.inl ⟨a, b, xs, ys, h1, h2, _root_.Evl.ex_t e h3, _root_.Evl.ex_t e h4, h5, h6, fun i u v e1 e2 => AlikeW.ex e (h7 i u v e1 e2)⟩)
    · exact .inr (.inr ⟨a, b, xs, ys, h1, h2, _root_.Evl.ex_l e h3, _root_.Evl.ex_l e h4, h5, h6, fun i u v e1 e2 => AlikeW.ex e (h7 i u v e1 e2)⟩)
theorem AlikeV.w {K : PySem.W.Frag} {H : Hp} : ∀ {k : Nat} {x y : V}, AlikeV K k x y H → AlikeW K k x y H
  | 0, _, _, h => h
  | k + 1, _, _, h => by
    rcases h with h | ⟨a, b, xs, ys, h1, h2, h3, h4, h5, h6, h7⟩
    · exact .inl h
    · exact .inr (.inl ⟨a, b, xs, ys, h1, h2, h3, h4, h5, h6, fun i u v e1 e2 => AlikeV.w (h7 i u v e1 e2)⟩)
def spAlikeW (K : PySem.W.Frag) (k : Nat) : Sp := fun vs H Q _ => ∃ x y, vs = [x, y] ∧ AlikeW K k x y H ∧ Ret (IsV (.bl true)) H Q
def spAW (K : PySem.W.Frag) : Nat → Sp
  | 0 => fun _ _ _ _ => False
  | k + 1 => spAlikeW K k
def rIxE (K : PySem.W.Frag) : R2 := fun x y H Q => rIxT K x y H Q ∨ rIxL K x y H Q
theorem ix_either {X : Cx} : IxR X (rIxE X.K) := by
  intro value slice pins s σ H x y v u Q I rx ry h hs
  rcases h with h | h
  · exact ix_tup value slice pins s σ H x y v u Q I rx ry h hs
  · exact ix_list value slice pins s σ H x y v u Q I rx ry h hs
section
variable {P : Program} {w : World} {K : PySem.W.Frag} {mg : Str → Option Value} {base : Heap}
theorem any_lst : PySem.W.kitAny K (.type "list") [.type "tuple", .type "list"] = some true := kitAny_cons (b := false) (kit_ty (by decide +kernel)) (fun _ => kitAny_cons (b := true) (kit_ty (by decide +kernel)) (fun z => nomatch z) (fun _ => rfl)) (fun z => nomatch z)
theorem ok_alikeW0 {f : Addr} {fd : FuncData} : FnOk P w K mg base CX0 0 f fd p_law_alike (spAW K 0) := ⟨fun _ _ _ _ h => h.elim, fun _ _ _ _ _ _ _ _ _ _ _ _ _ h => h.elim⟩
theorem ok_alikeW {f : Addr} {fd : FuncData} (B : Bare mg) (F : Fun K "_law_alike" "_law_alike" s_law_alike f fd) (k : Nat) (Gs : Got P w K mg base CX0 k "_law_alike" p_law_alike (spAW K k)) : FnOk P w K mg base CX0 (k + 1) f fd p_law_alike (spAlikeW K k) := by
  refine F.ok sc_law_alike (fun vs H Q E h => ?_) (fun cdv A outer s H vs Q E hr h => ?_)
  · obtain ⟨x, y, rfl, _⟩ := h
    rfl
  · obtain ⟨x, y, rfl, hal, q⟩ := h
    have hr1 : Room k _ := hr
    refine ⟨_, pss_cons (ps_if (pt_val (pe_callB call_isiT (by rfl) B.isinstance (by decide +kernel) (pa_cons (pv 1) (pa_cons (pe_tup (pa_cons (pe_bltn (v := .ty "tuple") (by rfl) B.tuple (by decide +kernel) rfl) (pa_cons (pe_bltn (v := .ty "list") (by rfl) B.list (by decide +kernel) rfl) pa_nil))) pa_nil))))
        (pss_cons (ps_if (PW.pt (pw_or (pt_not (pt_val (pe_callB call_isiT (by rfl) B.isinstance (by decide +kernel) (pa_cons (pv 0) (pa_cons (pe_tup (pa_cons (pe_bltn (v := .ty "tuple") (by rfl) B.tuple (by decide +kernel) rfl) (pa_cons (pe_bltn (v := .ty "list") (by rfl) B.list (by decide +kernel) rfl) pa_nil))) pa_nil)))))
            (pw_or1 (pt_cmpR op_ne (pe_callB call_isi (by rfl) B.isinstance (by decide +kernel) (pa_cons (pv 0) (pa_cons (pe_bltn (v := .ty "list") (by rfl) B.list (by decide +kernel) rfl) pa_nil))) (pe_callB call_isi (by rfl) B.isinstance (by decide +kernel) (pa_cons (pv 1) (pa_cons (pe_bltn (v := .ty "list") (by rfl) B.list (by decide +kernel) rfl) pa_nil))) rfl))))
            (pss_one (ps_ret pe_bl)) pss_nil)
        (pss_cons (ps_if (pt_cmpR op_ne (pe_callB call_len_seq (by rfl) B.len PySem.boot_len (pa_cons (pv 0) pa_nil)) (pe_callB call_len_seq (by rfl) B.len PySem.boot_len (pa_cons (pv 1) pa_nil)) rfl) (pss_one (ps_ret pe_bl)) pss_nil)
        (pss_one (ps_ret (pe_cmpR (op_eqD hr.units) (pe_lc (own := [("k", 2)]) (g := gName 2) rfl sc_law_alike.nd (pi_range1 rfl B.range (pa_cons (pe_callB call_len_seq (by rfl) B.len PySem.boot_len (pa_cons (pv 1) pa_nil)) pa_nil)) (blkOk_by (N := n_law_alike) (sc := defScope s_law_alike) (by decide +kernel)) (fun _ _ _ _ _ => pg_name (i := 2) sc_law_alike.nd rfl (Or.inl rfl))
          (fun _ _ _ _ _ => pts_one (pt_not (pt_val (pe_got Gs hr1 pass0 (pa_cons (pe_ix (show IxR _ (rIxE K) from ix_either) (pv 0) (pv 2) (fun _ _ => rfl)) (pa_cons (pe_ix (show IxR _ (rIxE K) from ix_either) (pv 1) (pv 2) (fun _ _ => rfl)) pa_nil)))))) (fun _ _ _ _ _ => pv 2)) (pe_lst pa_nil) (nomark _)))))) pss_nil)
      (pss_cons (ps_if (PW.pt (pw_or (pt_cmp (pc_isN (pv 1))) (pw_or1 (pt_val (pe_callB call_isi (by rfl) B.isinstance (by decide +kernel) (pa_cons (pv 1) (pa_cons (pe_bltn (v := .ty "str") (by rfl) B.str (by decide +kernel) rfl) pa_nil)))))))
        (pss_one (ps_ret (pe_and (pe_cmpR op_eq (pv 0) (pv 1) rfl) (pe_one (pe_cmpR op_eq (pe_callB call_isi (by rfl) B.isinstance (by decide +kernel) (pa_cons (pv 0) (pa_cons (pe_bltn (v := .ty "str") (by rfl) B.str (by decide +kernel) rfl) pa_nil))) (pe_callB call_isi (by rfl) B.isinstance (by decide +kernel) (pa_cons (pv 1) (pa_cons (pe_bltn (v := .ty "str") (by rfl) B.str (by decide +kernel) rfl) pa_nil))) rfl))))) pss_nil)
      (pss_one (ps_ret (pe_and (pe_callB call_isi (by rfl) B.isinstance (by decide +kernel) (pa_cons (pv 0) (pa_cons (pe_bltn (v := .ty "int") (by rfl) B.int (by decide +kernel) rfl) pa_nil)))
        (pe_and (pe_cmpR op_eq (pe_callB call_isi (by rfl) B.isinstance (by decide +kernel) (pa_cons (pv 0) (pa_cons (pe_bltn (v := .ty "bool") (by rfl) B.bool (by decide +kernel) rfl) pa_nil))) (pe_callB call_isi (by rfl) B.isinstance (by decide +kernel) (pa_cons (pv 1) (pa_cons (pe_bltn (v := .ty "bool") (by rfl) B.bool (by decide +kernel) rfl) pa_nil))) rfl)
          (pe_one (pe_cmpR op_eq (pv 0) (pv 1) rfl))))))), ?_⟩
    have hh : (∃ i : Int, x = .int i ∧ y = .int i) ∨ (∃ j a b xs ys, k = j + 1 ∧ x = .ref a ∧ y = .ref b ∧ SqT K H a xs ∧ SqT K H b ys ∧ xs.length = ys.length ∧ ys.length ≤ 1000 ∧ ∀ (i : Nat) (u v : V), xs[i]? = some u → ys[i]? = some v → AlikeW K j u v H) ∨ (∃ j a b xs ys, k = j + 1 ∧ x = .ref a ∧ y = .ref b ∧ SqL K H a xs ∧ SqL K H b ys ∧ xs.length = ys.length ∧ ys.length ≤ 1000 ∧ ∀ (i : Nat) (u v : V), xs[i]? = some u → ys[i]? = some v → AlikeW K j u v H) := by
      cases k with
      | zero => exact .inl hal
      | succ j =>
        rcases hal with h | ⟨a, b, xs, ys, h⟩ | ⟨a, b, xs, ys, h⟩
        · exact .inl h
        · exact .inr (.inl ⟨j, a, b, xs, ys, rfl, h⟩)
        · exact .inr (.inr ⟨j, a, b, xs, ys, rfl, h⟩)
    have two : Paired ClsV [V.ty "tuple", V.ty "list"] [.type "tuple", .type "list"] := .cons (.ty _) (.cons (.ty _) .nil)
    rcases hh with ⟨i, rfl, rfl⟩ | ⟨j, a, b, xs, ys, rfl, rfl, rfl, ha, hb, hl, hz, hi⟩ | ⟨j, a, b, xs, ys, rfl, rfl, rfl, ha, hb, hl, hz, hi⟩
    · refine ⟨_, rfl, (by show 2 ≤ sizeLine; decide), fun tp np => ?_⟩
      refine ⟨.int i, tp, _, .type "int", _, false, rfl, upd_same, two, .base (.int i), any_int, false, rfl, iteF ?_⟩
      refine ⟨_, rfl, _, rfl, iteF ?_⟩
      refine ⟨_, rfl, .int i, .ty "str", .type "int", .type "str", false, rfl, .ty _, .base (.int i), kit_ty (by decide +kernel), false, rfl, iteF ?_⟩
      refine ⟨_, rfl, .int i, .ty "int", .type "int", .type "int", true, rfl, .ty _, .base (.int i), kit_ty (by decide +kernel), _, rfl, iteT ?_⟩
      refine ⟨_, rfl, .int i, .ty "bool", .type "int", .type "bool", false, rfl, .ty _, .base (.int i), kit_ty (by decide +kernel), ?_⟩
      refine ⟨_, rfl, .int i, .ty "bool", .type "int", .type "bool", false, rfl, .ty _, .base (.int i), kit_ty (by decide +kernel), rfl, ?_⟩
      refine ⟨_, rfl, iteT ?_⟩
      refine ⟨_, rfl, _, rfl, rfl, ?_⟩
      exact q _ _ (_root_.Evl.Ex.new np) (by show V.bl _ = V.bl _; simp)
    · refine ⟨_, rfl, (by show 2 ≤ sizeLine; decide), fun tp np => ?_⟩
      have e1 : Ex H (upd H tp (.tup [.ty "tuple", .ty "list"])) := _root_.Evl.Ex.new np
      refine ⟨.ref b, tp, _, .type "tuple", _, true, rfl, upd_same, two, tyx_t (_root_.Evl.ex_t e1 hb), any_tup, true, rfl, iteT ?_⟩
      refine ⟨_, rfl, (by show 2 ≤ sizeLine; decide), fun tp2 np2 => ?_⟩
      have e2 : Ex (upd H tp (.tup [.ty "tuple", .ty "list"])) (upd (upd H tp (.tup [.ty "tuple", .ty "list"])) tp2 (.tup [.ty "tuple", .ty "list"])) := _root_.Evl.Ex.new np2
      have e12 := e1.trans e2
      refine ⟨.ref a, tp2, _, .type "tuple", _, true, rfl, upd_same, two, tyx_t (_root_.Evl.ex_t e12 ha), any_tup, true, rfl, iteF ?_⟩
      refine ⟨_, rfl, .ref a, .ty "list", .type "tuple", .type "list", false, rfl, .ty _, tyx_t (_root_.Evl.ex_t e12 ha), kit_ty (by decide +kernel), ?_⟩
      refine ⟨_, rfl, .ref b, .ty "list", .type "tuple", .type "list", false, rfl, .ty _, tyx_t (_root_.Evl.ex_t e12 hb), kit_ty (by decide +kernel), rfl, ?_⟩
      refine ⟨_, rfl, iteF ?_⟩
      refine ⟨_, rfl, a, xs, rfl, .inr (_root_.Evl.ex_t e12 ha), _, rfl, b, ys, rfl, .inr (_root_.Evl.ex_t e12 hb), rfl, _, rfl, ?_⟩
      refine ite2 (fun c => absurd (by rw [hl]) (dne c)) (fun _ => ?_)
      refine ⟨_, rfl, b, ys, rfl, .inr (_root_.Evl.ex_t e12 hb), _, rfl, by omega, by omega, ?_⟩
      refine lc_go (walk_range (lo := 0) (n := ((ys.length : Nat) : Int).toNat)) (by omega) (fun _ _ => trivial) (List.range ys.length) (by rw [List.length_range, Int.toNat_natCast]) (fun _ => false) (fun _ _ _ => True) (fun _ _ _ _ _ h => h) (fun i m x H3 H4 hn3 e3 yy C N hC hN => ?_) fun D zs H3 nD e3 hD hz0 => ?_
      · obtain ⟨rfl, ex⟩ := yy
        have ex' : x = V.int ((i : Nat) : Int) := ex.trans (by show V.int _ = V.int _; rw [Int.zero_add])
        subst ex'
        have hi0 : i < ys.length := by
          have := (List.getElem?_eq_some_iff.mp hn3).1
          rwa [List.length_range] at this
        have hi1 : i < xs.length := by omega
        refine ⟨rfl, _, rfl, _, rfl, .inl ⟨a, xs, _, xs[i], rfl, rfl, _root_.Evl.ex_t (e12.trans e3) ha, at_of rfl (List.getElem?_eq_getElem hi1), _, rfl, _, rfl, .inl ⟨b, ys, _, ys[i], rfl, rfl, _root_.Evl.ex_t (e12.trans e3) hb, at_of rfl (List.getElem?_eq_getElem hi0), xs[i], ys[i], rfl, (hi i _ _ (List.getElem?_eq_getElem hi1) (List.getElem?_eq_getElem hi0)).ex (e12.trans e3), fun z H5 e5 ez => ?_⟩⟩⟩
        cases (show z = _ from ez)
        exact ⟨_, rfl, hN rfl _ e5⟩
      · have hz1 : Paired (fun y d => True) zs ((List.range ys.length).filter fun _ => false) := hz0
        have l0 : zs.length = 0 := by
          rw [pr_len hz1]
          simp
        have : zs = [] := List.length_eq_zero_iff.mp l0
        subst this
        refine ⟨Nat.zero_le _, fun g1 ng1 => ?_⟩
        have e4 : Ex H3 (upd H3 g1 (.lst [])) := _root_.Evl.Ex.new ng1
        refine ⟨.list [], .list [], .lst (SqL.of (e4 _ _ hD)) .nil, .lst (SqL.of upd_same) .nil, rfl, rfl, ?_⟩
        exact q _ _ ((e12.trans e3).trans e4) rfl
    · refine ⟨_, rfl, (by show 2 ≤ sizeLine; decide), fun tp np => ?_⟩
      have e1 : Ex H (upd H tp (.tup [.ty "tuple", .ty "list"])) := _root_.Evl.Ex.new np
      refine ⟨.ref b, tp, _, .type "list", _, true, rfl, upd_same, two, tyx_l (_root_.Evl.ex_l e1 hb), any_lst, true, rfl, iteT ?_⟩
      refine ⟨_, rfl, (by show 2 ≤ sizeLine; decide), fun tp2 np2 => ?_⟩
      have e2 : Ex (upd H tp (.tup [.ty "tuple", .ty "list"])) (upd (upd H tp (.tup [.ty "tuple", .ty "list"])) tp2 (.tup [.ty "tuple", .ty "list"])) := _root_.Evl.Ex.new np2
      have e12 := e1.trans e2
      refine ⟨.ref a, tp2, _, .type "list", _, true, rfl, upd_same, two, tyx_l (_root_.Evl.ex_l e12 ha), any_lst, true, rfl, iteF ?_⟩
      refine ⟨_, rfl, .ref a, .ty "list", .type "list", .type "list", true, rfl, .ty _, tyx_l (_root_.Evl.ex_l e12 ha), kit_ty (by decide +kernel), ?_⟩
      refine ⟨_, rfl, .ref b, .ty "list", .type "list", .type "list", true, rfl, .ty _, tyx_l (_root_.Evl.ex_l e12 hb), kit_ty (by decide +kernel), rfl, ?_⟩
      refine ⟨_, rfl, iteF ?_⟩
      refine ⟨_, rfl, a, xs, rfl, .inl (_root_.Evl.ex_l e12 ha), _, rfl, b, ys, rfl, .inl (_root_.Evl.ex_l e12 hb), rfl, _, rfl, ?_⟩
      refine ite2 (fun c => absurd (by rw [hl]) (dne c)) (fun _ => ?_)
      refine ⟨_, rfl, b, ys, rfl, .inl (_root_.Evl.ex_l e12 hb), _, rfl, by omega, by omega, ?_⟩
      refine lc_go (walk_range (lo := 0) (n := ((ys.length : Nat) : Int).toNat)) (by omega) (fun _ _ => trivial) (List.range ys.length) (by rw [List.length_range, Int.toNat_natCast]) (fun _ => false) (fun _ _ _ => True) (fun _ _ _ _ _ h => h) (fun i m x H3 H4 hn3 e3 yy C N hC hN => ?_) fun D zs H3 nD e3 hD hz0 => ?_
      · obtain ⟨rfl, ex⟩ := yy
        have ex' : x = V.int ((i : Nat) : Int) := ex.trans (by show V.int _ = V.int _; rw [Int.zero_add])
        subst ex'
        have hi0 : i < ys.length := by
          have := (List.getElem?_eq_some_iff.mp hn3).1
          rwa [List.length_range] at this
        have hi1 : i < xs.length := by omega
        refine ⟨rfl, _, rfl, _, rfl, .inr ⟨a, xs, _, xs[i], rfl, rfl, _root_.Evl.ex_l (e12.trans e3) ha, at_of rfl (List.getElem?_eq_getElem hi1), _, rfl, _, rfl, .inr ⟨b, ys, _, ys[i], rfl, rfl, _root_.Evl.ex_l (e12.trans e3) hb, at_of rfl (List.getElem?_eq_getElem hi0), xs[i], ys[i], rfl, (hi i _ _ (List.getElem?_eq_getElem hi1) (List.getElem?_eq_getElem hi0)).ex (e12.trans e3), fun z H5 e5 ez => ?_⟩⟩⟩
        cases (show z = _ from ez)
        exact ⟨_, rfl, hN rfl _ e5⟩
      · have hz1 : Paired (fun y d => True) zs ((List.range ys.length).filter fun _ => false) := hz0
        have l0 : zs.length = 0 := by
          rw [pr_len hz1]
          simp
        have : zs = [] := List.length_eq_zero_iff.mp l0
        subst this
        refine ⟨Nat.zero_le _, fun g1 ng1 => ?_⟩
        have e4 : Ex H3 (upd H3 g1 (.lst [])) := _root_.Evl.Ex.new ng1
        refine ⟨.list [], .list [], .lst (SqL.of (e4 _ _ hD)) .nil, .lst (SqL.of upd_same) .nil, rfl, rfl, ?_⟩
        exact q _ _ ((e12.trans e3).trans e4) rfl
end
end K01


set_option maxRecDepth 100000
set_option linter.unusedVariables false
/-! what the law of parts asks of rows -/
namespace Lin
section
variable {p : Int} {n : Nat} {S R L : List Row} {A W : List Row} {v w : Row} {leads : List Nat}
theorem stairs_of_space {V : Row → Prop} (hp : 1 < p) (hS : Rref p n S) (h : ∀ v, Sp p n S v ↔ V v) (nd : L.Nodup) (hL : ∀ v, v ∈ L ↔ V v) (srt : leads.Pairwise (· < ·)) (hm : ∀ a, a ∈ leads ↔ a ∈ (lawRows L).map lead) : lawStairs leads L = S :=
  lawStairs_is hp hS (fun v => (hL v).trans (h v).symm) nd srt hm
/-- a deed that adds keeps to what can be reached -/
theorem can_step (hp : 1 < p) (P : Prm p) (hA : Oks p n A) (hl : A.length = n) (hW : Oks p n W) {k : Nat} (hk : n ≤ k) (hk0 : 1 ≤ k) (lot : Lot p n (kry p A W k) L) (hv : v ∈ L) (hw : w ∈ W) (c : Int) : app p A (add p v c w) ∈ L := by
  have hp0 : 0 < p := by omega
  have ok := kry_ok (k := k) hp0 hl hW
  refine (lot.mem _).2 (kry_stable hp P hA hl hW hk (((lot.mem v).1 hv).add hp0 ok (Sp.gen hp0 (hW w hw) (mem_kry.2 ⟨0, by omega, w, hw, rfl⟩)) c))
/-- what both are: the meeting of two spaces, as a list -/
theorem both_mem {L1 L2 : List Row} {V1 V2 : Row → Prop} (h1 : ∀ v, v ∈ L1 ↔ V1 v) (h2 : ∀ v, v ∈ L2 ↔ V2 v) : ∀ v, v ∈ (L1.filter fun x => decide (x ∈ L2)) ↔ V1 v ∧ V2 v := fun v => by
  rw [List.mem_filter, decide_eq_true_eq, h1, h2]
/-- a smaller space has a shorter staircase; the law's sizes are the lengths -/
theorem keeps_le {V1 V2 : Row → Prop} {S1 S2 : List Row} (hp : 1 < p) (r1 : Rref p n S1) (r2 : Rref p n S2) (h1 : ∀ v, Sp p n S1 v ↔ V1 v) (h2 : ∀ v, Sp p n S2 v ↔ V2 v) (sub : ∀ v, V2 v → V1 v) : S2.length ≤ S1.length :=
  len_mono hp r2 r1 fun v q => (h1 v).2 (sub v ((h2 v).1 q))
/-- the dual of what is never seen: the rows that meet all of it with 0 are what sights come to -/
theorem unseen_is {ss : List Row} (hp : 1 < p) (P : Prm p) (hA : Oks p n A) (hl : A.length = n) (hs : Oks p n ss) {k : Nat} (hk : n ≤ k) (hv : OkR p n v) : (∀ t, t < k → ∀ s ∈ ss, dot p s (it p A t v) = 0) ↔ ∀ r ∈ kry p (tr n A) ss k, dot p r v = 0 := by
  have hp0 : 0 < p := by omega
  constructor
  · intro h r hr
    obtain ⟨t, ht, s, hs2, e⟩ := mem_kry.1 hr
    rw [← e, ← dot_it hp0 hA hl (hs s hs2) hv]
    exact h t ht s hs2
  · intro h t ht s hs2
    rw [dot_it hp0 hA hl (hs s hs2) hv]
    exact h _ (mem_kry.2 ⟨t, ht, s, hs2, rfl⟩)
end
end Lin


set_option Elab.async false
set_option linter.all false
namespace Lin
section
variable {p : Int} {n : Nat} {S T R F G : List Row} {A W : List Row} {v w r u : Row} {V1 V2 : Row → Prop}
theorem kry_one : Same p n (kry p A W 1) W := fun v => by
  have e : kry p A W 1 = W := by
    unfold kry
    rw [List.range_one, List.flatMap_singleton]
    exact (List.map_congr_left fun x _ => rfl).trans (List.map_id W)
  rw [e]
/-- one more step of what a table makes of rows -/
theorem kry_next (hp : 0 < p) (hA : Oks p n A) (hl : A.length = n) (hW : Oks p n W) (hS : Oks p n S) {k : Nat} (hk : 1 ≤ k) (s : Same p n S (kry p A W k)) : Oks p n (S ++ S.map (app p A)) ∧ Same p n (S ++ S.map (app p A)) (kry p A W (k + 1)) := by
  have o1 : Oks p n (S ++ S.map (app p A)) := fun x hx => by
    rcases List.mem_append.mp hx with h | h
    · exact hS x h
    · obtain ⟨y, hy, rfl⟩ := List.mem_map.mp h
      exact app_ok hp hl
  have o2 : Oks p n (kry p A W (k + 1)) := kry_ok hp hl hW
  have o3 : Oks p n (kry p A W k) := kry_ok hp hl hW
  refine ⟨o1, same_of hp o1 o2 (fun r hr => ?_) fun r hr => ?_⟩
  · rcases List.mem_append.mp hr with h | h
    · exact kry_up (Nat.le_succ k) ((s r).1 (Sp.gen hp (hS r h) h))
    · obtain ⟨y, hy, rfl⟩ := List.mem_map.mp h
      refine (app_sp hp hA hl o3 ((s y).1 (Sp.gen hp (hS y hy) hy))).mono hp o2 fun x hx => ?_
      obtain ⟨z, hz, rfl⟩ := List.mem_map.mp hx
      obtain ⟨t, ht, w, hw, rfl⟩ := mem_kry.1 hz
      have : app p A (it p A t w) ∈ kry p A W (k + 1) := mem_kry.2 ⟨t + 1, by omega, w, hw, rfl⟩
      exact Sp.gen hp (o2 _ this) this
  · obtain ⟨t, ht, w, hw, rfl⟩ := mem_kry.1 hr
    by_cases e : t < k
    · have hm : it p A t w ∈ kry p A W k := mem_kry.2 ⟨t, e, w, hw, rfl⟩
      exact ((s _).2 (Sp.gen hp (o3 _ hm) hm)).sub fun x hx => List.mem_append_left _ hx
    · obtain rfl : t = k := by omega
      obtain ⟨t, rfl⟩ : ∃ j, t = j + 1 := ⟨t - 1, by omega⟩
      have hm : it p A t w ∈ kry p A W (t + 1) := mem_kry.2 ⟨t, by omega, w, hw, rfl⟩
      have h1 := (s _).2 (Sp.gen hp (o3 _ hm) hm)
      exact (app_sp hp hA hl hS h1).sub fun x hx => List.mem_append_right _ hx
/-- F is a staircase of just the rows of which V1 holds -/
def Spans (p : Int) (n : Nat) (F : List Row) (V1 : Row → Prop) : Prop := Rref p n F ∧ ∀ v, Sp p n F v ↔ V1 v
theorem Spans.uniq (hp : 1 < p) (h : Spans p n F V1) (h' : Spans p n G V2) (e : ∀ v, V1 v ↔ V2 v) : F = G := h.1.uniq hp h'.1 fun v => (h.2 v).trans ((e v).trans (h'.2 v).symm)
theorem spans_face (hp : 1 < p) (oR : Oks p n R) (hF : Rref p n F) (hS : Rref p n S) (sS : Same p n S R) (sF : Same p n F (facings p n S)) : Spans p n F fun v => OkR p n v ∧ ∀ r ∈ R, dot p r v = 0 :=
  ⟨hF, fun v => (sF v).trans (facings_of hp hS oR sS)⟩
theorem face_len (hp : 1 < p) (hF : Rref p n F) (hS : Rref p n S) (sF : Same p n F (facings p n S)) : F.length + S.length = n := by
  have hp0 : 0 < p := by omega
  have c1 := combos_len (p := p) (n := n) (S := F)
  have c2 : (combos p n F).length = p.toNat ^ (facings p n S).length := Ind.count hp0 (facings_ind hp hS) (combos_nd hp0 hF.ind) fun v => (mem_combos hp0 hF.ok).trans (sF v)
  have e : F.length = (facings p n S).length := (Nat.pow_right_inj (show 1 < p.toNat by omega)).1 (c1.symm.trans c2)
  have e2 : (facings p n S).length = (frees n S).length := by unfold facings; rw [List.length_map]
  have := frees_len hS
  omega
/-- what meets with 0 all that meets with 0 what S spans: S spans it -/
theorem perp_perp (hp : 1 < p) (P : Prm p) (hS : Rref p n S) (hF : Rref p n F) (sF : Same p n F (facings p n S)) (hv : OkR p n v) (h : ∀ f ∈ F, dot p f v = 0) : Sp p n S v := by
  have hp0 : 0 < p := by omega
  obtain ⟨G, hG, sG⟩ := exists_rref hp P (R := facings p n F) (facings_ind hp hF).ok
  have l1 := face_len hp hF hS sF
  have l2 := face_len hp hG hF sG
  have gm : ∀ {x : Row}, Sp p n G x ↔ OkR p n x ∧ ∀ f ∈ F, dot p f x = 0 := fun {x} => (sG x).trans (facings_of hp hF hF.ok Same.refl)
  have sub : ∀ x, Sp p n S x → Sp p n G x := fun x hx => by
    have ox := hx.ok hp0 hS.ok
    refine gm.2 ⟨ox, fun f hf => ?_⟩
    have hf2 := (sF f).1 (Sp.gen hp0 (hF.ok f hf) hf)
    have of := hF.ok f hf
    rw [dot_comm of.1 ox.1]
    have hp2 := (facings_sp hp hS).1 hf2
    exact perp_sp hp0 hS.ok of.1 hp2.2 hx
  refine Classical.byContradiction fun no => ?_
  have := len_less hp hS hG sub (gm.2 ⟨hv, h⟩) no
  omega
/-- what is reached and never seen -/
theorem spans_both (hp : 1 < p) (P : Prm p) {B L K1 : List Row} (hB : Rref p n B) (hF : Rref p n F) (sF : Same p n F (facings p n B)) (oL : Oks p n L) (hK : Spans p n K1 fun v => OkR p n v ∧ ∀ r ∈ F ++ L, dot p r v = 0) :
    Spans p n K1 fun v => Sp p n B v ∧ OkR p n v ∧ ∀ r ∈ L, dot p r v = 0 := by
  have hp0 : 0 < p := by omega
  refine ⟨hK.1, fun v => (hK.2 v).trans ⟨fun ⟨o, h⟩ => ⟨perp_perp hp P hB hF sF o fun f hf => h f (List.mem_append_left _ hf), o, fun r hr => h r (List.mem_append_right _ hr)⟩, fun ⟨hb, o, h⟩ => ⟨o, fun r hr => ?_⟩⟩⟩
  rcases List.mem_append.mp hr with hf | hl
  · have of := hF.ok r hf
    rw [dot_comm of.1 o.1]
    have := (facings_sp hp hB).1 ((sF r).1 (Sp.gen hp0 of hf))
    exact perp_sp hp0 hB.ok of.1 this.2 hb
  · exact h r hl
end
end Lin


set_option Elab.async false
set_option linter.all false
set_option maxRecDepth 100000
set_option maxHeartbeats 1000000
/-! zip of any number of tuples, its tuples kept -/
namespace ZN
open PySem PySem.Spec PyProof.Rows
open PySem.Sem (wp)
/-- one of the tuples that are zipped: its iterator, where it stands, its items -/
structure Th where
  it : Addr
  l : Addr
  xs : Array Value
def At (h : Heap) (i : Nat) (t : Th) : Prop := h.IsTupleIter t.it t.l i ∧ h.IsTuple t.l t.xs
theorem At.keep {h h' : Heap} {i : Nat} {t : Th} (a : At h i t) (k : ∀ o, h.get? t.it = some o → h'.get? t.it = some o) (k' : ∀ o, h.get? t.l = some o → h'.get? t.l = some o) : At h' i t := by
  obtain ⟨⟨o, h1, h2⟩, ⟨o', h3, h4⟩⟩ := a
  exact ⟨⟨o, k _ h1, h2⟩, ⟨o', k' _ h3, h4⟩⟩
abbrev ZipObj (h : Heap) (z TI TO : Addr) (f0 f1 : Value) : Prop := h.get? z = some { cls := .type "zip", dict := none, data := .fields #[f0, f1, .bool false, .ref TI, .ref TO], slots := #[] }
abbrev TupObj (h : Heap) (T : Addr) (vs : Array Value) : Prop := h.get? T = some { cls := .type "tuple", data := .seq vs }
def refs (ts : List Th) : List Value := ts.map fun t => Value.ref t.it
structure Apart (z TI TO : Addr) (ts : List Th) : Prop where
  zTI : z ≠ TI
  zTO : z ≠ TO
  TITO : TI ≠ TO
  it : ∀ t ∈ ts, t.it ≠ z ∧ t.it ≠ TI ∧ t.it ≠ TO
  l : ∀ t ∈ ts, t.l ≠ z ∧ t.l ≠ TO ∧ ∀ u ∈ ts, t.l ≠ u.it
  nd : (ts.map Th.it).Nodup
structure ZipAt (h : Heap) (z TI TO : Addr) (ts : List Th) (i : Nat) : Prop where
  z : ∃ (f0 : Value) (f1 : Bool), (f0 = .none ∨ ∃ T : Addr, f0 = rawInt T) ∧ ZipObj h z TI TO f0 (.bool f1)
  ti : TupObj h TI (refs ts).toArray
  to : ∃ kept : Array Value, kept.size = ts.length ∧ TupObj h TO kept
  at_ : ∀ t ∈ ts, At h i t

section
variable {prog : Program} {w : World} {A : Around} {E : Value → Shared → Prop} {s : Shared}
variable {z TI TO : Addr} {ts : List Th} {i : Nat}
/-- what one draw of all threads leaves: those of ds drawn, those of rs not yet -/
structure Mid (h0 h : Heap) (z TO : Addr) (ts ds rs : List Th) (i : Nat) : Prop where
  sz : h.objs.size = h0.objs.size
  ds : ∀ t ∈ ds, At h (i + 1) t
  rs : ∀ t ∈ rs, At h i t
  keep : ∀ c o, c ≠ z → c ≠ TO → (∀ t ∈ ts, c ≠ t.it) → h0.get? c = some o → h.get? c = some o
def vals (ds : List Th) (i : Nat) : List Value := ds.map fun t => t.xs.getD i .none
theorem vals_len {ds : List Th} {i : Nat} : (vals ds i).length = ds.length := List.length_map _
theorem draw {h0 : Heap} {ds rs : List Th} {t : Th} {x : Value} {Q : Value → Shared → Prop} (D : Apart z TI TO ts) (ets : ts = ds ++ t :: rs) (M : Mid h0 s.heap z TO ts ds (t :: rs) i) (hx : t.xs[i]? = some x)
    (hQ : ∀ h', Mid h0 h' z TO ts (ds ++ [t]) rs i → (∀ c o, c ≠ t.it → s.heap.get? c = some o → h'.get? c = some o) → Q x { s with heap := h' }) :
    wpAny (model prog w) A (Builtin.SmallTypes.nextOf (.ref t.it)) Q E s := by
  have ht : t ∈ ts := by rw [ets]; simp
  have at0 := M.rs t List.mem_cons_self
  have nd := D.nd
  rw [ets, List.map_append, List.map_cons] at nd
  have nd2 := List.nodup_append.mp nd
  have nd3 := List.nodup_cons.mp nd2.2.1
  refine RZ.nextOf_tuple_item at0.1 at0.2 hx fun h' a k => ?_
  have kk : ∀ c o, c ≠ t.it → s.heap.get? c = some o → h'.get? c = some o := fun c o n e => k.extBut c o n e
  refine hQ h' ⟨k.1.trans M.sz, fun u hu => ?_, fun u hu => ?_, fun c o c1 c2 c3 e => kk c o (c3 t ht) (M.keep c o c1 c2 c3 e)⟩ kk
  · rcases List.mem_append.mp hu with hu | hu
    · have um : u ∈ ts := by rw [ets]; exact List.mem_append_left _ hu
      have ne : u.it ≠ t.it := fun e => nd2.2.2 u.it (List.mem_map_of_mem hu) t.it (List.mem_cons_self) e
      exact (M.ds u hu).keep (fun o e => kk _ o ne e) fun o e => kk _ o ((D.l u um).2.2 t ht) e
    · rw [List.mem_singleton.mp hu]
      refine ⟨a, ?_⟩
      obtain ⟨o, h1, h2⟩ := at0.2
      exact ⟨o, kk _ o ((D.l t ht).2.2 t ht) h1, h2⟩
  · have um : u ∈ ts := by rw [ets]; exact List.mem_append_right _ (List.mem_cons_of_mem _ hu)
    have ne : u.it ≠ t.it := fun e => nd3.1 (e ▸ List.mem_map_of_mem hu)
    exact (M.rs u (List.mem_cons_of_mem _ hu)).keep (fun o e => kk _ o ne e) fun o e => kk _ o ((D.l u um).2.2 t ht) e
theorem zipIdx_app {α : Type} (a b : List α) (k : Nat) : (a ++ b).zipIdx k = a.zipIdx k ++ b.zipIdx (k + a.length) := by
  induction a generalizing k with
  | nil => simp
  | cons x l ih => rw [List.cons_append, List.zipIdx_cons, List.zipIdx_cons, ih, List.length_cons, List.cons_append, show k + 1 + l.length = k + (l.length + 1) by omega]
theorem updateSeq_tup {T : Addr} {vs : Array Value} {k : Nat} {x : Value} {Q : Unit → Shared → Prop} (hT : TupObj s.heap T vs) (hv : vs.size ≤ 1000)
    (h : ∀ h', TupObj h' T (vs.setIfInBounds k x) → Heap.SameBut T s.heap h' → Q () { s with heap := h' }) :
    wpAny (model prog w) A (updateSeq T (·.setIfInBounds k x)) Q E s := by
  have b : 1000 ≤ sizeLine := by decide
  refine wpAny_updateSeq hT rfl (h _ ?_ (Heap.SameBut.update ..)) (by omega) (by show (vs.setIfInBounds k x).size ≤ _; rw [Array.size_setIfInBounds]; omega)
  show Heap.get? _ _ = _
  rw [Heap.get?_update_self _ hT rfl]
  simp [Obj.mapSeq]
/-- next of the zip, its own tuple free -/
theorem next_free {f0 : Value} {f1 : Bool} {Q : Value → Shared → Prop} (D : Apart z TI TO ts) (h1 : ts ≠ []) (hsz : ts.length ≤ 1000) (hz : ZipObj s.heap z TI TO f0 (.bool f1)) (hti : TupObj s.heap TI (refs ts).toArray) (hto : ∃ kept : Array Value, kept.size = ts.length ∧ TupObj s.heap TO kept)
    (hat : ∀ t ∈ ts, At s.heap i t) (hn : ∀ t ∈ ts, i < t.xs.size) (free : ∀ Q' : Bool → Shared → Prop, Q' true s → wpAny (model prog w) A (Builtin.SmallTypes.ownedTupleIsFree (.ref z)) Q' E s)
    (hQ : ∀ h' , ZipAt h' z TI TO ts (i + 1) → TupObj h' s.heap.objs.size (vals ts i).toArray → h'.objs.size = s.heap.objs.size + 1 → (∀ c o, c ≠ z → c ≠ TO → (∀ t ∈ ts, c ≠ t.it) → s.heap.get? c = some o → h'.get? c = some o) → Q (.ref s.heap.objs.size) { s with heap := h' }) :
    wpAny (model prog w) A (Builtin.«zip.__next__» ⟨[.ref z], []⟩) (fun fin s' => ∃ v, fin = .done (.ret v) ∧ Q v s') E s := by
  show wpAny _ _ (field (.ref z) 2 >>= _) _ _ _
  refine wpAny_bind (wpAny_field hz rfl (x := .bool false) rfl ?_)
  show wpAny _ _ (field (.ref z) 3 >>= _) _ _ _
  refine wpAny_bind (wpAny_field hz rfl (x := .ref TI) rfl ?_)
  refine wpAny_bind (wpAny_seqItems hti rfl ?_)
  have hne : (refs ts).toArray.isEmpty = false := by
    cases ts with
    | nil => exact absurd rfl h1
    | cons t l => simp [refs]
  simp only [hne, Bool.false_eq_true, if_false]
  show wpAny _ _ (Builtin.SmallTypes.ownedTupleIsFree (.ref z) >>= _) _ _ _
  refine wpAny_bind (free _ ?_)
  simp only [if_true]
  refine wpAny_bind (wpAny_rule ?_)
  refine wpAny_bind (wpAny_field hz rfl (x := .ref TO) rfl ?_)
  refine wpAny_bind (wpAny_setField_rec hz (by simp) fun h₁ hz₁ hs₁ => ?_)
  obtain ⟨kept0, hk0, hto0⟩ := hto
  refine wpAny_bind (wpAny_forIn_list _ (fun rest b s' => b = (none, ()) ∧ ∃ (h' : Heap) (ds rs : List Th) (kept : Array Value), s' = { s with heap := h' } ∧ ts = ds ++ rs ∧ rest = (refs rs).zipIdx ds.length ∧ Mid s.heap h' z TO ts ds rs i ∧ ZipObj h' z TI TO .ellipsis (.bool f1) ∧ TupObj h' TO kept ∧ kept.size = ts.length ∧
    ∀ (j : Nat) (t : Th), ds[j]? = some t → kept[j]? = some (t.xs.getD i .none)) _ (fun x rest b s' hI => ?_) (fun b s' hI => ?_) _ _ ?_)
  · obtain ⟨rfl, h', ds, rs, kept, rfl, ets, er, M, hz', hto', hks, hkj⟩ := hI
    cases rs with
    | nil => simp [refs] at er
    | cons t rs =>
      simp only [refs, List.map_cons, List.zipIdx_cons, List.cons.injEq] at er
      obtain ⟨rfl, rfl⟩ := er
      have ht : t ∈ ts := by rw [ets]; simp
      have hi : t.xs[i]? = some (t.xs.getD i .none) := by
        have := hn t ht
        simp [Array.getD, this]
      refine wpAny_bind (wpAny_onRaise ?_)
      show wpAny _ _ (Builtin.SmallTypes.nextOf (.ref t.it) >>= _) _ _ _
      refine wpAny_bind (draw (s := { s with heap := h' }) D ets M hi fun h2 M2 k2 => wpAny_pure ?_)
      have zt := D.it t ht
      have hto2 : TupObj h2 TO kept := k2 _ _ zt.2.2.symm hto'
      have hz2 : ZipObj h2 z TI TO .ellipsis (.bool f1) := k2 _ _ zt.1.symm hz'
      refine wpAny_bind (wpAny_seqItems hto2 rfl ?_)
      refine wpAny_bind (updateSeq_tup hto2 (by omega) fun h3 hto3 k3 => ?_)
      have kk : ∀ c o, c ≠ TO → h2.get? c = some o → h3.get? c = some o := fun c o n e => k3.extBut c o n e
      refine wpAny_bind (wpAny_letGo (wpAny_pure ⟨rfl, h3, ds ++ [t], rs, _, rfl, by rw [ets]; simp, ?_, ?_, kk _ _ D.zTO hz2, hto3, by rw [Array.size_setIfInBounds]; exact hks, fun j u hj => ?_⟩))
      · rw [List.length_append]; rfl
      · refine ⟨k3.1.trans M2.sz, fun u hu => ?_, fun u hu => ?_, fun c o c1 c2 c3 e => kk c o c2 (M2.keep c o c1 c2 c3 e)⟩
        · have um : u ∈ ts := by
            rw [ets]
            rcases List.mem_append.mp hu with q | q
            · exact List.mem_append_left _ q
            · rw [List.mem_singleton.mp q]; simp
          exact (M2.ds u hu).keep (fun o e => kk _ o (D.it u um).2.2 e) fun o e => kk _ o (D.l u um).2.1 e
        · have um : u ∈ ts := by rw [ets]; exact List.mem_append_right _ (List.mem_cons_of_mem _ hu)
          exact (M2.rs u hu).keep (fun o e => kk _ o (D.it u um).2.2 e) fun o e => kk _ o (D.l u um).2.1 e
      · have hl : ds.length < kept.size := by rw [hks, ets]; simp
        rw [Array.getElem?_setIfInBounds]
        by_cases e : j < ds.length
        · rw [if_neg (by omega)]
          rw [List.getElem?_append_left e] at hj
          exact hkj j u hj
        · have e2 : j = ds.length := by
            have := (List.getElem?_eq_some_iff.mp hj).1
            rw [List.length_append, List.length_singleton] at this
            omega
          subst e2
          rw [List.getElem?_append_right (Nat.le_refl _), Nat.sub_self] at hj
          obtain rfl : t = u := by simpa using hj
          rw [if_pos rfl, if_pos hl]
  · obtain ⟨rfl, h', ds, rs, kept, rfl, ets, er, M, hz', hto', hks, hkj⟩ := hI
    have ers : rs = [] := by
      cases rs with
      | nil => rfl
      | cons t rs => simp [refs] at er
    subst ers
    rw [List.append_nil] at ets
    subst ets
    have ek : kept.toList = vals ts i := by
      refine List.ext_getElem? fun j => ?_
      unfold vals
      rw [List.getElem?_map]
      cases e : ts[j]? with
      | none =>
        have := List.getElem?_eq_none_iff.mp e
        rw [List.getElem?_eq_none_iff.mpr (by rw [Array.length_toList]; omega)]
        rfl
      | some t =>
        have := hkj j t e
        rw [Array.getElem?_toList, this]
        rfl
    refine wpAny_bind (wpAny_seqItems hto' rfl ?_)
    have b : 1000 ≤ sizeLine := by decide
    refine wpAny_bind (wpAny_newTuple ?_ (by rw [Array.length_toList]; omega))
    rw [ek]
    have z5 : ∀ c o, h'.get? c = some o → (h'.push { cls := .type "tuple", data := .seq (vals ts i).toArray }).get? c = some o := fun c o e => Heap.get?_push_of_some _ e
    have tN : (h'.push { cls := .type "tuple", data := .seq (vals ts i).toArray }).get? h'.objs.size = some { cls := .type "tuple", data := .seq (vals ts i).toArray } := Heap.get?_push_size _ rfl
    have sN : (h'.push { cls := .type "tuple", data := .seq (vals ts i).toArray }).objs.size = h'.objs.size + 1 := Heap.size_push ..
    show wpAny _ _ (Builtin.SmallTypes.ownedTupleHandOut (.ref z) (.ref h'.objs.size) >>= _) _ _ _
    refine wpAny_bind ?_
    unfold Builtin.SmallTypes.ownedTupleHandOut
    refine wpAny_bind (wpAny_setField_rec (z5 _ _ hz') (by simp) fun h₇ hz₇ hs₇ => ?_)
    refine wpAny_setField_rec hz₇ (by simp) fun h₈ hz₈ hs₈ => ?_
    have up : ∀ c o, c ≠ z → h'.get? c = some o → h₈.get? c = some o := fun c o n e => hs₈.extBut _ _ n (hs₇.extBut _ _ n (z5 c o e))
    refine wpAny_pure ⟨_, rfl, ?_⟩
    show Q (.ref h'.objs.size) _
    have zlt : z < h'.objs.size := Heap.lt_size hz'
    have hT8 : TupObj h₈ h'.objs.size (vals ts i).toArray := hs₈.extBut _ _ (Nat.ne_of_gt zlt) (hs₇.extBut _ _ (Nat.ne_of_gt zlt) tN)
    have s8 : h₈.objs.size = h'.objs.size + 1 := by rw [hs₈.1, hs₇.1, sN]
    have es := M.sz
    rw [es] at hz₈ hT8 s8 ⊢
    refine hQ h₈ ⟨⟨rawInt s.heap.objs.size, false, .inr ⟨_, rfl⟩, hz₈⟩, up _ _ D.zTI.symm (M.keep _ _ D.zTI.symm D.TITO (fun t ht => (D.it t ht).2.1.symm) hti), ⟨kept, hks, up _ _ D.zTO.symm hto'⟩, fun t ht => ?_⟩ hT8 s8 fun c o c1 c2 c3 e => up c o c1 (M.keep c o c1 c2 c3 e)
    exact (M.ds t ht).keep (fun o e => up _ o (D.it t ht).1 e) fun o e => up _ o (D.l t ht).1 e
  · have kz : ∀ c o, c ≠ z → s.heap.get? c = some o → h₁.get? c = some o := fun c o n e => hs₁.extBut c o n e
    refine ⟨rfl, h₁, [], ts, kept0, rfl, rfl, rfl, ⟨hs₁.1, fun _ q => by simp at q, fun t ht => (hat t ht).keep (fun o e => kz _ o (D.it t ht).1 e) fun o e => kz _ o (D.l t ht).1 e, fun c o c1 _ _ e => kz c o c1 e⟩, hz₁, kz _ _ D.zTO.symm hto0, hk0, fun j t q => by simp at q⟩
/-- next of the zip, its own tuple still out -/
theorem next_held {T : Addr} {f1 : Bool} {oT : Obj} {Q : Value → Shared → Prop} (D : Apart z TI TO ts) (h1 : ts ≠ []) (hsz : ts.length ≤ 1000) (hz : ZipObj s.heap z TI TO (rawInt T) (.bool f1)) (hT : s.heap.get? T = some oT) (hti : TupObj s.heap TI (refs ts).toArray) (hto : ∃ kept : Array Value, kept.size = ts.length ∧ TupObj s.heap TO kept)
    (hat : ∀ t ∈ ts, At s.heap i t) (hn : ∀ t ∈ ts, i < t.xs.size)
    (hQ : ∀ h' , ZipAt h' z TI TO ts (i + 1) → TupObj h' s.heap.objs.size (vals ts i).toArray → h'.objs.size = s.heap.objs.size + 1 → (∀ c o, c ≠ z → c ≠ TO → (∀ t ∈ ts, c ≠ t.it) → s.heap.get? c = some o → h'.get? c = some o) → Q (.ref s.heap.objs.size) { s with heap := h' }) :
    wpAny (model prog w) A (Builtin.«zip.__next__» ⟨[.ref z], []⟩) (fun fin s' => ∃ v, fin = .done (.ret v) ∧ Q v s') E s := by
  show wpAny _ _ (field (.ref z) 2 >>= _) _ _ _
  refine wpAny_bind (wpAny_field hz rfl (x := .bool false) rfl ?_)
  show wpAny _ _ (field (.ref z) 3 >>= _) _ _ _
  refine wpAny_bind (wpAny_field hz rfl (x := .ref TI) rfl ?_)
  refine wpAny_bind (wpAny_seqItems hti rfl ?_)
  have hne : (refs ts).toArray.isEmpty = false := by
    cases ts with
    | nil => exact absurd rfl h1
    | cons t l => simp [refs]
  simp only [hne, Bool.false_eq_true, if_false]
  show wpAny _ _ (Builtin.SmallTypes.ownedTupleIsFree (.ref z) >>= _) _ _ _
  refine wpAny_bind (wpAny_tupleHeld_zip hz hT fun h₁ hz₁ hs₁ => ?_)
  simp only [Bool.false_eq_true, if_false]
  obtain ⟨kept0, hk0, hto0⟩ := hto
  refine wpAny_bind ?_
  rw [← Array.forIn_toList]
  refine (wpAny_forIn_list _ (fun rest b s' => ∃ (h' : Heap) (ds rs : List Th), b = (none, (vals ds i).toArray) ∧ s' = { s with heap := h' } ∧ ts = ds ++ rs ∧ rest = refs rs ∧ Mid s.heap h' z TO ts ds rs i ∧ ZipObj h' z TI TO (rawInt T) (.bool true) ∧ TupObj h' TO kept0) _ (fun x rest b s' hI => ?_) (fun b s' hI => ?_) _ _ ?_)
  · obtain ⟨h', ds, rs, rfl, rfl, ets, er, M, hz', hto'⟩ := hI
    cases rs with
    | nil => simp [refs] at er
    | cons t rs =>
      simp only [refs, List.map_cons, List.cons.injEq] at er
      obtain ⟨rfl, rfl⟩ := er
      have ht : t ∈ ts := by rw [ets]; simp
      have hi : t.xs[i]? = some (t.xs.getD i .none) := by
        have := hn t ht
        simp [Array.getD, this]
      refine wpAny_bind (wpAny_holding ?_)
      show wpAny _ _ (Builtin.SmallTypes.nextOf (.ref t.it) >>= _) _ _ _
      refine wpAny_bind (draw (s := { s with heap := h' }) D ets M hi fun h2 M2 k2 => wpAny_pure ?_)
      have zt := D.it t ht
      refine wpAny_pure ⟨h2, ds ++ [t], rs, ?_, rfl, by rw [ets]; simp, rfl, M2, k2 _ _ zt.1.symm hz', k2 _ _ zt.2.2.symm hto'⟩
      simp [vals]
  · obtain ⟨h', ds, rs, rfl, rfl, ets, er, M, hz', hto'⟩ := hI
    have ers : rs = [] := by
      cases rs with
      | nil => rfl
      | cons t rs => simp [refs] at er
    subst ers
    rw [List.append_nil] at ets
    subst ets
    have b : 1000 ≤ sizeLine := by decide
    show wpAny _ _ (newTuple (vals ts i).toArray.toList >>= _) _ _ _
    refine wpAny_bind (wpAny_newTuple ?_ (by rw [List.toList_toArray, vals_len]; omega))
    rw [List.toList_toArray]
    have z5 : ∀ c o, h'.get? c = some o → (h'.push { cls := .type "tuple", data := .seq (vals ts i).toArray }).get? c = some o := fun c o e => Heap.get?_push_of_some _ e
    have tN : (h'.push { cls := .type "tuple", data := .seq (vals ts i).toArray }).get? h'.objs.size = some { cls := .type "tuple", data := .seq (vals ts i).toArray } := Heap.get?_push_size _ rfl
    have sN : (h'.push { cls := .type "tuple", data := .seq (vals ts i).toArray }).objs.size = h'.objs.size + 1 := Heap.size_push ..
    refine wpAny_pure ⟨_, rfl, ?_⟩
    show Q (.ref h'.objs.size) _
    have es := M.sz
    generalize (h'.push { cls := .type "tuple", data := .seq (vals ts i).toArray }) = h8 at z5 tN sN ⊢
    rw [es] at tN sN ⊢
    refine hQ h8 ⟨⟨_, _, .inr ⟨T, rfl⟩, z5 _ _ hz'⟩, z5 _ _ (M.keep _ _ D.zTI.symm D.TITO (fun t ht => (D.it t ht).2.1.symm) hti), ⟨kept0, hk0, z5 _ _ hto'⟩, fun t ht => ?_⟩ tN sN fun c o c1 c2 c3 e => z5 c o (M.keep c o c1 c2 c3 e)
    exact (M.ds t ht).keep (fun o e => z5 _ o e) fun o e => z5 _ o e
  · have kz : ∀ c o, c ≠ z → s.heap.get? c = some o → h₁.get? c = some o := fun c o n e => hs₁.extBut c o n e
    refine ⟨h₁, [], ts, rfl, rfl, rfl, ?_, ⟨hs₁.1, fun _ q => by simp at q, fun t ht => (hat t ht).keep (fun o e => kz _ o (D.it t ht).1 e) fun o e => kz _ o (D.l t ht).1 e, fun c o c1 _ _ e => kz c o c1 e⟩, hz₁, kz _ _ D.zTO.symm hto0⟩
    simp
theorem free_none {T : Addr} {f1 : Bool} {Q : Bool → Shared → Prop} (hz : ZipObj s.heap z TI TO (rawInt T) (.bool f1)) (hT : s.heap.get? T = none) (q : Q true s) : wpAny (model prog w) A (Builtin.SmallTypes.ownedTupleIsFree (.ref z)) Q E s := by
  unfold Builtin.SmallTypes.ownedTupleIsFree
  refine wpAny_bind (wpAny_field hz rfl (x := rawInt T) rfl ?_)
  show wpAny _ _ (loadIfAlive ((T : Int).toNat) >>= _) _ _ _
  rw [Int.toNat_natCast]
  refine wpAny_bind ?_
  have hq : wpAny (model prog w) A (pure true : Sem Bool) Q E s := wpAny_pure q
  have h' : (fun (r : Option Obj) (s1 : Shared) => wpAny (model prog w) A (if r.isNone = true then pure true else (do
      let __do_lift ← field (Value.ref z) 1
      if (__do_lift != Value.bool true) = true then do
        setField (Value.ref z) 1 (Value.bool true)
        pure false
      else pure false)) Q E s1) (s.heap.get? T) s := by rw [hT]; exact hq
  exact fun _ _ _ => h'
/-- next of the zip -/
theorem next_zip {Q : Value → Shared → Prop} (D : Apart z TI TO ts) (h1 : ts ≠ []) (hsz : ts.length ≤ 1000) (Z : ZipAt s.heap z TI TO ts i) (hn : ∀ t ∈ ts, i < t.xs.size)
    (hQ : ∀ h' , ZipAt h' z TI TO ts (i + 1) → TupObj h' s.heap.objs.size (vals ts i).toArray → h'.objs.size = s.heap.objs.size + 1 → (∀ c o, c ≠ z → c ≠ TO → (∀ t ∈ ts, c ≠ t.it) → s.heap.get? c = some o → h'.get? c = some o) → Q (.ref s.heap.objs.size) { s with heap := h' }) :
    wpAny (model prog w) A (Builtin.«zip.__next__» ⟨[.ref z], []⟩) (fun fin s' => ∃ v, fin = .done (.ret v) ∧ Q v s') E s := by
  obtain ⟨f0, f1, hf, hz⟩ := Z.z
  rcases hf with rfl | ⟨T, rfl⟩
  · refine next_free D h1 hsz hz Z.ti Z.to Z.at_ hn (fun Q' q => ?_) hQ
    unfold Builtin.SmallTypes.ownedTupleIsFree
    exact wpAny_bind (wpAny_field hz rfl (x := .none) rfl (wpAny_pure q))
  · cases hT : s.heap.get? T with
    | some oT => exact next_held D h1 hsz hz hT Z.ti Z.to Z.at_ hn hQ
    | none =>
      refine next_free D h1 hsz hz Z.ti Z.to Z.at_ hn (fun Q' q => free_none hz hT q) hQ
/-- next of the zip, at its end -/
theorem end_zip {Q : Fin → Shared → Prop} (hh : A.handled = none) (D : Apart z TI TO ts) (h1 : ts ≠ []) (Z : ZipAt s.heap z TI TO ts i) (hn : ∀ t ∈ ts, t.xs.size ≤ i)
    (hE : ∀ h' e, (∀ c o, c ≠ z → c ≠ TO → (∀ t ∈ ts, c ≠ t.it) → s.heap.get? c = some o → h'.get? c = some o) → (∃ o, h'.get? e = some o ∧ o.cls = .type "StopIteration") → E (.ref e) { s with heap := h' }) :
    wpAny (model prog w) A (Builtin.«zip.__next__» ⟨[.ref z], []⟩) Q E s := by
  obtain ⟨f0, f1, hf, hz⟩ := Z.z
  obtain ⟨kept0, hk0, hto0⟩ := Z.to
  obtain ⟨t, ts', ets⟩ : ∃ t ts', ts = t :: ts' := by
    cases ts with
    | nil => exact absurd rfl h1
    | cons t l => exact ⟨t, l, rfl⟩
  have ht : t ∈ ts := by rw [ets]; simp
  have at0 := Z.at_ t ht
  have hx : t.xs[i]? = none := by
    have := hn t ht
    simp [this]
  have hne : (refs ts).toArray.isEmpty = false := by
    rw [ets]; simp [refs]
  have way1 : ∀ (free : ∀ Q' : Bool → Shared → Prop, Q' true s → wpAny (model prog w) A (Builtin.SmallTypes.ownedTupleIsFree (.ref z)) Q' E s), wpAny (model prog w) A (Builtin.«zip.__next__» ⟨[.ref z], []⟩) Q E s := by
    intro free
    show wpAny _ _ (field (.ref z) 2 >>= _) _ _ _
    refine wpAny_bind (wpAny_field hz rfl (x := .bool false) rfl ?_)
    show wpAny _ _ (field (.ref z) 3 >>= _) _ _ _
    refine wpAny_bind (wpAny_field hz rfl (x := .ref TI) rfl ?_)
    refine wpAny_bind (wpAny_seqItems Z.ti rfl ?_)
    simp only [hne, Bool.false_eq_true, if_false]
    refine wpAny_bind (free _ ?_)
    simp only [if_true]
    refine wpAny_bind (wpAny_rule ?_)
    refine wpAny_bind (wpAny_field hz rfl (x := .ref TO) rfl ?_)
    refine wpAny_bind (wpAny_setField_rec hz (by simp) fun h₁ hz₁ hs₁ => ?_)
    refine wpAny_bind ?_
    simp only [ets, refs, List.map_cons, List.zipIdx_cons, List.forIn_cons]
    refine wpAny_bind (wpAny_bind (wpAny_onRaise ?_))
    show wpAny _ _ (Builtin.SmallTypes.nextOf (.ref t.it) >>= _) _ _ _
    have kz : ∀ c o, c ≠ z → s.heap.get? c = some o → h₁.get? c = some o := fun c o n e => hs₁.extBut c o n e
    have at1 := at0.keep (h' := h₁) (fun o e => kz _ o (D.it t ht).1 e) fun o e => kz _ o (D.l t ht).1 e
    refine wpAny_bind (RZ.nextOf_tuple_end (s := { s with heap := h₁ }) hh at1.1 at1.2 hx fun h₂ e hs₂ he => ?_)
    obtain ⟨oe, hoe, hce⟩ := he
    have hz₂ : ZipObj h₂ z TI TO .ellipsis (.bool f1) := hs₂ _ _ (D.it t ht).1.symm hz₁
    have hez : e ≠ z := fun x => by subst x; rw [hz₂] at hoe; cases hoe; simp at hce
    refine wpAny_setField_rec hz₂ (by simp) fun h₃ _ hs₃ => hE h₃ e (fun c o c1 _ c3 x => hs₃.extBut _ _ c1 (hs₂ _ _ (c3 t ht) (kz _ _ c1 x))) ⟨oe, hs₃.extBut _ _ hez hoe, hce⟩
  have way2 : ∀ (T : Addr) (oT : Obj), f0 = rawInt T → s.heap.get? T = some oT → wpAny (model prog w) A (Builtin.«zip.__next__» ⟨[.ref z], []⟩) Q E s := by
    rintro T oT rfl hT
    show wpAny _ _ (field (.ref z) 2 >>= _) _ _ _
    refine wpAny_bind (wpAny_field hz rfl (x := .bool false) rfl ?_)
    show wpAny _ _ (field (.ref z) 3 >>= _) _ _ _
    refine wpAny_bind (wpAny_field hz rfl (x := .ref TI) rfl ?_)
    refine wpAny_bind (wpAny_seqItems Z.ti rfl ?_)
    simp only [hne, Bool.false_eq_true, if_false]
    show wpAny _ _ (Builtin.SmallTypes.ownedTupleIsFree (.ref z) >>= _) _ _ _
    refine wpAny_bind (wpAny_tupleHeld_zip hz hT fun h₁ hz₁ hs₁ => ?_)
    simp only [Bool.false_eq_true, if_false]
    refine wpAny_bind ?_
    rw [← Array.forIn_toList]
    simp only [ets, refs, List.map_cons, List.forIn_cons]
    refine wpAny_bind (wpAny_bind (wpAny_holding ?_))
    show wpAny _ _ (Builtin.SmallTypes.nextOf (.ref t.it) >>= _) _ _ _
    have kz : ∀ c o, c ≠ z → s.heap.get? c = some o → h₁.get? c = some o := fun c o n e => hs₁.extBut c o n e
    have at1 := at0.keep (h' := h₁) (fun o e => kz _ o (D.it t ht).1 e) fun o e => kz _ o (D.l t ht).1 e
    refine wpAny_bind (RZ.nextOf_tuple_end (s := { s with heap := h₁ }) hh at1.1 at1.2 hx fun h₂ e hs₂ he => ?_)
    exact hE h₂ e (fun c o c1 _ c3 x => hs₂ _ _ (c3 t ht) (kz _ _ c1 x)) he
  rcases hf with rfl | ⟨T, rfl⟩
  · refine way1 fun Q' q => ?_
    unfold Builtin.SmallTypes.ownedTupleIsFree
    exact wpAny_bind (wpAny_field hz rfl (x := .none) rfl (wpAny_pure q))
  · cases hT : s.heap.get? T with
    | some oT => exact way2 T oT rfl hT
    | none =>
      refine way1 fun Q' q => ?_
      exact free_none hz hT q
end
end ZN


set_option Elab.async false
set_option linter.all false
set_option maxRecDepth 100000
set_option maxHeartbeats 1000000
namespace ZN
open PySem PySem.Spec PyProof.Rows
theorem typeCall (vs : List Value) : checkTypeCall "zip" ⟨vs, []⟩ = pure () := by kernel_rfl
theorem newCall : ∀ (vs : List Value), 1 ≤ vs.length → vs.length ≤ 8 → checkBuiltinCall "zip.__new__" ⟨.type "zip" :: vs, []⟩ = pure ()
  | [a], _, _ => by kernel_rfl
  | [a, b], _, _ => by kernel_rfl
  | [a, b, c], _, _ => by kernel_rfl
  | [a, b, c, d], _, _ => by kernel_rfl
  | [a, b, c, d, e], _, _ => by kernel_rfl
  | [a, b, c, d, e, f], _, _ => by kernel_rfl
  | [a, b, c, d, e, f, g], _, _ => by kernel_rfl
  | [a, b, c, d, e, f, g, h], _, _ => by kernel_rfl
  | _ :: _ :: _ :: _ :: _ :: _ :: _ :: _ :: _ :: _, _, h => by simp at h
theorem argsInit (obj : Value) (vs : List Value) : argsOk "object.__init__" ⟨obj :: vs, []⟩ := by
  unfold argsOk; rw [signature?_of (id := "object.__init__") (n := ['_', '_', 't', 'i', 'n', 'i', '_', '_']) (o := ['t', 'c', 'e', 'j', 'b', 'o']) (by kernel_rfl) F.owner_object]; kernel_rfl
theorem newClass_zip (vs : List Value) : Builtin.SmallTypes.newClass "zip" ⟨.type "zip" :: vs, []⟩ = pure (.type "zip", vs) := by
  unfold Builtin.SmallTypes.newClass
  simp only [isType, sub_zip, pure_bind, Bool.not_true, Bool.false_eq_true, if_false]
section
variable {prog : Program} {w : World} {A : Around} {E : Value → Shared → Prop} {s : Shared}
variable {z TI TO : Addr} {ts : List Th} {i : Nat}
theorem pyNext_item {Q : Option Value → Shared → Prop} (D : Apart z TI TO ts) (h1 : ts ≠ []) (hsz : ts.length ≤ 1000) (Z : ZipAt s.heap z TI TO ts i) (hn : ∀ t ∈ ts, i < t.xs.size)
    (hQ : ∀ h' , ZipAt h' z TI TO ts (i + 1) → TupObj h' s.heap.objs.size (vals ts i).toArray → h'.objs.size = s.heap.objs.size + 1 → (∀ c o, c ≠ z → c ≠ TO → (∀ t ∈ ts, c ≠ t.it) → s.heap.get? c = some o → h'.get? c = some o) → Q (some (.ref s.heap.objs.size)) { s with heap := h' }) :
    wpAny (model prog w) A (pyNext (.ref z)) Q E s := by
  have hT : s.TypeIs (.ref z) "zip" := by
    obtain ⟨f0, f1, _, hz⟩ := Z.z
    exact ⟨_, hz, rfl⟩
  unfold pyNext
  exact wpAny_bind (wpAny_attempt (wpAny_callSpecial?_slot (name := Str.ofString "__next__") hT F.slot_zip_next
    (wpAny_call_entry F.slot_zip_next hT F.entry_zip_next
      (next_zip D h1 hsz Z hn fun h' a1 a2 a3 a4 => wpAny_pure (hQ h' a1 a2 a3 a4)) (F.args_zip_next_1 _))))
theorem pyNext_end {Q : Option Value → Shared → Prop} (hh : A.handled = none) (D : Apart z TI TO ts) (h1 : ts ≠ []) (Z : ZipAt s.heap z TI TO ts i) (hn : ∀ t ∈ ts, t.xs.size ≤ i)
    (hQ : ∀ h', (∀ c o, c ≠ z → c ≠ TO → (∀ t ∈ ts, c ≠ t.it) → s.heap.get? c = some o → h'.get? c = some o) → Q none { s with heap := h' }) : wpAny (model prog w) A (pyNext (.ref z)) Q E s := by
  have hT : s.TypeIs (.ref z) "zip" := by
    obtain ⟨f0, f1, _, hz⟩ := Z.z
    exact ⟨_, hz, rfl⟩
  unfold pyNext
  refine wpAny_bind (wpAny_attempt (wpAny_callSpecial?_slot (name := Str.ofString "__next__") hT F.slot_zip_next
    (wpAny_call_entry F.slot_zip_next hT F.entry_zip_next (end_zip hh D h1 Z hn fun h' e hk he => ?_) (F.args_zip_next_1 _))))
  obtain ⟨o, ho, hc⟩ := he
  refine wpAny_bind (wpAny_isInstance (T := "StopIteration") (b := true) ⟨o, ho, hc⟩ isSubtype_stop ?_)
  exact wpAny_pure (hQ _ hk)
theorem pyIter_zip {Q : Value → Shared → Prop} (Z : ZipAt s.heap z TI TO ts i) (h : Q (.ref z) s) : wpAny (model prog w) A (pyIter (.ref z)) Q E s := by
  have hT : s.TypeIs (.ref z) "zip" := by
    obtain ⟨f0, f1, _, hz⟩ := Z.z
    exact ⟨_, hz, rfl⟩
  refine wpAny_pyIter_slot hT F.slot_zip_iter (wpAny_call_entry F.slot_zip_iter hT F.entry_zip_iter ?_ (F.args_zip_iter_1 _))
  show wpAny _ _ (ret (.ref z)) _ _ s
  exact wpAny_pure ⟨_, rfl, "zip", _, hT, F.slot_zip_next.lookup, h⟩
end
/-! ### zip(..) made -/
section
variable {prog : Program} {w : World}
def src (t : Th) : Addr × Array Value := (t.l, t.xs)
structure Made (h0 h : Heap) (ds : List Th) : Prop where
  sz : h0.objs.size ≤ h.objs.size
  ats : ∀ t ∈ ds, At h 0 t
  bd : ∀ t ∈ ds, h0.objs.size ≤ t.it ∧ t.it < h.objs.size
  nd : (ds.map Th.it).Nodup
  keep : ∀ c o, h0.get? c = some o → h.get? c = some o
theorem new_zip (srcs : List (Addr × Array Value)) (hl : srcs.length ≤ 1000) : MeetsIn prog w (Builtin.«zip.__new__» ⟨.type "zip" :: srcs.map (fun p => Value.ref p.1), []⟩)
    (fun A R s => (∀ p ∈ srcs, s.heap.IsTuple p.1 p.2) ∧ ∀ (ts : List Th) h', srcs = ts.map src → Made s.heap h' ts → ∀ h2, ZipAt h2 (h'.objs.size + 2) h'.objs.size (h'.objs.size + 1) ts 0 → h2.objs.size = h'.objs.size + 3 → (∀ c o, h'.get? c = some o → h2.get? c = some o) →
      R (.ok (.ret (.ref (h'.objs.size + 2)))) { s with heap := h2 }) :=
  .of_wp fun A R s h => by
    obtain ⟨hsrc, hR⟩ := h
    unfold Builtin.«zip.__new__»
    refine wpAny_bind (wpAny_of_eq (newClass_zip _) ?_)
    dsimp only
    rw [if_neg (show ¬ (([] : List (Str × Value)).length > 1) from Nat.not_lt_zero 1)]
    refine wpAny_bind ?_
    unfold Builtin.SmallTypes.iterAll
    refine wpAny_bind (wpAny_forIn_list _ (fun rest b s' => ∃ (h' : Heap) (ds : List Th) (rs : List (Addr × Array Value)), b = (refs ds).toArray ∧ s' = { s with heap := h' } ∧ srcs = ds.map src ++ rs ∧ rest = rs.map (fun p => Value.ref p.1) ∧ Made s.heap h' ds) _ (fun x rest b s' hI => ?_) (fun b s' hI => ?_) _ _ ?_)
    · obtain ⟨h', ds, rs, rfl, rfl, es, er, M⟩ := hI
      cases rs with
      | nil => simp at er
      | cons p rs =>
        simp only [List.map_cons, List.cons.injEq] at er
        obtain ⟨rfl, rfl⟩ := er
        obtain ⟨o, ho, hc⟩ := hsrc p (by rw [es]; simp)
        have hp : h'.IsTuple p.1 p.2 := ⟨o, M.keep _ _ ho, hc⟩
        refine wpAny_bind (wpAny_holding (wpAny_pyIter_tuple (s := { s with heap := h' }) hp ?_))
        have k : ∀ c o, h'.get? c = some o → (h'.push { cls := .type "tuple_iterator", data := .fields #[.ref p.1, .int 0 0] }).get? c = some o := fun c o e => Heap.get?_push_of_some _ e
        have s1 : (h'.push { cls := .type "tuple_iterator", data := .fields #[.ref p.1, .int 0 0] }).objs.size = h'.objs.size + 1 := Heap.size_push ..
        have tN : (h'.push { cls := .type "tuple_iterator", data := .fields #[.ref p.1, .int 0 0] }).get? h'.objs.size = some { cls := .type "tuple_iterator", data := .fields #[.ref p.1, .int 0 0] } := Heap.get?_push_size _ rfl
        refine wpAny_pure ⟨_, ds ++ [⟨h'.objs.size, p.1, p.2⟩], rs, by simp [refs], rfl, by rw [es]; simp [src], rfl, ⟨?_, fun t ht => ?_, fun t ht => ?_, ?_, fun c o e => k c o (M.keep c o e)⟩⟩
        · show s.heap.objs.size ≤ (h'.push _).objs.size
          rw [s1]; have := M.sz; omega
        · rcases List.mem_append.mp ht with ht | ht
          · exact (M.ats t ht).keep (fun o e => k _ o e) fun o e => k _ o e
          · rw [List.mem_singleton.mp ht]
            exact ⟨⟨_, tN, rfl, rfl⟩, ⟨o, k _ _ (M.keep _ _ ho), hc⟩⟩
        · show _ ∧ _ < (h'.push _).objs.size
          rw [s1]
          have := M.sz
          rcases List.mem_append.mp ht with ht | ht
          · exact ⟨(M.bd t ht).1, Nat.lt_succ_of_lt (M.bd t ht).2⟩
          · rw [List.mem_singleton.mp ht]
            exact ⟨M.sz, Nat.lt_succ_self _⟩
        · rw [List.map_append, List.nodup_append]
          refine ⟨M.nd, by simp, fun a ha b hb e => ?_⟩
          obtain ⟨t, ht, rfl⟩ := List.mem_map.mp ha
          have hlt := (M.bd t ht).2
          rw [List.map_singleton, List.mem_singleton] at hb
          rw [e, hb] at hlt
          exact Nat.lt_irrefl _ hlt
    · obtain ⟨h', ds, rs, rfl, rfl, es, er, M⟩ := hI
      have ers : rs = [] := by
        cases rs with
        | nil => rfl
        | cons p rs => simp at er
      subst ers
      rw [List.append_nil] at es
      have hlen : ds.length = srcs.length := by rw [es, List.length_map]
      have b : 1000 ≤ sizeLine := by decide
      refine wpAny_pure ?_
      rw [List.toList_toArray]
      refine wpAny_bind (wpAny_newTuple ?_ (by unfold refs; rw [List.length_map]; omega))
      refine wpAny_bind (wpAny_newTuple ?_ (by unfold refs; rw [List.length_map, List.length_map]; omega))
      unfold Builtin.SmallTypes.newRecord
      refine wpAny_bind (wpAny_newObj_type ?_ (by show (_ : Nat) ≤ _; simp [Builtin.SmallTypes.ownedTupleFields]; decide))
      refine wpAny_pure ⟨_, rfl, ?_⟩
      show R (.ok (.ret (.ref ((h'.push { cls := .type "tuple", data := .seq (refs ds).toArray }).push { cls := .type "tuple", data := .seq ((refs ds).map fun _ => Value.none).toArray }).objs.size))) { s with heap := ((h'.push { cls := .type "tuple", data := .seq (refs ds).toArray }).push { cls := .type "tuple", data := .seq ((refs ds).map fun _ => Value.none).toArray }).push ({ cls := .type "zip", data := .fields #[.none, .bool false, .bool false, .ref h'.objs.size, .ref (h'.push { cls := .type "tuple", data := .seq (refs ds).toArray }).objs.size] } : Obj) }
      generalize eh : (h'.push { cls := .type "tuple", data := .seq (refs ds).toArray }) = hA
      have sA : hA.objs.size = h'.objs.size + 1 := by rw [← eh]; exact Heap.size_push ..
      have kA : ∀ c o, h'.get? c = some o → hA.get? c = some o := fun c o e => by rw [← eh]; exact Heap.get?_push_of_some _ e
      have tA : TupObj hA h'.objs.size (refs ds).toArray := by rw [← eh]; exact Heap.get?_push_size _ rfl
      generalize eB : (hA.push { cls := .type "tuple", data := .seq ((refs ds).map fun _ => Value.none).toArray }) = hB
      have sB : hB.objs.size = h'.objs.size + 2 := by rw [← eB, Heap.size_push, sA]
      have kB : ∀ c o, hA.get? c = some o → hB.get? c = some o := fun c o e => by rw [← eB]; exact Heap.get?_push_of_some _ e
      have tB : TupObj hB (h'.objs.size + 1) ((refs ds).map fun _ => Value.none).toArray := by rw [← eB, ← sA]; exact Heap.get?_push_size _ rfl
      rw [sA, sB]
      generalize eC : (hB.push { cls := .type "zip", data := .fields #[.none, .bool false, .bool false, .ref h'.objs.size, .ref (h'.objs.size + 1)] }) = hC
      have sC : hC.objs.size = h'.objs.size + 3 := by rw [← eC, Heap.size_push, sB]
      have kC : ∀ c o, hB.get? c = some o → hC.get? c = some o := fun c o e => by rw [← eC]; exact Heap.get?_push_of_some _ e
      have tC : ZipObj hC (h'.objs.size + 2) h'.objs.size (h'.objs.size + 1) .none (.bool false) := by rw [← eC, ← sB]; exact Heap.get?_push_size _ rfl
      have kk : ∀ c o, h'.get? c = some o → hC.get? c = some o := fun c o e => kC _ _ (kB _ _ (kA _ _ e))
      exact hR ds h' es M hC ⟨⟨_, _, .inl rfl, tC⟩, kC _ _ (kB _ _ tA), ⟨_, by simp [refs], kC _ _ tB⟩, fun t ht => (M.ats t ht).keep (fun o e => kk _ o e) fun o e => kk _ o e⟩ sC kk
    · exact ⟨s.heap, [], srcs, rfl, rfl, rfl, rfl, ⟨Nat.le_refl _, fun _ q => by simp at q, fun _ q => by simp at q, by simp, fun _ _ e => e⟩⟩
variable {A : Around} {E : Value → Shared → Prop} {s : Shared}
theorem Made.apart {h0 h : Heap} {ts : List Th} (M : Made h0 h ts) (hl : ∀ t ∈ ts, t.l < h0.objs.size) : Apart (h.objs.size + 2) h.objs.size (h.objs.size + 1) ts := by
  have b : ∀ t ∈ ts, t.it < h.objs.size := fun t ht => (M.bd t ht).2
  have c : ∀ t ∈ ts, t.l < h.objs.size := fun t ht => Nat.lt_of_lt_of_le (hl t ht) M.sz
  refine ⟨?_, ?_, ?_, fun t ht => ⟨?_, ?_, ?_⟩, fun t ht => ⟨?_, ?_, fun u hu => ?_⟩, M.nd⟩
  · exact Nat.ne_of_gt (Nat.lt_succ_of_lt (Nat.lt_succ_self _))
  · exact Nat.ne_of_gt (Nat.lt_succ_self _)
  · exact Nat.ne_of_lt (Nat.lt_succ_self _)
  · exact Nat.ne_of_lt (Nat.lt_succ_of_lt (Nat.lt_succ_of_lt (b t ht)))
  · exact Nat.ne_of_lt (b t ht)
  · exact Nat.ne_of_lt (Nat.lt_succ_of_lt (b t ht))
  · exact Nat.ne_of_lt (Nat.lt_succ_of_lt (Nat.lt_succ_of_lt (c t ht)))
  · exact Nat.ne_of_lt (Nat.lt_succ_of_lt (c t ht))
  · exact Nat.ne_of_lt (Nat.lt_of_lt_of_le (hl t ht) (M.bd u hu).1)
/-- zip(..) of so many tuples -/
theorem call_zip (srcs : List (Addr × Array Value)) (hl1 : 1 ≤ srcs.length) (hl : srcs.length ≤ 8) (hsrc : ∀ p ∈ srcs, s.heap.IsTuple p.1 p.2) {Q : Value → Shared → Prop}
    (h : ∀ (ts : List Th) (z TI TO : Addr) h2, srcs = ts.map src → Apart z TI TO ts → ZipAt h2 z TI TO ts 0 → (∀ c o, s.heap.get? c = some o → h2.get? c = some o) → s.heap.objs.size ≤ z → s.heap.objs.size ≤ TO → (∀ t ∈ ts, s.heap.objs.size ≤ t.it) → s.heap.objs.size ≤ TI → Q (.ref z) { s with heap := h2 }) :
    wpAny (model prog w) A (call (.type "zip") (srcs.map fun p => Value.ref p.1)) Q E s := by
  refine callType_newIn F.called_zip (by decide) (typeCall _) (newCall _ (by rw [List.length_map]; exact hl1) (by rw [List.length_map]; exact hl)) (fun obj => argsInit obj _) F.entry_zip_new (new_zip srcs (by omega)) ?_
  refine ⟨hsrc, fun ts h' es M h2 Z sz k => ?_⟩
  show _ ∧ _
  have hlt : ∀ t ∈ ts, t.l < s.heap.objs.size := fun t ht => by
    obtain ⟨o, ho, _⟩ := hsrc (src t) (by rw [es]; exact List.mem_map_of_mem ht)
    exact Heap.lt_size ho
  refine ⟨?_, h ts _ _ _ h2 es (M.apart hlt) Z (fun c o e => k c o (M.keep c o e)) (Nat.le_trans M.sz (Nat.le_add_right _ _)) (Nat.le_trans M.sz (Nat.le_add_right _ _)) (fun t ht => (M.bd t ht).1) M.sz⟩
  obtain ⟨f0, f1, _, hz⟩ := Z.z
  exact ⟨_, hz, rfl⟩
end
end ZN


set_option Elab.async false
set_option linter.all false
set_option maxRecDepth 100000
set_option maxHeartbeats 1000000
namespace ZN
open PySem PySem.Spec PyProof.Rows
theorem nolen : typeLookup (.type "zip") "__len__" = pure none := by rw [typeLookup_type, builtinLookup_eq_fast]; kernel_rfl
theorem nohint : typeLookup (.type "zip") "__length_hint__" = pure none := by rw [typeLookup_type, builtinLookup_eq_fast]; kernel_rfl
abbrev LstObj (h : Heap) (S : Addr) (vs : Array Value) (c : Nat) : Prop := h.get? S = some { cls := .type "list", dict := none, data := .seq vs c, slots := #[] }
/-- apart from the zip's own -/
def Away (b z TI TO : Addr) (ts : List Th) : Prop := b ≠ z ∧ b ≠ TO ∧ ∀ t ∈ ts, b ≠ t.it
/-- what the zip has given so far: new tuples -/
def Given (lo : Nat) (h : Heap) (z TI TO S : Addr) (ts : List Th) (acc : Array Value) (i : Nat) : Prop := ∃ Ts : List Addr, acc = (Ts.map Value.ref).toArray ∧ Ts.length = i ∧ Ts.Nodup ∧ (∀ T ∈ Ts, lo ≤ T) ∧ ∀ j T, Ts[j]? = some T → TupObj h T (vals ts j).toArray ∧ Away T z TI TO ts ∧ T ≠ S
theorem ZipAt.keep {h h' : Heap} {z TI TO : Addr} {ts : List Th} {i : Nat} (Z : ZipAt h z TI TO ts i) {S : Addr} (a : Away S z TI TO ts) (b : S ≠ TI) (c : ∀ t ∈ ts, S ≠ t.l) (k : ∀ d o, d ≠ S → h.get? d = some o → h'.get? d = some o) : ZipAt h' z TI TO ts i := by
  obtain ⟨f0, f1, hf, hz⟩ := Z.z
  obtain ⟨kept, hk, ht⟩ := Z.to
  exact ⟨⟨f0, f1, hf, k _ _ a.1.symm hz⟩, k _ _ b.symm Z.ti, ⟨kept, hk, k _ _ a.2.1.symm ht⟩, fun t ht => (Z.at_ t ht).keep (fun o e => k _ o (a.2.2 t ht).symm e) fun o e => k _ o (c t ht).symm e⟩
section
variable {prog : Program} {w : World} {A : Around} {E : Value → Shared → Prop} {z TI TO : Addr} {ts : List Th}
theorem loop_zip {R : Result → Shared → Prop} {n : Nat} (hh : A.handled = none) (D : Apart z TI TO ts) (h1 : ts ≠ []) (hsz : ts.length ≤ 1000) (hn : ∀ t ∈ ts, t.xs.size = n) (hn2 : n ≤ 1000) (S : Addr) (aS : Away S z TI TO ts) (bS : S ≠ TI) (cS : ∀ t ∈ ts, S ≠ t.l) (res : Value) (lo : Nat) :
    ∀ (k i : Nat) (s : Shared) (acc : Array Value) (c : Nat), n - i = k → i ≤ n → lo ≤ s.heap.objs.size → ZipAt s.heap z TI TO ts i → LstObj s.heap S acc c → Given lo s.heap z TI TO S ts acc i →
    (∀ h' acc' c', (∀ b o, Away b z TI TO ts → b ≠ S → s.heap.get? b = some o → h'.get? b = some o) → LstObj h' S acc' c' → Given lo h' z TI TO S ts acc' n → R (.ok (.ret res)) { s with heap := h' }) →
    codeAny (model prog w) A (.builtin "list.extend.loop" ⟨[.ref S, .ref z, res], []⟩) R s := by
  have big : 1000 ≤ sizeLine := by decide
  intro k
  induction k with
  | zero =>
    intro i s acc c hk hi hlo Z hS G hR
    obtain rfl : i = n := by omega
    refine codeAny_builtin F.entry_extend_loop ?_
    rw [Around.under_plainId F.plain_extend_loop _]
    show wpAny _ A.in1 (pyNext (.ref z) >>= _) _ _ s
    refine wpAny_bind (pyNext_end (A := A.in1) hh D h1 Z (fun t ht => Nat.le_of_eq (hn t ht)) fun h' k => ?_)
    obtain ⟨Ts, e1, e2, nd, lw, e3⟩ := G
    refine wpAny_pure (hR h' acc c (fun b o a _ e => k b o a.1 a.2.1 a.2.2 e) (k _ _ aS.1 aS.2.1 aS.2.2 hS) ⟨Ts, e1, e2, nd, lw, fun j T q => ?_⟩)
    obtain ⟨x1, x2, x3⟩ := e3 j T q
    exact ⟨k _ _ x2.1 x2.2.1 x2.2.2 x1, x2, x3⟩
  | succ k ih =>
    intro i s acc c hk hi hlo Z hS G hR
    have hlt : i < n := by omega
    refine codeAny_builtin F.entry_extend_loop ?_
    rw [Around.under_plainId F.plain_extend_loop _]
    show wpAny _ A.in1 (pyNext (.ref z) >>= _) _ _ s
    refine wpAny_bind (pyNext_item (A := A.in1) D h1 hsz Z (fun t ht => by rw [hn t ht]; exact hlt) fun h' Z' hT hs' kp => ?_)
    have hS' : LstObj h' S acc c := kp _ _ aS.1 aS.2.1 aS.2.2 hS
    obtain ⟨Ts, e1, e2, nd, lw, e3⟩ := G
    have ha : acc.size = i := by rw [e1, List.size_toArray, List.length_map]; exact e2
    show wpAny _ A.in1 (updateSeq S (·.push (.ref s.heap.objs.size)) >>= _) _ _ _
    refine wpAny_bind (wpAny_updateSeq hS' rfl ?_ (by rw [ha]; omega) (by show (acc.push _).size ≤ _; rw [Array.size_push, ha]; omega))
    obtain ⟨c2, hS2⟩ : ∃ c2, LstObj (h'.update S (Obj.mapSeq (·.push (.ref s.heap.objs.size)))) S (acc.push (.ref s.heap.objs.size)) c2 := ⟨_, Heap.get?_update_self (Obj.mapSeq (·.push (.ref s.heap.objs.size))) hS' rfl⟩
    have oth : ∀ b o, b ≠ S → h'.get? b = some o → (h'.update S (Obj.mapSeq (·.push (.ref s.heap.objs.size)))).get? b = some o := fun b o hb e => (Heap.get?_update_other _ _ (Ne.symm hb)).trans e
    have sz2 : (h'.update S (Obj.mapSeq (·.push (.ref s.heap.objs.size)))).objs.size = h'.objs.size := (Heap.SameBut.update ..).1
    generalize h'.update S (Obj.mapSeq (·.push (.ref s.heap.objs.size))) = h2 at hS2 oth sz2 ⊢
    have lt : ∀ b o, s.heap.get? b = some o → b ≠ s.heap.objs.size := fun b o e => Nat.ne_of_lt (Heap.lt_size e)
    have awN : Away s.heap.objs.size z TI TO ts ∧ s.heap.objs.size ≠ S := by
      obtain ⟨f0, f1, _, hz⟩ := Z.z
      obtain ⟨kept, _, hto⟩ := Z.to
      refine ⟨⟨(lt _ _ hz).symm, (lt _ _ hto).symm, fun t ht => ?_⟩, (lt _ _ hS).symm⟩
      obtain ⟨⟨o, ho, _⟩, _⟩ := Z.at_ t ht
      exact (lt _ _ ho).symm
    have ndN : (Ts ++ [s.heap.objs.size]).Nodup := by
      rw [List.nodup_append]
      refine ⟨nd, by simp, fun a ha b hb e => ?_⟩
      rw [List.mem_singleton] at hb
      obtain ⟨j, hj⟩ := List.getElem?_of_mem ha
      exact lt _ _ (e3 j a hj).1 (e.trans hb)
    have lwN : ∀ T ∈ Ts ++ [s.heap.objs.size], lo ≤ T := fun T hT => by
      rcases List.mem_append.mp hT with q | q
      · exact lw T q
      · rw [List.mem_singleton.mp q]; exact hlo
    refine wpAny_pure ⟨plainId_quiet F.plain_extend_loop _, ih (i + 1) _ (acc.push (.ref s.heap.objs.size)) c2 (by omega) hlt (by rw [sz2, hs']; exact Nat.le_succ_of_le hlo) (Z'.keep aS bS cS oth) hS2 ⟨Ts ++ [s.heap.objs.size], by rw [e1]; simp, by simp [e2], ndN, lwN, fun j T q => ?_⟩ fun h3 acc' c' kp3 hS3 G3 => hR h3 acc' c' (fun b o a hb e => kp3 b o a hb (oth b o hb (kp b o a.1 a.2.1 a.2.2 e))) hS3 G3⟩
    by_cases hj : j < Ts.length
    · rw [List.getElem?_append_left hj] at q
      obtain ⟨x1, x2, x3⟩ := e3 j T q
      exact ⟨oth _ _ x3 (kp _ _ x2.1 x2.2.1 x2.2.2 x1), x2, x3⟩
    · have hj2 := (List.getElem?_eq_some_iff.mp q).1
      rw [List.length_append, List.length_singleton] at hj2
      obtain rfl : j = Ts.length := by omega
      rw [List.getElem?_append_right (Nat.le_refl _), Nat.sub_self] at q
      obtain rfl : s.heap.objs.size = T := by simpa using q
      rw [e2]
      exact ⟨oth _ _ awN.2 hT, awN.1, awN.2⟩
theorem collect_zip {s : Shared} {Q : List Value → Shared → Prop} {n : Nat} (lo : Nat) (hlo : lo ≤ s.heap.objs.size) (hh : A.handled = none) (D : Apart z TI TO ts) (h1 : ts ≠ []) (hsz : ts.length ≤ 1000) (hn : ∀ t ∈ ts, t.xs.size = n) (hn2 : n ≤ 1000) (Z : ZipAt s.heap z TI TO ts 0)
    (hQ : ∀ h' (Ts : List Addr), (∀ b o, Away b z TI TO ts → s.heap.get? b = some o → h'.get? b = some o) → Ts.length = n → Ts.Nodup → (∀ T ∈ Ts, lo ≤ T) → (∀ j T, Ts[j]? = some T → TupObj h' T (vals ts j).toArray) → Q (Ts.map Value.ref) { s with heap := h' }) :
    wpAny (model prog w) A (collect (.ref z)) Q E s := by
  have lt : ∀ b o, s.heap.get? b = some o → b ≠ s.heap.objs.size := fun b o e => Nat.ne_of_lt (Heap.lt_size e)
  obtain ⟨f0, f1, hf, hz⟩ := Z.z
  have aS : Away s.heap.objs.size z TI TO ts := by
    obtain ⟨kept, _, hto⟩ := Z.to
    refine ⟨(lt _ _ hz).symm, (lt _ _ hto).symm, fun t ht => ?_⟩
    obtain ⟨⟨o, ho, _⟩, _⟩ := Z.at_ t ht
    exact (lt _ _ ho).symm
  have bS : s.heap.objs.size ≠ TI := (lt _ _ Z.ti).symm
  have cS : ∀ t ∈ ts, s.heap.objs.size ≠ t.l := fun t ht => by
    obtain ⟨_, ⟨o, ho, _⟩⟩ := Z.at_ t ht
    exact (lt _ _ ho).symm
  unfold collect
  refine wpAny_bind (wpAny_runValue (codeAny_builtin F.entry_proto_collect ?_))
  rw [Around.under_plainId F.plain_proto_collect _]
  show wpAny _ A.in1 (newList [] >>= fun l => again (.builtin "list.__iadd__" ⟨[l, .ref z], []⟩)) _ _ s
  refine wpAny_bind (wpAny_newObj_type ?_)
  refine wpAny_pure ⟨plainId_quiet F.plain_list_iadd _, codeAny_builtin F.entry_list_iadd ?_⟩
  rw [Around.under_plainId F.plain_list_iadd _]
  have kp1 : ∀ b o, s.heap.get? b = some o → (s.heap.push { cls := .type "list", data := .seq ([] : List Value).toArray }).get? b = some o := fun b o e => Heap.get?_push_of_some _ e
  have hS1 : LstObj (s.heap.push { cls := .type "list", data := .seq ([] : List Value).toArray }) s.heap.objs.size #[] 0 := Heap.get?_push_size _ rfl
  show wpAny _ A.in1 (Builtin.List.listExtendWith (.ref s.heap.objs.size) (.ref z) (.ref s.heap.objs.size)) _ _ { s with heap := s.heap.push { cls := .type "list", data := .seq ([] : List Value).toArray } }
  have hlo' : lo ≤ (s.heap.push { cls := .type "list", data := .seq ([] : List Value).toArray }).objs.size := by rw [Heap.size_push]; exact Nat.le_succ_of_le hlo
  generalize s.heap.push { cls := .type "list", data := .seq ([] : List Value).toArray } = hA at kp1 hS1 hlo' ⊢
  have Z1 : ZipAt hA z TI TO ts 0 := Z.keep aS bS cS fun d o _ e => kp1 d o e
  have hT : (⟨hA, s.gens, s.drawn, s.toks, s.os⟩ : Shared).TypeIs (.ref z) "zip" := ⟨_, kp1 _ _ hz, rfl⟩
  unfold Builtin.List.listExtendWith
  refine wpAny_bind (wpAny_typeOf hT ?_)
  have no1 : Builtin.List.listSameRef (.ref s.heap.objs.size) (.ref z) = false := by simp [Builtin.List.listSameRef, aS.1]
  simp only [no1, show (Value.type "zip" == Value.type "list") = false by decide, show (Value.type "zip" == Value.type "tuple") = false by decide, Bool.or_false, Bool.false_eq_true, if_false]
  refine wpAny_bind (pyIter_zip Z1 ?_)
  refine wpAny_bind (wpAny_holding ?_)
  unfold Builtin.List.listLengthHint
  refine wpAny_bind (wpAny_specialOf hT nolen ?_)
  show wpAny _ A.in1 (specialOf (Value.ref z) (Str.ofString "__length_hint__") >>= _) _ _ _
  refine wpAny_bind (wpAny_specialOf hT nohint ?_)
  refine wpAny_pure ?_
  show wpAny _ A.in1 (rule "list.extend.makes-room" >>= fun _ => Builtin.List.listTouch (.ref s.heap.objs.size) >>= fun _ =>
    again (.builtin "list.extend.loop" ⟨[.ref s.heap.objs.size, .ref z, .ref s.heap.objs.size], []⟩)) _ _ _
  refine wpAny_bind (wpAny_rule (wpAny_bind ?_))
  show wpAny _ A.in1 (updateSeq s.heap.objs.size (·.push .none) >>= fun _ => updateSeq s.heap.objs.size (·.pop)) _ _ _
  refine wpAny_bind (wpAny_updateSeq hS1 rfl ?_)
  have hS2 := Heap.get?_update_self (Obj.mapSeq (·.push Value.none)) hS1 rfl
  refine wpAny_updateSeq hS2 rfl ?_
  have hS3 := Heap.get?_update_self (Obj.mapSeq (·.pop)) hS2 rfl
  have oth : ∀ b o, b ≠ s.heap.objs.size → hA.get? b = some o → ((hA.update s.heap.objs.size (Obj.mapSeq (·.push Value.none))).update s.heap.objs.size (Obj.mapSeq (·.pop))).get? b = some o :=
    fun b o hb e => (Heap.get?_update_other _ _ (Ne.symm hb)).trans ((Heap.get?_update_other _ _ (Ne.symm hb)).trans e)
  have sz3 : ((hA.update s.heap.objs.size (Obj.mapSeq (·.push Value.none))).update s.heap.objs.size (Obj.mapSeq (·.pop))).objs.size = hA.objs.size := (Heap.SameBut.update ..).1.trans (Heap.SameBut.update ..).1
  refine wpAny_pure ⟨plainId_quiet F.plain_extend_loop _, loop_zip (A := A) hh D h1 hsz hn hn2 s.heap.objs.size aS bS cS _ lo n 0 _ _ _ rfl (Nat.zero_le _) (by rw [sz3]; exact hlo') (Z1.keep aS bS cS oth) hS3 ⟨[], rfl, rfl, List.nodup_nil, fun T q => by simp at q, fun j T q => by simp at q⟩ fun h' acc' c' k hS' G => ?_⟩
  obtain ⟨Ts, e1, e2, nd, lw, e3⟩ := G
  show wpAny _ A (load s.heap.objs.size >>= _) _ _ _
  refine wpAny_bind (wpAny_load hS' ?_)
  have q := hQ h' Ts (fun b o a e => k b o a (lt _ _ e) (oth b o (lt _ _ e) (kp1 b o e))) e2 nd lw fun j T q => (e3 j T q).1
  refine wpAny_pure ?_
  rw [e1, List.toList_toArray]
  exact q
end
end ZN


set_option Elab.async false
set_option linter.all false
set_option maxRecDepth 100000
set_option maxHeartbeats 2000000
namespace ZN
open PySem PySem.Spec PyProof.Rows
section
variable {prog : Program} {w : World} {A : Around} {E : Value → Shared → Prop} {z TI TO : Addr} {ts : List Th} {s : Shared}
theorem code_tuple_zip {Q₁ : Value → Shared → Prop} {n : Nat} (lo : Nat) (hlo : lo ≤ s.heap.objs.size) (hh : A.handled = none) (D : Apart z TI TO ts) (h1 : ts ≠ []) (hsz : ts.length ≤ 1000) (hn : ∀ t ∈ ts, t.xs.size = n) (hn2 : n ≤ 1000) (Z : ZipAt s.heap z TI TO ts 0)
    (h : ∀ h' (Ts : List Addr), (∀ b o, Away b z TI TO ts → s.heap.get? b = some o → h'.get? b = some o) → Ts.length = n → Ts.Nodup → (∀ T ∈ Ts, lo ≤ T) → (∀ j T, Ts[j]? = some T → TupObj h' T (vals ts j).toArray) →
      Q₁ (.ref h'.objs.size) { s with heap := h'.push { cls := .type "tuple", data := .seq (Ts.map Value.ref).toArray } }) :
    codeAny (model prog w) A (.call (.builtin "tuple.__new__") ⟨[.type "tuple", .ref z], []⟩) (wants Q₁ E) s := by
  refine codeAny_of_tree ?_
  show wpAny _ A.in1 (do checkBuiltinCall "tuple.__new__" ⟨[.type "tuple", .ref z], []⟩; again (.builtin "tuple.__new__" ⟨[.type "tuple", .ref z], []⟩)) _ _ s
  refine wpAny_bind (wpAny_of_eq (F.newCall_tuple_1 _) (wpAny_pure ⟨plainId_quiet F.plain_tuple_new _, codeAny_builtin F.entry_tuple_new ?_⟩))
  rw [Around.under_plainId F.plain_tuple_new _]
  have hsub := sub_tuple_self
  have hinit := init_tuple_lookup
  have hmh := madeHere_tuple
  obtain ⟨f0, f1, hf, hz⟩ := Z.z
  have hTI : s.TypeIs (.ref z) "zip" := ⟨_, hz, rfl⟩
  have hh1 : A.in1.handled = none := hh
  wp_walk using wpAny_typeOf hTI, collect_zip (A := A.in1) lo hlo hh1 D h1 hsz hn hn2 Z
  intro h' Ts k l1 nd lw hT
  show wpAny _ _ (Builtin.Tuple.tupleExact (Ts.map Value.ref).toArray >>= fun v => ret v) _ _ _
  unfold Builtin.Tuple.tupleExact
  have b : 1000 ≤ sizeLine := by decide
  refine wpAny_bind (wpAny_newObj_type ?_ (by show (Ts.map Value.ref).toArray.size ≤ sizeLine; rw [List.size_toArray, List.length_map]; omega))
  exact wpAny_pure (h h' Ts k l1 nd lw hT)
theorem call_tuple_zip {Q : Value → Shared → Prop} {n : Nat} (lo : Nat) (hlo : lo ≤ s.heap.objs.size) (hh : A.handled = none) (D : Apart z TI TO ts) (h1 : ts ≠ []) (hsz : ts.length ≤ 1000) (hn : ∀ t ∈ ts, t.xs.size = n) (hn2 : n ≤ 1000) (Z : ZipAt s.heap z TI TO ts 0)
    (h : ∀ h' (Ts : List Addr), (∀ b o, Away b z TI TO ts → s.heap.get? b = some o → h'.get? b = some o) → Ts.length = n → Ts.Nodup → (∀ T ∈ Ts, lo ≤ T) → (∀ j T, Ts[j]? = some T → TupObj h' T (vals ts j).toArray) →
      Q (.ref h'.objs.size) { s with heap := h'.push { cls := .type "tuple", data := .seq (Ts.map Value.ref).toArray } }) :
    wpAny (model prog w) A (call (.type "tuple") [.ref z]) Q E s := by
  refine callType_codes (Q₁ := fun obj s₁ => s₁.TypeIs obj "tuple" ∧ Q obj s₁) F.called_tuple (F.typeCall_tuple_1 _) F.entry_object_init
    (code_tuple_zip (A := A.in1) lo hlo hh D h1 hsz hn hn2 Z fun h' Ts a b c d e => ⟨⟨_, Heap.get?_push_size _ rfl, rfl⟩, h h' Ts a b c d e⟩) fun obj s₁ h₁ => ?_
  exact ⟨h₁.1, F.args_object_init_2 obj _, object_init_meets F.called_tuple.init.lookup F.called_tuple.made (by decide) prog w A.in1 _ s₁ ⟨h₁.1, rfl, h₁.2⟩⟩
end
section
variable {M : Model} {A : Around} {E : Value → Shared → Prop} {s : Shared} {env : Env} {pos p : Pos} {Q : Value → Shared → Prop} {e : Expr} {T : String}
theorem callWith_typeS (h : wpAny M A (eval e env) (fun v s₁ => PySem.W.StarOf M A E v (fun vs s₂ => wpAny M A (call (.type T) vs) Q E s₂) s₁) E s)
    (he : starEach [.Starred e p] env = [(true, eval e env)] := by rfl) :
    wpAny M A (callWith pos (.type T) [] (backTo pos (starEach [.Starred e p] env)) []) Q E s := by
  rw [he]
  exact PySem.W.ks_call (P := fun _ => True) rfl (fun h _ => ⟨.machine, .inr (.inl rfl), PySem.W.Looks.of_pure rfl⟩) (PySem.W.ks_lone (wpAny_mono h (fun v s1 q => (by
    unfold PySem.W.StarOf at q ⊢
    exact wpAny_mono q (fun b s2 ⟨x, y⟩ => ⟨x, wpAny_mono y (fun vs s3 z => ⟨trivial, z⟩) fun _ _ x => x⟩) fun _ _ x => x)) fun _ _ x => x))
end
end ZN
namespace K01
open PySem PySem.Spec PyProof.Rows L2
/-- many new tuples in sight at once -/
def layT (L : List (Addr × List V)) (H : Hp) : Hp := L.foldr (fun p G => upd G p.1 (.tup p.2)) H
theorem layT_old {H : Hp} {b : Addr} : ∀ {L : List (Addr × List V)}, (∀ p ∈ L, b ≠ p.1) → layT L H b = H b
  | [], _ => rfl
  | p :: L, h => by
    show upd (layT L H) p.1 _ b = _
    rw [upd_ne (h p List.mem_cons_self)]
    exact layT_old fun q hq => h q (List.mem_cons_of_mem _ hq)
theorem layT_new {H : Hp} : ∀ {L : List (Addr × List V)}, (L.map Prod.fst).Nodup → ∀ p ∈ L, layT L H p.1 = some (.tup p.2)
  | [], _, p, h => by cases h
  | q :: L, nd, p, h => by
    rw [List.map_cons, List.nodup_cons] at nd
    show upd (layT L H) q.1 _ p.1 = _
    rcases List.mem_cons.mp h with rfl | h
    · exact upd_same
    · rw [upd_ne (fun z => nd.1 (by rw [← z]; exact List.mem_map_of_mem h))]
      exact layT_new nd.2 p h
theorem layT_cases {H : Hp} {b : Addr} {o : HO} : ∀ {L : List (Addr × List V)}, layT L H b = some o → H b = some o ∨ ∃ p ∈ L, b = p.1 ∧ o = .tup p.2
  | [], h => .inl h
  | q :: L, h => by
    by_cases e : b = q.1
    · subst e
      have h' : upd (layT L H) q.1 (.tup q.2) q.1 = some o := h
      rw [upd_same] at h'
      exact .inr ⟨q, List.mem_cons_self, rfl, (Option.some.inj h').symm⟩
    · have h' : upd (layT L H) q.1 (.tup q.2) b = some o := h
      rw [upd_ne e] at h'
      rcases layT_cases h' with z | ⟨p, hp, z⟩
      · exact .inl z
      · exact .inr ⟨p, List.mem_cons_of_mem _ hp, z⟩
section
variable {X : Cx} {pins : List (Addr × Obj)} {σ : L2.St} {H : Hp} {s : Shared} {h' : Heap}
theorem inv_layT {t' : Nat} (I : Inv X pins σ H s) (L : List (Addr × List V)) (k : ∀ b u, s.heap.get? b = some u → h'.get? b = some u) (hp : ∀ p ∈ L, s.heap.objs.size ≤ p.1) (nd : (L.map Prod.fst).Nodup)
    (new : ∀ p ∈ L, ObjOk X.prog X.w (layT L H) h' p.1 (.tup p.2)) : Inv X pins σ (layT L H) { s with heap := h', toks := t' } := by
  have old : ∀ b u, s.heap.get? b = some u → layT L H b = H b := fun b u e => layT_old fun p hpm z => by
    have := Heap.lt_size e
    rw [z] at this
    exact Nat.lt_irrefl _ (Nat.lt_of_lt_of_le this (hp p hpm))
  have there : ∀ b o, H b = some o → layT L H b = some o := fun b o e => by
    rw [layT_old fun p hpm z => ?_]
    · exact e
    · have := I.hok.fresh (hp p hpm)
      rw [← z, e] at this
      cases this
  refine I.un ⟨fun b u q _ _ _ => k b u q, fun b u q _ _ _ => ⟨u.slots, k b u q⟩, fun b u q n _ => by rw [old b u q]; exact n, fun b u q _ => ⟨u, k b u q⟩, fun b xs q => there b _ q, fun b u xs q => there b _ q, fun b ps q => ⟨#[], by rw [there b _ q]; simp⟩⟩ fun b u e => ?_
  rcases layT_cases e with e | ⟨p, hpm, rfl, rfl⟩
  · exact (I.hok b u e).stay (fun c v _ q => k c v q) (fun c q => there c _ q) fun c xs q => there c _ q
  · exact new p hpm
/-- tuple(zip(*e)), e a tuple or a list of rows of one length -/
def tTupZip (K : PySem.W.Frag) (te : TE) : TE := fun σ H Q => te σ H fun x H1 => ∃ (R : List Row) (n : Nat), RowsA K R x H1 ∧ 1 ≤ R.length ∧ R.length ≤ 8 ∧ (∀ r ∈ R, r.length = n) ∧ n ≤ 1000 ∧ ∀ v H2, Ex H1 H2 → RowsT K (Lin.tr n R) v H2 → Q v H2
theorem rowsA_srcs {xs : List V} {R : List Row} {us : List Value} (I : Inv X pins σ H s) (p : Paired (fun x r => RowT X.K r x H) xs R) (rv : Vals xs us) :
    ∃ srcs : List (Addr × Array Value), us = srcs.map (fun p => Value.ref p.1) ∧ srcs.length = R.length ∧ (∀ q ∈ srcs, s.heap.IsTuple q.1 q.2) ∧ ∀ (j : Nat) q r, srcs[j]? = some q → R[j]? = some r → Vals (r.map V.int) q.2.toList := by
  induction p generalizing us with
  | nil =>
    cases rv
    exact ⟨[], rfl, rfl, (fun _ q => nomatch q), fun j q r e => nomatch e⟩
  | @cons x r xs R h _ ih =>
    cases rv with
    | @cons _ u _ us' ru rus =>
      obtain ⟨srcs, e1, e2, e3, e4⟩ := ih rus
      obtain ⟨a, rfl, ha⟩ := h
      obtain rfl : u = .ref a := ru
      obtain ⟨its, rv', p1, _⟩ := I.tuple ha
      refine ⟨(a, its.toArray) :: srcs, by rw [e1]; rfl, by simp [e2], fun q hq => ?_, fun j q r' h1 h2 => ?_⟩
      · rcases List.mem_cons.mp hq with rfl | hq
        · exact p1
        · exact e3 q hq
      · cases j with
        | zero =>
          obtain rfl : (a, its.toArray) = q := by simpa using h1
          obtain rfl : r = r' := by simpa using h2
          simpa using rv'
        | succ j => exact e4 j q r' (by simpa using h1) (by simpa using h2)
theorem vals_col {ts : List ZN.Th} {R : List Row} {n i : Nat} (hi : i < n) (hl : ts.length = R.length) (hn : ∀ r ∈ R, r.length = n) (hv : ∀ (j : Nat) t r, ts[j]? = some t → R[j]? = some r → Vals (r.map V.int) t.xs.toList) :
    Vals ((R.map fun r => Lin.g r i).map V.int) (ZN.vals ts i) := by
  induction R generalizing ts with
  | nil =>
    cases ts with
    | nil => exact .nil
    | cons t ts => simp at hl
  | cons r R ih =>
    cases ts with
    | nil => simp at hl
    | cons t ts =>
      refine .cons ?_ (ih (by simpa using hl) (fun r h => hn r (List.mem_cons_of_mem _ h)) fun j t r h1 h2 => hv (j + 1) t r (by simpa using h1) (by simpa using h2))
      have rv := hv 0 t r rfl rfl
      have hr := hn r List.mem_cons_self
      have hx : (r.map V.int)[i]? = some (.int (Lin.g r i)) := by rw [List.getElem?_map, Lin.g_get? (by omega)]; rfl
      obtain ⟨u, hu, ru⟩ := rv.get hx
      have e : t.xs.getD i .none = u := by
        rw [Array.getElem?_toList] at hu
        simp [Array.getD, hu]
        obtain ⟨h1, h2⟩ := Array.getElem?_eq_some_iff.mp hu
        simp [h1, h2]
      show RelV _ (t.xs.getD i .none)
      rw [e]
      exact ru
theorem vals_refs : ∀ Ts : List Addr, Vals (Ts.map V.ref) (Ts.map Value.ref)
  | [] => .nil
  | _ :: l => .cons rfl (vals_refs l)
theorem rows_all {K : PySem.W.Frag} {HF : Hp} : ∀ {Ts : List Addr} {C : List Row}, (∀ (j : Nat) T c, Ts[j]? = some T → C[j]? = some c → RowT K c (.ref T) HF) → Ts.length = C.length → Paired (fun x r => RowT K r x HF) (Ts.map V.ref) C
  | [], [], _, _ => .nil
  | T :: Ts, c :: C, all, l => .cons (all 0 T c rfl rfl) (rows_all (fun j T' c' h1 h2 => all (j + 1) T' c' (by simpa using h1) (by simpa using h2)) (by simpa using l))
  | [], _ :: _, _, l => by simp at l
  | _ :: _, [], _, l => by simp at l
theorem pe_tupZip {e : Expr} {te : TE} {p p2 p3 pos pos2 : Pos} (hg : Gl X "tuple") (hm : X.mg "tuple" = none) (hg2 : Gl X "zip") (hm2 : X.mg "zip" = none) (he : PE X e te) (hc : X.calm = true := by rfl)
    (hst : starEach [.Starred e p3] X.env = [(true, eval e X.env)] := by rfl) (na : starEach [.Call (.Name "zip" p2) [.Starred e p3] [] pos2] X.env = (false, eval (.Call (.Name "zip" p2) [.Starred e p3] [] pos2) X.env) :: starEach [] X.env := by rfl) :
    PE X (.Call (.Name "tuple" p) [.Call (.Name "zip" p2) [.Starred e p3] [] pos2] [] pos) (tTupZip X.K te) := by
  refine ⟨fun pins s σ H Q I h => ?_⟩
  refine Call_ (ld_blt I hg hm (u := .type "tuple") (by decide +kernel) ?_)
  refine PyProof.Rows.callWith_type1 (args_cons ?_ na) na rfl
  refine Call_ (ld_blt I hg2 hm2 PyProof.Rows.boot_zip ?_)
  refine ZN.callWith_typeS (thn (he.run pins s σ H _ I h) fun v s1 ⟨y, H1, I1, ry, R, n, hR, l1, l8, hn, hn2, q⟩ => ?_) hst
  obtain ⟨a, xs, rfl, hxs, pxs⟩ : ∃ a xs, y = V.ref a ∧ (SqT X.K H1 a xs ∨ SqL X.K H1 a xs) ∧ Paired (fun x r => RowT X.K r x H1) xs R := by
    rcases hR with ⟨a, xs, z1, z2, z3⟩ | ⟨a, xs, z1, z2, z3⟩
    · exact ⟨a, xs, z1, .inr z2, z3⟩
    · exact ⟨a, xs, z1, .inl z2, z3⟩
  obtain rfl : v = Value.ref a := ry
  refine StX.star_any I1 hxs fun us s2 I2 rv => ?_
  obtain ⟨srcs, rfl, ls, hsrc, hv⟩ := rowsA_srcs I2 pxs rv
  refine ZN.call_zip srcs (by omega) (by omega) hsrc fun ts z TI TO h2 es D Z k gz gTO git _ => ?_
  refine args_nil ?_
  have lts : ts.length = R.length := by rw [← ls, es, List.length_map]
  have hv' : ∀ (j : Nat) t r, ts[j]? = some t → R[j]? = some r → Vals (r.map V.int) t.xs.toList := fun j t r h1 h2 => hv j (ZN.src t) r (by rw [es, List.getElem?_map, h1]; rfl) h2
  have hsz : ∀ t ∈ ts, t.xs.size = n := fun t ht => by
    obtain ⟨j, hj⟩ := List.getElem?_of_mem ht
    have hlt : j < R.length := by rw [← lts]; exact (List.getElem?_eq_some_iff.mp hj).1
    have e1 := (hv' j t _ hj (List.getElem?_eq_getElem hlt)).length
    rw [List.length_map] at e1
    exact (show t.xs.size = t.xs.toList.length from Array.length_toList.symm).trans (e1.symm.trans (hn _ (List.getElem_mem hlt)))
  have hne : ts ≠ [] := fun z => by rw [z] at lts; simp at lts; omega
  have sz2 : s2.heap.objs.size ≤ h2.objs.size := by
    obtain ⟨f0, f1, _, hz⟩ := Z.z
    exact Nat.le_trans gz (Nat.le_of_lt (Heap.lt_size hz))
  refine ZN.call_tuple_zip (n := n) (s := { s2 with heap := h2 }) s2.heap.objs.size sz2 (I2.ok.hd hc) D hne (by omega) hsz hn2 Z fun h' Ts kp lT nd lw hT => ?_
  have ltr : (Lin.tr n R).length = n := Lin.tr_len
  have kk : ∀ b o, s2.heap.get? b = some o → h'.get? b = some o := fun b o e => by
    have lt := Heap.lt_size e
    refine kp b o ⟨fun z => ?_, fun z => ?_, fun t ht z => ?_⟩ (k b o e)
    · rw [z] at lt; exact Nat.lt_irrefl _ (Nat.lt_of_lt_of_le lt gz)
    · rw [z] at lt; exact Nat.lt_irrefl _ (Nat.lt_of_lt_of_le lt gTO)
    · rw [z] at lt; exact Nat.lt_irrefl _ (Nat.lt_of_lt_of_le lt (git t ht))
  let L : List (Addr × List V) := (Ts.zip (Lin.tr n R)).map fun p => (p.1, p.2.map V.int)
  have eL : L.map Prod.fst = Ts := by
    show ((Ts.zip (Lin.tr n R)).map _).map _ = Ts
    rw [List.map_map]
    exact List.map_fst_zip (by omega)
  have memL : ∀ p ∈ L, ∃ j, Ts[j]? = some p.1 ∧ j < n ∧ p.2 = (R.map fun r => Lin.g r j).map V.int := fun p hp => by
    obtain ⟨⟨T, c⟩, hq, rfl⟩ := List.mem_map.mp hp
    obtain ⟨j, hj⟩ := List.getElem?_of_mem hq
    have hz := List.getElem?_zip_eq_some.mp hj
    have hjn : j < n := by rw [← ltr]; exact (List.getElem?_eq_some_iff.mp hz.2).1
    refine ⟨j, hz.1, hjn, ?_⟩
    have := hz.2
    rw [List.getElem?_eq_getElem (by omega), Lin.tr_row hjn] at this
    rw [← Option.some.inj this]
  have I3 : Inv X pins σ (layT L H1) { s2 with heap := h' } := inv_layT (t' := s2.toks) I2 L kk (fun p hp => lw _ (by rw [← eL]; exact List.mem_map_of_mem hp)) (by rw [eL]; exact nd) fun p hp => by
    obtain ⟨j, hj, hjn, ep⟩ := memL p hp
    have hv2 := vals_col hjn lts hn hv'
    rw [← ep] at hv2
    have hl := hv2.length
    have b : 1000 ≤ sizeLine := by decide
    exact ⟨by rw [ep, List.length_map, List.length_map]; omega, _, hv2, ⟨_, hT j _ hj, rfl, _, rfl⟩⟩
  have hTs : Vals (Ts.map V.ref) (Ts.map Value.ref) := vals_refs Ts
  have fr : layT L H1 h'.objs.size = none := I3.hok.fresh (Nat.le_refl _)
  have b : 1000 ≤ sizeLine := by decide
  have I4 : Inv X pins σ (upd (layT L H1) h'.objs.size (.tup (Ts.map V.ref))) { s2 with heap := h'.push { cls := .type "tuple", data := .seq (Ts.map Value.ref).toArray } } :=
    I3.laid (t' := s2.toks) (fun b o e => Heap.get?_push_of_some _ e) (Nat.le_refl _) (show ObjOk X.prog X.w _ _ _ (.tup (Ts.map V.ref)) from ⟨by rw [List.length_map]; omega, _, hTs, ⟨_, Heap.get?_push_size _ rfl, rfl, _, rfl⟩⟩)
  have ex1 : Ex H1 (layT L H1) := fun c o e => by
    rw [layT_old fun p hp z => ?_]
    · exact e
    · have := I2.hok.fresh (lw p.1 (by rw [← eL]; exact List.mem_map_of_mem hp))
      rw [← z, e] at this
      cases this
  have ex2 : Ex (layT L H1) (upd (layT L H1) h'.objs.size (.tup (Ts.map V.ref))) := _root_.Evl.Ex.new fr
  refine ⟨.ref h'.objs.size, _, I4, rfl, q _ _ (ex1.trans ex2) ⟨_, Ts.map V.ref, rfl, SqT.of upd_same, ?_⟩⟩
  have nd2 : (L.map Prod.fst).Nodup := by rw [eL]; exact nd
  have all : ∀ (j : Nat) T c, Ts[j]? = some T → (Lin.tr n R)[j]? = some c → RowT X.K c (.ref T) (upd (layT L H1) h'.objs.size (.tup (Ts.map V.ref))) := fun j T c h1 h2 => by
    have hm : (T, c.map V.int) ∈ L := List.mem_map.mpr ⟨(T, c), List.mem_of_getElem? (List.getElem?_zip_eq_some.mpr ⟨h1, h2⟩), rfl⟩
    exact ⟨T, rfl, SqT.of (ex2 _ _ (layT_new nd2 _ hm))⟩
  have lTR : Ts.length = (Lin.tr n R).length := by omega
  exact rows_all all lTR
end
end K01


set_option Elab.async false
set_option linter.all false
set_option maxRecDepth 100000
set_option maxHeartbeats 4000000
/-! What can be reached, what tells of sights: the program's own -/
namespace K01
open PySem PySem.Spec PyProof.Rows L2
theorem rowsT_cat {K : PySem.W.Frag} {S T : List Row} {v u : V} {H : Hp} {Q : VK} (h : RowsT K S v H) (h' : RowsT K T u H) (hz : S.length + T.length ≤ 10000) (q : ∀ z H', Ex H H' → RowsT K (S ++ T) z H' → Q z H') : rCatA K v u H Q := by
  obtain ⟨a, xs, rfl, ha, pa⟩ := h
  obtain ⟨b, ys, rfl, hb, pb⟩ := h'
  have la := pr_len pa
  have lb := pr_len pb
  refine ⟨a, b, xs, ys, rfl, rfl, ha, hb, Nat.le_trans (show xs.length + ys.length ≤ 10000 by omega) (by decide), fun e => ?_, fun _ e => ?_, fun _ _ p np => ?_⟩
  · subst e
    obtain rfl : S = [] := List.length_eq_zero_iff.mp la.symm
    exact q _ _ (_root_.Evl.Ex.refl _) ⟨b, ys, rfl, hb, pb⟩
  · subst e
    obtain rfl : T = [] := List.length_eq_zero_iff.mp lb.symm
    rw [List.append_nil] at q
    exact q _ _ (_root_.Evl.Ex.refl _) ⟨a, xs, rfl, ha, pa⟩
  · have e : Ex H (upd H p (.tup (xs ++ ys))) := _root_.Evl.Ex.new np
    exact q _ _ e ⟨p, _, rfl, SqT.of upd_same, pr_app (pr_mono pa fun _ _ z => z.ex e) (pr_mono pb fun _ _ z => z.ex e)⟩
/-- the facts of a machine -/
structure MOk (p : Int) (n : Nat) (A W S : List Row) : Prop where
  p1 : 1 < p
  p2 : p ≤ 100
  prm : PrmI p
  n1 : 1 ≤ n
  n4 : n ≤ 4
  oA : Lin.Oks p n A
  lA : A.length = n
  oW : Lin.Oks p n W
  lW : W.length ≤ 100
  oS : Lin.Oks p n S
  lS : S.length ≤ 100
section
variable {P : Program} {w : World} {K : PySem.W.Frag} {mg : Str → Option Value} {base : Heap}
theorem ok_meet {f : Addr} {fd : FuncData} (B : Bare mg) (F : Fun K "meet" "meet" s_meet f fd) : FnOk P w K mg base CX0 1 f fd p_meet (spMet K) := by
  refine F.ok sc_meet (fun vs H Q E h => ?_) (fun cdv A outer s H vs Q E hr h => ?_)
  · obtain ⟨p, v, u, r, o, rfl, _⟩ := h
    rfl
  · obtain ⟨p, v, u, r, o, rfl, ⟨a, rfl, hq⟩, ⟨b, rfl, hq2⟩, hl, hp, hf, hz, q⟩ := h
    refine ⟨_, pss_one (ps_ret (pe_op op_modN (pe_callB (cr_sum rfl) (by rfl) B.sum (by decide +kernel) (pa_cons (pe_lc (own := [("a", 3), ("b", 4)]) (g := gTup K 2 (gCons (gName 3) (gCons (gName 4) gNil))) (tt := tYes) rfl sc_meet.nd (RZ.pi_zipA (by rfl) B.zip (pa_cons (pv 1) (pa_cons (pv 2) pa_nil))) (blkOk_by (N := n_meet) (sc := defScope s_meet) (by decide +kernel))
      (fun _ _ _ _ _ => pg_tup rfl (pgs_cons (pg_name (i := 3) sc_meet.nd rfl (Or.inl rfl)) (pgs_cons (pg_name (i := 4) sc_meet.nd rfl (Or.inl rfl)) pgs_nil))) (fun _ _ _ _ _ => pts_nil) (fun _ _ _ _ _ => pe_op op_mul (pv 3) (pv 4))) pa_nil)) (pv 0))), ?_⟩
    refine ⟨_, rfl, _, rfl, a, b, _, _, rfl, .inr ⟨hq, hq2, ?_⟩⟩
    refine lc_go (walk_zipT (xs := r.map V.int) (ys := o.map V.int) (n := r.length) (by rw [List.length_map]) (by rw [List.length_map]; omega)) (by omega) (fun H' e => ⟨_root_.Evl.ex_t e hq, _root_.Evl.ex_t e hq2⟩) (r.zip o) (by rw [List.length_zip]; omega) (fun _ => true)
      (fun z => IsV (.int (z.1 * z.2))) (fun _ _ _ _ _ h => h) (fun i z x H1 H2 hn e y C N hC hN => ?_) fun D ys H' nD e hD hy => ?_
    · obtain ⟨T, x1, x2, rfl, nT, rfl, f1, f2⟩ := y
      obtain ⟨n1, g1, rfl⟩ := map_get f1
      obtain ⟨n2, g2, rfl⟩ := map_get f2
      have ez : z = (n1, n2) := by
        rw [zip_at g1 g2] at hn
        exact (Option.some.inj hn).symm
      subst ez
      have hb := hf n1 (List.mem_of_getElem? g1)
      exact ⟨T, _, rfl, SqT.of upd_same, rfl, _, _, rfl, _, _, rfl, rfl, rfl, yes_go ⟨_, rfl, _, rfl, _, _, rfl, rfl, .inl ⟨by omega, by omega⟩, hC rfl _ _ (_root_.Evl.Ex.new nT) rfl⟩⟩
    · rw [filter_yes] at hy
      have ey : ys = (List.zipWith (· * ·) r o).map V.int := by
        rw [pr_fun hy, zip_map, List.map_map]
        rfl
      subst ey
      refine ⟨D, _, rfl, SqL.of hD, _, rfl, _, _, rfl, rfl, by omega, ?_⟩
      refine q _ _ e ?_
      show V.int _ = V.int _
      rw [Int.fmod_eq_emod_of_nonneg _ (by omega)]
      rfl
def spPStirred (K : PySem.W.Frag) : Sp := fun vs H Q _ => ∃ (p : Int) (n : Nat) (v u : V) (A : List Row) (r : Row), vs = [.int p, v, u] ∧ RowsA K A v H ∧ RowT K r u H ∧ 1 < p ∧ p ≤ 100 ∧ n ≤ 100 ∧ Lin.Oks p n A ∧ A.length ≤ 1000 ∧ Lin.OkR p n r ∧ Ret (RowT K (Lin.app p A r)) H Q
theorem ok_pstirred {f : Addr} {fd : FuncData} (B : Bare mg) (F : Fun K "stirred" "stirred" s_stirred f fd) (Gm : Got P w K mg base CX0 1 "meet" p_meet (spMet K)) : FnOk P w K mg base CX0 2 f fd p_stirred (spPStirred K) := by
  refine F.ok sc_stirred (fun vs H Q E h => ?_) (fun cdv Ar outer s H vs Q E hr h => ?_)
  · obtain ⟨p, n, v, u, A, r, rfl, _⟩ := h
    rfl
  · obtain ⟨p, n, v, u, A, r, rfl, hA, hr0, h1, h2, hn, oA, lA, oR, q⟩ := h
    refine ⟨_, pss_one (ps_ret (pe_callTy call_tuple_of (by rfl) B.tuple (by decide +kernel) (pa_cons (pe_lc (own := [("row", 3)]) (g := gName 3) (tt := tYes) rfl sc_stirred.nd (pi_seq (pv 1)) (blkOk_by (N := n_stirred) (sc := defScope s_stirred) (by decide +kernel))
      (fun _ _ _ _ _ => pg_name (i := 3) sc_stirred.nd rfl (Or.inl rfl)) (fun _ _ _ _ _ => pts_nil) (fun _ _ _ _ _ => pe_got Gm hr pass0 (pa_cons (pv 0) (pa_cons (pv 3) (pa_cons (pv 2) pa_nil))))) pa_nil))), ?_⟩
    have turn : ∀ (us : List V), Paired (fun x r => RowT K r x H) us A → ∀ (i : Nat) (d : Row) (x : V) (H1 H2 : Hp), A[i]? = some d → Ex H H1 → YAt us i H1 x H2 → ∀ (C : V → Hp → Prop) (N : Hp → Prop), (true = true → ∀ y H3, Ex H1 H3 → IsV (.int (Lin.dot p d r)) y H3 → C y H3) → (true = false → ∀ H3, Ex H1 H3 → N H3) →
        gName 3 x (wipe [some (.int p), some v, some u, none] [3]) H2 fun σ2 H2' => wipe σ2 [3] = wipe [some (.int p), some v, some u, none] [3] ∧ tYes σ2 H2' fun b H3 => if b = true then tCall (spMet K) [] E0 (tCons (tVar 0) (tCons (tVar 3) (tCons (tVar 2) tNil))) σ2 H3 C else N H3 := by
      intro us pb i d x H1 H2 hn1 e y C N hC hN
      obtain ⟨rfl, ex'⟩ := y
      obtain ⟨d', hd', rd⟩ := pr_get pb ex'
      obtain rfl : d' = d := Option.some.inj (hd'.symm.trans hn1)
      have od := oA d' (List.mem_of_getElem? hd')
      exact ⟨rfl, yes_go ⟨_, rfl, _, rfl, _, rfl, p, x, u, d', r, rfl, rd.ex e, hr0.ex e, by rw [od.1, oR.1], by omega, fun z hz => (by have := od.2 z hz; omega), by rw [od.1]; omega, fun z H3 e3 ez => hC rfl z H3 e3 ez⟩⟩
    have fin : ∀ (D : Addr) (ys : List V) (H' : Hp), H D = none → Ex H H' → H' D = some (.lst ys) → Paired (fun y d => IsV (.int (Lin.dot p d r)) y H') ys (A.filter fun _ => true) → rTupK K [.ref D] H' Q := by
      intro D ys H' nD e hD hy
      rw [filter_yes] at hy
      have ey : ys = (Lin.app p A r).map V.int := by
        rw [pr_fun hy]
        unfold Lin.app
        rw [List.map_map]
        rfl
      subst ey
      exact ⟨D, _, rfl, .inl ⟨SqL.of hD, fun l hl => q _ _ (e.trans (_root_.Evl.Ex.new hl)) (RowT.new upd_same)⟩⟩
    rcases hA with ⟨b, us, rfl, hb, pb⟩ | ⟨b, us, rfl, hb, pb⟩
    · have lu := pr_len pb
      refine .inl ⟨_, rfl, b, rfl, ⟨_, hb⟩, ?_⟩
      exact lc_go (walk_list (xs := us)) (by omega) (fun H' e => _root_.Evl.ex_l e hb) A lu.symm (fun _ => true) (fun row => IsV (.int (Lin.dot p row r))) (fun _ _ _ _ _ h => h) (turn us pb) fin
    · have lu := pr_len pb
      refine .inr ⟨_, rfl, b, rfl, ⟨_, hb⟩, ?_⟩
      exact lc_go (walk_tup (xs := us)) (by omega) (fun H' e => _root_.Evl.ex_t e hb) A lu.symm (fun _ => true) (fun row => IsV (.int (Lin.dot p row r))) (fun _ _ _ _ _ h => h) (turn us pb) fin
end
end K01


set_option Elab.async false
set_option linter.all false
set_option maxRecDepth 100000
set_option maxHeartbeats 4000000
namespace K01
open PySem PySem.Spec PyProof.Rows L2
section
variable {P : Program} {w : World} {K : PySem.W.Frag} {mg : Str → Option Value} {base : Heap}
def spClosure (K : PySem.W.Frag) : Sp := fun vs H Q _ => ∃ (p : Int) (n : Nat) (v u : V) (A W : List Row), vs = [.int p, v, u] ∧ RowsT K A v H ∧ RowsA K W u H ∧ 1 < p ∧ p ≤ 100 ∧ PrmI p ∧ n ≤ 100 ∧ Lin.Oks p n A ∧ A.length = n ∧ Lin.Oks p n W ∧ Ret (Stair K p n (Lin.kry p A W (n + 1))) H Q
theorem ok_closure {f : Addr} {fd : FuncData} (B : Bare mg) (F : Fun K "closure" "closure" s_closure f fd) (Gs : Got P w K mg base CX0 5 "staircase" p_staircase (spStair K)) (Gt : Got P w K mg base CX0 2 "stirred" p_stirred (spPStirred K)) : FnOk P w K mg base CX0 6 f fd p_closure (spClosure K) := by
  refine F.ok sc_closure (fun vs H Q E h => ?_) (fun cdv Ar outer s H vs Q E hr h => ?_)
  · obtain ⟨p, n, v, u, A, W, rfl, _⟩ := h
    rfl
  · obtain ⟨p, n, v, u, A, W, rfl, hA, hW, h1, h2, P_, hn, oA, lA, oW, q⟩ := h
    have hr2 : Room 2 _ := hr.mono (by decide)
    have hp0 : 0 < p := by omega
    refine ⟨_, pss_cons (ps_set (i := 3) sc_closure.nd rfl (Or.inl rfl) (pe_got Gs hr pass0 (pa_cons (pv 0) (pa_cons (pv 2) pa_nil))))
      (pss_cons (ps_for PassesOwn.never rfl (pi_range1 rfl B.range (pa_cons (pe_callB call_len_seq (by rfl) B.len PySem.boot_len (pa_cons (pv 1) pa_nil)) pa_nil)) (pg_name (i := 4) sc_closure.nd rfl (Or.inl rfl))
        (pss_one (ps_set (i := 3) sc_closure.nd rfl (Or.inl rfl) (pe_got Gs hr pass0 (pa_cons (pv 0) (pa_cons (pe_op op_catA (pv 3) (pe_callTy call_tuple_of (by rfl) B.tuple (by decide +kernel) (pa_cons (pe_lc (own := [("step", 5)]) (g := gName 5) (tt := tYes) rfl sc_closure.nd (pi_tup (pv 3)) (blkOk_by (N := n_closure) (sc := defScope s_closure) (by decide +kernel))
          (fun _ _ _ _ _ => pg_name (i := 5) sc_closure.nd rfl (Or.inl rfl)) (fun _ _ _ _ _ => pts_nil) (fun _ _ _ _ _ => pe_got Gt hr2 pass0 (pa_cons (pv 0) (pa_cons (pv 1) (pa_cons (pv 5) pa_nil))))) pa_nil))) pa_nil))))))
      (pss_one (ps_ret (pv 3)))), ?_⟩
    refine ⟨_, rfl, _, rfl, p, n, u, W, rfl, hW, h1, h2, hn, P_, oW, fun z H1 e1 hz => ?_⟩
    obtain ⟨ab, aus, rfl, hab, pab⟩ := id hA
    have la := pr_len pab
    refine ⟨_, rfl, ab, aus, rfl, .inr (_root_.Evl.ex_t e1 hab), aus.length, rfl, by omega, by omega, ?_⟩
    refine for_range (n := aus.length) (fun j t G => ∃ v3 y4 y5, t = [some (.int p), some (.ref ab), some u, some v3, y4, y5] ∧ Ex H G ∧ Stair K p n (Lin.kry p A W (j + 1)) v3 G) ⟨z, _, _, rfl, e1, ?_⟩ (fun j t G hj p' => ?_) fun t G p' => ?_
    · obtain ⟨S, a1, a2, a3⟩ := hz
      exact ⟨S, a1, a2, a3.trans Lin.kry_one.symm⟩
    · obtain ⟨v3, y4, y5, rfl, eG, S, hS, rS, sS⟩ := p'
      obtain ⟨sb, sus, rfl, hsb, psb⟩ := id hS
      have ls := pr_len psb
      have lS := rS.len_le
      refine ⟨_, rfl, _, rfl, _, rfl, sb, rfl, ⟨_, hsb⟩, ?_⟩
      refine lc_go (walk_tup (xs := sus)) (by omega) (fun H' e => _root_.Evl.ex_t e hsb) S ls.symm (fun _ => true) (fun st => RowT K (Lin.app p A st)) (fun _ => RowT.stb) (fun i st x G1 G2 hn1 e y C N hC hN => ?_) fun D ys G' nD e hD hy => ?_
      · obtain ⟨rfl, ex'⟩ := y
        obtain ⟨d', hd', rd⟩ := pr_get psb ex'
        obtain rfl : d' = st := Option.some.inj (hd'.symm.trans hn1)
        exact ⟨rfl, yes_go ⟨_, rfl, _, rfl, _, rfl, p, n, .ref ab, x, A, d', rfl, .inr (hA.ex (eG.trans e)), rd.ex e, h1, h2, hn, oA, by omega, rS.ok _ (List.mem_of_getElem? hd'), fun y' G3 e3 hy' => hC rfl y' G3 e3 hy'⟩⟩
      · rw [filter_yes] at hy
        have lys := pr_len hy
        refine ⟨D, ys, rfl, .inl ⟨SqL.of hD, fun l hl => ?_⟩⟩
        have e5 := e.trans (_root_.Evl.Ex.new (o := .tup ys) hl)
        have hT : RowsT K (S.map (Lin.app p A)) (.ref l) (upd G' l (.tup ys)) := ⟨l, ys, rfl, SqT.of upd_same, pr_map hy fun _ _ z => z.ex (_root_.Evl.Ex.new hl)⟩
        refine rowsT_cat (hS.ex e5) hT (by rw [List.length_map]; omega) fun z2 H2 e2 hz2 => ?_
        have nx := Lin.kry_next hp0 oA lA oW rS.ok (Nat.succ_le_succ (Nat.zero_le j)) sS
        refine ⟨p, n, z2, _, rfl, .inr hz2, h1, h2, hn, P_, nx.1, fun z3 H3 e3 hz3 => ?_⟩
        obtain ⟨S3, b1, b2, b3⟩ := hz3
        exact ⟨z3, _, _, rfl, (eG.trans e5).trans (e2.trans e3), S3, b1, b2, b3.trans nx.2⟩
    · obtain ⟨v3, y4, y5, rfl, eG, hS⟩ := p'
      rw [la, lA] at hS
      exact ⟨_, rfl, q _ _ eG hS⟩
/-- the staircase of what can be reached; of what tells of sights -/
abbrev reachR (p : Int) (n : Nat) (A W : List Row) : List Row := Lin.kry p A W (n + 1)
abbrev lookR (p : Int) (n : Nat) (A S : List Row) : List Row := Lin.kry p (Lin.tr n A) S (n + 1)
def spM (K : PySem.W.Frag) (R : Int → Nat → List Row → List Row → List Row → V → Hp → Prop) : Sp := fun vs H Q _ => ∃ (p : Int) (n : Nat) (v : V) (A W S : List Row), vs = [v] ∧ MachT K p A W S v H ∧ MOk p n A W S ∧ Ret (R p n A W S) H Q
theorem spM_len {R : Int → Nat → List Row → List Row → List Row → V → Hp → Prop} {vs : List V} {H : Hp} {Q : VK} {E : XK} (h : spM K R vs H Q E) : ∃ v, vs = [v] := by
  obtain ⟨p, n, v, A, W, S, rfl, _⟩ := h
  exact ⟨v, rfl⟩
def rReach (K : PySem.W.Frag) : Int → Nat → List Row → List Row → List Row → V → Hp → Prop := fun p n A W S => Stair K p n (reachR p n A W)
def rLooks (K : PySem.W.Frag) : Int → Nat → List Row → List Row → List Row → V → Hp → Prop := fun p n A W S => Stair K p n (lookR p n A S)
theorem ok_looks {f : Addr} {fd : FuncData} (B : Bare mg) (F : Fun K "looks" "looks" s_looks f fd) (Gc : Got P w K mg base CX0 6 "closure" p_closure (spClosure K)) : FnOk P w K mg base CX0 7 f fd p_looks (spM K (rLooks K)) := by
  refine F.ok sc_looks (fun vs H Q E h => ?_) (fun cdv Ar outer s H vs Q E hr h => ?_)
  · obtain ⟨v, rfl⟩ := spM_len h
    rfl
  · obtain ⟨p, n, v, A, W, S, rfl, hM, M, q⟩ := h
    refine ⟨_, pss_cons (ps_asg (pv 0) (pg_tup rfl (pgs_cons (pg_name (i := 1) sc_looks.nd rfl (Or.inl rfl)) (pgs_cons (pg_name (i := 2) sc_looks.nd rfl (Or.inl rfl)) (pgs_cons (pg_name (i := 3) sc_looks.nd rfl (Or.inl rfl)) (pgs_cons (pg_name (i := 4) sc_looks.nd rfl (Or.inl rfl)) pgs_nil))))))
      (pss_one (ps_ret (pe_got Gc hr pass0 (pa_cons (pv 1) (pa_cons (pe_tupZip (by rfl) B.tuple (by rfl) B.zip (pv 2)) (pa_cons (pv 4) pa_nil)))))), ?_⟩
    obtain ⟨m, a, w', s', rfl, hm, hA, hW, hS⟩ := hM
    refine ⟨_, rfl, m, _, rfl, hm, rfl, _, _, rfl, _, _, rfl, _, _, rfl, _, _, rfl, rfl, ?_⟩
    have n4 := M.n4
    have n1 := M.n1
    have lA := M.lA
    refine ⟨_, rfl, _, rfl, A, n, .inr hA, by omega, by omega, fun r hr => (M.oA r hr).1, by omega, fun z H1 e1 hz => ?_⟩
    exact ⟨_, rfl, p, n, z, s', Lin.tr n A, S, rfl, hz, .inr (hS.ex e1), M.p1, M.p2, M.prm, by omega, Lin.tr_ok (by have := M.p1; omega) M.oA M.lA, Lin.tr_len, M.oS, fun v2 H2 e2 h2 => q v2 H2 (e1.trans e2) h2⟩
/-- a staircase that spans just the rows of which V1 holds -/
def SpanT (K : PySem.W.Frag) (p : Int) (n : Nat) (V1 : Row → Prop) (v : V) (H : Hp) : Prop := ∃ F, RowsT K F v H ∧ Lin.Spans p n F V1
def blind (p : Int) (n : Nat) (A S : List Row) : Row → Prop := fun v => Lin.OkR p n v ∧ ∀ r ∈ lookR p n A S, Lin.dot p r v = 0
theorem stair_perp {p : Int} {n : Nat} {S R : List Row} {v : Row} (hp : 0 < p) (oR : Lin.Oks p n R) (hS : Lin.Rref p n S) (s : Lin.Same p n S R) (hv : v.length = n) : (∀ r ∈ S, Lin.dot p r v = 0) ↔ ∀ r ∈ R, Lin.dot p r v = 0 := Lin.perp_same hp hS.ok oR s hv
def rDark (K : PySem.W.Frag) : Int → Nat → List Row → List Row → List Row → V → Hp → Prop := fun p n A W S => SpanT K p n (blind p n A S)
def rGone (K : PySem.W.Frag) : Int → Nat → List Row → List Row → List Row → V → Hp → Prop := fun p n A W S => SpanT K p n fun v => Lin.Sp p n (reachR p n A W) v ∧ blind p n A S v
theorem MOk.oReach {p : Int} {n : Nat} {A W S : List Row} (M : MOk p n A W S) : Lin.Oks p n (reachR p n A W) := Lin.kry_ok (by have := M.p1; omega) M.lA M.oW
theorem MOk.oLook {p : Int} {n : Nat} {A W S : List Row} (M : MOk p n A W S) : Lin.Oks p n (lookR p n A S) := Lin.kry_ok (by have := M.p1; omega) Lin.tr_len M.oS
theorem face_spans {p : Int} {n : Nat} {R : List Row} {v : V} {H : Hp} (hp : 1 < p) (oR : Lin.Oks p n R) (h : Face K p n R v H) : SpanT K p n (fun x => Lin.OkR p n x ∧ ∀ r ∈ R, Lin.dot p r x = 0) v H := by
  obtain ⟨F, S, h1, h2, h3, h4, h5⟩ := h
  exact ⟨F, h1, Lin.spans_face hp oR h2 h3 h4 h5⟩
end
end K01


set_option Elab.async false
set_option linter.all false
set_option maxRecDepth 100000
set_option maxHeartbeats 4000000
namespace K01
open PySem PySem.Spec PyProof.Rows L2
section
variable {P : Program} {w : World} {K : PySem.W.Frag} {mg : Str → Option Value} {base : Heap}
/-- the told number: staircases of what is reached, of what of it is lost -/
def rTold : Int → Nat → List Row → List Row → List Row → V → Hp → Prop := fun p n A W S v H => ∃ R G, Lin.Spans p n R (Lin.Sp p n (reachR p n A W)) ∧ Lin.Spans p n G (fun x => Lin.Sp p n (reachR p n A W) x ∧ blind p n A S x) ∧ v = .int ((R.length : Nat) - (G.length : Nat) : Int)
/-- asked of what may be no machine -/
def Asks (K : PySem.W.Frag) (C : Addr) (R : Int → Nat → List Row → List Row → List Row → V → Hp → Prop) : Sp := fun vs H Q E => ∃ v, vs = [v] ∧ ((∃ z, WP K H v (some z) ∧ ∀ d H', Ex H H' → H' d = some (.xd [("part", .str z)]) → E (.ref C) (some d) H') ∨
  ∃ (p : Int) (n : Nat) (A W S : List Row), WP K H v none ∧ MachT K p A W S v H ∧ MOk p n A W S ∧ Ret (R p n A W S) H Q)
theorem Asks.len {C : Addr} {R : Int → Nat → List Row → List Row → List Row → V → Hp → Prop} {vs : List V} {H : Hp} {Q : VK} {E : XK} (h : Asks K C R vs H Q E) : ∃ v, vs = [v] := by
  obtain ⟨v, rfl, _⟩ := h
  exact ⟨v, rfl⟩
theorem asks_go {C : Addr} {R : Int → Nat → List Row → List Row → List Row → V → Hp → Prop} {H : Hp} {Q : VK} {E : XK} {v : V} {X : Cx} {cc : TE} {t : TS} {D : Ends} (h : Asks K C R [v] H Q E)
    (hc : ∀ (Q' : VK) , spCheckM K C [v] H Q' E → cc [some v] H Q') (ht : ∀ (p : Int) (n : Nat) (A W S : List Row) (H1 : Hp), Ex H H1 → MachT K p A W S v H1 → MOk p n A W S → Ret (R p n A W S) H1 Q → t D [some v] H1) :
    tDrop cc { D with nx := t D } [some v] H := by
  obtain ⟨v', ev, h⟩ := h
  obtain rfl : v = v' := by simpa using ev
  refine hc _ ?_
  rcases h with ⟨z, hw, he⟩ | ⟨p, n, A, W, S, hw, hM, M, q⟩
  · exact ⟨v, some z, rfl, hw, he⟩
  · exact ⟨v, none, rfl, hw, fun x H1 e1 ex => ht p n A W S H1 e1 (hM.ex e1) M (q.go e1)⟩
end
end K01


set_option Elab.async false
set_option linter.all false
set_option maxRecDepth 100000
set_option maxHeartbeats 2000000
/-! for x in zip( *rows ): a new tuple each turn, kept -/
namespace ZN
open PySem PySem.Spec PyProof.Rows
def prs (ts : List Th) : List (Addr × Addr) := ts.map fun t => (t.it, t.l)
/-- the zip between two turns; what its tuples hold is told elsewhere -/
structure ZipI (h : Heap) (z TI TO : Addr) (ps : List (Addr × Addr)) (i : Nat) : Prop where
  z : ∃ (f0 : Value) (f1 : Bool), (f0 = .none ∨ ∃ T : Addr, f0 = rawInt T) ∧ ZipObj h z TI TO f0 (.bool f1)
  ti : TupObj h TI (ps.map fun p => Value.ref p.1).toArray
  to : ∃ kept : Array Value, kept.size = ps.length ∧ TupObj h TO kept
  its : ∀ p ∈ ps, h.IsTupleIter p.1 p.2 i
theorem ZipAt.pairs {h : Heap} {z TI TO : Addr} {ts : List Th} {i : Nat} (Z : ZipAt h z TI TO ts i) : ZipI h z TI TO (prs ts) i := by
  refine ⟨Z.z, ?_, ?_, fun p hp => ?_⟩
  · have := Z.ti
    unfold prs
    rw [List.map_map]
    exact this
  · obtain ⟨kept, hk, ht⟩ := Z.to
    exact ⟨kept, by rw [hk]; unfold prs; rw [List.length_map], ht⟩
  · obtain ⟨t, ht, rfl⟩ := List.mem_map.mp hp
    exact (Z.at_ t ht).1
theorem ZipI.full {h : Heap} {z TI TO : Addr} {ts : List Th} {i : Nat} (Z : ZipI h z TI TO (prs ts) i) (hl : ∀ t ∈ ts, h.IsTuple t.l t.xs) : ZipAt h z TI TO ts i := by
  refine ⟨Z.z, ?_, ?_, fun t ht => ⟨Z.its _ (List.mem_map.mpr ⟨t, ht, rfl⟩), hl t ht⟩⟩
  · have := Z.ti
    unfold prs at this
    rw [List.map_map] at this
    exact this
  · obtain ⟨kept, hk, ht⟩ := Z.to
    exact ⟨kept, by rw [hk]; unfold prs; rw [List.length_map], ht⟩
theorem ZipI.at {h h' : Heap} {z TI TO : Addr} {ps : List (Addr × Addr)} {i : Nat} (Z : ZipI h z TI TO ps i) (k : ∀ b ∈ z :: TI :: TO :: ps.map Prod.fst, ∀ o, h.get? b = some o → h'.get? b = some o) : ZipI h' z TI TO ps i := by
  obtain ⟨f0, f1, hf, hz⟩ := Z.z
  obtain ⟨kept, hk, ht⟩ := Z.to
  refine ⟨⟨f0, f1, hf, k z (by simp) _ hz⟩, k TI (by simp) _ Z.ti, ⟨kept, hk, k TO (by simp) _ ht⟩, fun p hp => ?_⟩
  obtain ⟨o, h1, h2⟩ := Z.its p hp
  exact ⟨o, k p.1 (by simp; exact .inr (.inr (.inr ⟨p.2, hp⟩))) _ h1, h2⟩
theorem Apart.same {z TI TO : Addr} {ts ts' : List Th} (e : prs ts = prs ts') (D : Apart z TI TO ts) : Apart z TI TO ts' := by
  have mem : ∀ t ∈ ts', ∃ u ∈ ts, u.it = t.it ∧ u.l = t.l := fun t ht => by
    have : (t.it, t.l) ∈ prs ts := by rw [e]; exact List.mem_map.mpr ⟨t, ht, rfl⟩
    obtain ⟨u, hu, q⟩ := List.mem_map.mp this
    exact ⟨u, hu, congrArg Prod.fst q, congrArg Prod.snd q⟩
  refine ⟨D.zTI, D.zTO, D.TITO, fun t ht => ?_, fun t ht => ?_, ?_⟩
  · obtain ⟨u, hu, e1, e2⟩ := mem t ht
    rw [← e1]; exact D.it u hu
  · obtain ⟨u, hu, e1, e2⟩ := mem t ht
    rw [← e2]
    refine ⟨(D.l u hu).1, (D.l u hu).2.1, fun v hv => ?_⟩
    obtain ⟨v', hv', e3, e4⟩ := mem v hv
    rw [← e3]
    exact (D.l u hu).2.2 v' hv'
  · have : ts'.map Th.it = ts.map Th.it := by
      have := congrArg (List.map Prod.fst) e
      unfold prs at this
      rw [List.map_map, List.map_map] at this
      exact this.symm
    rw [this]
    exact D.nd
end ZN
namespace K01
open PySem PySem.Spec PyProof.Rows L2
/-- the tuples at as, drawn from side by side: each turn a new tuple of their i-th items -/
def ItzN (K : PySem.W.Frag) (as : List Addr) : It :=
  ⟨fun i H => ∀ a ∈ as, ∃ xs, SqT K H a xs ∧ i < xs.length,
    fun i H v H' => ∃ T col, v = .ref T ∧ H T = none ∧ H' = upd H T (.tup col) ∧ col.length = as.length ∧ ∀ (j : Nat) a xs, as[j]? = some a → SqT K H a xs → col[j]? = xs[i]?,
    fun i H => ∀ a ∈ as, ∃ xs, SqT K H a xs ∧ xs.length ≤ i⟩
section
variable {X : Cx} {pins : List (Addr × Obj)} {σ : L2.St} {H : Hp} {s : Shared}
theorem threads_of {i : Nat} {Pr : List V → Prop} (I : Inv X pins σ H s) : ∀ {ps : List (Addr × Addr)}, (∀ a ∈ ps.map Prod.snd, ∃ xs, SqT X.K H a xs ∧ Pr xs) →
    ∃ ts : List ZN.Th, ZN.prs ts = ps ∧ ∀ t ∈ ts, s.heap.IsTuple t.l t.xs ∧ ∃ xs, SqT X.K H t.l xs ∧ Pr xs ∧ Vals xs t.xs.toList
  | [], _ => ⟨[], rfl, fun _ q => nomatch q⟩
  | p :: ps, h => by
    obtain ⟨ts, e, q⟩ := threads_of (i := i) I (ps := ps) fun a ha => h a (List.mem_cons_of_mem _ ha)
    obtain ⟨xs, hx, hp⟩ := h p.2 List.mem_cons_self
    obtain ⟨its, rv, p1, _⟩ := I.tuple hx
    refine ⟨⟨p.1, p.2, its.toArray⟩ :: ts, by show (p.1, p.2) :: ZN.prs ts = _; rw [e], fun t ht => ?_⟩
    rcases List.mem_cons.mp ht with rfl | ht
    · exact ⟨p1, xs, hx, hp, by simpa using rv⟩
    · exact q t ht
theorem vals_at {ts : List ZN.Th} {i : Nat} (h : ∀ t ∈ ts, ∃ xs, SqT X.K H t.l xs ∧ i < xs.length ∧ Vals xs t.xs.toList) : ∃ col : List V, Vals col (ZN.vals ts i) ∧ ∀ (j : Nat) t, ts[j]? = some t → ∃ xs, SqT X.K H t.l xs ∧ col[j]? = xs[i]? := by
  induction ts with
  | nil => exact ⟨[], .nil, fun j t q => nomatch q⟩
  | cons t ts ih =>
    obtain ⟨col, r, q⟩ := ih fun u hu => h u (List.mem_cons_of_mem _ hu)
    obtain ⟨xs, hx, hi, rv⟩ := h t List.mem_cons_self
    obtain ⟨u, hu, ru⟩ := rv.get (List.getElem?_eq_getElem hi)
    have e : t.xs.getD i .none = u := by
      rw [Array.getElem?_toList] at hu
      obtain ⟨h1, h2⟩ := Array.getElem?_eq_some_iff.mp hu
      simp [Array.getD, h1, h2]
    refine ⟨xs[i] :: col, .cons (by show RelV _ (t.xs.getD i .none); rw [e]; exact ru) r, fun j t' ht' => ?_⟩
    cases j with
    | zero =>
      obtain rfl : t = t' := by simpa using ht'
      exact ⟨xs, hx, by rw [List.getElem?_eq_getElem hi]; rfl⟩
    | succ j => exact q j t' (by simpa using ht')
theorem turn_zipN {P : Program} {w : World} {K : PySem.W.Frag} {tg : Expr} (hgo : ∀ z v, letOwnedTupleGo tg z v = pure ()) {ts0 : List ZN.Th} {z TI TO : Addr} (D : ZN.Apart z TI TO ts0) (h1 : ts0 ≠ []) (hsz : ts0.length ≤ 1000) :
    Turn P w K tg (ItzN K ((ZN.prs ts0).map Prod.snd)) (z :: TI :: TO :: (ZN.prs ts0).map Prod.fst) z (fun i h => ZN.ZipI h z TI TO (ZN.prs ts0) i) where
  mem := by simp
  obj := fun i h st c hc => by
    obtain ⟨f0, f1, hf, hz⟩ := st.z
    obtain ⟨kept, hk, ht⟩ := st.to
    rcases List.mem_cons.mp hc with rfl | hc
    · exact ⟨_, hz, fun v q => nomatch q⟩
    rcases List.mem_cons.mp hc with rfl | hc
    · exact ⟨_, st.ti, fun v q => nomatch q⟩
    rcases List.mem_cons.mp hc with rfl | hc
    · exact ⟨_, ht, fun v q => nomatch q⟩
    obtain ⟨p, hp, rfl⟩ := List.mem_map.mp hc
    obtain ⟨o, e1, _, d1⟩ := st.its p hp
    exact ⟨o, e1, fun v q => by rw [d1] at q; cases q⟩
  keep := fun i h h' st k => st.at k
  item := by
    intro X hP hw hK hc i pins s σ H E I hf st hg
    subst hP hw hK
    obtain ⟨ts, ets, hts⟩ := threads_of (i := i) (Pr := fun xs => i < xs.length) I hg
    have D' := ZN.Apart.same ets.symm D
    have Z : ZN.ZipAt s.heap z TI TO ts i := by rw [← ets] at st; exact st.full fun t ht => (hts t ht).1
    have hne : ts ≠ [] := fun e => h1 (by
      rw [e] at ets
      have := congrArg List.length ets
      unfold ZN.prs at this
      rw [List.length_map, List.length_map] at this
      exact List.length_eq_zero_iff.mp this.symm)
    have hl : ts.length = ts0.length := by
      have := congrArg List.length ets
      unfold ZN.prs at this
      rwa [List.length_map, List.length_map] at this
    obtain ⟨col, rc, qc⟩ := vals_at (X := X) (H := H) (i := i) fun t ht => (hts t ht).2
    have hn : ∀ t ∈ ts, i < t.xs.size := fun t ht => by
      obtain ⟨xs, _, hi, rv⟩ := (hts t ht).2
      have := rv.length
      rw [Array.length_toList] at this
      exact Nat.lt_of_lt_of_eq hi this
    have hzl : z < s.heap.objs.size := by
      obtain ⟨f0, f1, _, hz⟩ := Z.z
      exact Heap.lt_size hz
    have olt : ∀ b ∈ z :: TI :: TO :: (ZN.prs ts0).map Prod.fst, b < s.heap.objs.size := fun b hb => by
      obtain ⟨f0, f1, _, hz⟩ := st.z
      obtain ⟨kept, _, ht⟩ := st.to
      rcases List.mem_cons.mp hb with rfl | hb
      · exact hzl
      rcases List.mem_cons.mp hb with rfl | hb
      · exact Heap.lt_size st.ti
      rcases List.mem_cons.mp hb with rfl | hb
      · exact Heap.lt_size ht
      obtain ⟨p, hp, rfl⟩ := List.mem_map.mp hb
      obtain ⟨o, e1, _⟩ := st.its p hp
      exact Heap.lt_size e1
    refine ZN.pyNext_item D' hne (by omega) Z hn fun h' Z' hT sz hk => ⟨_, rfl, ?_⟩
    rw [hgo]
    have lc : col.length = ts.length := by rw [rc.length, ZN.vals_len]
    have b1000 : 1000 ≤ sizeLine := by decide
    have new : ObjOk X.prog X.w (upd H s.heap.objs.size (.tup col)) h' s.heap.objs.size (.tup col) := ⟨by omega, _, rc, ⟨_, hT, rfl, _, rfl⟩⟩
    have memf : ∀ t ∈ ts, t.it ∈ (ZN.prs ts0).map Prod.fst := fun t ht => by
      rw [← ets]
      exact List.mem_map.mpr ⟨(t.it, t.l), List.mem_map.mpr ⟨t, ht, rfl⟩, rfl⟩
    have I1 : Inv X pins σ (upd H s.heap.objs.size (.tup col)) { s with heap := h' } :=
      I.turnedNew (t' := s.toks) (ch := z :: TI :: TO :: (ZN.prs ts0).map Prod.fst) (fun c o hb e => hk c o (fun q => hb (by simp [q])) (fun q => hb (by simp [q])) (fun t ht q => hb (by rw [q]; exact List.mem_cons_of_mem _ (List.mem_cons_of_mem _ (List.mem_cons_of_mem _ (memf t ht))))) e) hf (Nat.le_refl _) new
    refine wpAny_pure ⟨.ref s.heap.objs.size, _, I1, rfl, ⟨_, col, rfl, I.hok.fresh (Nat.le_refl _), rfl, ?_, fun j a xs ha hx => ?_⟩, ?_, fun b hb => ?_⟩
    · rw [lc, hl, List.length_map]; unfold ZN.prs; rw [List.length_map]
    · rw [← ets] at ha
      unfold ZN.prs at ha
      rw [List.map_map, List.getElem?_map] at ha
      cases ht : ts[j]? with
      | none => rw [ht] at ha; cases ha
      | some t =>
        rw [ht] at ha
        have ea : t.l = a := Option.some.inj ha
        obtain ⟨xs', hx', e⟩ := qc j t ht
        rw [ea] at hx'
        rw [e, I.tuple_inj hx hx']
    · show ZN.ZipI h' z TI TO (ZN.prs ts0) (i + 1)
      rw [← ets]
      exact Z'.pairs
    · rw [upd_ne (Nat.ne_of_lt (olt b hb))]
      exact (hf b hb).1
  done := by
    intro X hP hw hK hc i pins s σ H E I hf st hg
    subst hP hw hK
    obtain ⟨ts, ets, hts⟩ := threads_of (i := i) (Pr := fun xs => xs.length ≤ i) I hg
    have D' := ZN.Apart.same ets.symm D
    have Z : ZN.ZipAt s.heap z TI TO ts i := by rw [← ets] at st; exact st.full fun t ht => (hts t ht).1
    have hne : ts ≠ [] := fun e => h1 (by
      rw [e] at ets
      have := congrArg List.length ets
      unfold ZN.prs at this
      rw [List.length_map, List.length_map] at this
      exact List.length_eq_zero_iff.mp this.symm)
    have hn : ∀ t ∈ ts, t.xs.size ≤ i := fun t ht => by
      obtain ⟨xs, _, hi, rv⟩ := (hts t ht).2
      have := rv.length
      rw [Array.length_toList] at this
      exact Nat.le_trans (Nat.le_of_eq this.symm) hi
    have memf : ∀ t ∈ ts, t.it ∈ (ZN.prs ts0).map Prod.fst := fun t ht => by
      rw [← ets]
      exact List.mem_map.mpr ⟨(t.it, t.l), List.mem_map.mpr ⟨t, ht, rfl⟩, rfl⟩
    exact ZN.pyNext_end (I.ok.hd hc) D' hne Z hn fun h' hk => ⟨rfl, I.turnedL (t' := s.toks) (ch := z :: TI :: TO :: (ZN.prs ts0).map Prod.fst) (fun c o hb e =>
      hk c o (fun q => hb (by simp [q])) (fun q => hb (by simp [q])) (fun t ht q => hb (by rw [q]; exact List.mem_cons_of_mem _ (List.mem_cons_of_mem _ (List.mem_cons_of_mem _ (memf t ht))))) e) hf⟩
  self := fun A i s Q E st h => by
    obtain ⟨f0, f1, _, hz⟩ := st.z
    have hT : s.TypeIs (.ref z) "zip" := ⟨_, hz, rfl⟩
    refine wpAny_pyIter_slot hT F.slot_zip_iter (wpAny_call_entry F.slot_zip_iter hT F.entry_zip_iter ?_ (F.args_zip_iter_1 _))
    show wpAny _ _ (ret (.ref z)) _ _ s
    exact wpAny_pure ⟨_, rfl, "zip", _, hT, F.slot_zip_next.lookup, h⟩
theorem pairs_fst {α β γ : Type} {F : α → β → Prop} : ∀ {xs : List (α × γ)} {ys : List β}, Paired (fun q r => F q.1 r) xs ys → Paired F (xs.map Prod.fst) ys
  | _, _, .nil => .nil
  | _, _, .cons h t => .cons h (pairs_fst t)
/-- zip( *e ), e a tuple or a list of rows -/
def iZipN (K : PySem.W.Frag) (te : TE) : TI := fun σ H R => te σ H fun x H1 => ∃ (rs : List Row), RowsA K rs x H1 ∧ 1 ≤ rs.length ∧ rs.length ≤ 8 ∧ ∀ as : List Addr, Paired (fun a r => SqT K H1 a (r.map V.int)) as rs → R (ItzN K as) H1
theorem pi_zipN {e : Expr} {te : TE} {tg : Expr} {p2 p3 pos2 : Pos} (hg2 : Gl X "zip") (hm2 : X.mg "zip" = none) (he : PE X e te) (hgo : ∀ z v, letOwnedTupleGo tg z v = pure () := by intro _ _; rfl)
    (hst : starEach [.Starred e p3] X.env = [(true, eval e X.env)] := by rfl) : PI X tg (.Call (.Name "zip" p2) [.Starred e p3] [] pos2) (iZipN X.K te) := by
  refine ⟨fun pins s σ H R I h => ?_⟩
  refine Call_ (ld_blt I hg2 hm2 PyProof.Rows.boot_zip ?_)
  refine ZN.callWith_typeS (thn (he.run pins s σ H _ I h) fun v s1 ⟨y, H1, I1, ry, rs, hR, l1, l8, q⟩ => ?_) hst
  obtain ⟨a, xs, rfl, hxs, pxs⟩ : ∃ a xs, y = V.ref a ∧ (SqT X.K H1 a xs ∨ SqL X.K H1 a xs) ∧ Paired (fun x r => RowT X.K r x H1) xs rs := by
    rcases hR with ⟨a, xs, z1, z2, z3⟩ | ⟨a, xs, z1, z2, z3⟩
    · exact ⟨a, xs, z1, .inr z2, z3⟩
    · exact ⟨a, xs, z1, .inl z2, z3⟩
  obtain rfl : v = Value.ref a := ry
  refine StX.star_any I1 hxs fun us s2 I2 rv => ?_
  have key : ∃ srcs : List (Addr × Array Value), us = srcs.map (fun p => Value.ref p.1) ∧ srcs.length = rs.length ∧ (∀ q ∈ srcs, s2.heap.IsTuple q.1 q.2) ∧ Paired (fun q r => SqT X.K H1 q.1 (r.map V.int)) srcs rs := by
    clear q hR hxs l1 l8 h
    induction pxs generalizing us with
    | nil =>
      cases rv
      exact ⟨[], rfl, rfl, (fun _ q => nomatch q), .nil⟩
    | @cons x r xs R h _ ih =>
      cases rv with
      | @cons _ u _ us' ru rus =>
        obtain ⟨srcs, e1, e2, e3, e4⟩ := ih us' rus
        obtain ⟨b, rfl, hb⟩ := h
        obtain rfl : u = .ref b := ru
        obtain ⟨its, rv', p1, _⟩ := I2.tuple hb
        refine ⟨(b, its.toArray) :: srcs, by rw [e1]; rfl, by simp [e2], fun q hq => ?_, .cons hb e4⟩
        rcases List.mem_cons.mp hq with rfl | hq
        · exact p1
        · exact e3 q hq
  obtain ⟨srcs, rfl, ls, hsrc, hps⟩ := key
  refine ZN.call_zip srcs (by omega) (by omega) hsrc fun ts z TI TO h2 es D Z k gz gTO git gTI => ?_
  have lts : ts.length = rs.length := by rw [← ls, es, List.length_map]
  have hne : ts ≠ [] := fun z => by rw [z] at lts; simp at lts; omega
  have I3 : Inv X pins σ H1 { s2 with heap := h2 } := I2.kept (t' := s2.toks) k
  refine ZN.pyIter_zip Z ?_
  have ep : (ZN.prs ts).map Prod.snd = srcs.map Prod.fst := by rw [es]; unfold ZN.prs; rw [List.map_map, List.map_map]; rfl
  refine ⟨z, _, _, _, H1, rfl, I3, turn_zipN hgo D hne (by omega), Z.pairs, fun b hb => ?_, ?_⟩
  · have hle : s2.heap.objs.size ≤ b := by
      rcases List.mem_cons.mp hb with rfl | hb
      · exact gz
      rcases List.mem_cons.mp hb with rfl | hb
      · exact gTI
      rcases List.mem_cons.mp hb with rfl | hb
      · exact gTO
      obtain ⟨p, hp, rfl⟩ := List.mem_map.mp hb
      obtain ⟨t, ht, rfl⟩ := List.mem_map.mp hp
      exact git t ht
    exact I2.fpOk hle (I2.hok.fresh hle)
  · rw [ep]
    exact q _ (pairs_fst hps)
end
end K01


set_option Elab.async false
set_option linter.all false
set_option maxRecDepth 100000
set_option maxHeartbeats 4000000
/-! Tables one behind another, the still table, moving on -/
namespace K01
open PySem PySem.Spec PyProof.Rows L2
theorem walk_zipN {K : PySem.W.Frag} {as : List Addr} {R : List Row} {n : Nat} (hl : as.length = R.length) (ne : R ≠ []) (hn : ∀ r ∈ R, r.length = n) :
    Walk (ItzN K as) n (fun H => Paired (fun a r => SqT K H a (r.map V.int)) as R) (fun i H x H' => ∃ T, x = .ref T ∧ H T = none ∧ H' = upd H T (.tup ((R.map fun r => Lin.g r i).map V.int))) := by
  refine ⟨fun i H hi h a ha => ?_, fun H h a ha => ?_, fun i H x H' hi h y => ?_⟩
  · obtain ⟨r, hr, q⟩ := pr_mem h ha
    exact ⟨_, q, by rw [List.length_map, hn r hr]; exact hi⟩
  · obtain ⟨r, hr, q⟩ := pr_mem h ha
    exact ⟨_, q, by rw [List.length_map, hn r hr]; exact Nat.le_refl _⟩
  · obtain ⟨T, col, e1, e2, e3, e4, e5⟩ := y
    refine ⟨T, e1, e2, ?_⟩
    rw [e3]
    have : col = (R.map fun r => Lin.g r i).map V.int := by
      refine List.ext_getElem? fun j => ?_
      by_cases hj : j < as.length
      · obtain ⟨r, hr, q⟩ := pr_get h (List.getElem?_eq_getElem hj)
        rw [e5 j _ _ (List.getElem?_eq_getElem hj) q, List.getElem?_map, List.getElem?_map, List.getElem?_map, hr, Lin.g_get? (by rw [hn r (List.mem_of_getElem? hr)]; exact hi)]
        rfl
      · rw [List.getElem?_eq_none (by omega), List.getElem?_eq_none (by rw [List.length_map, List.length_map]; omega)]
    rw [this]
section
variable {P : Program} {w : World} {K : PySem.W.Frag} {mg : Str → Option Value} {base : Heap}
def spBoth (K : PySem.W.Frag) : Sp := fun vs H Q _ => ∃ (p : Int) (n : Nat) (v u : V) (A C : List Row), vs = [.int p, v, u] ∧ RowsT K A v H ∧ RowsT K C u H ∧ 1 < p ∧ p ≤ 100 ∧ 1 ≤ n ∧ n ≤ 8 ∧ Lin.Oks p n A ∧ A.length = n ∧ Lin.Oks p n C ∧ C.length = n ∧ Ret (RowsT K (Lin.behind p n A C)) H Q
def spStill (K : PySem.W.Frag) : Sp := fun vs H Q _ => ∃ n : Nat, vs = [.int (n : Nat)] ∧ n ≤ 100 ∧ Ret (RowsT K (Lin.units n)) H Q
def spStillM (K : PySem.W.Frag) : Sp := fun vs H Q _ => ∃ (p : Int) (n : Nat), vs = [.int p, .int (n : Nat)] ∧ n ≤ 100 ∧ Ret (MachT K p (Lin.units n) (Lin.units n) (Lin.units n)) H Q
end
end K01


set_option Elab.async false
set_option linter.all false
set_option maxRecDepth 100000
set_option maxHeartbeats 4000000
/-! The law of the parts: what stands beside what -/
namespace K01
open PySem PySem.Spec PyProof.Rows L2
section
variable {P : Program} {w : World} {K : PySem.W.Frag} {mg : Str → Option Value} {base : Heap}
theorem alike_row {r : Row} {v u : V} {H : Hp} (h : RowT K r v H) (h' : RowT K r u H) (hl : r.length ≤ 1000) : AlikeV K 1 v u H := by
  obtain ⟨a, rfl, ha⟩ := h
  obtain ⟨b, rfl, hb⟩ := h'
  refine .inr ⟨a, b, _, _, rfl, rfl, ha, hb, rfl, by rw [List.length_map]; exact hl, fun i u v e1 e2 => ?_⟩
  obtain ⟨x, hx, rfl⟩ := map_get e1
  obtain ⟨y, hy, rfl⟩ := map_get e2
  rw [hx] at hy
  exact ⟨x, rfl, by rw [Option.some.inj hy]⟩
theorem alike_rows {S : List Row} {v u : V} {H : Hp} (h : RowsT K S v H) (h' : RowsT K S u H) (hl : S.length ≤ 1000) (hr : ∀ r ∈ S, r.length ≤ 1000) : AlikeV K 2 v u H := by
  obtain ⟨a, xs, rfl, ha, pa⟩ := h
  obtain ⟨b, ys, rfl, hb, pb⟩ := h'
  have l1 := pr_len pa
  have l2 := pr_len pb
  refine .inr ⟨a, b, xs, ys, rfl, rfl, ha, hb, by omega, by omega, fun i x y e1 e2 => ?_⟩
  obtain ⟨r, hr1, hx⟩ := pr_get pa e1
  obtain ⟨r', hr2, hy⟩ := pr_get pb e2
  obtain rfl : r = r' := Option.some.inj (hr1.symm.trans hr2)
  exact alike_row hx hy (hr r (List.mem_of_getElem? hr1))
/-- apart from the drawer's row, or read in the written part -/
def Apt (K : PySem.W.Frag) (a c : Addr) (xs : List V) : Prop := c ≠ a ∨ SqL K (fun _ => none) c xs
theorem sqlN_up {c : Addr} {xs : List V} {H : Hp} (h : SqL K (fun _ => none) c xs) : SqL K H c xs := by
  rcases h with (h | ⟨_, h⟩) | h
  · cases h
  · cases h
  · exact .inr h
theorem apt_b {a c : Addr} {xs : List V} {H H' : Hp} (e : ExB a H H') (p : Apt K a c xs) (h : SqL K H c xs) : SqL K H' c xs := p.elim (fun n => sql_b e n h) fun q => sqlN_up q
theorem apt_rows {a sc c : Addr} {ns : List Int} {xs : List V} {L : List Row} {H : Hp} (r : Row0 K a sc ns H) (h : SqL K H c xs) (p : Paired (fun x r => RowT K r x H) xs L) : Apt K a c xs := by
  rcases h with (h | ⟨o, h⟩) | h
  · refine .inl fun z => ?_
    obtain ⟨i, sd, gr, ha, _⟩ := r
    rw [z, ha] at h
    have e : xs = [.ref sc, .int i, .int sd, .int gr] := by injection h with h; injection h with h; exact h.symm
    rw [e] at p
    obtain ⟨r', _, b, eb, _⟩ := pr_get p (i := 1) rfl
    cases eb
  · refine .inl fun z => ?_
    obtain ⟨i, sd, gr, ha, _⟩ := r
    rw [z, ha] at h
    cases h
  · exact .inr (.inr h)
def spPickW (K : PySem.W.Frag) : Sp := fun vs H Q _ => ∃ (a t sc : Addr) (ns : List Int) (xs : List V), vs = [.ref a, .ref t] ∧ Row0 K a sc ns H ∧ Apt K a t xs ∧ SqL K H t xs ∧ 1 ≤ xs.length ∧ xs.length ≤ 1000 ∧ ∀ (j : Nat) (v : V) H', xs[j]? = some v → ExB a H H' → Row0 K a sc ns H' → Q v H'
theorem ok_pickW {f : Addr} {fd : FuncData} (B : Bare mg) (F : Fun K "_law_pick" "_law_pick" s_law_pick f fd) (Gt : Got P w K mg base CX0 1 "_law_taken" p_law_taken (spTaken K)) : FnOk P w K mg base CX0 2 f fd p_law_pick (spPickW K) := by
  refine F.ok sc_law_pick (fun vs H Q E h => ?_) (fun cdv A outer s H vs Q E hr h => ?_)
  · obtain ⟨a, t, sc, ns, xs, rfl, _⟩ := h
    rfl
  · obtain ⟨a, t, sc, ns, xs, rfl, ha, nt, ht, h1, h2, q⟩ := h
    refine ⟨_, pss_one (ps_ret (pe_ix ix_list (pv 1) (pe_got Gt hr pass0 (pa_cons (pv 0) (pa_cons (pe_callB call_len_seq (by rfl) B.len PySem.boot_len (pa_cons (pv 1) pa_nil)) pa_nil))) (fun _ _ => rfl))), ?_⟩
    refine ⟨_, rfl, _, rfl, _, rfl, t, xs, rfl, .inl ht, a, sc, ns, _, rfl, ha, by omega, by omega, fun r H' r0 r1 e hr' => ?_⟩
    have hj : r.toNat < xs.length := by omega
    exact ⟨t, xs, r, xs[r.toNat], rfl, rfl, apt_b e nt ht, at_of (j := r.toNat) (by omega) (List.getElem?_eq_getElem hj), q _ _ _ (List.getElem?_eq_getElem hj) e hr'⟩
end
section
variable {p : Int} {n : Nat} {A W S L : List Row}
theorem MOk.prmL (M : MOk p n A W S) : Lin.Prm p := prm_of M.prm
theorem can_iff (M : MOk p n A W S) (lot : Lin.Lot p n (Lin.kry p A W 4) L) : ∀ v, v ∈ L ↔ Lin.Sp p n (reachR p n A W) v := fun v =>
  (lot.mem v).trans (Lin.kry_same M.p1 M.prmL M.oA M.lA M.oW M.n4 (Nat.le_succ n) v)
theorem never_iff (M : MOk p n A W S) : ∀ v, v ∈ dark p n A S ↔ blind p n A S v := fun v => by
  have hp0 : 0 < p := by have := M.p1; omega
  rw [mem_dark hp0]
  refine and_congr_right fun o => ?_
  refine (Lin.unseen_is M.p1 M.prmL M.oA M.lA M.oS M.n4 o).trans ?_
  exact Lin.perp_same hp0 (Lin.kry_ok hp0 Lin.tr_len M.oS) M.oLook (Lin.kry_same M.p1 M.prmL (Lin.tr_ok hp0 M.oA M.lA) Lin.tr_len M.oS M.n4 (Nat.le_succ n)) o.1
theorem dark_nd : (dark p n A S).Nodup := (Lin.all_nd n).filter _
theorem spans_stairs {F : List Row} {V1 : Row → Prop} {leads : List Nat} (hp : 1 < p) (h : Lin.Spans p n F V1) (nd : L.Nodup) (hL : ∀ v, v ∈ L ↔ V1 v) (srt : leads.Pairwise (· < ·)) (hm : ∀ a, a ∈ leads ↔ a ∈ (Lin.lawRows L).map Lin.lead) : Lin.lawStairs leads L = F :=
  Lin.stairs_of_space hp h.1 h.2 nd hL srt hm
theorem spans_count {F : List Row} {V1 : Row → Prop} (hp : 1 < p) (h : Lin.Spans p n F V1) (nd : L.Nodup) (hL : ∀ v, v ∈ L ↔ V1 v) : L.length = p.toNat ^ F.length := Lin.Space.count hp h.1 h.2 nd hL
theorem wp_good {K : PySem.W.Frag} {v : V} {G : Hp} (M : MOk p n A W S) (prm : isPrm (.int p) = true) (fA : Lin.Full p n A) (w1 : 1 ≤ W.length) (w4 : W.length ≤ 4) (s1 : 1 ≤ S.length) (s4 : S.length ≤ 4) (h : MachT K p A W S v G) : WP K G v none := by
  obtain ⟨m, a, w, s, rfl, h1, h2, h3, h4⟩ := h
  exact .good h1 prm ⟨h2, M.oA, M.lA, M.n1, M.n4, fA⟩ h3 M.oW w1 w4 h4 M.oS s1 s4
end
end K01


set_option Elab.async false
set_option linter.all false
set_option maxRecDepth 100000
set_option maxHeartbeats 4000000
namespace K01
open PySem PySem.Spec PyProof.Rows L2
/-! tables as data -/
def tabD (rs : List Row) : PyData := .tuple (rs.map rowD)
theorem rowD_eqv (r s : Row) : PyData.eqv (rowD r) (rowD s) = decide (r = s) := by
  unfold rowD
  rw [PyData.eqv, PySem.W.ked_eqvAll]
theorem tabD_all : ∀ rs ss : List Row, PyData.eqvAll (rs.map rowD) (ss.map rowD) = decide (rs = ss)
  | [], [] => rfl
  | [], _ :: _ => rfl
  | _ :: _, [] => rfl
  | r :: rs, s :: ss => by
    rw [List.map_cons, List.map_cons, PyData.eqvAll, rowD_eqv, tabD_all rs ss]
    by_cases h : r = s <;> by_cases h2 : rs = ss <;> simp [h, h2]
theorem tabD_eqv (rs ss : List Row) : PyData.eqv (tabD rs) (tabD ss) = decide (rs = ss) := by
  unfold tabD
  rw [PyData.eqv, tabD_all]
theorem tabD_shaped (rs : List Row) : SeqAt.shaped (tabD rs) = true := rowsD_shaped rs
theorem tabD_dp {K : PySem.W.Frag} {H : Hp} {rs : List Row} {v : V} (h : RowsT K rs v H) : Dp K H v (tabD rs) := by
  obtain ⟨a, xs, rfl, ha, pa⟩ := h
  exact .tup ha (rowsD_dp pa)
section
variable {P : Program} {w : World} {K : PySem.W.Frag} {mg : Str → Option Value} {base : Heap}
/-- the table that stirs so many times -/
def spOften (K : PySem.W.Frag) : Sp := fun vs H Q _ => ∃ (p : Int) (n : Nat) (v : V) (A : List Row) (t : Nat), vs = [.int p, v, .int (t : Nat)] ∧ RowsT K A v H ∧ 1 < p ∧ p ≤ 100 ∧ 1 ≤ n ∧ n ≤ 8 ∧ Lin.Oks p n A ∧ A.length = n ∧ Ret (RowsT K (Lin.pw p n A t)) H Q
end
end K01
namespace K01
open PySem PySem.Spec PyProof.Rows L2
section
variable {P : Program} {w : World} {K : PySem.W.Frag} {mg : Str → Option Value} {base : Heap}
def spCheckN (C : Addr) : Sp := fun vs H Q E => ∃ (x : V) (lo hi : Int), vs = [x, .int lo, .int hi] ∧ Flt x ∧ (isNum lo hi x = true → Ret (IsV .non) H Q) ∧ (isNum lo hi x = false → ∀ H', Ex H H' → E (.ref C) none H')
def spCheckMem (K : PySem.W.Frag) (C : Addr) : Sp := fun vs H Q E => ∃ (p : Int) (n : Nat) (v u : V) (A W S : List Row) (fs : List V), vs = [v, u] ∧ MachT K p A W S v H ∧ A.length = n ∧ TupF K fs u H ∧ (∀ x ∈ fs, Flt x) ∧ fs.length ≤ 1000 ∧ (isRowB p (n : Nat) fs = true → Ret (IsV .non) H Q) ∧ (isRowB p (n : Nat) fs = false → ∀ H', Ex H H' → E (.ref C) none H')
theorem ok_checkMem {f C : Addr} {fd : FuncData} (B : Bare mg) (F : Fun K "check_memory" "check_memory" s_check_memory f fd) (Gr : Got P w K mg base CX0 2 "is_row" p_is_row (spIsRow K)) (Ec : ErrC K mg "BadMemory" C) : FnOk P w K mg base (L2.CX P w) 3 f fd p_check_memory (spCheckMem K C) := by
  refine F.okX sc_check_memory (fun vs H Q E h => ?_) (fun cdv Ar outer s H vs Q E hr h => ?_)
  · obtain ⟨p, n, v, u, A, W, S, fs, rfl, _⟩ := h
    rfl
  · obtain ⟨p, n, v, u, A, W, S, fs, rfl, hM, lA, hT, hF, hl, q1, q2⟩ := h
    refine ⟨_, pss_one (ps_if (pt_not (pt_val (pe_got Gr hr pass0 (pa_cons (pe_ix ix_tup (pv 0) pe_int (fun _ _ => rfl)) (pa_cons (pv 1) (pa_cons (pe_callB call_len_seq (by rfl) B.len PySem.boot_len (pa_cons (pe_ix ix_tup (pv 0) pe_int (fun _ _ => rfl)) pa_nil)) pa_nil)))))) (pss_one (ps_raise rfl (takes_of rfl rfl rfl rfl) (pmk_own0 PySem.F.excBase_ValueError Ec.xC Ec.gC Ec.kC (raises_own Ec.bC Ec.tC) rfl))) pss_nil), ?_⟩
    obtain ⟨m, a, w', s', rfl, hm, ⟨ab, aus, rfl, hab, pab⟩, hW, hS⟩ := hM
    have la : aus.length = n := (pr_len pab).trans lA
    refine ⟨_, rfl, m, _, _, _, rfl, rfl, hm, at_of (j := 0) rfl rfl, _, rfl, _, rfl, m, _, _, _, rfl, rfl, hm, at_of (j := 1) rfl rfl, ab, aus, rfl, .inr hab, ?_⟩
    refine ⟨p, u, fs, _, rfl, hT, hF, hl, fun z H1 e1 ez => ?_⟩
    cases (show z = _ from ez)
    rw [la]
    refine ⟨_, rfl, ite2 (fun c => ?_) (fun c => ?_)⟩
    · exact q2 (by simpa using c) _ e1
    · exact q1 (by simpa using c) _ _ e1 rfl
/-- behind so many ticks; a memory that is none -/
def spBehind (K : PySem.W.Frag) (CM : Addr) : Sp := fun vs H Q E => ∃ (p : Int) (n : Nat) (v u : V) (A W S : List Row) (fs : List V) (t : Nat), vs = [v, u, .int (t : Nat)] ∧ WP K H v none ∧ MachT K p A W S v H ∧ MOk p n A W S ∧ TupF K fs u H ∧ (∀ x ∈ fs, Flt x) ∧ fs.length ≤ 1000 ∧
  ((isRowB p (n : Nat) fs = false ∧ ∀ H', Ex H H' → E (.ref CM) none H') ∨ ∃ r : Row, fs = r.map V.int ∧ Lin.OkR p n r ∧ t ≤ 100000 ∧ Ret (RowT K (Lin.it p A t r)) H Q)
theorem isRowB_of {p : Int} {n : Nat} {r : Row} (h : Lin.OkR p n r) : isRowB p (n : Nat) (r.map V.int) = true := by
  unfold isRowB
  rw [List.length_map, h.1, decide_eq_true rfl, Bool.true_and, List.all_map, List.all_eq_true]
  intro x hx
  have := h.2 x hx
  simp [isNum]
  omega
/-- the round -/
def Rnd (p : Int) (n : Nat) (A : List Row) (v : V) (_ : Hp) : Prop := ∃ t : Nat, v = .int (t : Nat) ∧ 1 ≤ t ∧ Lin.pw p n A t = Lin.units n ∧ ∀ s, 1 ≤ s → s < t → Lin.pw p n A s ≠ Lin.units n
def rTurns : Int → Nat → List Row → List Row → List Row → V → Hp → Prop := fun p n A W S v H => Rnd p n A v H
theorem round_of {p : Int} {n : Nat} {A : List Row} (hp : 1 < p) (P_ : Lin.Prm p) (oA : Lin.Oks p n A) (lA : A.length = n) (f : Lin.Full p n A) : ∃ t, 1 ≤ t ∧ Lin.pw p n A t = Lin.units n ∧ ∀ s, 1 ≤ s → s < t → Lin.pw p n A s ≠ Lin.units n := by
  obtain ⟨S, rS, sS⟩ := Lin.exists_rref hp P_ oA
  exact Lin.round hp oA lA rS ((Lin.full_rank hp rS sS).1 f) sS
/-- asked of a machine that can be undone -/
def AsksF (K : PySem.W.Frag) (C : Addr) (R : Int → Nat → List Row → List Row → List Row → V → Hp → Prop) : Sp := fun vs H Q E => ∃ v, vs = [v] ∧ ((∃ z, WP K H v (some z) ∧ ∀ d H', Ex H H' → H' d = some (.xd [("part", .str z)]) → E (.ref C) (some d) H') ∨
  ∃ (p : Int) (n : Nat) (A W S : List Row), WP K H v none ∧ MachT K p A W S v H ∧ MOk p n A W S ∧ Lin.Full p n A ∧ Ret (R p n A W S) H Q)
end
end K01


set_option Elab.async false
set_option linter.all false
set_option maxRecDepth 100000
set_option maxHeartbeats 4000000
/-! All but lists and tables stands; slots by number; the lambdas of a text -/
namespace K01
open PySem PySem.Spec PyProof.Rows L2 LamX
/-- what never changes -/
def fixO : HO → Bool
  | .tup _ => true
  | .frz _ _ => true
  | .ext _ => true
  | .rng _ _ => true
  | _ => false
/-- all that never changes stands -/
def Kp (H H' : Hp) : Prop := ∀ a o, H a = some o → fixO o = true → H' a = some o
theorem Kp.refl (H : Hp) : Kp H H := fun _ _ h _ => h
theorem Kp.trans {H H1 H2 : Hp} (a : Kp H H1) (b : Kp H1 H2) : Kp H H2 := fun c o h f => b c o (a c o h f) f
theorem ExN.k {H H' : Hp} (e : ExN H H') : Kp H H' := fun a o h f => e a o h fun xs z => by rw [z] at f; cases f
theorem Ex.k {H H' : Hp} (e : Ex H H') : Kp H H' := fun a o h _ => e a o h
theorem ExtN.k {H H' : Hp} (e : ExtN H H') : Kp H H' := fun a o h f => e a o h fun xs z => by rw [z] at f; cases f
theorem kp_new {H : Hp} {a : Addr} {o : HO} (n : H a = none) : Kp H (upd H a o) := (ExtN.k (extN_new n))
theorem kp_mut {H : Hp} {a : Addr} {u o : HO} (h : H a = some u) (m : fixO u = false) : Kp H (upd H a o) := fun b v e f => by
  rw [upd_ne (fun z => by rw [z, h] at e; cases e; rw [m] at f; cases f)]
  exact e
theorem kp_lst {H : Hp} {a : Addr} {xs : List V} {o : HO} (h : H a = some (.lst xs)) : Kp H (upd H a o) := kp_mut h rfl
theorem kp_b {H H' : Hp} {a : Addr} {u : HO} (h : H a = some u) (m : fixO u = false) (e : ExB a H H') : Kp H H' := fun b v hb f => e b v (fun z => by rw [z, h] at hb; cases hb; rw [m] at f; cases f) hb
section
variable {K : PySem.W.Frag} {H H' : Hp}
theorem sqt_k {a : Addr} {xs : List V} (e : Kp H H') (h : SqT K H a xs) : SqT K H' a xs := by
  rcases h with (h | ⟨o, h⟩) | h
  · exact .inl (.inl (e _ _ h rfl))
  · exact .inl (.inr ⟨o, e _ _ h rfl⟩)
  · exact .inr h
theorem RowT.k {r : Row} {v : V} (e : Kp H H') (h : RowT K r v H) : RowT K r v H' := by
  obtain ⟨a, z, q⟩ := h
  exact ⟨a, z, sqt_k e q⟩
theorem RowsT.k {rs : List Row} {v : V} (e : Kp H H') (h : RowsT K rs v H) : RowsT K rs v H' := by
  obtain ⟨a, vs, z, q, p⟩ := h
  exact ⟨a, vs, z, sqt_k e q, pr_mono p fun _ _ x => x.k e⟩
theorem TupF.k {fs : List V} {v : V} (e : Kp H H') (h : TupF K fs v H) : TupF K fs v H' := by
  obtain ⟨a, z, q⟩ := h
  exact ⟨a, z, sqt_k e q⟩
theorem MachT.k {p : Int} {A W S : List Row} {v : V} (e : Kp H H') (h : MachT K p A W S v H) : MachT K p A W S v H' := by
  obtain ⟨m, a, w, s, h1, h2, h3, h4, h5⟩ := h
  exact ⟨m, a, w, s, h1, sqt_k e h2, h3.k e, h4.k e, h5.k e⟩
theorem IsLam.k {env : Env} {ps : Arguments} {b : Expr} {sc0 : Scope} {dd : Option Int} {f : Addr} (k : Kp H H') (h : IsLam env ps b sc0 dd f H) : IsLam env ps b sc0 dd f H' := by
  obtain ⟨c', dV, pm, ct, h1, h2, h3⟩ := h
  refine ⟨c', dV, pm, ct, k _ _ h1 rfl, k _ _ h2 rfl, ?_⟩
  cases dd with
  | none => exact h3
  | some i =>
    obtain ⟨t, h4, h5⟩ := h3
    exact ⟨t, h4, k _ _ h5 rfl⟩
theorem tabs_n {T : List (Addr × Str)} (k : ExN H H') (h : Tabs T H) : Tabs T H' := by
  intro q hq
  obtain ⟨ps, h1, h2, h3⟩ := h q hq
  refine ⟨ps, k _ _ h1 (fun _ z => by cases z), h2, fun pos cv hc => ?_⟩
  obtain ⟨c, e1, e2⟩ := h3 pos cv hc
  exact ⟨c, e1, k _ _ e2 fun xs z => by unfold CodeO at z; cases z⟩
/-- tables stay where only a told object changes, which is no table -/
theorem tabs_x {T : List (Addr × Str)} {x : Addr} {u : HO} (hx : H x = some u) (nt : ∀ ps, u ≠ .tbl ps) (nf : fixO u = false) (e : ExB x H H') (h : Tabs T H) : Tabs T H' := by
  intro q hq
  obtain ⟨ps, h1, h2, h3⟩ := h q hq
  refine ⟨ps, e _ _ (fun z => by rw [z, hx] at h1; exact nt _ (Option.some.inj h1)) h1, h2, fun pos cv hc => ?_⟩
  obtain ⟨c, e1, e2⟩ := h3 pos cv hc
  exact ⟨c, e1, kp_b hx nf e _ _ e2 rfl⟩
theorem sql_xt {a : Addr} {xs : List V} (e : ExtN H H') (h : SqL K H a xs) : SqL K H' a xs := by
  rcases h with (h | ⟨o, h⟩) | h
  · exact .inl (.inl (e _ _ h fun _ z => by cases z))
  · exact .inl (.inr ⟨o, e _ _ h fun _ z => by cases z⟩)
  · exact .inr h
theorem Row0.xt {a sc : Addr} {ns : List Int} (e : ExtN H H') (h : Row0 K a sc ns H) : Row0 K a sc ns H' := by
  obtain ⟨i, sd, gr, h1, h2, h3, h4⟩ := h
  exact ⟨i, sd, gr, e _ _ h1 fun _ z => (by cases z), h2, sql_xt e h3, h4⟩
/-- a list stands where only a told object changes, which is none -/
theorem sql_x {a x : Addr} {xs : List V} {u : HO} (hx : H x = some u) (nl : ∀ ys, u ≠ .lst ys) (nf : fixO u = false) (e : ExB x H H') (h : SqL K H a xs) : SqL K H' a xs := by
  rcases h with (h | ⟨o, h⟩) | h
  · exact .inl (.inl (e _ _ (fun z => by rw [z, hx] at h; exact nl _ (Option.some.inj h)) h))
  · exact .inl (.inr ⟨o, kp_b hx nf e _ _ h rfl⟩)
  · exact .inr h
theorem Row0.x {a x sc : Addr} {ns : List Int} {u : HO} (hx : H x = some u) (nl : ∀ ys, u ≠ .lst ys) (nf : fixO u = false) (e : ExB x H H') (h : Row0 K a sc ns H) : Row0 K a sc ns H' := by
  obtain ⟨i, sd, gr, h1, h2, h3, h4⟩ := h
  exact ⟨i, sd, gr, e _ _ (fun z => by rw [z, hx] at h1; exact nl _ (Option.some.inj h1)) h1, h2, sql_x hx nl nf e h3, h4⟩
end
/-- len, told with the outer K -/
def rLenK (K : PySem.W.Frag) : List V → Hp → VK → Prop := fun xs H Q => ∃ p ys, xs = [.ref p] ∧ (SqL K H p ys ∨ SqT K H p ys) ∧ Q (.int (ys.length : Nat)) H
/-! ### slots -/
def Keep (n : Nat) (L : List (Nat × V)) (σ : L2.St) : Prop := σ.length = n ∧ ∀ i v, (i, v) ∈ L → σ[i]? = some (some v)
section
variable {n : Nat} {L : List (Nat × V)} {σ : L2.St}
theorem lookup_mem : ∀ {L : List (Nat × V)} {i : Nat} {v : V}, L.lookup i = some v → (i, v) ∈ L
  | [], _, _, h => by cases h
  | (j, u) :: L, i, v, h => by
    rw [List.lookup_cons] at h
    by_cases e : i = j
    · subst e
      rw [show (i == i) = true by simp] at h
      cases h
      exact List.mem_cons_self
    · rw [show (i == j) = false by simp [e]] at h
      exact List.mem_cons_of_mem _ (lookup_mem h)
theorem Keep.get (h : Keep n L σ) {i : Nat} {v : V} (m : L.lookup i = some v) : σ[i]? = some (some v) := h.2 i v (lookup_mem m)
theorem not_in {i : Nat} (d : (L.map (·.1)).contains i = false) : i ∉ L.map (·.1) := fun z => by
  rw [List.contains_iff_mem.mpr z] at d
  cases d
theorem Keep.put {i : Nat} (x : Option V) (h : Keep n L σ) (d : (L.map (·.1)).contains i = false) : Keep n L (σ.set i x) := by
  have d := not_in d
  refine ⟨by rw [List.length_set]; exact h.1, fun j v m => ?_⟩
  rw [List.getElem?_set_ne (fun z => d (by rw [z]; exact List.mem_map_of_mem (f := (·.1)) m))]
  exact h.2 j v m
theorem Keep.add {i : Nat} {v : V} (h : Keep n L σ) (hi : i < n) (d : (L.map (·.1)).contains i = false) : Keep n ((i, v) :: L) (σ.set i (some v)) := by
  have h2 := h.put (some v) d
  refine ⟨h2.1, fun j u m => ?_⟩
  rcases List.mem_cons.mp m with z | z
  · cases z
    exact List.getElem?_set_self (by rw [h.1]; exact hi)
  · exact h2.2 j u z
theorem Keep.sub {L' : List (Nat × V)} (h : Keep n L σ) (s : ∀ x ∈ L', x ∈ L) : Keep n L' σ := ⟨h.1, fun i v m => h.2 i v (s _ m)⟩
theorem Keep.at_ {i : Nat} {x : Option V} (h : Keep n L σ) (hi : i < n) : (σ.set i x)[i]? = some x := List.getElem?_set_self (by rw [h.1]; exact hi)
end
/-! ### lambdas -/
def noLam : Arguments × Expr × Scope := (⟨[], [], none, [], [], none, []⟩, .Constant .none 0 ⟨0, 0, 0, 0⟩, ⟨.function, [], false, false, []⟩)
def lamOf : Option Expr → Arguments × Expr × Scope
  | some (.Lambda a b c _) => (a, b, c)
  | _ => noLam
def lamWB (out sc : Scope) (N : List Str) : Bool :=
  decide (sc.kind = .function) && !sc.isCoroutine && !sc.isGenerator && sc.names.all fun y => !decide (y.2 = .cell) && (!decide (y.2 = .local) || !N.contains y.1) && (!decide (y.2 = .free) || decide (out.names.lookup y.1 = some .cell) || decide (out.names.lookup y.1 = some .free))
theorem lamW_by {out sc : Scope} {N : List Str} (h : lamWB out sc N = true) : LamW out sc N := by
  unfold lamWB at h
  simp only [Bool.and_eq_true, Bool.or_eq_true, Bool.not_eq_true', decide_eq_true_eq, decide_eq_false_iff_not, List.all_eq_true] at h
  obtain ⟨⟨⟨h1, h2⟩, h3⟩, h4⟩ := h
  refine ⟨h1, h2, h3, fun y hy => ⟨(h4 y hy).1.1, fun e hm => ?_⟩, fun y hy e => ?_⟩
  · rcases (h4 y hy).1.2 with z | z
    · exact z e
    · rw [List.contains_iff_mem.mpr hm] at z
      cases z
  · rcases (h4 y hy).2 with (z | z) | z
    · exact absurd e z
    · exact .inl z
    · exact .inr z
end K01


set_option Elab.async false
set_option linter.all false
set_option maxRecDepth 100000
set_option maxHeartbeats 4000000
/-! Memories at first: told_by, where two are first told apart -/
namespace K01
open PySem PySem.Spec PyProof.Rows L2
/-- the first pair of which df holds -/
def Fst2 (N b : Nat) (df : Nat → Nat → Prop) : Option (Nat × Nat) → Prop
  | none => ∀ t s, t < N → s < b → ¬ df t s
  | some (t, s) => t < N ∧ s < b ∧ df t s ∧ (∀ t' s', t' < t → s' < b → ¬ df t' s') ∧ ∀ s', s' < s → ¬ df t s'
theorem Fst2.one {N N' b : Nat} {df : Nat → Nat → Prop} {r r' : Option (Nat × Nat)} (h : Fst2 N b df r) (h' : Fst2 N' b df r') (le : N ≤ N') (all : (∀ t s, t < N → s < b → ¬ df t s) → ∀ t s, s < b → ¬ df t s) : r = r' := by
  rcases r with _ | ⟨t, s⟩
  · rcases r' with _ | ⟨t', s'⟩
    · rfl
    · obtain ⟨h1, h2, h3, _⟩ := h'
      exact absurd h3 (all h t' s' h2)
  · obtain ⟨h1, h2, h3, h4, h5⟩ := h
    rcases r' with _ | ⟨t', s'⟩
    · exact absurd h3 (h' t s (by omega) h2)
    · obtain ⟨g1, g2, g3, g4, g5⟩ := h'
      rcases Nat.lt_trichotomy t t' with z | z | z
      · exact absurd h3 (g4 t s z h2)
      · subst z
        rcases Nat.lt_trichotomy s s' with z | z | z
        · exact absurd h3 (g5 s z)
        · rw [z]
        · exact absurd g3 (h5 s' z)
      · exact absurd g3 (h4 t' s' z g2)
def PairT (K : PySem.W.Frag) : Option (Nat × Nat) → V → Hp → Prop
  | none, v, _ => v = .non
  | some (t, s), v, H => RowT K [(t : Nat), (s : Nat)] v H
/-- a sight tells two memories apart so many ticks later -/
def dfs (p : Int) (A S : List Row) (u v : Row) (t s : Nat) : Prop := Lin.dot p (Lin.it p A t u) (S.getD s []) ≠ Lin.dot p (Lin.it p A t v) (S.getD s [])
section
variable {P : Program} {w : World} {K : PySem.W.Frag} {mg : Str → Option Value} {base : Heap}
theorem ok_told_by {f : Addr} {fd : FuncData} (B : Bare mg) (F : Fun K "told_by" "told_by" s_told_by f fd) (Gm : Got P w K mg base CX0 1 "meet" p_meet (spMet K)) : FnOk P w K mg base CX0 2 f fd p_told_by (spPStirred K) := by
  refine F.ok sc_told_by (fun vs H Q E h => ?_) (fun cdv Ar outer s H vs Q E hr h => ?_)
  · obtain ⟨p, n, v, u, A, r, rfl, _⟩ := h
    rfl
  · obtain ⟨p, n, v, u, A, r, rfl, hA, hr0, h1, h2, hn, oA, lA, oR, q⟩ := h
    refine ⟨_, pss_one (ps_ret (pe_callTy call_tuple_of (by rfl) B.tuple (by decide +kernel) (pa_cons (pe_lc (own := [("row", 3)]) (g := gName 3) (tt := tYes) rfl sc_told_by.nd (pi_seq (pv 1)) (blkOk_by (N := n_told_by) (sc := defScope s_told_by) (by decide +kernel))
      (fun _ _ _ _ _ => pg_name (i := 3) sc_told_by.nd rfl (Or.inl rfl)) (fun _ _ _ _ _ => pts_nil) (fun _ _ _ _ _ => pe_got Gm hr pass0 (pa_cons (pv 0) (pa_cons (pv 3) (pa_cons (pv 2) pa_nil))))) pa_nil))), ?_⟩
    have turn : ∀ (us : List V), Paired (fun x r => RowT K r x H) us A → ∀ (i : Nat) (d : Row) (x : V) (H1 H2 : Hp), A[i]? = some d → Ex H H1 → YAt us i H1 x H2 → ∀ (C : V → Hp → Prop) (N : Hp → Prop), (true = true → ∀ y H3, Ex H1 H3 → IsV (.int (Lin.dot p d r)) y H3 → C y H3) → (true = false → ∀ H3, Ex H1 H3 → N H3) →
        gName 3 x (wipe [some (.int p), some v, some u, none] [3]) H2 fun σ2 H2' => wipe σ2 [3] = wipe [some (.int p), some v, some u, none] [3] ∧ tYes σ2 H2' fun b H3 => if b = true then tCall (spMet K) [] E0 (tCons (tVar 0) (tCons (tVar 3) (tCons (tVar 2) tNil))) σ2 H3 C else N H3 := by
      intro us pb i d x H1 H2 hn1 e y C N hC hN
      obtain ⟨rfl, ex'⟩ := y
      obtain ⟨d', hd', rd⟩ := pr_get pb ex'
      obtain rfl : d' = d := Option.some.inj (hd'.symm.trans hn1)
      have od := oA d' (List.mem_of_getElem? hd')
      exact ⟨rfl, yes_go ⟨_, rfl, _, rfl, _, rfl, p, x, u, d', r, rfl, rd.ex e, hr0.ex e, by rw [od.1, oR.1], by omega, fun z hz => (by have := od.2 z hz; omega), by rw [od.1]; omega, fun z H3 e3 ez => hC rfl z H3 e3 ez⟩⟩
    have fin : ∀ (D : Addr) (ys : List V) (H' : Hp), H D = none → Ex H H' → H' D = some (.lst ys) → Paired (fun y d => IsV (.int (Lin.dot p d r)) y H') ys (A.filter fun _ => true) → rTupK K [.ref D] H' Q := by
      intro D ys H' nD e hD hy
      rw [filter_yes] at hy
      have ey : ys = (Lin.app p A r).map V.int := by
        rw [pr_fun hy]
        unfold Lin.app
        rw [List.map_map]
        rfl
      subst ey
      exact ⟨D, _, rfl, .inl ⟨SqL.of hD, fun l hl => q _ _ (e.trans (_root_.Evl.Ex.new hl)) (RowT.new upd_same)⟩⟩
    rcases hA with ⟨b, us, rfl, hb, pb⟩ | ⟨b, us, rfl, hb, pb⟩
    · have lu := pr_len pb
      refine .inl ⟨_, rfl, b, rfl, ⟨_, hb⟩, ?_⟩
      exact lc_go (walk_list (xs := us)) (by omega) (fun H' e => _root_.Evl.ex_l e hb) A lu.symm (fun _ => true) (fun row => IsV (.int (Lin.dot p row r))) (fun _ _ _ _ _ h => h) (turn us pb) fin
    · have lu := pr_len pb
      refine .inr ⟨_, rfl, b, rfl, ⟨_, hb⟩, ?_⟩
      exact lc_go (walk_tup (xs := us)) (by omega) (fun H' e => _root_.Evl.ex_t e hb) A lu.symm (fun _ => true) (fun row => IsV (.int (Lin.dot p row r))) (fun _ _ _ _ _ h => h) (turn us pb) fin
def spSeen (K : PySem.W.Frag) : Sp := fun vs H Q _ => ∃ (p : Int) (n : Nat) (mv ov uv : V) (A W S : List Row) (u v : Row), vs = [mv, ov, uv] ∧ MachT K p A W S mv H ∧ MOk p n A W S ∧ RowT K u ov H ∧ RowT K v uv H ∧ Lin.OkR p n u ∧ Lin.OkR p n v ∧ Ret (fun x H => ∃ r, Fst2 n S.length (dfs p A S u v) r ∧ PairT K r x H) H Q
theorem ok_seen {f : Addr} {fd : FuncData} (B : Bare mg) (F : Fun K "first_seen_apart" "first_seen_apart" s_first_seen_apart f fd) (Gt : Got P w K mg base CX0 2 "told_by" p_told_by (spPStirred K)) (Gs : Got P w K mg base CX0 2 "stirred" p_stirred (spPStirred K)) :
    FnOk P w K mg base CX0 3 f fd p_first_seen_apart (spSeen K) := by
  refine F.ok sc_first_seen_apart (fun vs H Q E h => ?_) (fun cdv Ar outer s H vs Q E hr h => ?_)
  · obtain ⟨p, n, mv, ov, uv, A, W, S, u, v, rfl, _⟩ := h
    rfl
  · obtain ⟨p, n, mv, ov, uv, A, W, S, u, v, rfl, hM, M, hu, hv, ou, ow, q⟩ := h
    refine ⟨_, pss_cons (ps_asg (pv 0) (pg_tup rfl (pgs_cons (pg_name (i := 3) sc_first_seen_apart.nd rfl (Or.inl rfl)) (pgs_cons (pg_name (i := 4) sc_first_seen_apart.nd rfl (Or.inl rfl)) (pgs_cons (pg_name (i := 5) sc_first_seen_apart.nd rfl (Or.inl rfl)) (pgs_cons (pg_name (i := 6) sc_first_seen_apart.nd rfl (Or.inl rfl)) pgs_nil))))))
      (pss_cons (ps_for PassesOwn.never rfl (pi_range1 rfl B.range (pa_cons (pe_callB call_len_seq (by rfl) B.len PySem.boot_len (pa_cons (pv 4) pa_nil)) pa_nil)) (pg_name (i := 7) sc_first_seen_apart.nd rfl (Or.inl rfl))
        (pss_cons (ps_for PassesOwn.never rfl (pi_enumT (by rfl) B.enumerate (pa_cons (pv 6) pa_nil)) (pg_tup rfl (pgs_cons (pg_name (i := 8) sc_first_seen_apart.nd rfl (Or.inl rfl)) (pgs_cons (pg_name (i := 9) sc_first_seen_apart.nd rfl (Or.inl rfl)) pgs_nil)))
          (pss_cons (ps_asg (pe_got Gt hr pass0 (pa_cons (pv 3) (pa_cons (pe_tup (pa_cons (pv 1) (pa_cons (pv 2) pa_nil))) (pa_cons (pv 9) pa_nil)))) (pg_tup rfl (pgs_cons (pg_name (i := 10) sc_first_seen_apart.nd rfl (Or.inl rfl)) (pgs_cons (pg_name (i := 11) sc_first_seen_apart.nd rfl (Or.inl rfl)) pgs_nil))))
          (pss_one (ps_if (pt_cmpR op_ne (pv 10) (pv 11) (nomark _)) (pss_one (ps_ret (pe_tup (pa_cons (pv 7) (pa_cons (pv 8) pa_nil))))) pss_nil))))
        (pss_one (ps_par (i := 1) (j := 2) rfl sc_first_seen_apart.nd rfl rfl (by decide) rfl rfl (pa_cons (pe_got Gs hr pass0 (pa_cons (pv 3) (pa_cons (pv 4) (pa_cons (pv 1) pa_nil)))) (pa_cons (pe_got Gs hr pass0 (pa_cons (pv 3) (pa_cons (pv 4) (pa_cons (pv 2) pa_nil)))) pa_nil)) (by rfl)))))
      (pss_one (ps_ret pe_non))), ?_⟩
    obtain ⟨m, av, wv, sv, rfl, hm, hA, hW, hS⟩ := id hM
    have n4 := M.n4
    have lA := M.lA
    have lS := M.lS
    have p1 := M.p1
    have hp0 : 0 < p := by omega
    refine ⟨_, rfl, m, _, rfl, hm, rfl, _, _, rfl, _, _, rfl, _, _, rfl, _, _, rfl, rfl, ?_⟩
    obtain ⟨ab, aus, rfl, hab, pab⟩ := id hA
    have la := (pr_len pab).trans lA
    obtain ⟨sb, sus, rfl, hsb, psb⟩ := id hS
    have ls := pr_len psb
    refine ⟨_, rfl, ab, aus, rfl, .inr hab, _, rfl, by omega, by omega, ?_⟩
    rw [la, Int.toNat_natCast]
    refine for_range (lo := 0) (n := n) (fun i σ' G => ∃ (o1 o2 : V) (y7 y8 y9 y10 y11 : Option V), σ' = [some (.ref m), some o1, some o2, some (.int p), some (.ref ab), some wv, some (.ref sb), y7, y8, y9, y10, y11] ∧ Ex H G ∧ RowT K (Lin.it p A i u) o1 G ∧ RowT K (Lin.it p A i v) o2 G ∧ ∀ t s, t < i → s < S.length → ¬ dfs p A S u v t s)
      ⟨ov, uv, none, none, none, none, none, rfl, _root_.Evl.Ex.refl _, hu, hv, fun t s h => by omega⟩ (fun i σ' G hi p' => ?_) fun σ' G p' => ?_
    · obtain ⟨o1, o2, y7, y8, y9, y10, y11, rfl, eG, h1, h2, b1⟩ := p'
      rw [Int.zero_add]
      have u1 := Lin.it_ok hp0 lA ou i
      have u2 := Lin.it_ok hp0 lA ow i
      refine ⟨_, rfl, sb, _, rfl, _root_.Evl.ex_t eG hsb, ?_⟩
      refine for_it walk_enumT (fun j σ' G2 => (∃ (y8 y9 y10 y11 : Option V), σ' = [some (.ref m), some o1, some o2, some (.int p), some (.ref ab), some wv, some (.ref sb), some (.int (i : Nat)), y8, y9, y10, y11]) ∧ Ex G G2 ∧ ∀ s, s < j → ¬ dfs p A S u v i s)
        ⟨⟨y8, y9, y10, y11, rfl⟩, _root_.Evl.Ex.refl _, fun s h => by omega⟩ (fun j σ' G2 _ p => _root_.Evl.ex_t (eG.trans p.2.1) hsb) (fun j x σ' G1 G2 hj p' y => ?_) fun σ' G2 p' => ?_
      · obtain ⟨⟨y8, y9, y10, y11, rfl⟩, e1, b2⟩ := p'
        obtain ⟨T, x1, x2, rfl, nT, rfl, f1, f2⟩ := y
        obtain rfl := Option.some.inj f1
        obtain ⟨r, gr, hr2⟩ := pr_get psb f2
        have e2 : Ex G (upd G1 T (.tup [.int (j : Nat), x2])) := e1.trans (_root_.Evl.Ex.new nT)
        refine ⟨T, _, rfl, SqT.of upd_same, rfl, _, _, rfl, _, _, rfl, rfl, ?_⟩
        generalize upd G1 T (.tup [.int (j : Nat), x2]) = G2 at e2 ⊢
        have or := M.oS r (List.mem_of_getElem? gr)
        refine ⟨_, rfl, _, rfl, _, rfl, (by show 2 ≤ sizeLine; decide), fun l nl => ?_⟩
        have e3 := e2.trans (_root_.Evl.Ex.new (o := .tup [o1, o2]) nl)
        have hl := upd_same (H := G2) (a := l) (o := .tup [o1, o2])
        generalize upd G2 l (.tup [o1, o2]) = G3 at e3 hl ⊢
        refine ⟨_, rfl, p, n, .ref l, x2, [Lin.it p A i u, Lin.it p A i v], r, rfl, .inr ⟨l, _, rfl, SqT.of hl, .cons (h1.ex e3) (.cons (h2.ex e3) .nil)⟩, hr2.ex (eG.trans e3), p1, M.p2, by omega, (fun x hx => ?_), (by show 2 ≤ 1000; decide), or, fun z G4 e4 hz => ?_⟩
        · simp only [List.mem_cons, List.not_mem_nil, or_false] at hx
          rcases hx with rfl | rfl
          · exact u1
          · exact u2
        obtain ⟨zb, rfl, hzb⟩ := hz
        have e34 := e3.trans e4
        refine ⟨zb, _, rfl, hzb, rfl, _, _, rfl, _, _, rfl, rfl, ?_⟩
        refine ⟨_, rfl, _, rfl, rfl, _, rfl, ite2 (fun c => ?_) (fun c => ?_)⟩
        all_goals have ed : dfs p A S u v i j ↔ Lin.dot p (Lin.it p A i u) r ≠ Lin.dot p (Lin.it p A i v) r := by
                    unfold dfs
                    rw [List.getD_eq_getElem?_getD, gr]
                    rfl
        · refine ⟨_, rfl, _, rfl, (by show 2 ≤ sizeLine; decide), fun tt nt => ?_⟩
          have hj' : j < S.length := by rw [← ls]; exact hj
          exact q _ _ ((eG.trans e34).trans (_root_.Evl.Ex.new nt)) ⟨some (i, j), ⟨hi, hj', ed.2 (dne c), b1, b2⟩, tt, rfl, SqT.of upd_same⟩
        · refine ⟨⟨_, _, _, _, rfl⟩, e34, fun s hs => ?_⟩
          rcases Nat.lt_or_ge s j with z | z
          · exact b2 s z
          · have : s = j := by omega
            rw [this]
            exact fun z => (ed.1 z) (deq c)
      · obtain ⟨⟨y8, y9, y10, y11, rfl⟩, e1, b2⟩ := p'
        have e01 := eG.trans e1
        refine ⟨_, rfl, _, rfl, _, rfl, p, n, .ref ab, o1, A, _, rfl, .inr (hA.ex e01), h1.ex e1, p1, M.p2, by omega, M.oA, by omega, u1, fun z1 G3 e3 hz1 => ?_⟩
        refine ⟨_, rfl, _, rfl, _, rfl, p, n, .ref ab, o2, A, _, rfl, .inr ((hA.ex e01).ex e3), (h2.ex e1).ex e3, p1, M.p2, by omega, M.oA, by omega, u2, fun z2 G4 e4 hz2 => ?_⟩
        refine ⟨_, _, rfl, ?_⟩
        refine ⟨z1, z2, _, _, _, _, _, rfl, (e01.trans e3).trans e4, hz1.ex e4, hz2, fun t s ht hs => ?_⟩
        rcases Nat.lt_or_ge t i with z | z
        · exact b1 t s z hs
        · have : t = i := by omega
          rw [this]
          exact b2 s (by rw [ls]; exact hs)
    · obtain ⟨o1, o2, y7, y8, y9, y10, y11, rfl, eG, h1, h2, b1⟩ := p'
      exact q _ _ eG ⟨none, b1, rfl⟩
end
end K01


set_option Elab.async false
set_option linter.all false
set_option maxRecDepth 100000
set_option maxHeartbeats 4000000
/-! What is no memory; are_apart, first_look -/
namespace K01
open PySem PySem.Spec PyProof.Rows L2
section
variable {P : Program} {w : World} {K : PySem.W.Frag} {mg : Str → Option Value} {base : Heap}
/-- a value that may be a row, or no tuple at all -/
def MayRow (K : PySem.W.Frag) (p wd : Int) (v : V) (b : Bool) (H : Hp) : Prop := (∃ fs, TupF K fs v H ∧ (∀ f ∈ fs, Flt f) ∧ fs.length ≤ 1000 ∧ b = isRowB p wd fs) ∨ (b = false ∧ ∀ H', Ex H H' → NotTup K v H')
theorem MayRow.ex {p wd : Int} {v : V} {b : Bool} {H H' : Hp} (e : Ex H H') (h : MayRow K p wd v b H) : MayRow K p wd v b H' := by
  rcases h with ⟨fs, h1, h2, h3, h4⟩ | ⟨h1, h2⟩
  · exact .inl ⟨fs, h1.ex e, h2, h3, h4⟩
  · exact .inr ⟨h1, fun H2 e2 => h2 H2 (e.trans e2)⟩
theorem MayRow.row {p : Int} {n : Nat} {r : Row} {v : V} {H : Hp} (h : RowT K r v H) (o : Lin.OkR p n r) (hn : n ≤ 1000) : MayRow K p (n : Nat) v true H := by
  obtain ⟨a, rfl, ha⟩ := h
  refine .inl ⟨_, ⟨a, rfl, ha⟩, fun f hf => ?_, by rw [List.length_map, o.1]; exact hn, (isRowB_of o).symm⟩
  obtain ⟨x, _, rfl⟩ := List.mem_map.mp hf
  exact .int x
def spIsRowX (K : PySem.W.Frag) : Sp := fun vs H Q _ => ∃ (p wd : Int) (v : V) (b : Bool), vs = [.int p, v, .int wd] ∧ MayRow K p wd v b H ∧ Ret (IsV (.bl b)) H Q
theorem ok_isrowX {f : Addr} {fd : FuncData} (B : Bare mg) (F : Fun K "is_row" "is_row" s_is_row f fd) (Gn : Got P w K mg base CX0 1 "is_number" p_is_number spNumber) : FnOk P w K mg base CX0 2 f fd p_is_row (spIsRowX K) := by
  refine F.ok sc_is_row (fun vs H Q E h => ?_) (fun cdv A outer s H vs Q E hr h => ?_)
  · obtain ⟨p, wd, v, b, rfl, _⟩ := h
    rfl
  · obtain ⟨p, wd, v, b, rfl, hv, q⟩ := h
    refine ⟨_, pss_cons (ps_if (PW.pt (pw_or (pt_not (pt_val (pe_callB call_isi (by rfl) B.isinstance (by decide +kernel) (pa_cons (pv 1) (pa_cons (pe_bltn (v := .ty "tuple") (by rfl) B.tuple (by decide +kernel) rfl) pa_nil)))))
        (pw_or1 (pt_cmpR op_ne (pe_callB call_len_seq (by rfl) B.len PySem.boot_len (pa_cons (pv 1) pa_nil)) (pv 2) (nomark _))))) (pss_one (ps_ret pe_bl)) pss_nil)
      (pss_one (ps_ret (pe_callB (cr_all rfl) (by rfl) B.all (by decide +kernel) (pa_cons (pe_lc (own := [("number", 3)]) (g := gName 3) (tt := tYes) rfl sc_is_row.nd (pi_tup (pv 1)) (blkOk_by (N := n_is_row) (sc := defScope s_is_row) (by decide +kernel)) (fun _ _ _ _ _ => pg_name (i := 3) sc_is_row.nd rfl (Or.inl rfl)) (fun _ _ _ _ _ => pts_nil)
        (fun _ _ _ _ _ => pe_got Gn hr pass0 (pa_cons (pv 3) (pa_cons pe_int (pa_cons (pe_op op_sub (pv 0) pe_int) pa_nil))))) pa_nil)))), ?_⟩
    rcases hv with ⟨fs, ⟨b0, rfl, hb⟩, hf, hz, rfl⟩ | ⟨rfl, hT⟩
    · refine ⟨_, rfl, .ref b0, .ty "tuple", .type "tuple", .type "tuple", true, rfl, .ty _, tyx_t hb, kit_ty (by decide +kernel), true, rfl, iteF ?_⟩
      refine ⟨_, rfl, b0, fs, rfl, .inr hb, _, rfl, rfl, _, rfl, ite2 (fun c => ?_) (fun c => ?_)⟩
      · have c' := dne c
        exact q _ _ (_root_.Evl.Ex.refl _) (by show V.bl _ = V.bl _; simp [isRowB, c'])
      · have c' := deq c
        refine ⟨_, rfl, b0, rfl, ⟨_, hb⟩, ?_⟩
        refine lc_go (walk_tup (xs := fs)) (by omega) (fun H' e => _root_.Evl.ex_t e hb) fs rfl (fun _ => true) (fun x => IsV (.bl (isNum 0 (p - 1) x))) (fun _ _ _ _ _ h => h) (fun i d x H1 H2 hn e y C N hC hN => ?_) fun D ys H' nD e hD hy => ?_
        · obtain ⟨rfl, hx⟩ := y
          cases (show d = x from Option.some.inj (hn.symm.trans hx))
          exact ⟨rfl, yes_go ⟨_, rfl, _, rfl, _, _, rfl, rfl, d, 0, p - 1, rfl, hf d (List.mem_of_getElem? hn), fun z H3 e3 ez => hC rfl z H3 e3 ez⟩⟩
        · rw [filter_yes] at hy
          have ey : ys = (fs.map (isNum 0 (p - 1))).map V.bl := by
            rw [List.map_map]
            exact pr_fun hy
          subst ey
          refine ⟨D, _, rfl, SqL.of hD, q _ _ e ?_⟩
          show V.bl _ = V.bl _
          simp [isRowB, c', List.all_map]
    · obtain ⟨T, ty, kt⟩ := hT H (_root_.Evl.Ex.refl _)
      refine ⟨_, rfl, v, .ty "tuple", .type T, .type "tuple", false, rfl, .ty _, ty, kit_ty kt, false, rfl, iteT ?_⟩
      exact q _ _ (_root_.Evl.Ex.refl _) rfl
def spCheckMemX (K : PySem.W.Frag) (C : Addr) : Sp := fun vs H Q E => ∃ (p : Int) (n : Nat) (v u : V) (A W S : List Row) (b : Bool), vs = [v, u] ∧ MachT K p A W S v H ∧ A.length = n ∧ MayRow K p (n : Nat) u b H ∧ (b = true → Ret (IsV .non) H Q) ∧ (b = false → ∀ H', Ex H H' → E (.ref C) none H')
theorem ok_checkMemX {f C : Addr} {fd : FuncData} (B : Bare mg) (F : Fun K "check_memory" "check_memory" s_check_memory f fd) (Gr : Got P w K mg base CX0 2 "is_row" p_is_row (spIsRowX K)) (Ec : ErrC K mg "BadMemory" C) : FnOk P w K mg base (L2.CX P w) 3 f fd p_check_memory (spCheckMemX K C) := by
  refine F.okX sc_check_memory (fun vs H Q E h => ?_) (fun cdv Ar outer s H vs Q E hr h => ?_)
  · obtain ⟨p, n, v, u, A, W, S, b, rfl, _⟩ := h
    rfl
  · obtain ⟨p, n, v, u, A, W, S, b, rfl, hM, lA, hT, q1, q2⟩ := h
    refine ⟨_, pss_one (ps_if (pt_not (pt_val (pe_got Gr hr pass0 (pa_cons (pe_ix ix_tup (pv 0) pe_int (fun _ _ => rfl)) (pa_cons (pv 1) (pa_cons (pe_callB call_len_seq (by rfl) B.len PySem.boot_len (pa_cons (pe_ix ix_tup (pv 0) pe_int (fun _ _ => rfl)) pa_nil)) pa_nil)))))) (pss_one (ps_raise rfl (takes_of rfl rfl rfl rfl) (pmk_own0 PySem.F.excBase_ValueError Ec.xC Ec.gC Ec.kC (raises_own Ec.bC Ec.tC) rfl))) pss_nil), ?_⟩
    obtain ⟨m, a, w', s', rfl, hm, ⟨ab, aus, rfl, hab, pab⟩, hW, hS⟩ := hM
    have la : aus.length = n := (pr_len pab).trans lA
    refine ⟨_, rfl, m, _, _, _, rfl, rfl, hm, at_of (j := 0) rfl rfl, _, rfl, _, rfl, m, _, _, _, rfl, rfl, hm, at_of (j := 1) rfl rfl, ab, aus, rfl, .inr hab, ?_⟩
    rw [la]
    refine ⟨p, (n : Nat), u, b, rfl, hT, fun z H1 e1 ez => ?_⟩
    cases (show z = _ from ez)
    refine ⟨_, rfl, ite2 (fun c => ?_) (fun c => ?_)⟩
    · exact q2 (by simpa using c) _ e1
    · exact q1 (by simpa using c) _ _ e1 rfl
/-- asked of a machine and two memories, the second may be none -/
def spTwo (K : PySem.W.Frag) (CM : Addr) (R : Int → Nat → List Row → List Row → Row → Row → V → Hp → Prop) : Sp := fun vs H Q E => ∃ (p : Int) (n : Nat) (mv ov uv : V) (A W S : List Row) (u : Row), vs = [mv, ov, uv] ∧ WP K H mv none ∧ MachT K p A W S mv H ∧ (∀ G, MachT K p A W S mv G → WP K G mv none) ∧ MOk p n A W S ∧ RowT K u ov H ∧ Lin.OkR p n u ∧
  ((∃ v, RowT K v uv H ∧ Lin.OkR p n v ∧ Ret (R p n A S u v) H Q) ∨ ((∀ H', Ex H H' → NotTup K uv H') ∧ ∀ H', Ex H H' → E (.ref CM) none H'))
def rApart (K : PySem.W.Frag) : Int → Nat → List Row → List Row → Row → Row → V → Hp → Prop := fun p n A S u v x H => ∃ r, Fst2 n S.length (dfs p A S u v) r ∧ x = .bl r.isSome
def rLook (K : PySem.W.Frag) : Int → Nat → List Row → List Row → Row → Row → V → Hp → Prop := fun p n A S u v x H => ∃ r, Fst2 n S.length (dfs p A S u v) r ∧ PairT K r x H
theorem ok_apartM {f CB CM : Addr} {fd : FuncData} (F : Fun K "are_apart" "are_apart" s_are_apart f fd) (Gc : Got P w K mg base (L2.CX P w) 8 "check_machine" p_check_machine (spCheckM K CB)) (Gm : Got P w K mg base (L2.CX P w) 3 "check_memory" p_check_memory (spCheckMemX K CM)) (Gs : Got P w K mg base CX0 3 "first_seen_apart" p_first_seen_apart (spSeen K)) :
    FnOk P w K mg base (L2.CX P w) 9 f fd p_are_apart (spTwo K CM (rApart K)) := by
  refine F.okX sc_are_apart (fun vs H Q E h => ?_) (fun cdv Ar outer s H vs Q E hr h => ?_)
  · obtain ⟨p, n, mv, ov, uv, A, W, S, u, rfl, _⟩ := h
    rfl
  · obtain ⟨p, n, mv, ov, uv, A, W, S, u, rfl, hw, hM, wp, M, hu, ou, h⟩ := h
    have hr3 : Room 3 _ := hr.mono (by decide)
    refine ⟨_, pss_cons (ps_expr (pe_got Gc hr (passes_call (takes_of rfl rfl rfl rfl) fun _ _ _ _ z => z) (pa_cons (pv 0) pa_nil)))
      (pss_cons (ps_expr (pe_got Gm hr3 (passes_call (takes_of rfl rfl rfl rfl) fun _ _ _ _ z => z) (pa_cons (pv 0) (pa_cons (pv 1) pa_nil))))
      (pss_cons (ps_expr (pe_got Gm hr3 (passes_call (takes_of rfl rfl rfl rfl) fun _ _ _ _ z => z) (pa_cons (pv 0) (pa_cons (pv 2) pa_nil))))
      (pss_one (ps_ret (pe_cmpR op_notN (pe_got Gs hr3 pass0 (pa_cons (pv 0) (pa_cons (pv 1) (pa_cons (pv 2) pa_nil)))) pe_non rfl))))), ?_⟩
    have n4 := M.n4
    refine ⟨_, rfl, mv, none, rfl, hw, fun z1 H1 e1 _ => ?_⟩
    refine ⟨_, rfl, _, rfl, p, n, mv, ov, A, W, S, true, rfl, hM.ex e1, M.lA, .row (hu.ex e1) ou (by omega), fun _ z2 H2 e2 _ => ?_, fun b => Bool.noConfusion b⟩
    have e12 := e1.trans e2
    rcases h with ⟨v, hv, ov', q⟩ | ⟨hT, q⟩
    · refine ⟨_, rfl, _, rfl, p, n, mv, uv, A, W, S, true, rfl, hM.ex e12, M.lA, .row (hv.ex e12) ov' (by omega), fun _ z3 H3 e3 _ => ?_, fun b => Bool.noConfusion b⟩
      have e13 := e12.trans e3
      refine ⟨_, rfl, _, rfl, _, rfl, p, n, mv, ov, uv, A, W, S, u, v, rfl, hM.ex e13, M, hu.ex e13, hv.ex e13, ou, ov', fun x H4 e4 hx => ?_⟩
      obtain ⟨r, f1, px⟩ := hx
      refine ⟨rfl, q _ _ (e13.trans e4) ⟨r, f1, ?_⟩⟩
      rcases r with _ | ⟨t, s⟩
      · obtain rfl : x = .non := px
        rfl
      · obtain ⟨a, rfl, _⟩ := px
        rfl
    · exact ⟨_, rfl, _, rfl, p, n, mv, uv, A, W, S, false, rfl, hM.ex e12, M.lA, .inr ⟨rfl, fun H' e' => hT H' (e12.trans e')⟩, fun b => Bool.noConfusion b, fun _ H' e' => q H' (e12.trans e')⟩
theorem ok_lookM {f CB CM : Addr} {fd : FuncData} (F : Fun K "first_look" "first_look" s_first_look f fd) (Gc : Got P w K mg base (L2.CX P w) 8 "check_machine" p_check_machine (spCheckM K CB)) (Gm : Got P w K mg base (L2.CX P w) 3 "check_memory" p_check_memory (spCheckMemX K CM)) (Gs : Got P w K mg base CX0 3 "first_seen_apart" p_first_seen_apart (spSeen K)) :
    FnOk P w K mg base (L2.CX P w) 9 f fd p_first_look (spTwo K CM (rLook K)) := by
  refine F.okX sc_first_look (fun vs H Q E h => ?_) (fun cdv Ar outer s H vs Q E hr h => ?_)
  · obtain ⟨p, n, mv, ov, uv, A, W, S, u, rfl, _⟩ := h
    rfl
  · obtain ⟨p, n, mv, ov, uv, A, W, S, u, rfl, hw, hM, wp, M, hu, ou, h⟩ := h
    have hr3 : Room 3 _ := hr.mono (by decide)
    refine ⟨_, pss_cons (ps_expr (pe_got Gc hr (passes_call (takes_of rfl rfl rfl rfl) fun _ _ _ _ z => z) (pa_cons (pv 0) pa_nil)))
      (pss_cons (ps_expr (pe_got Gm hr3 (passes_call (takes_of rfl rfl rfl rfl) fun _ _ _ _ z => z) (pa_cons (pv 0) (pa_cons (pv 1) pa_nil))))
      (pss_cons (ps_expr (pe_got Gm hr3 (passes_call (takes_of rfl rfl rfl rfl) fun _ _ _ _ z => z) (pa_cons (pv 0) (pa_cons (pv 2) pa_nil))))
      (pss_one (ps_ret (pe_got Gs hr3 pass0 (pa_cons (pv 0) (pa_cons (pv 1) (pa_cons (pv 2) pa_nil)))))))), ?_⟩
    have n4 := M.n4
    refine ⟨_, rfl, mv, none, rfl, hw, fun z1 H1 e1 _ => ?_⟩
    refine ⟨_, rfl, _, rfl, p, n, mv, ov, A, W, S, true, rfl, hM.ex e1, M.lA, .row (hu.ex e1) ou (by omega), fun _ z2 H2 e2 _ => ?_, fun b => Bool.noConfusion b⟩
    have e12 := e1.trans e2
    rcases h with ⟨v, hv, ov', q⟩ | ⟨hT, q⟩
    · refine ⟨_, rfl, _, rfl, p, n, mv, uv, A, W, S, true, rfl, hM.ex e12, M.lA, .row (hv.ex e12) ov' (by omega), fun _ z3 H3 e3 _ => ?_, fun b => Bool.noConfusion b⟩
      have e13 := e12.trans e3
      exact ⟨_, rfl, _, rfl, _, rfl, p, n, mv, ov, uv, A, W, S, u, v, rfl, hM.ex e13, M, hu.ex e13, hv.ex e13, ou, ov', fun x H4 e4 hx => q _ _ (e13.trans e4) hx⟩
    · exact ⟨_, rfl, _, rfl, p, n, mv, uv, A, W, S, false, rfl, hM.ex e12, M.lA, .inr ⟨rfl, fun H' e' => hT H' (e12.trans e')⟩, fun b => Bool.noConfusion b, fun _ H' e' => q H' (e12.trans e')⟩
end
end K01


set_option Elab.async false
set_option linter.all false
set_option maxRecDepth 100000
set_option maxHeartbeats 4000000
/-! The law's own: where two memories are first told apart, what rows of sights tell -/
namespace K01
open PySem PySem.Spec PyProof.Rows L2
section
variable {P : Program} {w : World} {K : PySem.W.Frag} {mg : Str → Option Value} {base : Heap}
def spLIs : Sp := fun vs H Q _ => ∃ b : Bool, vs = [.bl b, .bl b] ∧ Ret (IsV (.bl true)) H Q
theorem ok_lis {f : Addr} {fd : FuncData} (B : Bare mg) (F : Fun K "_law_is" "_law_is" s_law_is f fd) : FnOk P w K mg base CX0 1 f fd p_law_is spLIs := by
  refine F.ok sc_law_is (fun vs H Q E h => ?_) (fun cdv Ar outer s H vs Q E hr h => ?_)
  · obtain ⟨b, rfl, _⟩ := h
    rfl
  · obtain ⟨b, rfl, q⟩ := h
    refine ⟨_, pss_one (ps_ret (pe_and (pe_callB call_isi (by rfl) B.isinstance (by decide +kernel) (pa_cons (pv 0) (pa_cons (pe_bltn (v := .ty "bool") (by rfl) B.bool (by decide +kernel) rfl) pa_nil))) (pe_one (pe_cmpR op_eq (pv 0) (pv 1) rfl)))), ?_⟩
    refine ⟨_, rfl, .bl b, .ty "bool", .type "bool", .type "bool", true, rfl, .ty _, .base (.bl _), kit_ty (by decide +kernel), true, rfl, ?_⟩
    refine iteT ⟨_, rfl, _, rfl, rfl, ?_⟩
    exact q _ _ (_root_.Evl.Ex.refl _) (by show V.bl _ = V.bl _; simp)
def spLFirst (K : PySem.W.Frag) : Sp := fun vs H Q _ => ∃ (p : Int) (n : Nat) (mv ov uv : V) (A W S : List Row) (u v : Row), vs = [mv, ov, uv] ∧ MachT K p A W S mv H ∧ MOk p n A W S ∧ RowT K u ov H ∧ RowT K v uv H ∧ Lin.OkR p n u ∧ Lin.OkR p n v ∧ Ret (fun x H => ∃ r, Fst2 40 S.length (dfs p A S u v) r ∧ PairT K r x H) H Q
theorem ok_lfirst {f : Addr} {fd : FuncData} (B : Bare mg) (F : Fun K "_law_first" "_law_first" s_law_first f fd) (Gm : Got P w K mg base CX0 1 "_law_met" p_law_met (spMet K)) (Gs : Got P w K mg base CX0 2 "_law_stirred" p_law_stirred (spStirred K)) :
    FnOk P w K mg base CX0 3 f fd p_law_first (spLFirst K) := by
  refine F.ok sc_law_first (fun vs H Q E h => ?_) (fun cdv Ar outer s H vs Q E hr h => ?_)
  · obtain ⟨p, n, mv, ov, uv, A, W, S, u, v, rfl, _⟩ := h
    rfl
  · obtain ⟨p, n, mv, ov, uv, A, W, S, u, v, rfl, hM, M, hu, hv, ou, ow, q⟩ := h
    have hr1 : Room 1 _ := hr.mono (by decide)
    refine ⟨_, pss_cons (ps_for PassesOwn.never rfl (pi_range1 rfl B.range (pa_cons pe_int pa_nil)) (pg_name (i := 3) sc_law_first.nd rfl (Or.inl rfl))
        (pss_cons (ps_for PassesOwn.never rfl (pi_enumT (by rfl) B.enumerate (pa_cons (pe_ix ix_tup (pv 0) pe_int (fun _ _ => rfl)) pa_nil)) (pg_tup rfl (pgs_cons (pg_name (i := 4) sc_law_first.nd rfl (Or.inl rfl)) (pgs_cons (pg_name (i := 5) sc_law_first.nd rfl (Or.inl rfl)) pgs_nil)))
          (pss_one (ps_if (pt_cmpR op_ne (pe_got Gm hr1 pass0 (pa_cons (pe_ix ix_tup (pv 0) pe_int (fun _ _ => rfl)) (pa_cons (pv 5) (pa_cons (pv 1) pa_nil)))) (pe_got Gm hr1 pass0 (pa_cons (pe_ix ix_tup (pv 0) pe_int (fun _ _ => rfl)) (pa_cons (pv 5) (pa_cons (pv 2) pa_nil)))) rfl) (pss_one (ps_ret (pe_tup (pa_cons (pv 3) (pa_cons (pv 4) pa_nil))))) pss_nil)))
        (pss_one (ps_par (i := 1) (j := 2) rfl sc_law_first.nd rfl rfl (by decide) rfl rfl (pa_cons (pe_got Gs hr pass0 (pa_cons (pv 0) (pa_cons (pv 1) pa_nil))) (pa_cons (pe_got Gs hr pass0 (pa_cons (pv 0) (pa_cons (pv 2) pa_nil))) pa_nil)) (by rfl)))))
      (pss_one (ps_ret pe_non)), ?_⟩
    obtain ⟨m, av, wv, sv, rfl, hm, hA, hW, hS⟩ := id hM
    have n4 := M.n4
    have lA := M.lA
    have lS := M.lS
    have p1 := M.p1
    have p2 := M.p2
    have hp0 : 0 < p := by omega
    obtain ⟨sb, sus, rfl, hsb, psb⟩ := id hS
    have ls := pr_len psb
    refine ⟨_, rfl, by decide, by decide, ?_⟩
    refine for_range (lo := 0) (n := 40) (fun i σ' G => ∃ (o1 o2 : V) (y3 y4 y5 : Option V), σ' = [some (.ref m), some o1, some o2, y3, y4, y5] ∧ Ex H G ∧ RowT K (Lin.it p A i u) o1 G ∧ RowT K (Lin.it p A i v) o2 G ∧ ∀ t s, t < i → s < S.length → ¬ dfs p A S u v t s)
      ⟨ov, uv, none, none, none, rfl, _root_.Evl.Ex.refl _, hu, hv, fun t s h => by omega⟩ (fun i σ' G hi p' => ?_) fun σ' G p' => ?_
    · obtain ⟨o1, o2, y3, y4, y5, rfl, eG, h1, h2, b1⟩ := p'
      rw [Int.zero_add]
      have u1 := Lin.it_ok hp0 lA ou i
      have u2 := Lin.it_ok hp0 lA ow i
      refine ⟨_, rfl, m, _, _, _, rfl, rfl, _root_.Evl.ex_t eG hm, at_of (j := 3) rfl rfl, sb, _, rfl, _root_.Evl.ex_t eG hsb, ?_⟩
      refine for_it walk_enumT (fun j σ' G2 => (∃ (y4 y5 : Option V), σ' = [some (.ref m), some o1, some o2, some (.int (i : Nat)), y4, y5]) ∧ Ex G G2 ∧ ∀ s, s < j → ¬ dfs p A S u v i s)
        ⟨⟨y4, y5, rfl⟩, _root_.Evl.Ex.refl _, fun s h => by omega⟩ (fun j σ' G2 _ p => _root_.Evl.ex_t (eG.trans p.2.1) hsb) (fun j x σ' G1 G2 hj p' y => ?_) fun σ' G2 p' => ?_
      · obtain ⟨⟨y4, y5, rfl⟩, e1, b2⟩ := p'
        obtain ⟨T, x1, x2, rfl, nT, rfl, f1, f2⟩ := y
        obtain rfl := Option.some.inj f1
        obtain ⟨r, gr, hr2⟩ := pr_get psb f2
        have e2 : Ex G (upd G1 T (.tup [.int (j : Nat), x2])) := e1.trans (_root_.Evl.Ex.new nT)
        refine ⟨T, _, rfl, SqT.of upd_same, rfl, _, _, rfl, _, _, rfl, rfl, ?_⟩
        generalize upd G1 T (.tup [.int (j : Nat), x2]) = G2 at e2 ⊢
        have or := M.oS r (List.mem_of_getElem? gr)
        have bd : ∀ x ∈ r, -1000 < x ∧ x < 1000 := fun x hx => by have := or.2 x hx; omega
        have eg2 := eG.trans e2
        refine ⟨_, rfl, m, _, _, _, rfl, rfl, _root_.Evl.ex_t eg2 hm, at_of (j := 0) rfl rfl, _, rfl, _, rfl, p, x2, o1, r, _, rfl, hr2.ex eg2, h1.ex e2, by rw [or.1, u1.1], hp0, bd, by rw [or.1]; omega, fun z1 G3 e3 ez1 => ?_⟩
        cases (show z1 = _ from ez1)
        have e23 := e2.trans e3
        have eg3 := eG.trans e23
        refine ⟨_, rfl, m, _, _, _, rfl, rfl, _root_.Evl.ex_t eg3 hm, at_of (j := 0) rfl rfl, _, rfl, _, rfl, p, x2, o2, r, _, rfl, hr2.ex eg3, h2.ex e23, by rw [or.1, u2.1], hp0, bd, by rw [or.1]; omega, fun z2 G4 e4 ez2 => ?_⟩
        cases (show z2 = _ from ez2)
        have e34 := e23.trans e4
        refine ⟨rfl, _, rfl, ite2 (fun c => ?_) (fun c => ?_)⟩
        all_goals have ed : dfs p A S u v i j ↔ Lin.dot p r (Lin.it p A i u) ≠ Lin.dot p r (Lin.it p A i v) := by
                    unfold dfs
                    rw [List.getD_eq_getElem?_getD, gr]
                    show Lin.dot p _ r ≠ Lin.dot p _ r ↔ _
                    rw [Lin.dot_comm u1.1 or.1, Lin.dot_comm u2.1 or.1]
        · refine ⟨_, rfl, _, rfl, (by show 2 ≤ sizeLine; decide), fun tt nt => ?_⟩
          have hj' : j < S.length := by rw [← ls]; exact hj
          exact q _ _ ((eG.trans e34).trans (_root_.Evl.Ex.new nt)) ⟨some (i, j), ⟨hi, hj', ed.2 (dne c), b1, b2⟩, tt, rfl, SqT.of upd_same⟩
        · refine ⟨⟨_, _, rfl⟩, e34, fun s hs => ?_⟩
          rcases Nat.lt_or_ge s j with z | z
          · exact b2 s z
          · have : s = j := by omega
            rw [this]
            exact fun z => (ed.1 z) (deq c)
      · obtain ⟨⟨y4, y5, rfl⟩, e1, b2⟩ := p'
        have e01 := eG.trans e1
        refine ⟨_, rfl, _, rfl, p, n, .ref m, o1, A, W, S, _, rfl, hM.ex e01, h1.ex e1, p1, p2, by omega, M.oA, M.lA, u1, fun z1 G3 e3 hz1 => ?_⟩
        refine ⟨_, rfl, _, rfl, p, n, .ref m, o2, A, W, S, _, rfl, (hM.ex e01).ex e3, (h2.ex e1).ex e3, p1, p2, by omega, M.oA, M.lA, u2, fun z2 G4 e4 hz2 => ?_⟩
        refine ⟨_, _, rfl, ?_⟩
        refine ⟨z1, z2, _, _, _, rfl, (e01.trans e3).trans e4, hz1.ex e4, hz2, fun t s ht hs => ?_⟩
        rcases Nat.lt_or_ge t i with z | z
        · exact b1 t s z hs
        · have : t = i := by omega
          rw [this]
          exact b2 s (by rw [ls]; exact hs)
    · obtain ⟨o1, o2, y3, y4, y5, rfl, eG, h1, h2, b1⟩ := p'
      exact q _ _ eG ⟨none, b1, rfl⟩
end
end K01


set_option Elab.async false
set_option linter.all false
set_option maxRecDepth 100000
set_option maxHeartbeats 4000000
namespace K01
open PySem PySem.Spec PyProof.Rows L2
/-- what a row of sights, one a tick, tells -/
def seenL (p : Int) (A S : List Row) (u : Row) (ls : List Nat) : List Int := (List.range ls.length).map fun i => Lin.dot p (S.getD (ls.getD i 0) []) (Lin.it p A i u)
section
variable {P : Program} {w : World} {K : PySem.W.Frag} {mg : Str → Option Value} {base : Heap}
def spLSeen (K : PySem.W.Frag) : Sp := fun vs H Q _ => ∃ (p : Int) (n : Nat) (mv ov lv : V) (A W S : List Row) (u : Row) (ls : List Nat), vs = [mv, ov, lv] ∧ MachT K p A W S mv H ∧ MOk p n A W S ∧ RowT K u ov H ∧ Lin.OkR p n u ∧ RowT K (ls.map fun i : Nat => (i : Int)) lv H ∧ (∀ s ∈ ls, s < S.length) ∧ ls.length ≤ 100 ∧
  Ret (fun x H => ∃ a, x = .ref a ∧ SqL K H a ((seenL p A S u ls).map V.int)) H Q
theorem ok_lseen {f : Addr} {fd : FuncData} (B : Bare mg) (F : Fun K "_law_seen" "_law_seen" s_law_seen f fd) (Gm : Got P w K mg base CX0 1 "_law_met" p_law_met (spMet K)) (Gs : Got P w K mg base CX0 2 "_law_stirred" p_law_stirred (spStirred K)) :
    FnOk P w K mg base CX0 3 f fd p_law_seen (spLSeen K) := by
  refine F.ok sc_law_seen (fun vs H Q E h => ?_) (fun cdv Ar outer s H vs Q E hr h => ?_)
  · obtain ⟨p, n, mv, ov, lv, A, W, S, u, ls, rfl, _⟩ := h
    rfl
  · obtain ⟨p, n, mv, ov, lv, A, W, S, u, ls, rfl, hM, M, hu, ou, hl, ok, l100, q⟩ := h
    have hr1 : Room 1 _ := hr.mono (by decide)
    refine ⟨_, pss_cons (ps_set (i := 3) sc_law_seen.nd rfl (Or.inl rfl) (pe_lst pa_nil))
      (pss_cons (ps_for PassesOwn.never rfl (pi_tup (pv 2)) (pg_name (i := 4) sc_law_seen.nd rfl (Or.inl rfl))
        (pss_cons (ps_expr (pe_bm PySem.F.plainAttrs_list PySem.F.slot_list_append PySem.F.type_list_append mt_append (pv 3) (pa_cons (pe_got Gm hr1 pass0 (pa_cons (pe_ix ix_tup (pv 0) pe_int (fun _ _ => rfl)) (pa_cons (pe_ix ix_tup (pe_ix ix_tup (pv 0) pe_int (fun _ _ => rfl)) (pv 4) (fun _ _ => rfl)) (pa_cons (pv 1) pa_nil)))) pa_nil)))
        (pss_one (ps_set (i := 1) sc_law_seen.nd rfl (Or.inl rfl) (pe_got Gs hr pass0 (pa_cons (pv 0) (pa_cons (pv 1) pa_nil)))))))
      (pss_one (ps_ret (pv 3)))), ?_⟩
    obtain ⟨m, av, wv, sv, rfl, hm, hA, hW, hS⟩ := id hM
    have n4 := M.n4
    have lA := M.lA
    have p1 := M.p1
    have p2 := M.p2
    have hp0 : 0 < p := by omega
    obtain ⟨sb, sus, rfl, hsb, psb⟩ := id hS
    have lsu := pr_len psb
    obtain ⟨lb, rfl, hlb⟩ := hl
    refine ⟨(by show 0 ≤ sizeLine; decide), fun g ng => ?_⟩
    have e0 := _root_.Evl.Ex.new (o := .lst []) ng
    have hg0 := upd_same (H := H) (a := g) (o := .lst [])
    generalize upd H g (.lst []) = H0 at e0 hg0 ⊢
    refine ⟨_, rfl, lb, rfl, ⟨_, _root_.Evl.ex_t e0 hlb⟩, ?_⟩
    have len : ((ls.map fun i : Nat => (i : Int)).map V.int).length = ls.length := by rw [List.length_map, List.length_map]
    let fv := fun i : Nat => Lin.dot p (S.getD (ls.getD i 0) []) (Lin.it p A i u)
    refine for_tup (K := K) (a := lb) (xs := (ls.map fun i : Nat => (i : Int)).map V.int) (fun i σ' G => ∃ (o1 : V) (y4 : Option V), σ' = [some (.ref m), some o1, some (.ref lb), some (.ref g), y4] ∧ Ex H G ∧ RowT K (Lin.it p A i u) o1 G ∧ G g = some (.lst (((List.range i).map fv).map V.int)))
      ⟨ov, none, rfl, e0, hu.ex e0, hg0⟩ (fun i σ' G _ ⟨_, _, _, e, _⟩ => _root_.Evl.ex_t e hlb) (fun i x σ' G hx p' => ?_) fun σ' G p' => ?_
    · obtain ⟨o1, y4, rfl, eG, h1, hg⟩ := p'
      obtain ⟨x', hx', rfl⟩ := map_get hx
      rw [List.getElem?_map] at hx'
      obtain ⟨s, hs, rfl⟩ := Option.map_eq_some_iff.mp hx'
      have is := ok s (List.mem_of_getElem? hs)
      have il := (List.getElem?_eq_some_iff.mp hs).1
      have u1 := Lin.it_ok hp0 lA ou i
      have or := M.oS _ (List.getElem_mem is)
      obtain ⟨sx, hsx, rs⟩ := pr_getR psb (List.getElem?_eq_getElem is)
      have bd : ∀ x ∈ S[s], -1000 < x ∧ x < 1000 := fun x hx => by have := or.2 x hx; omega
      refine ⟨_, rfl, .inl ⟨rfl, _, SqL.of hg⟩, ?_⟩
      refine ⟨_, rfl, m, _, _, _, rfl, rfl, _root_.Evl.ex_t eG hm, at_of (j := 0) rfl rfl, _, rfl, m, _, _, _, rfl, rfl, _root_.Evl.ex_t eG hm, at_of (j := 3) rfl rfl, _, rfl, sb, _, _, _, rfl, rfl, _root_.Evl.ex_t eG hsb, at_of rfl hsx, _, rfl, p, sx, o1, S[s], _, rfl, rs.ex eG, h1, by rw [or.1, u1.1], hp0, bd, by rw [or.1]; omega, fun z G2 e2 ez => ?_⟩
      cases (show z = _ from ez)
      have hg2 := e2 _ _ hg
      refine ⟨g, _, _, rfl, rfl, hg2, ?_, ?_⟩
      · rw [List.length_map, List.length_map, List.length_range]
        exact Nat.lt_of_le_of_lt (show i ≤ 100 by omega) (by decide)
      have e3 : Ex H (upd G2 g (.lst (((List.range i).map fv).map V.int ++ [.int (Lin.dot p S[s] (Lin.it p A i u))]))) := (eG.trans e2).mut ng
      have n3 : ExN G2 (upd G2 g (.lst (((List.range i).map fv).map V.int ++ [.int (Lin.dot p S[s] (Lin.it p A i u))]))) := fun b o e nl => by rw [upd_ne (fun q => nl _ (Option.some.inj (e.symm.trans (by rw [q]; exact hg2))))]; exact e
      have hg3 : upd G2 g (.lst (((List.range i).map fv).map V.int ++ [.int (Lin.dot p S[s] (Lin.it p A i u))])) g = some (.lst (((List.range (i + 1)).map fv).map V.int)) := by
        rw [upd_same, List.range_succ, List.map_append, List.map_append, List.map_singleton, List.map_singleton]
        congr 4
        show _ = V.int (fv i)
        show _ = V.int (Lin.dot p (S.getD (ls.getD i 0) []) _)
        rw [List.getD_eq_getElem?_getD (l := ls), hs]
        show _ = V.int (Lin.dot p (S.getD s []) _)
        rw [List.getD_eq_getElem?_getD, List.getElem?_eq_getElem is]
        rfl
      have h13 := (h1.ex e2).n n3
      generalize upd G2 g (.lst (((List.range i).map fv).map V.int ++ [.int (Lin.dot p S[s] (Lin.it p A i u))])) = G3 at e3 hg3 h13 ⊢
      refine ⟨_, rfl, _, rfl, p, n, .ref m, o1, A, W, S, _, rfl, hM.ex e3, h13, p1, p2, by omega, M.oA, M.lA, u1, fun z G4 e4 hz => ?_⟩
      exact ⟨z, _, rfl, e3.trans e4, hz, e4 _ _ hg3⟩
    · obtain ⟨o1, y4, rfl, eG, h1, hg⟩ := p'
      rw [len] at hg
      exact ⟨_, rfl, q _ _ eG ⟨g, rfl, SqL.of hg⟩⟩
end
end K01


set_option Elab.async false
set_option linter.all false
set_option maxRecDepth 100000
set_option maxHeartbeats 4000000
/-! What is no ascending tuple of unlike memories -/
namespace K01
open PySem PySem.Spec PyProof.Rows L2
theorem pr_map' {α β : Type} {F : V → α → Prop} {G : V → β → Prop} {f : α → β} : ∀ {xs : List V} {ds : List α}, Paired F xs ds → (∀ x d, d ∈ ds → F x d → G x (f d)) → Paired G xs (ds.map f)
  | _, _, .nil, _ => .nil
  | _, _, .cons h p, k => .cons (k _ _ List.mem_cons_self h) (pr_map' p fun x d hd => k x d (List.mem_cons_of_mem _ hd))
theorem walk_zipTm {K : PySem.W.Frag} {a b : Addr} {xs ys : List V} {n : Nat} (hn : n = min xs.length ys.length) : Walk (RZ.ItzT K a b) n (fun H => SqT K H a xs ∧ SqT K H b ys) (YPair (fun i => xs[i]?) (fun i => ys[i]?)) := by
  refine ⟨fun i H hi q => ?_, fun H q => ?_, fun i H v H' _ q y => ?_⟩
  · have h1 : i < xs.length := by omega
    have h2 : i < ys.length := by omega
    exact ⟨xs, ys, xs[i], ys[i], q.1, q.2, List.getElem?_eq_getElem h1, List.getElem?_eq_getElem h2⟩
  · exact ⟨xs, ys, q.1, q.2, by omega⟩
  · obtain ⟨T, x, y, e1, e2, e3, e4, e5⟩ := y
    exact ⟨T, x, y, e1, e2, e3, e4 xs q.1, e5 ys q.2⟩
/-- each less than the next -/
def ascR (R : List Row) : Bool := ((R.zip R.tail).map fun q => HT.lexLt q.1 q.2).all id
section
variable {P : Program} {w : World} {K : PySem.W.Frag} {mg : Str → Option Value} {base : Heap}
def spCheckMems (K : PySem.W.Frag) (CM : Addr) : Sp := fun vs H Q E => ∃ (p : Int) (n : Nat) (mv v : V) (A W S : List Row), vs = [mv, v] ∧ MachT K p A W S mv H ∧ A.length = n ∧ n ≤ 4 ∧
  (((∀ H', Ex H H' → NotTup K v H') ∧ ∀ H', Ex H H' → E (.ref CM) none H') ∨ (∃ b, v = .ref b ∧ SqT K H b [] ∧ ∀ H', Ex H H' → E (.ref CM) none H') ∨
   (∃ b us bs, v = .ref b ∧ SqT K H b us ∧ 1 ≤ us.length ∧ us.length ≤ 30 ∧ Paired (fun x c => MayRow K p (n : Nat) x c H) us bs ∧ bs.all id = false ∧ ∀ H', Ex H H' → E (.ref CM) none H') ∨
   ∃ R, RowsT K R v H ∧ Lin.Oks p n R ∧ 1 ≤ R.length ∧ R.length ≤ 30 ∧ (ascR R = true → Ret (IsV .non) H Q) ∧ (ascR R = false → ∀ H', Ex H H' → E (.ref CM) none H'))
theorem ok_checkMems {f CM : Addr} {fd : FuncData} {tk : Tok} (B : Bare mg) (F : Fun K "check_memories" "check_memories" s_check_memories f fd) (Gr : Got P w K mg base CX0 2 "is_row" p_is_row (spIsRowX K)) (Ec : ErrC K mg "BadMemory" CM) (g30 : mg "MOST_MEMORIES" = some (.int 30 tk)) : FnOk P w K mg base (L2.CX P w) 3 f fd p_check_memories (spCheckMems K CM) := by
  refine F.okX sc_check_memories (fun vs H Q E h => ?_) (fun cdv Ar outer s H vs Q E hr h => ?_)
  · obtain ⟨p, n, mv, v, A, W, S, rfl, _⟩ := h
    rfl
  · obtain ⟨p, n, mv, v, A, W, S, rfl, hM, lA, n4, h⟩ := h
    refine ⟨_, pss_cons (ps_if (PW.pt (pw_or (pt_not (pt_val (pe_callB call_isi (by rfl) B.isinstance (by decide +kernel) (pa_cons (pv 1) (pa_cons (pe_bltn (v := .ty "tuple") (by rfl) B.tuple (by decide +kernel) rfl) pa_nil)))))
        (pw_or1 (pt_not (pt_chain op_le op_le pe_int (pe_callB call_len_seq (by rfl) B.len PySem.boot_len (pa_cons (pv 1) pa_nil)) (pe_glob (by rfl) g30 (v := .int 30) ⟨_, rfl⟩)))))) (pss_one (ps_raise rfl (takes_of rfl rfl rfl rfl) (pmk_own0 PySem.F.excBase_ValueError Ec.xC Ec.gC Ec.kC (raises_own Ec.bC Ec.tC) rfl))) pss_nil)
      (pss_cons (ps_if (pt_not (pt_val (pe_callB (cr_all rfl) (by rfl) B.all (by decide +kernel) (pa_cons (pe_lc (own := [("memory", 2)]) (g := gName 2) (tt := tYes) rfl sc_check_memories.nd (pi_tup (pv 1)) (blkOk_by (N := n_check_memories) (sc := defScope s_check_memories) (by decide +kernel)) (fun _ _ _ _ _ => pg_name (i := 2) sc_check_memories.nd rfl (Or.inl rfl)) (fun _ _ _ _ _ => pts_nil)
          (fun _ _ _ _ _ => pe_got Gr hr pass0 (pa_cons (pe_ix (show IxR _ (rIxT K) from ix_tup) (pv 0) pe_int (fun _ _ => rfl)) (pa_cons (pv 2) (pa_cons (pe_callB (show CallR _ (.builtin "len") (rLenK K) from call_len_seq) (by rfl) B.len PySem.boot_len (pa_cons (pe_ix (show IxR _ (rIxT K) from ix_tup) (pv 0) pe_int (fun _ _ => rfl)) pa_nil)) pa_nil))))) pa_nil)))) (pss_one (ps_raise rfl (takes_of rfl rfl rfl rfl) (pmk_own0 PySem.F.excBase_ValueError Ec.xC Ec.gC Ec.kC (raises_own Ec.bC Ec.tC) rfl))) pss_nil)
      (pss_one (ps_if (pt_not (pt_val (pe_callB (cr_all rfl) (by rfl) B.all (by decide +kernel) (pa_cons (pe_lc (own := [("one", 3), ("other", 4)]) (g := gTup K 2 (gCons (gName 3) (gCons (gName 4) gNil))) (tt := tYes) rfl sc_check_memories.nd (RZ.pi_zipA (by rfl) B.zip (pa_cons (pv 1) (pa_cons (pe_slice (show SlR _ (rSlT K) from sl_tup) (pv 1) (po_some pe_int) po_none) pa_nil))) (blkOk_by (N := n_check_memories) (sc := defScope s_check_memories) (by decide +kernel)) (fun _ _ _ _ _ => pg_tup rfl (pgs_cons (pg_name (i := 3) sc_check_memories.nd rfl (Or.inl rfl)) (pgs_cons (pg_name (i := 4) sc_check_memories.nd rfl (Or.inl rfl)) pgs_nil))) (fun _ _ _ _ _ => pts_nil)
          (fun _ _ _ _ _ => pe_cmpR (show OpR _ _ (rLtT K) from op_ltT (Nat.lt_of_le_of_lt (Nat.le_add_right _ 64) hr.units)) (pv 3) (pv 4) (nomark _))) pa_nil)))) (pss_one (ps_raise rfl (takes_of rfl rfl rfl rfl) (pmk_own0 PySem.F.excBase_ValueError Ec.xC Ec.gC Ec.kC (raises_own Ec.bC Ec.tC) rfl))) pss_nil))), ?_⟩
    obtain ⟨m, av, wv, sv, rfl, hm, hA, hW, hS⟩ := id hM
    obtain ⟨ab, aus, rfl, hab, pab⟩ := id hA
    have la := (pr_len pab).trans lA
    -- all are rows, or not
    have rows : ∀ (b : Addr) (us : List V) (bs : List Bool), SqT K H b us → us.length ≤ 30 → Paired (fun x c => MayRow K p (n : Nat) x c H) us bs → ∀ (Q' : V → Hp → Prop), (∀ H', Ex H H' → Q' (.bl (bs.all id)) H') →
        tCB (rAll K) (tCons (tLc (iTup K (tVar 1)) (gName 2) tYes (tCall (spIsRowX K) [] E0 (tCons (tOp (rIxT K) (tVar 0) (tC (.int 0))) (tCons (tVar 2) (tCons (tCB (rLenK K) (tCons (tOp (rIxT K) (tVar 0) (tC (.int 1))) tNil)) tNil)))) [2]) tNil) [some (.ref m), some (.ref b), none, none, none] H Q' := by
      intro b us bs hb l30 pb Q' k
      have lb := pr_len pb
      refine ⟨_, rfl, b, rfl, ⟨_, hb⟩, ?_⟩
      refine lc_go (walk_tup (xs := us)) (by omega) (fun H' e => _root_.Evl.ex_t e hb) bs lb.symm (fun _ => true) (fun c => IsV (.bl c)) (fun _ _ _ _ _ h => h) (fun i d x H1 H2 hn1 e y C N hC hN => ?_) fun D ys H' nD e hD hy => ?_
      · obtain ⟨rfl, ex'⟩ := y
        obtain ⟨d', hd', rd⟩ := pr_get pb ex'
        obtain rfl : d' = d := Option.some.inj (hd'.symm.trans hn1)
        exact ⟨rfl, yes_go ⟨_, rfl, m, _, _, _, rfl, rfl, _root_.Evl.ex_t e hm, at_of (j := 0) rfl rfl, _, rfl, _, rfl, m, _, _, _, rfl, rfl, _root_.Evl.ex_t e hm, at_of (j := 1) rfl rfl, ab, aus, rfl, .inr (_root_.Evl.ex_t e hab), p, (n : Nat), x, d', by rw [la]; rfl, rd.ex e, fun z H3 e3 ez => hC rfl z H3 e3 ez⟩⟩
      · rw [filter_yes] at hy
        have ey : ys = bs.map V.bl := pr_fun hy
        subst ey
        exact ⟨D, _, rfl, SqL.of hD, k _ e⟩
    rcases h with ⟨hT, q⟩ | ⟨b, rfl, hb, q⟩ | ⟨b, us, bs, rfl, hb, l1, l30, pb, bad, q⟩ | ⟨R, hR, oR, l1, l30, q1, q2⟩
    · obtain ⟨T, ty, kt⟩ := hT H (_root_.Evl.Ex.refl _)
      exact ⟨_, rfl, v, .ty "tuple", .type T, .type "tuple", false, rfl, .ty _, ty, kit_ty kt, false, rfl, iteT (iteT (q _ (_root_.Evl.Ex.refl _)))⟩
    · refine ⟨_, rfl, .ref b, .ty "tuple", .type "tuple", .type "tuple", true, rfl, .ty _, tyx_t hb, kit_ty (by decide +kernel), true, rfl, iteF ?_⟩
      refine ⟨_, rfl, b, [], rfl, .inr hb, _, _, rfl, rfl, _, rfl, ite2 (fun d => ?_) (fun d => ?_)⟩
      · have := of_decide_eq_true d
        simp at this
      · exact ⟨_, rfl, iteT (q _ (_root_.Evl.Ex.refl _))⟩
    · refine ⟨_, rfl, .ref b, .ty "tuple", .type "tuple", .type "tuple", true, rfl, .ty _, tyx_t hb, kit_ty (by decide +kernel), true, rfl, iteF ?_⟩
      refine ⟨_, rfl, b, us, rfl, .inr hb, _, _, rfl, rfl, _, rfl, ite2 (fun d => ?_) (fun d => absurd (decide_eq_true (by omega)) d)⟩
      refine ⟨_, _, rfl, rfl, _, rfl, ite2 (fun d2 => ?_) (fun d2 => ?_)⟩
      · have : ¬ ((us.length : Nat) : Int) ≤ 30 := by simpa using d2
        omega
      · refine rows b us bs hb l30 pb _ fun H1 e1 => ⟨_, rfl, ?_⟩
        rw [bad]
        exact q _ e1
    · obtain ⟨b, us, rfl, hb, pb⟩ := hR
      have lu := pr_len pb
      refine ⟨_, rfl, .ref b, .ty "tuple", .type "tuple", .type "tuple", true, rfl, .ty _, tyx_t hb, kit_ty (by decide +kernel), true, rfl, iteF ?_⟩
      refine ⟨_, rfl, b, us, rfl, .inr hb, _, _, rfl, rfl, _, rfl, ite2 (fun d => ?_) (fun d => absurd (decide_eq_true (by omega)) d)⟩
      refine ⟨_, _, rfl, rfl, _, rfl, ite2 (fun d2 => ?_) (fun d2 => ?_)⟩
      · have : ¬ ((us.length : Nat) : Int) ≤ 30 := by simpa using d2
        omega
      have pb2 : Paired (fun x c => MayRow K p (n : Nat) x c H) us (R.map fun _ => true) := by
        refine pr_map' pb fun x r hr hx => .row hx (oR r hr) (by omega)
      refine rows b us _ hb (by omega) pb2 _ fun H1 e1 => ⟨_, rfl, ?_⟩
      have at1 : (R.map fun _ => true).all id = true := by simp
      rw [at1]
      refine iteF ?_
      have hb1 := _root_.Evl.ex_t e1 hb
      refine ⟨_, rfl, _, rfl, _, rfl, b, us, rfl, hb1, (fun z => ?_), fun l nl => ?_⟩
      · have := z.1
        rw [show (some 1 : Option Int) = some ((1 : Nat) : Int) from rfl, HT.sIx_nat] at this
        omega
      have el := _root_.Evl.Ex.new (o := .tup (cutV us (some 1) none)) nl
      have e2 := e1.trans el
      have cut : cutV us (some 1) none = us.drop 1 := by
        unfold cutV
        rw [show (some 1 : Option Int) = some ((1 : Nat) : Int) from rfl, HT.sIx_nat, HT.sIx_none, Nat.min_eq_left (by omega), List.take_of_length_le (by rw [List.length_drop]; omega)]
      have hl := upd_same (H := H1) (a := l) (o := .tup (cutV us (some 1) none))
      generalize upd H1 l (.tup (cutV us (some 1) none)) = H2 at el e2 hl ⊢
      rw [cut] at hl
      refine ⟨b, l, us, us.drop 1, rfl, .inr ⟨_root_.Evl.ex_t e2 hb, SqT.of hl, ?_⟩⟩
      have pd : Paired (fun x r => RowT K r x H) (us.drop 1) R.tail := by
        cases pb with
        | nil => exact .nil
        | cons h p => exact p
      refine lc_go (walk_zipTm (xs := us) (ys := us.drop 1) (n := (R.zip R.tail).length) (by rw [List.length_zip, List.length_tail, List.length_drop, lu])) (by rw [List.length_zip]; omega) (fun H' e => ⟨_root_.Evl.ex_t (e2.trans e) hb, _root_.Evl.ex_t e (SqT.of hl)⟩) (R.zip R.tail) rfl (fun _ => true) (fun q => IsV (.bl (HT.lexLt q.1 q.2))) (fun _ _ _ _ _ h => h) (fun i d x H3 H4 hn1 e y C N hC hN => ?_) fun D ys H' nD e hD hy => ?_
      · obtain ⟨T, x1, x2, rfl, nT, rfl, f1, f2⟩ := y
        obtain ⟨g1, g2⟩ := List.getElem?_zip_eq_some.mp hn1
        obtain ⟨r1, h1, ⟨a1, rfl, k1⟩⟩ := pr_get pb f1
        obtain ⟨r2, h2, ⟨a2, rfl, k2⟩⟩ := pr_get pd f2
        obtain rfl : r1 = d.1 := Option.some.inj (h1.symm.trans g1)
        obtain rfl : r2 = d.2 := Option.some.inj (h2.symm.trans g2)
        have eT : Ex H3 (upd H3 T (.tup [.ref a1, .ref a2])) := _root_.Evl.Ex.new nT
        refine ⟨T, _, rfl, SqT.of upd_same, rfl, _, _, rfl, _, _, rfl, rfl, ?_⟩
        have eA := (e2.trans e).trans eT
        exact ⟨rfl, yes_go ⟨_, rfl, _, rfl, a1, a2, _, _, rfl, rfl, _root_.Evl.ex_t eA k1, _root_.Evl.ex_t eA k2, hC rfl _ _ eT rfl⟩⟩
      · rw [filter_yes] at hy
        have ey : ys = ((R.zip R.tail).map fun q => HT.lexLt q.1 q.2).map V.bl := by
          rw [List.map_map]
          exact pr_fun hy
        subst ey
        refine ⟨D, _, rfl, SqL.of hD, _, rfl, ite2 (fun c => ?_) (fun c => ?_)⟩
        · exact q2 (by unfold ascR; simpa using c) _ (e2.trans e)
        · exact q1 (by unfold ascR; simpa using c) _ _ (e2.trans e) rfl
end
end K01


set_option Elab.async false
set_option linter.all false
/-! Partings: each member has the number of the first that is told alike -/
namespace Can
section
variable {α β : Type} [DecidableEq α] [DecidableEq β]
/-- the place of the first such item -/
def ix (x : α) : List α → Nat
  | [] => 0
  | y :: l => if y = x then 0 else ix x l + 1
theorem ix_spec {x : α} : ∀ {l : List α} {i : Nat}, l[i]? = some x → ix x l ≤ i ∧ l[ix x l]? = some x ∧ ∀ j, j < ix x l → l[j]? ≠ some x
  | [], i, h => by simp at h
  | y :: l, i, h => by
    unfold ix
    by_cases e : y = x
    · rw [if_pos e]
      exact ⟨Nat.zero_le _, by rw [e]; rfl, fun j hj => absurd hj (Nat.not_lt_zero _)⟩
    · rw [if_neg e]
      cases i with
      | zero => exact absurd (Option.some.inj h) e
      | succ i =>
        obtain ⟨h1, h2, h3⟩ := ix_spec (l := l) (i := i) h
        refine ⟨Nat.succ_le_succ h1, h2, fun j hj => ?_⟩
        cases j with
        | zero => exact fun z => e (Option.some.inj z)
        | succ j => exact h3 j (Nat.lt_of_succ_lt_succ hj)
/-- the parting of a list -/
def cls (xs : List α) : List Nat := xs.map fun x => ix x xs
theorem cls_len {xs : List α} : (cls xs).length = xs.length := by unfold cls; rw [List.length_map]
theorem cls_get {xs : List α} {i : Nat} {x : α} (h : xs[i]? = some x) : (cls xs)[i]? = some (ix x xs) := by unfold cls; rw [List.getElem?_map, h]; rfl
/-- two members have one number exactly if they are equal -/
theorem cls_iff {xs : List α} {i j : Nat} (hi : i < xs.length) (hj : j < xs.length) : (cls xs)[i]? = (cls xs)[j]? ↔ xs[i]? = xs[j]? := by
  have ei := List.getElem?_eq_getElem hi
  have ej := List.getElem?_eq_getElem hj
  rw [cls_get ei, cls_get ej, ei, ej]
  constructor
  · intro h
    have h := Option.some.inj h
    have h1 := (ix_spec ei).2.1
    have h2 := (ix_spec ej).2.1
    rw [h, h2] at h1
    exact h1.symm
  · intro h
    rw [Option.some.inj h]
/-- partings are equal exactly if they part alike -/
theorem cls_eq {xs : List α} {ys : List β} (l : xs.length = ys.length) (h : ∀ i j, i < xs.length → j < xs.length → (xs[i]? = xs[j]? ↔ ys[i]? = ys[j]?)) : cls xs = cls ys := by
  refine List.ext_getElem? fun i => ?_
  rcases Nat.lt_or_ge i xs.length with hi | hi
  · have ei := List.getElem?_eq_getElem hi
    have fi := List.getElem?_eq_getElem (show i < ys.length by omega)
    rw [cls_get ei, cls_get fi]
    obtain ⟨a1, a2, a3⟩ := ix_spec ei
    obtain ⟨b1, b2, b3⟩ := ix_spec fi
    congr 1
    rcases Nat.lt_trichotomy (ix xs[i] xs) (ix ys[i] ys) with z | z | z
    · exact absurd (((h _ i (by omega) hi).1 (a2.trans ei.symm)).trans fi) (b3 _ z)
    · exact z
    · exact absurd (((h _ i (by omega) hi).2 (b2.trans fi.symm)).trans ei) (a3 _ z)
  · rw [List.getElem?_eq_none (by rw [cls_len]; exact hi), List.getElem?_eq_none (by rw [cls_len]; omega)]
theorem cls_eq_iff {xs : List α} {ys : List β} (l : xs.length = ys.length) : cls xs = cls ys ↔ ∀ i j, i < xs.length → j < xs.length → (xs[i]? = xs[j]? ↔ ys[i]? = ys[j]?) := by
  refine ⟨fun e i j hi hj => ?_, cls_eq l⟩
  rw [← cls_iff hi hj, e, cls_iff (by omega) (by omega)]
theorem zip_get {xs : List α} {ys : List β} {i : Nat} {x : α} {y : β} (h1 : xs[i]? = some x) (h2 : ys[i]? = some y) : (xs.zip ys)[i]? = some (x, y) := by
  rw [List.getElem?_zip_eq_some]
  exact ⟨h1, h2⟩
/-- a parting parted further is the parting of both -/
theorem cls_zip {xs : List α} {ts : List β} (l : xs.length = ts.length) : cls ((cls xs).zip ts) = cls (xs.zip ts) := by
  refine cls_eq (by rw [List.length_zip, List.length_zip, cls_len]) fun i j hi hj => ?_
  rw [List.length_zip, cls_len] at hi hj
  have hi' : i < xs.length := by omega
  have hj' : j < xs.length := by omega
  have e1 := List.getElem?_eq_getElem hi'
  have e2 := List.getElem?_eq_getElem hj'
  have f1 := List.getElem?_eq_getElem (show i < ts.length by omega)
  have f2 := List.getElem?_eq_getElem (show j < ts.length by omega)
  rw [zip_get (cls_get e1) f1, zip_get (cls_get e2) f2, zip_get e1 f1, zip_get e2 f2]
  have := cls_iff hi' hj'
  rw [cls_get e1, cls_get e2, e1, e2] at this
  simp only [Option.some.injEq, Prod.mk.injEq] at this ⊢
  rw [this]
/-- nothing told: all are one -/
theorem cls_unit (n : Nat) (x : α) : cls (List.replicate n x) = List.replicate n 0 := by
  refine List.ext_getElem? fun i => ?_
  rcases Nat.lt_or_ge i n with hi | hi
  · have e : (List.replicate n x)[i]? = some x := by rw [List.getElem?_replicate, if_pos hi]
    rw [cls_get e, List.getElem?_replicate, if_pos hi]
    cases n with
    | zero => omega
    | succ n => rw [List.replicate_succ]; unfold ix; rw [if_pos rfl]
  · rw [List.getElem?_eq_none (by rw [cls_len, List.length_replicate]; exact hi), List.getElem?_eq_none (by rw [List.length_replicate]; exact hi)]
end
end Can


set_option Elab.async false
set_option linter.all false
/-! The first of each kind: rows gone on from the first ones alone are enough -/
namespace Can
section
variable {α β γ δ : Type} [DecidableEq β] [DecidableEq δ]
/-- put where there is none -/
def put (kv : List (β × α)) (k : β) (v : α) : List (β × α) := if k ∈ kv.map Prod.fst then kv else kv ++ [(k, v)]
/-- the first of each kind, in their order -/
def dd (f : α → β) (acc : List (β × α)) (l : List α) : List (β × α) := l.foldl (fun acc x => put acc (f x) x) acc
theorem dd_app {f : α → β} {acc : List (β × α)} {l l' : List α} : dd f acc (l ++ l') = dd f (dd f acc l) l' := List.foldl_append
theorem put_keys {kv : List (β × α)} {k k' : β} {v : α} : k' ∈ (put kv k v).map Prod.fst ↔ k' ∈ kv.map Prod.fst ∨ k' = k := by
  unfold put
  by_cases h : k ∈ kv.map Prod.fst
  · rw [if_pos h]
    exact ⟨.inl, fun z => z.elim id fun e => e ▸ h⟩
  · rw [if_neg h, List.map_append, List.mem_append, List.map_singleton, List.mem_singleton]
theorem dd_keys {f : α → β} : ∀ {l : List α} {acc : List (β × α)} {k : β}, k ∈ (dd f acc l).map Prod.fst ↔ k ∈ acc.map Prod.fst ∨ k ∈ l.map f
  | [], acc, k => by simp [dd]
  | x :: l, acc, k => by
    show k ∈ (dd f (put acc (f x) x) l).map Prod.fst ↔ _
    rw [dd_keys, put_keys, List.map_cons, List.mem_cons, or_assoc]
/-- nothing new is put -/
theorem dd_same {f : α → β} : ∀ {l : List α} {acc : List (β × α)}, (∀ x ∈ l, f x ∈ acc.map Prod.fst) → dd f acc l = acc
  | [], acc, _ => rfl
  | x :: l, acc, h => by
    show dd f (put acc (f x) x) l = acc
    have e : put acc (f x) x = acc := by unfold put; rw [if_pos (h x List.mem_cons_self)]
    rw [e]
    exact dd_same fun y hy => h y (List.mem_cons_of_mem _ hy)
/-- each kind stands with one of that kind -/
theorem dd_mem {f : α → β} : ∀ {l : List α} {acc : List (β × α)}, (∀ p ∈ acc, p.1 = f p.2) → ∀ p ∈ dd f acc l, p.1 = f p.2
  | [], _, h => h
  | x :: l, acc, h => dd_mem (l := l) fun p (hp : p ∈ put acc (f x) x) => by
    unfold put at hp
    split at hp
    · exact h p hp
    · rcases List.mem_append.mp hp with q | q
      · exact h p q
      · rw [List.mem_singleton.mp q]
theorem dd_in {f : α → β} : ∀ {l : List α} {acc : List (β × α)}, ∀ p ∈ dd f acc l, p ∈ acc ∨ p.2 ∈ l
  | [], _, p, h => .inl h
  | x :: l, acc, p, h => by
    rcases dd_in (l := l) p h with q | q
    · have q : p ∈ put acc (f x) x := q
      unfold put at q
      split at q
      · exact .inl q
      · rcases List.mem_append.mp q with q | q
        · exact .inl q
        · rw [List.mem_singleton.mp q]; exact .inr List.mem_cons_self
    · exact .inr (List.mem_cons_of_mem _ q)
/-- rows gone on from the first ones alone -/
theorem dd_ext {g : γ → δ} {f : α → β} {ext : γ → List α} (dep : ∀ x y, g x = g y → (ext x).map f = (ext y).map f) (l : List γ) : dd f [] (((dd g [] l).map Prod.snd).flatMap ext) = dd f [] (l.flatMap ext) := by
  have ind : ∀ l : List γ, dd f [] (((dd g [] l.reverse).map Prod.snd).flatMap ext) = dd f [] (l.reverse.flatMap ext) := fun l => by
    induction l with
    | nil => rfl
    | cons x l ih =>
      rw [List.reverse_cons, dd_app, List.flatMap_append, dd_app, ← ih]
      show dd f [] (((put (dd g [] l.reverse) (g x) x).map Prod.snd).flatMap ext) = dd f _ ([x].flatMap ext)
      have e1 : [x].flatMap ext = ext x := by simp
      rw [e1]
      unfold put
      split
      · rename_i h
        obtain ⟨p, hp, e⟩ := List.mem_map.mp h
        have ep := dd_mem (f := g) (l := l.reverse) (acc := []) (fun _ z => nomatch z) p hp
        refine (dd_same fun y hy => ?_).symm
        rw [dd_keys]
        refine .inr ?_
        have : f y ∈ (ext p.2).map f := by
          rw [dep p.2 x (ep.symm.trans e)]
          exact List.mem_map.mpr ⟨y, hy, rfl⟩
        obtain ⟨z, hz, ez⟩ := List.mem_map.mp this
        exact List.mem_map.mpr ⟨z, List.mem_flatMap.mpr ⟨p.2, List.mem_map.mpr ⟨p, hp, rfl⟩, hz⟩, ez⟩
      · rw [List.map_append, List.flatMap_append, dd_app]
        simp
  have := ind l.reverse
  rwa [List.reverse_reverse] at this
/-- what stands at a kind is the first of that kind -/
theorem dd_find {f : α → β} {k : β} : ∀ {l : List α} {acc : List (β × α)}, k ∉ acc.map Prod.fst → ((dd f acc l).find? fun p => decide (p.1 = k)).map Prod.snd = l.find? fun x => decide (f x = k)
  | [], acc, h => by
    show (acc.find? _).map Prod.snd = none
    rw [List.find?_eq_none.mpr fun p hp z => h (List.mem_map.mpr ⟨p, hp, of_decide_eq_true z⟩)]
    rfl
  | x :: l, acc, h => by
    show ((dd f (put acc (f x) x) l).find? _).map Prod.snd = _
    by_cases e : f x = k
    · rw [List.find?_cons_of_pos (by simp [e])]
      have ne : f x ∉ acc.map Prod.fst := e ▸ h
      have pre : ∀ (l : List α) (a1 a2 : List (β × α)), (∃ t, a2 = a1 ++ t) → ∃ t, dd f a2 l = a1 ++ t := fun l => by
        induction l with
        | nil => exact fun a1 a2 z => z
        | cons y l ih =>
          rintro a1 a2 ⟨t, rfl⟩
          refine ih a1 _ ?_
          show ∃ t', put (a1 ++ t) (f y) y = a1 ++ t'
          unfold put
          split
          · exact ⟨t, rfl⟩
          · exact ⟨t ++ [(f y, y)], List.append_assoc _ _ _⟩
      obtain ⟨t, et⟩ := pre l (acc ++ [(f x, x)]) (put acc (f x) x) ⟨[], by unfold put; rw [if_neg ne, List.append_nil]⟩
      rw [et, List.append_assoc, List.find?_append, List.find?_eq_none.mpr fun p hp z => h (List.mem_map.mpr ⟨p, hp, of_decide_eq_true z⟩)]
      simp [e]
    · rw [List.find?_cons_of_neg (by simp [e])]
      exact dd_find fun z => (put_keys.mp z).elim h fun q => e q.symm
end
end Can


set_option Elab.async false
set_option linter.all false
set_option maxRecDepth 100000
set_option maxHeartbeats 2000000
/-! for i, q in enumerate(zip(a, b)), a and b tuples: the zip's tuple is kept -/
namespace ZN
open PySem PySem.Spec PyProof.Rows
section
variable {prog : Program} {w : World} {A : Around} {E : Value → Shared → Prop} {s : Shared}
variable {z TI TO e : Addr} {ts : List Th} {i : Nat}
theorem draw_zip {Q : Value → Shared → Prop} (D : Apart z TI TO ts) (h1 : ts ≠ []) (hsz : ts.length ≤ 1000) (Z : ZipAt s.heap z TI TO ts i) (hn : ∀ t ∈ ts, i < t.xs.size)
    (hQ : ∀ h' , ZipAt h' z TI TO ts (i + 1) → TupObj h' s.heap.objs.size (vals ts i).toArray → h'.objs.size = s.heap.objs.size + 1 → (∀ c o, c ≠ z → c ≠ TO → (∀ t ∈ ts, c ≠ t.it) → s.heap.get? c = some o → h'.get? c = some o) → Q (.ref s.heap.objs.size) { s with heap := h' }) :
    wpAny (model prog w) A (Builtin.SmallTypes.nextOf (.ref z)) Q E s := by
  have zt : s.TypeIs (.ref z) "zip" := by
    obtain ⟨f0, f1, _, hz⟩ := Z.z
    exact ⟨_, hz, rfl⟩
  unfold Builtin.SmallTypes.nextOf
  exact wpAny_bind (wpAny_callSpecial?_slot (name := Str.ofString "__next__") zt F.slot_zip_next
    (wpAny_call_entry F.slot_zip_next zt F.entry_zip_next (next_zip D h1 hsz Z hn fun h' c1 c2 c3 c4 => wpAny_pure (hQ h' c1 c2 c3 c4)) (F.args_zip_next_1 _)))
theorem draw_zip_end {Q : Value → Shared → Prop} (hh : A.handled = none) (D : Apart z TI TO ts) (h1 : ts ≠ []) (Z : ZipAt s.heap z TI TO ts i) (hn : ∀ t ∈ ts, t.xs.size ≤ i)
    (hE : ∀ h' x, (∀ c o, c ≠ z → c ≠ TO → (∀ t ∈ ts, c ≠ t.it) → s.heap.get? c = some o → h'.get? c = some o) → (∃ o, h'.get? x = some o ∧ o.cls = .type "StopIteration") → E (.ref x) { s with heap := h' }) :
    wpAny (model prog w) A (Builtin.SmallTypes.nextOf (.ref z)) Q E s := by
  have zt : s.TypeIs (.ref z) "zip" := by
    obtain ⟨f0, f1, _, hz⟩ := Z.z
    exact ⟨_, hz, rfl⟩
  unfold Builtin.SmallTypes.nextOf
  exact wpAny_bind (wpAny_callSpecial?_slot (name := Str.ofString "__next__") zt F.slot_zip_next (wpAny_call_entry F.slot_zip_next zt F.entry_zip_next (end_zip hh D h1 Z hn hE) (F.args_zip_next_1 _)))
/-- the enumerate object's own next: one more pair -/
theorem enumz_item {old : Value} {Q : Option Value → Shared → Prop} (D : Apart z TI TO ts) (h1 : ts ≠ []) (hsz : ts.length ≤ 1000) (Z : ZipAt s.heap z TI TO ts i) (he : IsEnum s.heap e z ((i : Nat) : Int) old)
    (ez : e ≠ z) (eTO : e ≠ TO) (eit : ∀ t ∈ ts, e ≠ t.it) (hn : ∀ t ∈ ts, i < t.xs.size)
    (hQ : ∀ hA hB, ZipAt hA z TI TO ts (i + 1) → TupObj hA s.heap.objs.size (vals ts i).toArray → hA.objs.size = s.heap.objs.size + 1 → (∀ c o, c ≠ z → c ≠ TO → (∀ t ∈ ts, c ≠ t.it) → s.heap.get? c = some o → hA.get? c = some o) →
      IsEnumOut hB e z (((i + 1 : Nat) : Int)) (.ref s.heap.objs.size) (s.heap.objs.size + 1) → TupObj hB (s.heap.objs.size + 1) #[.int i s.toks, .ref s.heap.objs.size] → (∀ c o, c ≠ e → hA.get? c = some o → hB.get? c = some o) → Q (some (.ref (s.heap.objs.size + 1))) { s with heap := hB, toks := s.toks + 1 }) :
    wpAny (model prog w) A (pyNext (.ref e)) Q E s := by
  have et : s.TypeIs (.ref e) "enumerate" := ⟨_, he, rfl⟩
  have elt : e < s.heap.objs.size := Heap.lt_size he
  unfold pyNext
  refine wpAny_bind (wpAny_attempt (wpAny_callSpecial?_slot (name := Str.ofString "__next__") et F.slot_enumerate_next (wpAny_call_entry F.slot_enumerate_next et F.entry_enumerate_next ?_ (F.args_enumerate_next_1 _))))
  obtain ⟨hp, gs, dr, tk, os⟩ := s
  show wpAny _ _ (field (.ref e) 2 >>= _) _ _ _
  refine wpAny_bind (wpAny_field he rfl (x := .ref z) rfl ?_)
  refine wpAny_bind (draw_zip D h1 hsz Z hn fun hA ZA TA zA kA => ?_)
  replace kA : ∀ c o, c ≠ z → c ≠ TO → (∀ t ∈ ts, c ≠ t.it) → hp.get? c = some o → hA.get? c = some o := kA
  replace zA : hA.objs.size = hp.objs.size + 1 := zA
  replace TA : TupObj hA hp.objs.size (vals ts i).toArray := TA
  have fin := hQ hA
  replace elt : e < hp.objs.size := elt
  have eA : IsEnum hA e z ((i : Nat) : Int) old := kA e _ ez eTO eit he
  clear hQ he
  show wpAny _ _ (field (.ref e) 3 >>= _) _ _ ⟨hA, gs, dr, tk, os⟩
  refine wpAny_bind (wpAny_field eA rfl (x := rawInt ((i : Nat) : Int)) rfl ?_)
  show wpAny _ _ (field (.ref e) 4 >>= _) _ _ ⟨hA, gs, dr, tk, os⟩
  refine wpAny_bind (wpAny_field eA rfl (x := .none) rfl ?_)
  show wpAny _ _ (mkInt ((i : Nat) : Int) >>= _) _ _ ⟨hA, gs, dr, tk, os⟩
  refine wpAny_bind (wpAny_mkInt ?_)
  show wpAny _ _ (setField (.ref e) 3 (rawInt (((i : Nat) : Int) + 1)) >>= _) _ _ ⟨hA, gs, dr, tk + 1, os⟩
  refine wpAny_bind (wpAny_setField_rec eA (by simp) fun hC eC sC => ?_)
  replace sC : Heap.SameBut e hA hC := sC
  replace eC : IsEnum hC e z (((i : Nat) : Int) + 1) old := eC
  show wpAny _ _ (setField (.ref e) 4 .none >>= _) _ _ ⟨hC, gs, dr, tk + 1, os⟩
  refine wpAny_bind (wpAny_setField_rec eC (by simp) fun hD eD sD => ?_)
  replace sD : Heap.SameBut e hC hD := sD
  replace eD : IsEnum hD e z (((i : Nat) : Int) + 1) old := eD
  show wpAny _ _ (newTuple [.int i tk, .ref hp.objs.size] >>= _) _ _ ⟨hD, gs, dr, tk + 1, os⟩
  have zD : hD.objs.size = hp.objs.size + 1 := (sD.1.trans sC.1).trans zA
  refine wpAny_bind (wpAny_newTuple ?_)
  have push_old : ∀ c o, c ≠ e → hA.get? c = some o → (hD.push { cls := .type "tuple", data := .seq #[.int i tk, .ref hp.objs.size] }).get? c = some o := fun c o n q => Heap.get?_push_of_some _ (sD.extBut c o n (sC.extBut c o n q))
  have push_new : TupObj (hD.push { cls := .type "tuple", data := .seq #[.int i tk, .ref hp.objs.size] }) (hp.objs.size + 1) #[.int i tk, .ref hp.objs.size] := by
    rw [← zD]
    exact Heap.get?_push_size _ rfl
  have push_e : IsEnum (hD.push { cls := .type "tuple", data := .seq #[.int i tk, .ref hp.objs.size] }) e z (((i : Nat) : Int) + 1) old := Heap.get?_push_of_some _ eD
  show wpAny _ _ (Builtin.SmallTypes.ownedTupleIsFree (.ref e) >>= _) _ _ ⟨hD.push { cls := .type "tuple", data := .seq #[.int i tk, .ref hp.objs.size] }, gs, dr, tk + 1, os⟩
  rw [zD]
  generalize hD.push { cls := .type "tuple", data := .seq #[.int i tk, .ref hp.objs.size] } = hF at push_old push_new push_e ⊢
  refine wpAny_bind ?_
  unfold Builtin.SmallTypes.ownedTupleIsFree
  refine wpAny_bind (wpAny_field push_e rfl (x := .none) rfl (wpAny_pure ?_))
  simp only [if_true]
  refine wpAny_bind (wpAny_rule ?_)
  refine wpAny_bind (wpAny_field push_e rfl (x := old) rfl ?_)
  refine wpAny_bind (wpAny_setField_rec push_e (by simp) fun hG eG sG => ?_)
  replace sG : Heap.SameBut e hF hG := sG
  replace eG : IsEnum hG e z (((i : Nat) : Int) + 1) (.ref hp.objs.size) := eG
  show wpAny _ _ (Builtin.SmallTypes.ownedTupleHandOut (.ref e) (.ref (hp.objs.size + 1)) >>= _) _ _ ⟨hG, gs, dr, tk + 1, os⟩
  refine wpAny_bind ?_
  unfold Builtin.SmallTypes.ownedTupleHandOut
  refine wpAny_bind (wpAny_setField_rec eG (by simp) fun hI eI sI => ?_)
  replace sI : Heap.SameBut e hG hI := sI
  replace eI : IsEnumOut hI e z (((i : Nat) : Int) + 1) (.ref hp.objs.size) (hp.objs.size + 1) := eI
  refine wpAny_setField_rec eI (by simp) fun hB eB sB => ?_
  replace sB : Heap.SameBut e hI hB := sB
  replace eB : IsEnumOut hB e z (((i : Nat) : Int) + 1) (.ref hp.objs.size) (hp.objs.size + 1) := eB
  have up : ∀ c o, c ≠ e → hF.get? c = some o → hB.get? c = some o := fun c o n q => sB.extBut c o n (sI.extBut c o n (sG.extBut c o n q))
  have ei : (((i + 1 : Nat) : Int)) = ((i : Nat) : Int) + 1 := by omega
  rw [ei] at fin
  refine wpAny_bind (wpAny_letGo (wpAny_pure ⟨_, rfl, wpAny_pure (fin hB ZA TA zA kA eB (up _ _ (Nat.ne_of_gt (Nat.lt_succ_of_lt elt)) push_new) fun c o n q => up c o n (push_old c o n q))⟩))
theorem enumz_end {old : Value} {n : Int} {Q : Option Value → Shared → Prop} (hh : A.handled = none) (D : Apart z TI TO ts) (h1 : ts ≠ []) (Z : ZipAt s.heap z TI TO ts i) (he : IsEnum s.heap e z n old) (hn : ∀ t ∈ ts, t.xs.size ≤ i)
    (hQ : ∀ h', (∀ c o, c ≠ z → c ≠ TO → (∀ t ∈ ts, c ≠ t.it) → s.heap.get? c = some o → h'.get? c = some o) → Q none { s with heap := h' }) : wpAny (model prog w) A (pyNext (.ref e)) Q E s := by
  have et : s.TypeIs (.ref e) "enumerate" := ⟨_, he, rfl⟩
  unfold pyNext
  refine wpAny_bind (wpAny_attempt (wpAny_callSpecial?_slot (name := Str.ofString "__next__") et F.slot_enumerate_next (wpAny_call_entry F.slot_enumerate_next et F.entry_enumerate_next ?_ (F.args_enumerate_next_1 _))))
  show wpAny _ _ (field (.ref e) 2 >>= _) _ _ _
  refine wpAny_bind (wpAny_field he rfl (x := .ref z) rfl ?_)
  refine wpAny_bind (draw_zip_end hh D h1 Z hn fun h' x k hx => ?_)
  obtain ⟨o, ho, hc⟩ := hx
  exact wpAny_bind (wpAny_isInstance (T := "StopIteration") (b := true) ⟨o, ho, hc⟩ isSubtype_stop (wpAny_pure (hQ _ k)))
/-! ### enumerate(a zip) made -/
abbrev enumZO (z : Addr) : Obj := { cls := .type "enumerate", data := .fields #[.none, .bool false, .ref z, rawInt 0, .none, .none] }
theorem meets_enumZ (z TI TO : Addr) (ts : List Th) (i : Nat) :
    Meets (Builtin.«enumerate.__new__» ⟨[.type "enumerate", .ref z], []⟩) (fun _ R s => ZipAt s.heap z TI TO ts i ∧ R (.ok (.ret (.ref s.heap.objs.size))) { s with heap := s.heap.push (enumZO z) }) :=
  .of_wp fun prog w A R st hh => by
    obtain ⟨hp, gg, dd, tt, oo⟩ := st
    obtain ⟨Z, hR⟩ := hh
    have Z' : ZipAt (Shared.heap ⟨hp, gg, dd, tt, oo⟩) z TI TO ts i := Z
    obtain ⟨f0, f1, _, hz⟩ := Z.z
    have hob : hp.get? z = some { cls := .type "zip", dict := none, data := .fields #[f0, .bool f1, .bool false, .ref TI, .ref TO], slots := #[] } := hz
    have sb := sub_enumerate
    wp_walk using wpAny_loadPart' hob
    refine wpAny_stack_any fun stk => wpAny_pure ?_
    split
    · rename_i cc _ _ _ _ _
      cases (cc == Value.type "enumerate") <;> (wp_walk using wpAny_loadPart' hob, pyIter_zip Z'; exact ⟨_, rfl, hR⟩)
    · wp_walk using wpAny_loadPart' hob, pyIter_zip Z'
      exact ⟨_, rfl, hR⟩
theorem call_enumZ {Q : Value → Shared → Prop} (Z : ZipAt s.heap z TI TO ts i)
    (k : ∀ h', IsEnum h' s.heap.objs.size z 0 .none → (∀ b o, s.heap.get? b = some o → h'.get? b = some o) → Q (.ref s.heap.objs.size) { s with heap := h' }) :
    wpAny (model prog w) A (call (.type "enumerate") [.ref z]) Q E s := by
  have e1 : IsEnum (s.heap.push (enumZO z)) s.heap.objs.size z 0 .none := Heap.get?_push_size s.heap (o := enumZO z) rfl
  refine callType_new F.called_enumerate (by decide) (F.typeCall_enumerate_1 _) (F.newCall_enumerate_1 _) (fun obj => F.args_object_init_2 obj _) F.entry_enumerate_new (meets_enumZ z TI TO ts i) ⟨Z, ?_⟩
  show _ ∧ _
  exact ⟨⟨_, e1, rfl⟩, k (s.heap.push (enumZO z)) e1 fun b o x => Heap.get?_push_of_some _ x⟩
end
end ZN
namespace K01
open PySem PySem.Spec PyProof.Rows L2
/-- the tuples at as side by side: each turn a new tuple of their i-th items, in a new pair with its place -/
def ItEN (K : PySem.W.Frag) (as : List Addr) : It :=
  ⟨(ItzN K as).go,
    fun i H v H' => ∃ T U col, v = .ref U ∧ H T = none ∧ upd H T (.tup col) U = none ∧ H' = upd (upd H T (.tup col)) U (.tup [.int (i : Nat), .ref T]) ∧ col.length = as.length ∧ ∀ (j : Nat) a xs, as[j]? = some a → SqT K H a xs → col[j]? = xs[i]?,
    (ItzN K as).stop⟩
theorem turn_EN {P : Program} {w : World} {K : PySem.W.Frag} {elts : List Expr} {kk : Nat} {tpos : Pos} {ts0 : List ZN.Th} {e z TI TO : Addr} (D : ZN.Apart z TI TO ts0) (h1 : ts0 ≠ []) (hsz : ts0.length ≤ 1000)
    (ez : e ≠ z) (eTI : e ≠ TI) (eTO : e ≠ TO) (eit : ∀ p ∈ ZN.prs ts0, e ≠ p.1 ∧ e ≠ p.2) :
    Turn P w K (.Tuple elts kk tpos) (ItEN K ((ZN.prs ts0).map Prod.snd)) (e :: z :: TI :: TO :: (ZN.prs ts0).map Prod.fst) e (fun i h => (∃ old, IsEnum h e z ((i : Nat) : Int) old) ∧ ZN.ZipI h z TI TO (ZN.prs ts0) i) where
  mem := List.mem_cons_self
  obj := fun i h st c hc => by
    obtain ⟨⟨old, he⟩, st⟩ := st
    obtain ⟨f0, f1, hf, hz⟩ := st.z
    obtain ⟨kept, hk, ht⟩ := st.to
    rcases List.mem_cons.mp hc with rfl | hc
    · exact ⟨_, he, fun v q => nomatch q⟩
    rcases List.mem_cons.mp hc with rfl | hc
    · exact ⟨_, hz, fun v q => nomatch q⟩
    rcases List.mem_cons.mp hc with rfl | hc
    · exact ⟨_, st.ti, fun v q => nomatch q⟩
    rcases List.mem_cons.mp hc with rfl | hc
    · exact ⟨_, ht, fun v q => nomatch q⟩
    obtain ⟨p, hp, rfl⟩ := List.mem_map.mp hc
    obtain ⟨o, e1, _, d1⟩ := st.its p hp
    exact ⟨o, e1, fun v q => by rw [d1] at q; cases q⟩
  keep := fun i h h' st k => by
    obtain ⟨⟨old, he⟩, st⟩ := st
    exact ⟨⟨old, k e List.mem_cons_self _ he⟩, st.at fun b hb o q => k b (List.mem_cons_of_mem _ hb) o q⟩
  item := by
    intro X hP hw hK hc i pins s σ H E I hf st hg
    subst hP hw hK
    obtain ⟨⟨old, he⟩, st⟩ := st
    obtain ⟨ts, ets, hts⟩ := threads_of (i := i) (Pr := fun xs => i < xs.length) I hg
    have D' := ZN.Apart.same ets.symm D
    have Z : ZN.ZipAt s.heap z TI TO ts i := by rw [← ets] at st; exact st.full fun t ht => (hts t ht).1
    have hne : ts ≠ [] := fun q => h1 (by
      rw [q] at ets
      have := congrArg List.length ets
      unfold ZN.prs at this
      rw [List.length_map, List.length_map] at this
      exact List.length_eq_zero_iff.mp this.symm)
    have hl : ts.length = ts0.length := by
      have := congrArg List.length ets
      unfold ZN.prs at this
      rwa [List.length_map, List.length_map] at this
    obtain ⟨col, rc, qc⟩ := vals_at (X := X) (H := H) (i := i) fun t ht => (hts t ht).2
    have hn : ∀ t ∈ ts, i < t.xs.size := fun t ht => by
      obtain ⟨xs, _, hi, rv⟩ := (hts t ht).2
      have := rv.length
      rw [Array.length_toList] at this
      exact Nat.lt_of_lt_of_eq hi this
    have memp : ∀ t ∈ ts, (t.it, t.l) ∈ ZN.prs ts0 := fun t ht => by
      rw [← ets]
      exact List.mem_map.mpr ⟨t, ht, rfl⟩
    have memf : ∀ t ∈ ts, t.it ∈ (ZN.prs ts0).map Prod.fst := fun t ht => List.mem_map.mpr ⟨_, memp t ht, rfl⟩
    have olt : ∀ b ∈ e :: z :: TI :: TO :: (ZN.prs ts0).map Prod.fst, b < s.heap.objs.size := fun b hb => by
      obtain ⟨f0, f1, _, hz⟩ := st.z
      obtain ⟨kept, _, ht⟩ := st.to
      rcases List.mem_cons.mp hb with rfl | hb
      · exact Heap.lt_size he
      rcases List.mem_cons.mp hb with rfl | hb
      · exact Heap.lt_size hz
      rcases List.mem_cons.mp hb with rfl | hb
      · exact Heap.lt_size st.ti
      rcases List.mem_cons.mp hb with rfl | hb
      · exact Heap.lt_size ht
      obtain ⟨p, hp, rfl⟩ := List.mem_map.mp hb
      obtain ⟨o, e1, _⟩ := st.its p hp
      exact Heap.lt_size e1
    refine ZN.enumz_item D' hne (by omega) Z he ez eTO (fun t ht => (eit _ (memp t ht)).1) hn fun hA hB ZA TA zA kA eB TB kB => ⟨_, rfl, ?_⟩
    refine wpAny_letOwnedTupleGo_enum (s := { s with heap := hB, toks := s.toks + 1 }) eB fun hC eC sC => ?_
    replace sC : Heap.SameBut e hB hC := sC
    have elt : e < s.heap.objs.size := olt e List.mem_cons_self
    have kC : ∀ c o, c ≠ e → hB.get? c = some o → hC.get? c = some o := fun c o n q => (sC.2 c n).trans q
    have lc : col.length = ts.length := by rw [rc.length, ZN.vals_len]
    have b1000 : 1000 ≤ sizeLine := by decide
    have fresh : H s.heap.objs.size = none := I.hok.fresh (Nat.le_refl _)
    have new1 : ObjOk X.prog X.w (upd H s.heap.objs.size (.tup col)) hA s.heap.objs.size (.tup col) := ⟨by omega, _, rc, ⟨_, TA, rfl, _, rfl⟩⟩
    have I1 : Inv X pins σ (upd H s.heap.objs.size (.tup col)) { s with heap := hA } :=
      I.turnedNew (t' := s.toks) (ch := e :: z :: TI :: TO :: (ZN.prs ts0).map Prod.fst) (fun c o hb q => kA c o (fun y => hb (by simp [y])) (fun y => hb (by simp [y])) (fun t ht y => hb (by rw [y]; exact List.mem_cons_of_mem _ (List.mem_cons_of_mem _ (List.mem_cons_of_mem _ (List.mem_cons_of_mem _ (memf t ht)))))) q) hf (Nat.le_refl _) new1
    have fresh2 : upd H s.heap.objs.size (.tup col) (s.heap.objs.size + 1) = none := I1.hok.fresh (by show hA.objs.size ≤ _; rw [zA]; exact Nat.le_refl _)
    have hf1 : ∀ b ∈ [e], FpOk X pins (upd H s.heap.objs.size (.tup col)) b := fun b hb => by
      rw [List.mem_singleton.mp hb]
      obtain ⟨g0, g⟩ := hf e List.mem_cons_self
      exact ⟨by rw [upd_ne (Nat.ne_of_lt elt)]; exact g0, g⟩
    have T2 : ZN.TupObj hC (s.heap.objs.size + 1) #[.int i s.toks, .ref s.heap.objs.size] := kC _ _ (Nat.ne_of_gt (Nat.lt_succ_of_lt elt)) TB
    have new2 : ObjOk X.prog X.w (upd (upd H s.heap.objs.size (.tup col)) (s.heap.objs.size + 1) (.tup [.int (i : Nat), .ref s.heap.objs.size])) hC (s.heap.objs.size + 1) (.tup [.int (i : Nat), .ref s.heap.objs.size]) :=
      ⟨by show 2 ≤ sizeLine; decide, [.int i s.toks, .ref s.heap.objs.size], .cons ⟨_, rfl⟩ (.cons rfl .nil), ⟨_, T2, rfl, _, rfl⟩⟩
    have I2 : Inv X pins σ (upd (upd H s.heap.objs.size (.tup col)) (s.heap.objs.size + 1) (.tup [.int (i : Nat), .ref s.heap.objs.size])) { s with heap := hC, toks := s.toks + 1 } :=
      I1.turnedNew (t' := s.toks + 1) (ch := [e]) (fun c o hb q => kC c o (fun y => hb (List.mem_singleton.mpr y)) (kB c o (fun y => hb (List.mem_singleton.mpr y)) q)) hf1 (by show hA.objs.size ≤ _; rw [zA]; exact Nat.le_refl _) new2
    refine ⟨.ref (s.heap.objs.size + 1), _, I2, rfl, ⟨s.heap.objs.size, s.heap.objs.size + 1, col, rfl, fresh, fresh2, rfl, ?_, fun j a xs ha hx => ?_⟩, ⟨⟨_, eC⟩, ?_⟩, fun b hb => ?_⟩
    · rw [lc, hl, List.length_map]; unfold ZN.prs; rw [List.length_map]
    · rw [← ets] at ha
      unfold ZN.prs at ha
      rw [List.map_map, List.getElem?_map] at ha
      cases ht : ts[j]? with
      | none => rw [ht] at ha; cases ha
      | some t =>
        rw [ht] at ha
        have ea : t.l = a := Option.some.inj ha
        obtain ⟨xs', hx', q⟩ := qc j t ht
        rw [ea] at hx'
        rw [q, I.tuple_inj hx hx']
    · show ZN.ZipI hC z TI TO (ZN.prs ts0) (i + 1)
      rw [← ets]
      refine ZA.pairs.at fun b hb o q => ?_
      have be : b ≠ e := by
        rcases List.mem_cons.mp hb with rfl | hb
        · exact ez.symm
        rcases List.mem_cons.mp hb with rfl | hb
        · exact eTI.symm
        rcases List.mem_cons.mp hb with rfl | hb
        · exact eTO.symm
        obtain ⟨p, hp, rfl⟩ := List.mem_map.mp hb
        rw [ets] at hp
        exact (eit p hp).1.symm
      exact kC b o be (kB b o be q)
    · have lt := olt b hb
      rw [upd_ne (Nat.ne_of_lt (Nat.lt_succ_of_lt lt)), upd_ne (Nat.ne_of_lt lt)]
      exact (hf b hb).1
  done := by
    intro X hP hw hK hc i pins s σ H E I hf st hg
    subst hP hw hK
    obtain ⟨⟨old, he⟩, st⟩ := st
    obtain ⟨ts, ets, hts⟩ := threads_of (i := i) (Pr := fun xs => xs.length ≤ i) I hg
    have D' := ZN.Apart.same ets.symm D
    have Z : ZN.ZipAt s.heap z TI TO ts i := by rw [← ets] at st; exact st.full fun t ht => (hts t ht).1
    have hne : ts ≠ [] := fun q => h1 (by
      rw [q] at ets
      have := congrArg List.length ets
      unfold ZN.prs at this
      rw [List.length_map, List.length_map] at this
      exact List.length_eq_zero_iff.mp this.symm)
    have hn : ∀ t ∈ ts, t.xs.size ≤ i := fun t ht => by
      obtain ⟨xs, _, hi, rv⟩ := (hts t ht).2
      have := rv.length
      rw [Array.length_toList] at this
      exact Nat.le_trans (Nat.le_of_eq this.symm) hi
    have memf : ∀ t ∈ ts, t.it ∈ (ZN.prs ts0).map Prod.fst := fun t ht => by
      rw [← ets]
      exact List.mem_map.mpr ⟨(t.it, t.l), List.mem_map.mpr ⟨t, ht, rfl⟩, rfl⟩
    exact ZN.enumz_end (I.ok.hd hc) D' hne Z he hn fun h' hk => ⟨rfl, I.turnedL (t' := s.toks) (ch := e :: z :: TI :: TO :: (ZN.prs ts0).map Prod.fst) (fun c o hb q =>
      hk c o (fun y => hb (by simp [y])) (fun y => hb (by simp [y])) (fun t ht y => hb (by rw [y]; exact List.mem_cons_of_mem _ (List.mem_cons_of_mem _ (List.mem_cons_of_mem _ (List.mem_cons_of_mem _ (memf t ht)))))) q) hf⟩
  self := fun A i s Q E st h => wpAny_pyIter_enum st.1.choose_spec h
/-- enumerate(zip(e, e2)), both tuples -/
def iEZ (K : PySem.W.Frag) (ta : TA) : TI := fun σ H R => ta σ H fun vs H1 => ∃ a b xs ys, vs = [.ref a, .ref b] ∧ SqT K H1 a xs ∧ SqT K H1 b ys ∧ R (ItEN K [a, b]) H1
theorem pi_enumZ {X : Cx} {e e2 : Expr} {ta : TA} {p p2 pos pos2 tpos : Pos} {elts : List Expr} {kk : Nat} (hg : Gl X "enumerate") (hm : X.mg "enumerate" = none) (hg2 : Gl X "zip") (hm2 : X.mg "zip" = none) (ha : PA X [e, e2] ta)
    (hs : starEach [e, e2] X.env = (false, eval e X.env) :: starEach [e2] X.env := by rfl) (hpl : (backTo pos2 (starEach [e2] X.env)).any (·.1) = false := by rfl) :
    PI X (.Tuple elts kk tpos) (.Call (.Name "enumerate" p) [.Call (.Name "zip" p2) [e, e2] [] pos2] [] pos) (iEZ X.K ta) := by
  refine ⟨fun pins s σ H R I h => ?_⟩
  refine Call_ (ld_blt I hg hm boot_enumerate ?_)
  refine PyProof.Rows.callWith_type1 (PyProof.Rows.args_cons ?_ rfl) rfl rfl
  refine Call_ (ld_blt I hg2 hm2 PyProof.Rows.boot_zip (PyProof.Rows.callWith_type1 (thn (ha.run pos2 pins s σ H _ I h) fun us s1 ⟨vs, H1, I1, r1, q1⟩ => ?_) hs hpl))
  obtain ⟨a, b, xs, ys, rfl, hqx, hqy, q⟩ := q1
  obtain ⟨u1, u2, rfl, r1, r2⟩ := vals2 r1
  cases (show u1 = Value.ref a from r1)
  cases (show u2 = Value.ref b from r2)
  obtain ⟨its, rv, t1, _⟩ := I1.tuple hqx
  obtain ⟨its2, rv2, t2, _⟩ := I1.tuple hqy
  refine ZN.call_zip [(a, its.toArray), (b, its2.toArray)] (by show 1 ≤ 2; decide) (by show 2 ≤ 8; decide) (fun q hq => ?_) fun ts z TI TO h2 es D Z k gz gTO git gTI => ?_
  · rcases List.mem_cons.mp hq with rfl | hq
    · exact t1
    · rw [List.mem_singleton.mp hq]; exact t2
  have lts : ts.length = 2 := by
    have := congrArg List.length es
    rw [List.length_map] at this
    exact this.symm
  have hne : ts ≠ [] := fun y => by rw [y] at lts; simp at lts
  have ep : (ZN.prs ts).map Prod.snd = [a, b] := by
    have := congrArg (List.map Prod.fst) es
    unfold ZN.prs
    rw [List.map_map] at this ⊢
    exact this.symm
  have I2 : Inv X pins σ H1 { s1 with heap := h2 } := I1.kept (t' := s1.toks) k
  refine PyProof.Rows.args_nil ?_
  refine ZN.call_enumZ (s := { s1 with heap := h2 }) Z fun h3 he k3 => wpAny_pyIter_enum he ?_
  have I3 : Inv X pins σ H1 { s1 with heap := h3 } := I2.kept (t' := s1.toks) k3
  have lt2 : ∀ c o, h2.get? c = some o → h2.objs.size ≠ c := fun c o q => Nat.ne_of_gt (Heap.lt_size q)
  have Z3 : ZN.ZipI h3 z TI TO (ZN.prs ts) 0 := Z.pairs.at fun c _ o q => k3 c o q
  obtain ⟨f0, f1, _, hz⟩ := Z.z
  obtain ⟨kept, _, hto⟩ := Z.to
  have its_lt : ∀ p ∈ ZN.prs ts, h2.objs.size ≠ p.1 ∧ h2.objs.size ≠ p.2 := fun p hp => by
    obtain ⟨t, ht, rfl⟩ := List.mem_map.mp hp
    obtain ⟨⟨o, ho, _⟩, ⟨o', ho', _⟩⟩ := Z.at_ t ht
    exact ⟨lt2 _ _ ho, lt2 _ _ ho'⟩
  have big : s1.heap.objs.size ≤ h2.objs.size := Nat.le_of_lt (Nat.lt_of_le_of_lt gz (Heap.lt_size hz))
  refine ⟨h2.objs.size, _, _, _, H1, rfl, I3, turn_EN D hne (by omega) (lt2 _ _ hz) (lt2 _ _ Z.ti) (lt2 _ _ hto) its_lt, ⟨⟨.none, he⟩, Z3⟩, fun c hc => ?_, ?_⟩
  · have hle : s1.heap.objs.size ≤ c := by
      rcases List.mem_cons.mp hc with rfl | hc
      · exact big
      rcases List.mem_cons.mp hc with rfl | hc
      · exact gz
      rcases List.mem_cons.mp hc with rfl | hc
      · exact gTI
      rcases List.mem_cons.mp hc with rfl | hc
      · exact gTO
      obtain ⟨p, hp, rfl⟩ := List.mem_map.mp hc
      obtain ⟨t, ht, rfl⟩ := List.mem_map.mp hp
      exact git t ht
    exact I1.fpOk hle (I1.hok.fresh hle)
  · rw [ep]
    exact q
theorem walk_EN {K : PySem.W.Frag} {a b : Addr} {xs ys : List V} (hl : xs.length = ys.length) : Walk (ItEN K [a, b]) xs.length (fun H => SqT K H a xs ∧ SqT K H b ys)
    (fun i H v H' => ∃ T U x y, v = .ref U ∧ H T = none ∧ upd H T (.tup [x, y]) U = none ∧ H' = upd (upd H T (.tup [x, y])) U (.tup [.int (i : Nat), .ref T]) ∧ xs[i]? = some x ∧ ys[i]? = some y) := by
  refine ⟨fun i H hi q c hc => ?_, fun H q c hc => ?_, fun i H v H' hi q y => ?_⟩
  · rcases List.mem_cons.mp hc with rfl | hc
    · exact ⟨xs, q.1, hi⟩
    · rw [List.mem_singleton.mp hc]; exact ⟨ys, q.2, hl ▸ hi⟩
  · rcases List.mem_cons.mp hc with rfl | hc
    · exact ⟨xs, q.1, Nat.le_refl _⟩
    · rw [List.mem_singleton.mp hc]; exact ⟨ys, q.2, Nat.le_of_eq hl.symm⟩
  · obtain ⟨T, U, col, rfl, nT, nU, rfl, lc, qc⟩ := y
    match col, lc with
    | [x, y], _ =>
      have g0 := qc 0 a xs rfl q.1
      have g1 := qc 1 b ys rfl q.2
      exact ⟨T, U, x, y, rfl, nT, nU, rfl, g0.symm, g1.symm⟩
end K01


set_option Elab.async false
set_option linter.all false
set_option maxRecDepth 100000
set_option maxHeartbeats 2000000
/-! d.setdefault where the keys are tuples -/
namespace L2
open PySem PySem.Spec PyProof.Rows
section
variable {X : Cx} {pins : List (Addr × Obj)} {σ : St} {H : Hp} {s : Shared} {a b : Addr} {r : Value} {d : V} {k : List Key} {A : Around} {E : Value → Shared → Prop}
theorem d_setdT {kvs : List (List Key × V)} {Q : Value → Shared → Prop} (hu : A.units + 1 < cLine) (I : Inv X pins σ H s) (e : H a = some (.dT kvs)) (eb : H b = some (.tup (k.map kV))) (rd : RelV d r) (hl : kvs.length < sizeLine)
    (h1 : ∀ v, valV kvs k = some v → ∀ (w' : Value) (s' : Shared), Inv X pins σ H s' → RelV v w' → Q w' s') (h2 : valV kvs k = none → ∀ (w' : Value) (s' : Shared), Inv X pins σ (upd H a (.dT (putK kvs k d))) s' → RelV d w' → Q w' s') :
    wpAny (model X.prog X.w) A (call (.builtin "dict.setdefault") [.ref a, .ref b, r]) Q E s := by
  obtain ⟨z, hd, xs, rel, dd⟩ := dt_of I.hok e
  have hz : xs.length ≤ sizeLine := by rw [← Paired.length rel]; exact z
  have hl2 : (putK kvs k d).length ≤ sizeLine := by have := length_putK kvs k d; omega
  have q := rel.val k
  refine call_setdefault_heap (hsz := hz) (tupleKind_room_in1 hu) (key_of I.hok eb) hd dd (fun p hp => ?_) fun hn h' dd' hs => ?_
  · rw [hp] at q
    cases q0 : valV kvs k with
    | none =>
      rw [q0] at q
      exact (show False from q).elim
    | some v0 =>
      rw [q0] at q
      exact h1 v0 q0 _ _ (I.tok _) q
  · rw [hn] at q
    cases q0 : valV kvs k with
    | some v0 =>
      rw [q0] at q
      exact (show False from q).elim
    | none =>
      refine h2 q0 _ _ ?_ rd
      obtain ⟨q, es, ep, hq, g2, g3, g4, _, g5⟩ := dd'
      refine d_write I (by rw [e]; exact True.intro) hs ⟨q, hq⟩ ⟨hl2, hd, _, (rel.put k eb rd).keeps fun c ys ec => ?_, q, es, ep, hq, g2, g3, g4, g5⟩
      rw [upd_ne (ne_of ec e (fun z => nomatch z))]
      exact ec
end
/-- d.setdefault(y, z), y a tuple -/
def tDSetdT (td ty tx : TE) : TE := fun σ H Q => td σ H fun x H1 => ∃ a, x = .ref a ∧ IsD H1 a ∧ ty σ H1 fun y H2 => tx σ H2 fun z H3 => ∃ (kvs : List (List Key × V)) (k : List Key) (b : Addr), H3 a = some (.dT kvs) ∧ y = .ref b ∧ H3 b = some (.tup (k.map kV)) ∧ kvs.length < sizeLine ∧
  (∀ v, valV kvs k = some v → Q v H3) ∧ (valV kvs k = none → Q z (upd H3 a (.dT (putK kvs k z))))
section
variable {X : Cx} {o e f : Expr} {td ty tx : TE} {apos cpos : Pos}
theorem pe_dsetdT (hu : X.A.units + 1 < cLine) (ho : PE X o td) (he : PE X e ty) (hf : PE X f tx) (m : M2 X o "setdefault" apos e f cpos) : PE X (.Call (.Attribute o "setdefault" apos) [e, f] [] cpos) (tDSetdT td ty tx) := by
  refine ⟨fun pins s σ H Q I h => ?_⟩
  refine wpAny_Call_method m.base m.few m.line PySem.F.plainAttrs_dict PySem.F.slot_dict_setdefault PySem.F.type_dict_setdefault (thn (ho.run pins s σ H _ I h) fun u s1 ⟨x, H1, I1, rx, a, ex, d, q1⟩ => ?_)
  subst ex
  obtain rfl : u = Value.ref a := rx
  obtain ⟨t1, t2, _⟩ := isD_at I1 d
  refine ⟨t1, t2, ?_⟩
  rw [m.trees]
  refine Calls.callWith_builtin rfl (Calls.evalArgs_plain (Calls.spliced_cons (thn (he.run pins s1 σ H1 _ I1 q1) fun iv s2 ⟨y, H2, I2, ry, q2⟩ =>
    Calls.spliced_cons (thn (hf.run pins s2 σ H2 _ I2 q2) fun fv s3 ⟨z, H3, I3, rz, kvs, k, b, ea, ey, eb, hl, q3, q4⟩ => Calls.spliced_nil ?_))))
  subst ey
  obtain rfl : iv = Value.ref b := ry
  exact d_setdT hu I3 ea eb rz hl (fun v hv w' s4 I4 rw' => ⟨v, _, I4, rw', q3 v hv⟩) fun hn w' s4 I4 rw' => ⟨z, _, I4, rw', q4 hn⟩
end
end L2


set_option Elab.async false
set_option linter.all false
set_option maxRecDepth 100000
set_option maxHeartbeats 2000000
/-! len of a set of tuples of whole numbers; sorted of one, the tuples of any one length, also of none -/
namespace L2
open PySem PySem.Spec PyProof.Rows
section
variable {prog : Program} {w : World} {A : Around} {E : Value → Shared → Prop} {s : Shared}
theorem sort_one {a : Addr} {vs : List Value} {n : Nat} {Q : Value → Shared → Prop} (ho : s.heap.get? a = some (seqObj "list" vs.toArray n)) (few : vs.length ≤ 1)
    (h : ∀ out : Array Value, out.toList.Perm vs → Q .none { s with heap := sortedHeap s.heap a vs out }) : wpAny (model prog w) A (call (.builtin "list.sort") [.ref a]) Q E s :=
  wpAny_call_entry slot_list_sort ⟨_, ho, rfl⟩ entry_list_sort (SK.plain_sort (r := fun _ => 0) ho (by omega) (fun two _ _ => absurd two (by omega)) fun ps out q1 q2 q3 => ⟨_, rfl, h out (TS.out_rank (r := fun _ => 0) q1 q2 q3).1⟩) (args_list_sort _)
theorem perm_short {α : Type} : ∀ {l m : List α}, l.Perm m → m.length ≤ 1 → l = m
  | l, [], p, _ => List.Perm.eq_nil p
  | l, [x], p, _ => List.perm_singleton.mp p
  | l, x :: y :: m, _, h => by simp at h
theorem sorted_set1 {a : Addr} {L : List (Addr × List Int)} {es : Array (Int × Value)} {ep : Nat} {t : SetTable} {Q : Value → Shared → Prop} (R : SetTR prog w s.heap a L es ep t) (hh : A.handled = none) (few : L.length ≤ 1)
    (hQ : ∀ s' p (out : Array Value) (c : Nat), (∀ b o, s.heap.get? b = some o → s'.heap.get? b = some o) → s'.gens = s.gens → s'.os = s.os → s.heap.objs.size ≤ p → s'.heap.get? p = some (seqObj "list" out c) → out.toList = L.map (fun q => Value.ref q.1) → Q (.ref p) s') :
    wpAny (model prog w) A (call (.builtin "sorted") [.ref a]) Q E s := by
  obtain ⟨ob, at0, ex, dat⟩ := R.ob
  have lz := R.size
  refine Calls.call_function_entry kind_sorted plain_sorted entry_sorted (args_sorted1 _) ?_
  unfold Builtin.«sorted»
  refine wpAny_bind (m := checkCount "sorted" 1 1 _) (wpAny_pure ?_)
  refine wpAny_bind (collect_set (A := A.in1) hh ⟨ob, at0, ex.1, dat⟩ R.fits (by unfold scanBound; omega) R.tab.ris R.led fun s1 vs kp lo g1 o1 pm => ?_)
  have ev : es.toList.map (·.2) = L.map fun q => Value.ref q.1 := by
    rw [R.rows]
    unfold rowsOf
    rw [List.map_map]
    rfl
  rw [ev] at pm
  have evs : vs = L.map fun q => Value.ref q.1 := perm_short pm (by rw [List.length_map]; exact few)
  have vlen : vs.length ≤ 1 := by rw [evs, List.length_map]; exact few
  refine wpAny_bind (wpAny_newList ?_ (by rw [sizeLine_eq]; omega))
  have new : (s1.heap.push (seqObj "list" vs.toArray 0)).get? s1.heap.objs.size = some (seqObj "list" vs.toArray 0) := Heap.get?_push_size _ rfl
  refine wpAny_bind (wpAny_holding (sort_one (s := { s1 with heap := s1.heap.push (seqObj "list" vs.toArray 0) }) new vlen fun out po => ?_))
  obtain ⟨c, hc⟩ := sortedHeap_at (vs := vs) (out := out) new
  refine wpAny_pure ⟨_, rfl, hQ _ s1.heap.objs.size out c (fun b u e => ?_) g1 o1 lo hc ((perm_short po vlen).trans evs)⟩
  have e1 := kp b u e
  have lt := Heap.lt_size e1
  show (sortedHeap (s1.heap.push (seqObj "list" vs.toArray 0)) s1.heap.objs.size vs out).get? b = some u
  rw [sortedHeap_old (Nat.ne_of_lt lt) (by rw [size_push']; exact Nat.lt_succ_of_lt lt)]
  exact Heap.get?_push_of_some _ e1
end
section
variable {X : Cx}
def rLenS (K : PySem.W.Frag) (P : Program) (w : World) : List V → Hp → VK → Prop := fun vs H Q => ∃ (a : Addr) (L : List (Addr × List Int)), vs = [V.ref a] ∧ H a = some (SetTO P w a L) ∧ (∀ p ∈ L, SqT K H p.1 (p.2.map V.int)) ∧ ((L.map (·.2)).Nodup → Q (.int (L.length : Nat)) H)
theorem cr_lenS : CallR X (.builtin "len") (rLenS X.K X.prog X.w) := by
  intro pins s σ H xs us Q I r h
  obtain ⟨a, L, rfl, ha, hk, q⟩ := h
  rw [Vals.ref1 r]
  have R0 : SetT0 X.prog X.w s.heap a L := (I.hok a _ ha).1
  obtain ⟨es, ep, t, R⟩ := R0.full fun p hp => I.isT (hk p hp)
  obtain ⟨o, ho, hex, hd⟩ := R.ob
  have few := R.few
  have lz := R.size
  exact call_len_set ho hex hd R.fits (by omega) ⟨.int (L.length : Nat), H, I.tok _, ⟨_, by rw [lz]⟩, q R.nd⟩
/-- sorted(set): the same tuples, in their order -/
def rSortA (K : PySem.W.Frag) (P : Program) (w : World) : List V → Hp → VK → Prop := fun vs H Q => ∃ (a : Addr) (L : List (Addr × List Int)) (d : Nat) (B : Int), vs = [V.ref a] ∧ H a = some (SetTO P w a L) ∧ (∀ p ∈ L, SqT K H p.1 (p.2.map V.int)) ∧
  (∀ p ∈ L, p.2.length = d ∧ TS.Bd B p.2) ∧ ∀ (L' : List (Addr × List Int)) (p : Addr), L'.Perm L → (L'.map (·.2)).Nodup → L'.length < 64 → L'.Pairwise (fun q r => TS.code B q.2 ≤ TS.code B r.2) → H p = none → Q (.ref p) (upd H p (.lst (L'.map fun q => V.ref q.1)))
theorem cr_sortA (hc : X.calm = true) : CallR X (.builtin "sorted") (rSortA X.K X.prog X.w) := by
  intro pins s σ H vs us Q I r h
  obtain ⟨a, L, d, B, rfl, ha, hk, hB, q⟩ := h
  by_cases hd : 1 ≤ d
  · exact cr_sortedT hc pins s σ H _ us Q I r ⟨a, L, d, B, rfl, ha, hk, hd, hB, q⟩
  have R0 : SetT0 X.prog X.w s.heap a L := (I.hok a _ ha).1
  obtain ⟨es, ep, t, R⟩ := R0.full fun p hp => I.isT (hk p hp)
  have few : L.length ≤ 1 := by
    match hL : L with
    | [] => exact Nat.zero_le _
    | [x] => exact Nat.le_refl _
    | x :: y :: l =>
      have nd := R.nd
      have l1 := (hB x (by simp)).1
      have l2 := (hB y (by simp)).1
      have z1 : x.2 = [] := List.length_eq_zero_iff.mp (by omega)
      have z2 : y.2 = [] := List.length_eq_zero_iff.mp (by omega)
      rw [List.map_cons, List.map_cons] at nd
      exact absurd (List.mem_cons.mpr (.inl (z1.trans z2.symm))) (List.nodup_cons.mp nd).1
  obtain rfl := Vals.ref1 r
  refine sorted_set1 R (I.ok.hd hc) few fun s' p out c k g o hp hg hout => ?_
  have lv : (L.map fun q => V.ref q.1).length ≤ sizeLine := by rw [List.length_map, sizeLine_eq]; omega
  have fr : H p = none := I.hok.fresh hp
  have rv : Vals (L.map fun q => V.ref q.1) out.toList := by rw [hout]; exact vals_of_refs L
  have J : Inv X pins σ (upd H p (.lst (L.map fun q => V.ref q.1))) { s with heap := s'.heap, gens := s'.gens, drawn := s'.drawn, toks := s'.toks } :=
    I.call (ch := []) (Un.laid k hp fr) (I.hok.laid k hp ⟨lv, out.toList, c, rv, hg⟩) (by rw [g]; exact I.bare) (fun _ z => nomatch z)
  have es' : s' = { s with heap := s'.heap, gens := s'.gens, drawn := s'.drawn, toks := s'.toks } := by
    cases s'
    cases s
    cases o
    rfl
  rw [es']
  refine ⟨.ref p, _, J, rfl, q L p (List.Perm.refl _) R.nd R.few ?_ fr⟩
  match L, few with
  | [], _ => exact List.Pairwise.nil
  | [x], _ => exact List.pairwise_singleton _ _
end
end L2


set_option Elab.async false
set_option linter.all false
set_option maxRecDepth 100000
set_option maxHeartbeats 2000000
/-! for k, v in d.items() where the keys are tuples, the dict locked -/
namespace L2
open PySem PySem.Spec PyProof.Rows
section
variable {X : Cx} {pins : List (Addr × Obj)} {σ : St} {H : Hp} {s : Shared} {d : Addr} {o : Obj}
theorem frzT_all {kvs : List (List Key × V)} (I : Inv X pins σ H s) (h : H d = some (.frz o (.dT kvs))) :
    (d == sysModules) = false ∧ s.heap.get? d = some o ∧ o.ExactDict ∧ ∃ (es : Array DictEntry) (ep : Nat), o.data = .dict es ep ∧ es.size = kvs.length ∧
      ∀ (i : Nat) (k : List Key) (v : V), kvs[i]? = some (k, v) → ∃ (en : DictEntry) (q : Addr), es[i]? = some en ∧ en.key = .ref q ∧ H q = some (.tup (k.map kV)) ∧ RelV v en.val := by
  obtain ⟨hs, hg, hx, es, ep, hdt, hz, _⟩ := I.frzT h
  refine ⟨hs, hg, hx, es, ep, hdt, hz, fun i k v e => ?_⟩
  obtain ⟨hg', _, _, xs, pr, o', es', ep', ho', _, hdt', he', _⟩ := I.hok d _ h
  obtain rfl : o = o' := Option.some.inj (hg'.symm.trans ho')
  obtain ⟨rfl, rfl⟩ := dict_ep hdt hdt'
  obtain ⟨b, hb, _, tq, rv⟩ := paired_get pr e
  have at_ := entry_at he' i
  rw [hb] at at_
  exact ⟨_, b.2.1, at_, rfl, tq, rv⟩
end
/-- the pairs of the locked dict at d, each a new tuple of the key's own tuple and what stands there -/
def ItiT (d : Addr) (o : Obj) (kvs : List (List Key × V)) : It :=
  ⟨fun i H => H d = some (.frz o (.dT kvs)) ∧ i < kvs.length,
   fun i H x H' => ∃ (T q : Addr) (k : List Key) (v : V), kvs[i]? = some (k, v) ∧ x = .ref T ∧ H T = none ∧ H q = some (.tup (k.map kV)) ∧ H' = upd H T (.tup [.ref q, v]),
   fun i H => H d = some (.frz o (.dT kvs)) ∧ kvs.length ≤ i⟩
section
variable {P : Program} {w : World} {K : PySem.W.Frag} {d : Addr} {o : Obj} {es : Array DictEntry} {ep : Nat}
theorem turn_itiT {kvs : List (List Key × V)} {elts : List Expr} {kk : Nat} {tpos : Pos} (it : Addr) (hod : o.data = .dict es ep) :
    Turn P w K (.Tuple elts kk tpos) (ItiT d o kvs) [it] it (fun i h => ∃ a b : Value, h.get? it = some (DVw.itmOb d .none i kvs.length ep a b)) where
  mem := List.mem_singleton.mpr rfl
  obj := fun i h st c hc => by
    obtain ⟨a, b, e⟩ := st
    rw [List.mem_singleton.mp hc]
    exact ⟨_, e, fun v z => nomatch z⟩
  keep := fun i h h' st k => by
    obtain ⟨a, b, e⟩ := st
    exact ⟨a, b, k it (List.mem_singleton.mpr rfl) _ e⟩
  item := by
    intro X hP hw hK hc i pins s σ H E I hf st hg
    subst hP hw hK
    obtain ⟨hd, hi⟩ := hg
    obtain ⟨_, hgd, hxd, es', ep', hdt, hz, ent⟩ := frzT_all I hd
    obtain ⟨rfl, rfl⟩ := dict_ep hod hdt
    obtain ⟨a, b, at0⟩ := st
    cases hkv : kvs[i]? with
    | none => exact absurd (List.getElem?_eq_none_iff.mp hkv) (by omega)
    | some kv =>
    obtain ⟨k, v⟩ := kv
    obtain ⟨en, q, e1, e2, e3, e4⟩ := ent i k v hkv
    have itlt := Heap.lt_size at0
    refine DVw.itm_item at0 hgd hdt hz e1 fun h1 c1 c2 c3 c4 => ⟨_, rfl, ?_⟩
    refine wpAny_letOwnedTupleGo_items (s := { s with heap := h1 }) (d := d) (i := i + 1) (n := kvs.length) (ep := ep') (ok := en.key) (ov := en.val) c1 fun h2 at2 same => ?_
    have tup2 := (same.2 _ (Nat.ne_of_gt itlt)).trans c2
    have ok2 : ObjOk X.prog X.w (upd H s.heap.objs.size (.tup [.ref q, v])) h2 s.heap.objs.size (.tup [.ref q, v]) :=
      ⟨by show 2 ≤ sizeLine; decide, [en.key, en.val], .cons (show RelV (.ref q) en.key from e2) (.cons e4 .nil), ⟨_, tup2, rfl, _, rfl⟩⟩
    have J : Inv X pins σ (upd H s.heap.objs.size (.tup [.ref q, v])) { s with heap := h2 } := I.turnedNew (t' := s.toks) (ch := [it])
      (fun c oc n z => (same.2 c fun w => n (List.mem_singleton.mpr w)).trans (c4 c oc (fun w => n (List.mem_singleton.mpr w)) z)) hf (Nat.le_refl _) ok2
    refine ⟨.ref s.heap.objs.size, _, J, rfl, ⟨_, q, k, v, hkv, rfl, I.hok.fresh (Nat.le_refl _), e3, rfl⟩, ⟨_, _, at2⟩, fun c hcm => ?_⟩
    rw [List.mem_singleton.mp hcm, upd_ne (Nat.ne_of_lt itlt)]
    exact (hf it (List.mem_singleton.mpr rfl)).1
  done := by
    intro X hP hw hK hc i pins s σ H E I hf st hg
    subst hP hw hK
    obtain ⟨hd, hi⟩ := hg
    obtain ⟨_, hgd, hxd, es', ep', hdt, hz, ent⟩ := frzT_all I hd
    obtain ⟨rfl, rfl⟩ := dict_ep hod hdt
    obtain ⟨a, b, at0⟩ := st
    have no : es'[i]? = none := Array.getElem?_eq_none (by rw [hz]; exact hi)
    obtain ⟨g0, g1, _, g3, g4, g5⟩ := hf it (List.mem_singleton.mpr rfl)
    exact DVw.itm_end (I.ok.hd hc) at0 hgd hdt hz no fun h' kp => ⟨rfl, I.turned (t' := s.toks) (fun c oc n z => kp c oc n z) g0 g1 g3 g4 g5⟩
  self := fun A i s Q E st h => by
    obtain ⟨a, b, e⟩ := st
    exact PySem.W.kcp_self e h
end
section
variable {X : Cx} {e : Expr} {td : TE} {apos cpos : Pos}
/-- .. in e.items(), the dict locked, its keys tuples -/
def iItemsT (td : TE) : TI := fun σ H R => td σ H fun x H1 => ∃ d o kvs, x = .ref d ∧ H1 d = some (.frz o (.dT kvs)) ∧ R (ItiT d o kvs) H1
theorem pi_itemsT {elts : List Expr} {kk : Nat} {tpos : Pos} (he : PE X e td) (hbase : attributeBase e "items" X.env (eval e X.env) = eval e X.env := by rfl) (hline : (apos.endLine == cpos.line) = true := by rfl) :
    PI X (.Tuple elts kk tpos) (.Call (.Attribute e "items" apos) [] [] cpos) (iItemsT td) := by
  refine ⟨fun pins s σ H R I h => wpAny_Call_method (T := "dict") (id := "dict.items") hbase rfl hline F.plainAttrs_dict F.slot_dict_items F.type_dict_items (thn (he.run pins s σ H _ I h) fun u s1 hx => ?_)⟩
  obtain ⟨x, H1, I1, rx, d, o, kvs, rfl, hd, q⟩ := hx
  cases (show u = Value.ref d from rx)
  obtain ⟨hs, hgd, hxd, es, ep, hdt, hz, ent⟩ := frzT_all I1 hd
  refine ⟨⟨o, hgd, hxd.1⟩, fun b z => ?_, ?_⟩
  · injection z with z
    subst z
    exact ⟨o, hgd, hxd.2.1⟩
  refine Calls.callWith_builtin rfl (PySem.evalArgs_none ?_)
  refine DT.callItems (es := es) (ep := ep) hs ⟨o, hgd, hxd, hdt⟩ ?_
  have J : Inv X pins σ H1 { s1 with heap := s1.heap.push { cls := .type "dict_items", data := .fields #[.ref d] } } := I1.kept (t' := s1.toks) fun b ob z => Heap.get?_push_of_some _ z
  refine DSub.iter_itms (a := d) (es := es) (ep := ep) (Heap.get?_push_size _ rfl) (Heap.get?_push_of_some _ hgd) hdt ?_
  refine pi_one (tk := s1.toks) J _ (turn_itiT _ hdt) ⟨.none, .none, ?_⟩ q
  rw [← hz]
  exact Heap.get?_push_size _ rfl
theorem walk_itiT {d : Addr} {o : Obj} {kvs : List (List Key × V)} : Walk (ItiT d o kvs) kvs.length (fun H => H d = some (.frz o (.dT kvs)))
    (fun i H x H' => ∃ (T q : Addr) (k : List Key) (v : V), kvs[i]? = some (k, v) ∧ x = .ref T ∧ H T = none ∧ H q = some (.tup (k.map kV)) ∧ H' = upd H T (.tup [.ref q, v])) :=
  ⟨fun _ _ hi q => ⟨q, hi⟩, fun _ q => ⟨q, Nat.le_refl _⟩, fun _ _ _ _ _ _ y => y⟩
end
end L2


set_option Elab.async false
set_option linter.all false
set_option maxRecDepth 100000
set_option maxHeartbeats 2000000
/-! {t: v} with a tuple as key -/
namespace L2
open PySem PySem.Spec PyProof.Rows
/-- the new dict stands empty while the pair is made -/
def tDisp1T (tk tv : TE) : TE := fun σ H Q => ∀ p, H p = none → tk σ (upd H p (.dT [])) fun x H1 => tv σ H1 fun y H2 => ∃ x' y', [(x, y)] = [(x', y')] ∧ H2 p = some (.dT []) ∧ ∃ (b : Addr) (k : List Key), x' = .ref b ∧ H2 b = some (.tup (k.map kV)) ∧ Q (.ref p) (upd H2 p (.dT [(k, y')]))
theorem pe_disp1T {X : Cx} {pos : Pos} {ek ev : Expr} {tk tv : TE} (hu : X.A.units + 1 < cLine) (hk : PE X ek tk) (hv : PE X ev tv) : PE X (.Dict [some ek] [ev] pos) (tDisp1T tk tv) := by
  refine ⟨fun pins s σ H Q I q => ?_⟩
  have hn := I.hok.fresh (Nat.le_refl s.heap.objs.size)
  have I1 := I.laid (a := s.heap.objs.size) (o := .dT []) (h' := s.heap.push { cls := .type "dict", data := .dict #[] }) (t' := s.toks) (fun _ _ q => Heap.get?_push_of_some _ q) (Nat.le_refl _) (dt_empty s.heap I.big)
  rw [arm_eval_Dict]
  have hshape : (evalEachOpt [some ek] X.env).zip ((evalEach [ev] X.env).map fun v => do let x ← v; standAt pos; pure x) = (pairTrees [some ek] [ev] X.env pos).map fun p => (some p.1, p.2) := rfl
  rw [hshape, dictDisplay_pairs (pairTrees [some ek] [ev] X.env pos) (by intro z; cases z) (by show 1 < 17; decide)]
  refine wpAny_bind (wpAny_standAt (wpAny_bind (wpAny_subDictH (knd := tupleKind (mixKind X.prog X.w)) (show (tupleKind (mixKind X.prog X.w)).room X.A from Nat.lt_of_succ_lt hu) (by show 1 ≤ 15; decide) ?_)))
  refine wpAny_mono ((pps_cons hk hv pps_nil).run pins _ σ _ (fun ps H2 => ∃ x y, ps = [(x, y)] ∧ H2 s.heap.objs.size = some (.dT []) ∧ ∃ (b : Addr) (k : List Key), x = .ref b ∧ H2 b = some (.tup (k.map kV)) ∧ Q (.ref s.heap.objs.size) (upd H2 s.heap.objs.size (.dT [(k, y)]))) I1 ?_) (fun ws s2 hh => ?_) fun _ _ e => e
  · exact q _ hn
  · obtain ⟨ps, H2, I2, rel, x, y, rfl, e, b, k, rfl, eb, q2⟩ := hh
    cases rel with
    | @cons _ c _ cs h t =>
      cases t
      obtain ⟨r1, r2⟩ := h
      obtain ⟨u1, u2⟩ := c
      cases (show u1 = Value.ref b from r1)
      obtain ⟨z, hd, xs, rx, dd⟩ := dt_of I2.hok e
      cases rx
      refine ⟨[(k, b, u2)], ⟨rfl, rfl, key_of I2.hok eb, True.intro⟩, dd, fun h' tk dd' hs => wpAny_pure ⟨.ref s.heap.objs.size, _, ?_, rfl, q2⟩⟩
      have es : storedAllH ([] : List (List Key × Addr × Value)) [(k, b, u2)] = [(k, b, u2)] := rfl
      rw [es] at dd'
      obtain ⟨o, e1, ep, hq, h2, h3, h4, _, h5⟩ := dd'
      refine d_write I2 (by rw [e]; exact True.intro) hs ⟨o, hq⟩ ⟨by show 1 ≤ sizeLine; decide, hd, [(k, b, u2)], .cons ⟨rfl, ?_, r2⟩ .nil, o, e1, ep, hq, h2, h3, h4, h5⟩
      rw [upd_ne (ne_of eb e (fun z => nomatch z))]
      exact eb
end L2


set_option Elab.async false
set_option linter.all false
set_option maxRecDepth 100000
set_option maxHeartbeats 4000000
/-! parted, looks_apart -/
namespace K01
open PySem PySem.Spec PyProof.Rows L2 Can
abbrev natI (l : List Nat) : List Int := l.map fun i : Nat => (i : Int)
abbrev kq (x y : Int) : List Key := [Sum.inl x, Sum.inl y]
/-- a tuple that is tracked -/
def TupN (r : Row) (v : V) (H : Hp) : Prop := ∃ a, v = .ref a ∧ H a = some (.tup (r.map V.int))
theorem TupN.t {K : PySem.W.Frag} {r : Row} {v : V} {H : Hp} (h : TupN r v H) : RowT K r v H := by
  obtain ⟨a, rfl, h⟩ := h
  exact RowT.new h
theorem TupN.ex {r : Row} {v : V} {H H' : Hp} (e : Ex H H') (h : TupN r v H) : TupN r v H' := by
  obtain ⟨a, rfl, h⟩ := h
  exact ⟨a, rfl, e _ _ h⟩
theorem TupN.b {r : Row} {v : V} {H H' : Hp} {d : Addr} {u : HO} (hd : H d = some u) (nd : ∀ xs, u ≠ .tup xs) (e : ExB d H H') (h : TupN r v H) : TupN r v H' := by
  obtain ⟨a, rfl, h⟩ := h
  refine ⟨a, rfl, e _ _ (fun z => ?_) h⟩
  rw [z, hd] at h
  exact nd _ (Option.some.inj h)
/-- where each kind of pair was first met, the first i being seen -/
def FirstsK (P : List (Int × Int)) (i : Nat) (kvs : List (List Key × V)) : Prop := kvs.length ≤ i ∧ ∀ x y, valV kvs (kq x y) = if (x, y) ∈ P.take i then some (.int ((ix (x, y) P : Nat) : Int)) else none
theorem take_snoc {α : Type} {l : List α} {i : Nat} {x : α} (h : l[i]? = some x) : l.take (i + 1) = l.take i ++ [x] := by rw [List.take_add_one, h]; rfl
theorem ix_new {α : Type} [DecidableEq α] {l : List α} {i : Nat} {x : α} (h : l[i]? = some x) (n : x ∉ l.take i) : ix x l = i := by
  obtain ⟨h1, h2, h3⟩ := ix_spec h
  rcases Nat.lt_or_ge (ix x l) i with c | c
  · exact absurd (List.mem_of_getElem? (by rw [List.getElem?_take, if_pos c]; exact h2)) n
  · omega
theorem firsts_old {P : List (Int × Int)} {i : Nat} {kvs : List (List Key × V)} {x y : Int} {v : V} (F : FirstsK P i kvs) (h : P[i]? = some (x, y)) (e : valV kvs (kq x y) = some v) : v = .int ((ix (x, y) P : Nat) : Int) ∧ FirstsK P (i + 1) kvs := by
  have e2 := F.2 x y
  rw [e] at e2
  by_cases m : (x, y) ∈ P.take i
  · rw [if_pos m] at e2
    refine ⟨Option.some.inj e2, by have := F.1; omega, fun a b => ?_⟩
    rw [F.2 a b, take_snoc h]
    by_cases m2 : (a, b) ∈ P.take i
    · rw [if_pos m2, if_pos (List.mem_append_left _ m2)]
    · rw [if_neg m2, if_neg fun z => ?_]
      rcases List.mem_append.mp z with z | z
      · exact m2 z
      · exact m2 (List.mem_singleton.mp z ▸ m)
  · rw [if_neg m] at e2
    cases e2
theorem firsts_new {P : List (Int × Int)} {i : Nat} {kvs : List (List Key × V)} {x y : Int} (F : FirstsK P i kvs) (h : P[i]? = some (x, y)) (e : valV kvs (kq x y) = none) : ix (x, y) P = i ∧ FirstsK P (i + 1) (putK kvs (kq x y) (.int (i : Nat))) := by
  have e2 := F.2 x y
  rw [e] at e2
  by_cases m : (x, y) ∈ P.take i
  · rw [if_pos m] at e2
    cases e2
  · have ei := ix_new h m
    refine ⟨ei, by have := length_putK kvs (kq x y) (.int (i : Nat)); have := F.1; omega, fun a b => ?_⟩
    rw [valV_put, F.2 a b, take_snoc h]
    by_cases s : kq a b = kq x y
    · have s1 : a = x := by injection s with s1 _; injection s1
      have s2 : b = y := by injection s with _ s2; injection s2 with s2 _; injection s2
      rw [if_pos s, s1, s2, if_pos (List.mem_append_right _ (List.mem_singleton.mpr rfl)), ei]
    · rw [if_neg s]
      have ne : (a, b) ≠ (x, y) := fun z => s (by injection z with z1 z2; rw [z1, z2])
      by_cases m2 : (a, b) ∈ P.take i
      · rw [if_pos m2, if_pos (List.mem_append_left _ m2)]
      · rw [if_neg m2, if_neg fun z => ?_]
        rcases List.mem_append.mp z with z | z
        · exact m2 z
        · exact ne (List.mem_singleton.mp z)
theorem at_map {α β : Type} {f : α → β} {l : List α} {i : Nat} {y : β} (h : (l.map f)[i]? = some y) : ∃ x, l[i]? = some x ∧ y = f x := by
  rw [List.getElem?_map] at h
  obtain ⟨x, hx, e⟩ := Option.map_eq_some_iff.mp h
  exact ⟨x, hx, e.symm⟩
section
variable {P : Program} {w : World} {K : PySem.W.Frag} {mg : Str → Option Value} {base : Heap}
def spParted (K : PySem.W.Frag) : Sp := fun vs H Q _ => ∃ (gv tv : V) (g t : Row), vs = [gv, tv] ∧ RowT K g gv H ∧ RowT K t tv H ∧ g.length = t.length ∧ g.length ≤ 30 ∧ Ret (TupN (natI (cls (g.zip t)))) H Q
theorem ok_parted {f : Addr} {fd : FuncData} (B : Bare mg) (F : Fun K "parted" "parted" s_parted f fd) : FnOk P w K mg base CX0 1 f fd p_parted (spParted K) := by
  refine F.ok sc_parted (fun vs H Q E h => ?_) (fun cdv Ar outer s H vs Q E hr h => ?_)
  · obtain ⟨gv, tv, g, t, rfl, _⟩ := h
    rfl
  · obtain ⟨gv, tv, g, t, rfl, hg, ht, lgt, l30, q⟩ := h
    refine ⟨_, pss_cons (ps_set (i := 2) sc_parted.nd rfl (Or.inr rfl) pe_dnewT)
      (pss_one (ps_ret (pe_callTy call_tuple_of (by rfl) B.tuple (by decide +kernel) (pa_cons (pe_lc (own := [("place", 3), ("pair", 4)]) (g := gTup K 2 (gCons (gName 3) (gCons (gName 4) gNil))) (tt := tYes) rfl sc_parted.nd (pi_enumZ (by rfl) B.enumerate (by rfl) B.zip (pa_cons (pv 0) (pa_cons (pv 1) pa_nil))) (blkOk_by (N := n_parted) (sc := defScope s_parted) (by decide +kernel))
        (fun _ _ _ _ _ => pg_tup rfl (pgs_cons (pg_name (i := 3) sc_parted.nd rfl (Or.inl rfl)) (pgs_cons (pg_name (i := 4) sc_parted.nd rfl (Or.inl rfl)) pgs_nil))) (fun _ _ _ _ _ => pts_nil) (fun _ _ _ _ _ => pe_dsetdT (Nat.lt_of_le_of_lt (Nat.add_le_add_left (by decide) _) hr.units) (pv 2) (pv 4) (pv 3) ⟨by rfl, by rfl, by rfl, by rfl⟩)) pa_nil)))), ?_⟩
    obtain ⟨ga, rfl, hga⟩ := hg
    obtain ⟨ta, rfl, hta⟩ := ht
    intro d nd
    have e1 := _root_.Evl.Ex.new (o := .dT []) nd
    have hd1 := upd_same (H := H) (a := d) (o := .dT [])
    generalize upd H d (.dT []) = H1 at e1 hd1 ⊢
    refine ⟨_, rfl, ?_⟩
    have ga1 := _root_.Evl.ex_t e1 hga
    have ta1 := _root_.Evl.ex_t e1 hta
    refine ⟨_, rfl, ga, ta, _, _, rfl, ga1, ta1, ?_⟩
    have lxy : (g.map V.int).length = (t.map V.int).length := by rw [List.length_map, List.length_map, lgt]
    have lz : (g.zip t).length = g.length := by rw [List.length_zip]; omega
    intro D nD
    have Dd : D ≠ d := fun z => by rw [z, hd1] at nD; cases nD
    refine lc_it (walk_EN lxy) (Qd := fun H' => rTupK K [.ref D] H' Q) (fun i H' => ExB d H1 H' ∧ (∃ kvs, H' d = some (.dT kvs) ∧ FirstsK (g.zip t) i kvs) ∧ H' D = some (.lst ((natI ((cls (g.zip t)).take i)).map V.int)))
      ⟨ExB.new (ExB.refl d H1) nD, ⟨[], by rw [upd_ne (Ne.symm Dd)]; exact hd1, Nat.le_refl _, fun x y => rfl⟩, upd_same⟩ (fun i H' _ p => ?_) (fun i x H2 H3 hi p y => ?_) fun H' p => ?_
    · obtain ⟨eB, _, _⟩ := p
      have ek : ∀ {a : Addr} {xs : List V}, SqT K H1 a xs → SqT K H' a xs := fun {a xs} hs => by
        refine sqt_k (fun b o hb fb => eB b o (fun z => ?_) hb) hs
        rw [z, hd1] at hb
        cases hb
        cases fb
      exact ⟨ek ga1, ek ta1⟩
    · obtain ⟨eB, ⟨kvs, hk, Fk⟩, hD⟩ := p
      obtain ⟨T, U, x', y', rfl, nT, nU, rfl, ex', ey'⟩ := y
      obtain ⟨a, ha, rfl⟩ := at_map ex'
      obtain ⟨b, hb, rfl⟩ := at_map ey'
      have hab : (g.zip t)[i]? = some (a, b) := Can.zip_get ha hb
      have hil := (List.getElem?_eq_some_iff.mp hab).1
      have Td : T ≠ d := fun z => by rw [z, hk] at nT; cases nT
      have TD : T ≠ D := fun z => by rw [z, hD] at nT; cases nT
      have UT : U ≠ T := fun z => by rw [z, upd_same] at nU; cases nU
      have Ud : U ≠ d := fun z => by rw [z, upd_ne (Ne.symm Td), hk] at nU; cases nU
      have UD : U ≠ D := fun z => by rw [z, upd_ne (Ne.symm TD), hD] at nU; cases nU
      have e3 : ExB d H1 (upd (upd H2 T (.tup [.int a, .int b])) U (.tup [.int (i : Nat), .ref T])) := (eB.lay nT).lay nU
      have hU := upd_same (H := upd H2 T (.tup [.int a, .int b])) (a := U) (o := .tup [.int (i : Nat), .ref T])
      have hT : upd (upd H2 T (.tup [.int a, .int b])) U (.tup [.int (i : Nat), .ref T]) T = some (.tup [.int a, .int b]) := by rw [upd_ne (Ne.symm UT), upd_same]
      have hd3 : upd (upd H2 T (.tup [.int a, .int b])) U (.tup [.int (i : Nat), .ref T]) d = some (.dT kvs) := by rw [upd_ne (Ne.symm Ud), upd_ne (Ne.symm Td)]; exact hk
      have hD3 : upd (upd H2 T (.tup [.int a, .int b])) U (.tup [.int (i : Nat), .ref T]) D = some (.lst ((natI ((cls (g.zip t)).take i)).map V.int)) := by rw [upd_ne (Ne.symm UD), upd_ne (Ne.symm TD)]; exact hD
      generalize upd (upd H2 T (.tup [.int a, .int b])) U (.tup [.int (i : Nat), .ref T]) = H3 at e3 hU hT hd3 hD3 ⊢
      refine ⟨U, _, rfl, SqT.of hU, rfl, _, _, rfl, _, _, rfl, rfl, rfl, yes_go ?_⟩
      have next : natI ((cls (g.zip t)).take i) ++ [((ix (a, b) (g.zip t) : Nat) : Int)] = natI ((cls (g.zip t)).take (i + 1)) := by
        rw [take_snoc (cls_get hab)]
        unfold natI
        rw [List.map_append]
        rfl
      have len : ((natI ((cls (g.zip t)).take i)).map V.int).length ≤ 30 := by
        rw [List.length_map, List.length_map, List.length_take, cls_len]
        omega
      refine ⟨_, rfl, d, rfl, .inr ⟨kvs, .inl hd3⟩, _, rfl, _, rfl, kvs, kq a b, T, hd3, rfl, hT, Nat.lt_of_le_of_lt (show kvs.length ≤ 30 by have := Fk.1; omega) (by decide), fun v hv => ?_, fun hn => ?_⟩
      · obtain ⟨rfl, F2⟩ := firsts_old Fk hab hv
        refine ⟨_, hD3, Nat.lt_of_le_of_lt len (by decide), ExB.new e3 nD, ⟨kvs, by rw [upd_ne (Ne.symm Dd)]; exact hd3, F2⟩, ?_⟩
        rw [upd_same, ← next, List.map_append]
        rfl
      · obtain ⟨ei, F2⟩ := firsts_new Fk hab hn
        refine ⟨_, by rw [upd_ne Dd]; exact hD3, Nat.lt_of_le_of_lt len (by decide), ExB.new e3.at nD, ⟨_, by rw [upd_ne (Ne.symm Dd), upd_same], F2⟩, ?_⟩
        rw [upd_same, ← next, ei, List.map_append]
        rfl
    · obtain ⟨eB, _, hD⟩ := p
      have eH : Ex H H' := fun b o hb => eB b o (fun z => by rw [z, nd] at hb; cases hb) (e1 b o hb)
      rw [show (g.map V.int).length = (cls (g.zip t)).length by rw [List.length_map, cls_len, lz], List.take_length] at hD
      exact ⟨D, _, rfl, .inl ⟨SqL.of hD, fun l hl => q _ _ (eH.trans (_root_.Evl.Ex.new hl)) ⟨l, rfl, upd_same⟩⟩⟩
/-- what a parting by more is: told apart by one or the other -/
theorem cls_map {α β γ : Type} [DecidableEq β] [DecidableEq γ] {f : α → β} {g : α → γ} {l : List α} (h : ∀ x ∈ l, ∀ y ∈ l, f x = f y ↔ g x = g y) : cls (l.map f) = cls (l.map g) := by
  refine cls_eq (by rw [List.length_map, List.length_map]) fun i j hi hj => ?_
  rw [List.length_map] at hi hj
  rw [List.getElem?_map, List.getElem?_map, List.getElem?_map, List.getElem?_map, List.getElem?_eq_getElem hi, List.getElem?_eq_getElem hj]
  have := h _ (List.getElem_mem hi) _ (List.getElem_mem hj)
  simpa using this
theorem snoc_eq {α : Type} {a b : List α} {x y : α} : a ++ [x] = b ++ [y] ↔ a = b ∧ x = y := by
  refine ⟨fun h => ?_, fun ⟨h1, h2⟩ => by rw [h1, h2]⟩
  obtain ⟨h1, h2⟩ := List.append_inj' h rfl
  exact ⟨h1, by injection h2⟩
theorem zip_maps {α β γ : Type} {f : α → β} {g : α → γ} : ∀ l : List α, (l.map f).zip (l.map g) = l.map fun x => (f x, g x)
  | [] => rfl
  | x :: l => by rw [List.map_cons, List.map_cons, List.map_cons, List.zip_cons_cons, zip_maps l]
theorem cls_more {α : Type} {f : α → List Int} {g : α → Int} {l : List α} : cls ((natI (cls (l.map f))).zip (l.map g)) = cls (l.map fun x => f x ++ [g x]) := by
  have e1 : cls ((natI (cls (l.map f))).zip (l.map g)) = cls ((cls (l.map f)).zip (l.map g)) := by
    refine cls_eq (by rw [List.length_zip, List.length_zip, List.length_map]) fun i j hi hj => ?_
    rw [List.length_zip, List.length_map, cls_len, List.length_map, List.length_map, Nat.min_self] at hi hj
    obtain ⟨u1, c1⟩ : ∃ u, (cls (l.map f))[i]? = some u := ⟨_, List.getElem?_eq_getElem (by rw [cls_len, List.length_map]; exact hi)⟩
    obtain ⟨u2, c2⟩ : ∃ u, (cls (l.map f))[j]? = some u := ⟨_, List.getElem?_eq_getElem (by rw [cls_len, List.length_map]; exact hj)⟩
    obtain ⟨v1, t1⟩ : ∃ u, (l.map g)[i]? = some u := ⟨_, List.getElem?_eq_getElem (by rw [List.length_map]; exact hi)⟩
    obtain ⟨v2, t2⟩ : ∃ u, (l.map g)[j]? = some u := ⟨_, List.getElem?_eq_getElem (by rw [List.length_map]; exact hj)⟩
    have n1 : (natI (cls (l.map f)))[i]? = some ((u1 : Nat) : Int) := by unfold natI; rw [List.getElem?_map, c1]; rfl
    have n2 : (natI (cls (l.map f)))[j]? = some ((u2 : Nat) : Int) := by unfold natI; rw [List.getElem?_map, c2]; rfl
    rw [Can.zip_get n1 t1, Can.zip_get n2 t2, Can.zip_get c1 t1, Can.zip_get c2 t2]
    constructor
    · intro z
      injection z with z
      injection z with z1 z2
      rw [z2, Int.ofNat.inj z1]
    · intro z
      injection z with z
      injection z with z1 z2
      rw [z1, z2]
  rw [e1, cls_zip (by rw [List.length_map, List.length_map]), zip_maps]
  refine cls_map fun x _ y _ => ?_
  rw [snoc_eq, Prod.mk.injEq]
end
end K01


set_option Elab.async false
set_option linter.all false
set_option maxRecDepth 100000
set_option maxHeartbeats 4000000
/-! What forms that tell ahead tell apart, sights do within as many ticks as there are cells -/
namespace K01
open PySem PySem.Spec PyProof.Rows L2
section
variable {p : Int} {n : Nat} {A W S F : List Row} {u v r : Row}
theorem it_less (M : MOk p n A W S) (ou : Lin.OkR p n u) (ov : Lin.OkR p n v) : ∀ t, Lin.it p A t (Lin.add p u (-1) v) = Lin.add p (Lin.it p A t u) (-1) (Lin.it p A t v)
  | 0 => rfl
  | t + 1 => by
    have hp0 : 0 < p := by have := M.p1; omega
    show Lin.app p A (Lin.it p A t (Lin.add p u (-1) v)) = _
    rw [it_less M ou ov t, Lin.app_add hp0 M.oA M.lA (Lin.it_ok hp0 M.lA ou t).1 (Lin.it_ok hp0 M.lA ov t).1]
    rfl
theorem dot_rng (hp : 0 < p) : 0 ≤ Lin.dot p r u ∧ Lin.dot p r u < p := by
  unfold Lin.dot
  exact ⟨Int.emod_nonneg _ (by omega), Int.emod_lt_of_pos _ hp⟩
theorem dot_less (hp : 0 < p) (lr : r.length = n) (lu : u.length = n) (lv : v.length = n) : Lin.dot p r (Lin.add p u (-1) v) = 0 ↔ Lin.dot p r u = Lin.dot p r v := by
  rw [Lin.dot_add2 lu lv lr]
  have h1 := dot_rng (p := p) (r := r) (u := u) hp
  have h2 := dot_rng (p := p) (r := r) (u := v) hp
  constructor
  · intro h
    have := Int.emod_emod_of_dvd
    have d := Int.dvd_of_emod_eq_zero h
    obtain ⟨k, hk⟩ := d
    have k0 : k = 0 := by
      rcases Int.lt_trichotomy k 0 with z | z | z
      · have : p * k ≤ p * (-1) := Int.mul_le_mul_of_nonneg_left (by omega) (by omega)
        omega
      · exact z
      · have : p * 1 ≤ p * k := Int.mul_le_mul_of_nonneg_left (by omega) (by omega)
        omega
    rw [k0] at hk
    omega
  · intro h
    rw [h]
    have : Lin.dot p r v + -1 * Lin.dot p r v = 0 := by omega
    rw [this]
    rfl
theorem blind_alls (M : MOk p n A W S) {x : Row} (o : Lin.OkR p n x) {k : Nat} (hk : n ≤ k) : (∀ r ∈ lookR p n A S, Lin.dot p r x = 0) ↔ ∀ t, t < k → ∀ s ∈ S, Lin.dot p s (Lin.it p A t x) = 0 := by
  rw [← Lin.unseen_is M.p1 M.prmL M.oA M.lA M.oS (Nat.le_succ n) o]
  exact ⟨fun h t _ => Lin.unseen_n M.p1 M.prmL M.oA M.lA M.oS (Nat.le_succ n) o h t, fun h t ht => Lin.unseen_n M.p1 M.prmL M.oA M.lA M.oS hk o h t⟩
/-- what the staircase of looks tells apart, sights do, and in n ticks -/
theorem tell_apart (M : MOk p n A W S) (rF : Lin.Rref p n F) (sF : Lin.Same p n F (lookR p n A S)) (ou : Lin.OkR p n u) (ov : Lin.OkR p n v) {k : Nat} (hk : n ≤ k) : (∀ f ∈ F, Lin.dot p f u = Lin.dot p f v) ↔ ∀ t, t < k → ∀ s ∈ S, Lin.dot p s (Lin.it p A t u) = Lin.dot p s (Lin.it p A t v) := by
  have hp0 : 0 < p := by have := M.p1; omega
  have od : Lin.OkR p n (Lin.add p u (-1) v) := Lin.ok_add hp0 ou.1 ov.1
  have h1 := stair_perp hp0 M.oLook rF sF od.1
  have h2 := blind_alls M od hk
  constructor
  · intro h t ht s hs
    have := h2.1 (h1.1 fun f hf => (dot_less hp0 (rF.ok f hf).1 ou.1 ov.1).2 (h f hf)) t ht s hs
    rw [it_less M ou ov] at this
    exact (dot_less hp0 (M.oS s hs).1 (Lin.it_ok hp0 M.lA ou t).1 (Lin.it_ok hp0 M.lA ov t).1).1 this
  · intro h f hf
    refine (dot_less hp0 (rF.ok f hf).1 ou.1 ov.1).1 (h1.2 (h2.2 fun t ht s hs => ?_) f hf)
    rw [it_less M ou ov]
    exact (dot_less hp0 (M.oS s hs).1 (Lin.it_ok hp0 M.lA ou t).1 (Lin.it_ok hp0 M.lA ov t).1).2 (h t ht s hs)
/-- so the first place within 40 ticks is the first within n -/
theorem dfs_all (M : MOk p n A W S) (ou : Lin.OkR p n u) (ov : Lin.OkR p n v) (h : ∀ t s, t < n → s < S.length → ¬ dfs p A S u v t s) : ∀ t s, s < S.length → ¬ dfs p A S u v t s := by
  have hp0 : 0 < p := by have := M.p1; omega
  obtain ⟨F, rF, sF⟩ := Lin.exists_rref M.p1 M.prmL M.oLook
  have eq : ∀ t s (hs : s < S.length), dfs p A S u v t s ↔ Lin.dot p S[s] (Lin.it p A t u) ≠ Lin.dot p S[s] (Lin.it p A t v) := fun t s hs => by
    have os := M.oS _ (List.getElem_mem hs)
    unfold dfs
    rw [List.getD_eq_getElem?_getD, List.getElem?_eq_getElem hs]
    show Lin.dot p _ S[s] ≠ Lin.dot p _ S[s] ↔ _
    rw [Lin.dot_comm (Lin.it_ok hp0 M.lA ou t).1 os.1, Lin.dot_comm (Lin.it_ok hp0 M.lA ov t).1 os.1]
  have a := (tell_apart M rF sF ou ov (Nat.le_refl n)).2 fun t ht s hs => by
    obtain ⟨j, hj, rfl⟩ := List.mem_iff_getElem.mp hs
    exact Classical.not_not.mp fun z => h t j ht hj ((eq t j hj).2 z)
  intro t s hs z
  have := (tell_apart M rF sF ou ov (k := n + t + 1) (by omega)).1 a t (by omega) S[s] (List.getElem_mem hs)
  exact ((eq t s hs).1 z) this
end
end K01


set_option Elab.async false
set_option linter.all false
set_option maxRecDepth 100000
set_option maxHeartbeats 4000000
/-! looks_apart -/
namespace K01
open PySem PySem.Spec PyProof.Rows L2 Can
/-- a tracked tuple times 1 up to 1000 is one -/
def rRepN : R2 := fun x y H Q => ∃ l k xs, x = .ref l ∧ y = .int k ∧ H l = some (.tup xs) ∧ xs ≠ [] ∧ 1 ≤ k ∧ k ≤ 1000 ∧ xs.length ≤ 1000 ∧ ∀ p H', Ex H H' → H' p = some (.tup (List.replicate k.toNat xs).flatten) → Q (.ref p) H'
theorem op_repN {X : Cx} : OpR X (binaryOp .Mult) rRepN := by
  intro pins s σ H x y v u Q I rx ry hh
  obtain ⟨l, k, xs, rfl, rfl, hT0, hne, h1, h2, hz, q⟩ := hh
  have hT : SqT X.K H l xs := SqT.of hT0
  by_cases hk : 2 ≤ k
  · exact op_repT pins s σ H _ _ v u Q I rx ry ⟨l, k, xs, rfl, rfl, hT, hne, hk, h2, hz, fun p hp => q p _ (_root_.Evl.Ex.new hp) upd_same⟩
  · have e : k = 1 := by omega
    subst e
    cases rx
    obtain ⟨t, rfl⟩ := ry
    obtain ⟨its, r, ⟨⟨cls, dd, data, sl⟩, ho, hc, n, hd⟩, hs⟩ := I.tuple hT
    simp only at hc hd
    subst hc hd
    refine wpAny_binaryOp_repeat_ref (T := "tuple") (U := "int") (by decide) ⟨_, ho, rfl⟩ (fun s' => typeIs_int s' 1 t) noFill_tuple_mul F.fills_int_mul F.slot_int_rmul repeat_tuple F.slot_int_index.lookup
      (call_meets F.slot_int_rmul (typeIs_int s 1 t) F.entry_int_rmul (F.args_int_rmul_2 _ _) (int_rmul_tuple 1 t l its.toArray n dd sl)
        ⟨ho, rfl, ⟨_, ho, rfl⟩, call_meets F.slot_tuple_mul ⟨_, ho, rfl⟩ F.entry_tuple_mul (F.args_tuple_mul_2 _ _) (tup_mul1 l its.toArray n dd sl t) ⟨ho, ?_⟩⟩)
    refine ⟨.ref l, H, I, rfl, q l H (_root_.Evl.Ex.refl H) ?_⟩
    have : (List.replicate (1 : Int).toNat xs).flatten = xs := by simp
    rw [this]
    exact hT0
theorem flat_zero (n : Nat) : (List.replicate ((n : Nat) : Int).toNat [V.int 0]).flatten = (natI (List.replicate n 0)).map V.int := by
  rw [Int.toNat_natCast]
  unfold natI
  rw [List.map_replicate, List.map_replicate]
  induction n with
  | zero => rfl
  | succ n ih => rw [List.replicate_succ, List.replicate_succ, List.flatten_cons, ih]; rfl
theorem map_const {α β : Type} {y : β} : ∀ l : List α, l.map (fun _ => y) = List.replicate l.length y
  | [] => rfl
  | x :: l => by rw [List.map_cons, map_const l]; rfl
theorem cls_nil {α : Type} (l : List α) : cls (l.map fun _ => ([] : List Int)) = List.replicate l.length 0 := by rw [map_const, cls_unit]
/-- what rows tell of a memory -/
def tellF (p : Int) (F : List Row) (u : Row) : List Int := F.map fun f => Lin.dot p u f
section
variable {P : Program} {w : World} {K : PySem.W.Frag} {mg : Str → Option Value} {base : Heap}
def spLooksA (K : PySem.W.Frag) : Sp := fun vs H Q _ => ∃ (p : Int) (n : Nat) (mv uv : V) (A W S R : List Row), vs = [mv, uv] ∧ MachT K p A W S mv H ∧ MOk p n A W S ∧ RowsT K R uv H ∧ Lin.Oks p n R ∧ 1 ≤ R.length ∧ R.length ≤ 30 ∧
  Ret (fun x H => ∃ F, Lin.Rref p n F ∧ Lin.Same p n F (lookR p n A S) ∧ TupN (natI (cls (R.map (tellF p F)))) x H) H Q
theorem ok_looksA {f : Addr} {fd : FuncData} (B : Bare mg) (F : Fun K "looks_apart" "looks_apart" s_looks_apart f fd) (Gl : Got P w K mg base CX0 7 "looks" p_looks (spM K (rLooks K))) (Gp : Got P w K mg base CX0 1 "parted" p_parted (spParted K)) (Gt : Got P w K mg base CX0 2 "told_by" p_told_by (spPStirred K)) :
    FnOk P w K mg base CX0 8 f fd p_looks_apart (spLooksA K) := by
  refine F.ok sc_looks_apart (fun vs H Q E h => ?_) (fun cdv Ar outer s H vs Q E hr h => ?_)
  · obtain ⟨p, n, mv, uv, A, W, S, R, rfl, _⟩ := h
    rfl
  · obtain ⟨p, n, mv, uv, A, W, S, R, rfl, hM, M, hR, oR, l1, l30, q⟩ := h
    refine ⟨_, pss_cons (ps_set (i := 2) sc_looks_apart.nd rfl (Or.inl rfl) (pe_ix ix_tup (pv 0) pe_int (fun _ _ => rfl)))
      (pss_cons (ps_set (i := 3) sc_looks_apart.nd rfl (Or.inl rfl) (pe_op op_repN (pe_tup (pa_cons pe_int pa_nil)) (pe_callB call_len_seq (by rfl) B.len PySem.boot_len (pa_cons (pv 1) pa_nil))))
      (pss_cons (ps_for PassesOwn.never rfl (pi_tup (pe_got Gl hr pass0 (pa_cons (pv 0) pa_nil))) (pg_name (i := 4) sc_looks_apart.nd rfl (Or.inl rfl))
        (pss_one (ps_set (i := 3) sc_looks_apart.nd rfl (Or.inl rfl) (pe_got Gp (hr.mono (by decide)) pass0 (pa_cons (pv 3) (pa_cons (pe_got Gt (hr.mono (by decide)) pass0 (pa_cons (pv 2) (pa_cons (pv 1) (pa_cons (pv 4) pa_nil)))) pa_nil))))))
      (pss_one (ps_ret (pv 3))))), ?_⟩
    obtain ⟨m, av, wv, sv, rfl, hm, hA, hW, hS⟩ := id hM
    have p1 := M.p1
    have p2 := M.p2
    have n4 := M.n4
    obtain ⟨ub, us, rfl, hub, pub⟩ := id hR
    have lu := pr_len pub
    refine ⟨_, rfl, m, _, _, _, rfl, rfl, hm, at_of (j := 0) rfl rfl, ?_⟩
    refine ⟨(by show 1 ≤ sizeLine; decide), fun t0 n0 => ?_⟩
    have e0 := _root_.Evl.Ex.new (o := .tup [.int 0]) n0
    have ht0 := upd_same (H := H) (a := t0) (o := .tup [.int 0])
    generalize upd H t0 (.tup [.int 0]) = H0 at e0 ht0 ⊢
    refine ⟨_, rfl, ub, us, rfl, .inr (_root_.Evl.ex_t e0 hub), t0, _, _, rfl, rfl, ht0, by simp, by omega, by omega, (by show 1 ≤ 1000; decide), fun g H1 e1 hg => ?_⟩
    rw [flat_zero, lu] at hg
    have e01 := e0.trans e1
    refine ⟨_, rfl, p, n, .ref m, A, W, S, rfl, hM.ex e01, M, fun z H2 e2 hz => ?_⟩
    obtain ⟨F', hF, rF, sF⟩ := hz
    obtain ⟨fb, fus, rfl, hfb, pfb⟩ := id hF
    have lf := pr_len pfb
    have e02 := e01.trans e2
    refine ⟨fb, rfl, ⟨fus, hfb⟩, ?_⟩
    refine for_tup (K := K) (a := fb) (xs := fus) (fun i σ' G => ∃ (gv : V) (y4 : Option V), σ' = [some (.ref m), some (.ref ub), some (.int p), some gv, y4] ∧ Ex H2 G ∧ TupN (natI (cls (R.map (tellF p (F'.take i))))) gv G)
      ⟨.ref g, none, rfl, _root_.Evl.Ex.refl _, g, rfl, ?_⟩ (fun i σ' G _ ⟨_, _, _, e, _⟩ => _root_.Evl.ex_t e hfb) (fun i x σ' G hx p' => ?_) fun σ' G p' => ?_
    · have := e2 _ _ hg
      rw [this]
      congr 3
      show natI (List.replicate R.length 0) = natI (cls (R.map fun _ => []))
      rw [cls_nil]
    · obtain ⟨gv, y4, rfl, eG, hgv⟩ := p'
      obtain ⟨f, hf, hx2⟩ := pr_get pfb hx
      have of := rF.ok f (List.mem_of_getElem? hf)
      refine ⟨_, rfl, _, rfl, _, rfl, _, rfl, p, n, .ref ub, x, R, f, rfl, .inr ((hR.ex e02).ex eG), hx2.ex eG, p1, p2, by omega, oR, by omega, of, fun tv G2 e3 ht => ?_⟩
      have eq1 : Lin.app p R f = R.map fun u => Lin.dot p u f := rfl
      rw [eq1] at ht
      refine ⟨gv, tv, _, _, rfl, (hgv.ex e3).t, ht, by rw [List.length_map, cls_len, List.length_map, List.length_map], by rw [List.length_map, cls_len, List.length_map]; exact l30, fun v2 G3 e4 h2 => ?_⟩
      refine ⟨_, _, rfl, (eG.trans e3).trans e4, ?_⟩
      have em : cls ((natI (cls (R.map (tellF p (F'.take i))))).zip (R.map fun u => Lin.dot p u f)) = cls (R.map (tellF p (F'.take (i + 1)))) := by
        rw [cls_more]
        congr 1
        refine List.map_congr_left fun u _ => ?_
        unfold tellF
        rw [take_snoc hf, List.map_append]
        rfl
      rw [em] at h2
      exact h2
    · obtain ⟨gv, y4, rfl, eG, hgv⟩ := p'
      rw [lf, List.take_length] at hgv
      exact ⟨_, rfl, q _ _ (e02.trans eG) ⟨F', rF, sF, hgv⟩⟩
end
end K01


set_option Elab.async false
set_option linter.all false
set_option maxRecDepth 100000
set_option maxHeartbeats 4000000
/-! further_looks -/
namespace K01
open PySem PySem.Spec PyProof.Rows L2 Can
def natK (l : List Nat) : List Key := (natI l).map Sum.inl
theorem natK_tup (l : List Nat) : (natK l).map kV = (natI l).map V.int := by unfold natK; rw [List.map_map]; rfl
theorem natK_inj : ∀ {a b : List Nat}, natK a = natK b → a = b
  | [], [], _ => rfl
  | [], _ :: _, h => by simp [natK, natI] at h
  | _ :: _, [], h => by simp [natK, natI] at h
  | x :: a, y :: b, h => by
    have h' : (Sum.inl ((x : Nat) : Int) : Key) :: natK a = Sum.inl ((y : Nat) : Int) :: natK b := h
    injection h' with h1 h2
    injection h1 with h1
    rw [Int.ofNat.inj h1, natK_inj h2]
/-- what stands at the key -/
abbrev WayP (K : PySem.W.Frag) (H : Hp) (kvs : List (List Key × V)) (L : List (List Nat × List Nat)) : Prop := Paired (fun (kv : List Key × V) (q : List Nat × List Nat) => kv.1 = natK q.1 ∧ RowT K (natI q.2) kv.2 H) kvs L
def WaysD (K : PySem.W.Frag) (L : List (List Nat × List Nat)) (d : Addr) (H : Hp) : Prop := ∃ kvs, H d = some (.dT kvs) ∧ WayP K H kvs L
theorem way_get {K : PySem.W.Frag} {H : Hp} {g : List Nat} : ∀ {kvs : List (List Key × V)} {L : List (List Nat × List Nat)}, WayP K H kvs L →
    (valV kvs (natK g) = none ∧ g ∉ L.map Prod.fst ∧ L.find? (fun q => decide (q.1 = g)) = none) ∨ ∃ v w, valV kvs (natK g) = some v ∧ g ∈ L.map Prod.fst ∧ L.find? (fun q => decide (q.1 = g)) = some (g, w) ∧ RowT K (natI w) v H
  | _, _, .nil => .inl ⟨rfl, by simp, rfl⟩
  | kv :: kvs, q :: L, .cons h t => by
    by_cases e : q.1 = g
    · refine .inr ⟨kv.2, q.2, valV_pos (by rw [h.1, e]), ?_, ?_, h.2⟩
      · rw [List.map_cons, e]
        exact List.mem_cons_self
      · rw [List.find?_cons, decide_eq_true e, ← e]
    · have ne : kv.1 ≠ natK g := fun z => e (natK_inj (h.1.symm.trans z))
      have ev : valV (kv :: kvs) (natK g) = valV kvs (natK g) := by
        unfold valV
        rw [List.find?_cons, decide_eq_false ne]
      have ef : (q :: L).find? (fun q => decide (q.1 = g)) = L.find? fun q => decide (q.1 = g) := by rw [List.find?_cons, decide_eq_false e]
      rw [ev, ef]
      rcases way_get (g := g) t with ⟨h1, h2, h3⟩ | ⟨v, w, h1, h2, h3, h4⟩
      · refine .inl ⟨h1, fun z => ?_, h3⟩
        rw [List.map_cons] at z
        rcases List.mem_cons.mp z with z | z
        · exact e z.symm
        · exact h2 z
      · exact .inr ⟨v, w, h1, by rw [List.map_cons]; exact List.mem_cons_of_mem _ h2, h3, h4⟩
theorem way_k {K : PySem.W.Frag} {H H' : Hp} {kvs : List (List Key × V)} {L : List (List Nat × List Nat)} (k : Kp H H') (h : WayP K H kvs L) : WayP K H' kvs L := pr_mono h fun _ _ x => ⟨x.1, x.2.k k⟩
theorem WaysD.ex {K : PySem.W.Frag} {H H' : Hp} {L : List (List Nat × List Nat)} {d : Addr} (e : Ex H H') (h : WaysD K L d H) : WaysD K L d H' := by
  obtain ⟨kvs, h1, h2⟩ := h
  exact ⟨kvs, e _ _ h1, way_k (Ex.k e) h2⟩
theorem way_put {K : PySem.W.Frag} {H : Hp} {kvs : List (List Key × V)} {L : List (List Nat × List Nat)} {d : Addr} {g w : List Nat} {v : V} (hd : H d = some (.dT kvs)) (h : WayP K H kvs L) (hn : valV kvs (natK g) = none) (hv : RowT K (natI w) v H) :
    WaysD K (put L g w) d (upd H d (.dT (putK kvs (natK g) v))) := by
  have k : Kp H (upd H d (.dT (putK kvs (natK g) v))) := kp_mut hd rfl
  rcases way_get (g := g) h with ⟨h1, h2, _⟩ | ⟨_, _, h1, _⟩
  · refine ⟨_, upd_same, ?_⟩
    have e1 := putK_new v hn
    generalize putK kvs (natK g) v = kv2 at k e1 ⊢
    subst e1
    unfold put
    rw [if_neg h2]
    exact pr_snoc (way_k k h) ⟨rfl, hv.k k⟩
  · rw [hn] at h1
    cases h1
theorem rowT_unlock {K : PySem.W.Frag} {G : Hp} {d : Addr} {od : Obj} {kvs : List (List Key × V)} {r : Row} {v : V} (hd : G d = some (.frz od (.dT kvs))) (h : RowT K r v G) : RowT K r v (upd G d (.dT kvs)) := by
  obtain ⟨a, rfl, h⟩ := h
  refine ⟨a, rfl, ?_⟩
  rcases h with (h | ⟨o, h⟩) | h
  · exact .inl (.inl (by rw [upd_ne (fun z => by rw [z, hd] at h; cases h)]; exact h))
  · exact .inl (.inr ⟨o, by rw [upd_ne (fun z => by rw [z, hd] at h; cases h)]; exact h⟩)
  · exact .inr h
/-- one more sight behind each way -/
def stepS (p : Int) (R S : List Row) (q : List Nat × List Nat) (acc : List (List Nat × List Nat)) (s : Nat) : List (List Nat × List Nat) := put acc (cls ((natI q.1).zip (R.map fun u => Lin.dot p u (S.getD s [])))) (q.2 ++ [s])
def furth (p : Int) (R S : List Row) (L : List (List Nat × List Nat)) : List (List Nat × List Nat) := L.foldl (fun acc q => (List.range S.length).foldl (stepS p R S q) acc) []
theorem put_len {β α : Type} [DecidableEq β] {kv : List (β × α)} {k : β} {v : α} : (put kv k v).length ≤ kv.length + 1 := by
  unfold put
  split
  · omega
  · rw [List.length_append, List.length_singleton]
    omega
section
variable {P : Program} {w : World} {K : PySem.W.Frag} {mg : Str → Option Value} {base : Heap}
def spFurther (K : PySem.W.Frag) : Sp := fun vs H Q _ => ∃ (p : Int) (n : Nat) (mv uv : V) (d : Addr) (A W S R : List Row) (L : List (List Nat × List Nat)), vs = [mv, uv, .ref d] ∧ MachT K p A W S mv H ∧ MOk p n A W S ∧ RowsT K R uv H ∧ Lin.Oks p n R ∧ R.length ≤ 30 ∧
  WaysD K L d H ∧ L.length ≤ 600 ∧ (∀ q ∈ L, q.1.length = R.length ∧ q.2.length ≤ 20) ∧ Ret (fun x H => ∃ d', x = .ref d' ∧ WaysD K (furth p R S L) d' H) H Q
theorem ok_further {f : Addr} {fd : FuncData} (B : Bare mg) (F : Fun K "further_looks" "further_looks" s_further_looks f fd) (Gp : Got P w K mg base CX0 1 "parted" p_parted (spParted K)) (Gt : Got P w K mg base CX0 2 "told_by" p_told_by (spPStirred K)) :
    FnOk P w K mg base CX0 3 f fd p_further_looks (spFurther K) := by
  refine F.ok sc_further_looks (fun vs H Q E h => ?_) (fun cdv Ar outer s H vs Q E hr h => ?_)
  · obtain ⟨p, n, mv, uv, d, A, W, S, R, L, rfl, _⟩ := h
    rfl
  · obtain ⟨p, n, mv, uv, d, A, W, S, R, L, rfl, hM, M, hR, oR, l30, hWd, l600, hq, q⟩ := h
    have hr1 : Room 1 _ := hr.mono (by decide)
    refine ⟨_, pss_cons (ps_setLc (i := 3) (own := [("sight", 4)]) (g := gName 4) (tt := tYes) rfl sc_further_looks.nd rfl rfl (sw_true rfl rfl rfl (by decide +kernel)) (pi_tup (pe_ix ix_tup (pv 0) pe_int (fun _ _ => rfl))) (blkOk_by (N := n_further_looks) (sc := defScope s_further_looks) (by decide +kernel))
        (fun _ _ _ _ _ => pg_name (i := 4) sc_further_looks.nd rfl (Or.inl rfl)) (fun _ _ _ _ _ => pts_nil) (fun _ _ _ _ _ => pe_got Gt hr pass0 (pa_cons (pe_ix (show IxR _ (rIxT K) from ix_tup) (pv 0) pe_int (fun _ _ => rfl)) (pa_cons (pv 1) (pa_cons (pv 4) pa_nil)))))
      (pss_cons (ps_set (i := 5) sc_further_looks.nd rfl (Or.inl rfl) pe_dnewT)
      (pss_cons (ps_lock (ps_for PassesOwn.never rfl (pi_itemsT (pv 2)) (pg_tup rfl (pgs_cons (pg_name (i := 6) sc_further_looks.nd rfl (Or.inl rfl)) (pgs_cons (pg_name (i := 7) sc_further_looks.nd rfl (Or.inl rfl)) pgs_nil)))
        (pss_one (ps_for PassesOwn.never rfl (pi_range1 rfl B.range (pa_cons (pe_callB call_len_seq (by rfl) B.len PySem.boot_len (pa_cons (pv 3) pa_nil)) pa_nil)) (pg_name (i := 4) sc_further_looks.nd rfl (Or.inl rfl))
          (pss_one (ps_expr (pe_dsetdT (Nat.lt_of_le_of_lt (Nat.add_le_add_left (by decide) _) hr.units) (pv 5) (pe_got Gp hr1 pass0 (pa_cons (pv 6) (pa_cons (pe_ix ix_list (pv 3) (pv 4) (fun _ _ => rfl)) pa_nil))) (pe_op op_catA (pv 7) (pe_tup (pa_cons (pv 4) pa_nil))) ⟨by rfl, by rfl, by rfl, by rfl⟩)))))))
      (pss_one (ps_ret (pv 5))))), ?_⟩
    obtain ⟨m, av, wv, sv, rfl, hm, hA, hW, hS⟩ := id hM
    have p1 := M.p1
    have p2 := M.p2
    have n4 := M.n4
    have lS := M.lS
    obtain ⟨ub, us, rfl, hub, pub⟩ := id hR
    obtain ⟨sb, sus, rfl, hsb, psb⟩ := id hS
    have ls := pr_len psb
    refine ⟨_, rfl, m, _, _, _, rfl, rfl, hm, at_of (j := 3) rfl rfl, sb, rfl, ⟨_, hsb⟩, ?_⟩
    refine lc_go (walk_tup (xs := sus)) (by omega) (fun H' e => _root_.Evl.ex_t e hsb) S ls.symm (fun _ => true) (fun s x H => RowT K (R.map fun u => Lin.dot p u s) x H) (fun _ => RowT.stb) (fun i s x H1 H2 hn1 e y C N hC hN => ?_) fun D ys H1 nD e1 hD hy => ?_
    · obtain ⟨rfl, ex'⟩ := y
      obtain ⟨s', hs', rs⟩ := pr_get psb ex'
      obtain rfl : s' = s := Option.some.inj (hs'.symm.trans hn1)
      exact ⟨rfl, yes_go ⟨_, rfl, m, _, _, _, rfl, rfl, _root_.Evl.ex_t e hm, at_of (j := 0) rfl rfl, _, rfl, _, rfl, p, n, .ref ub, x, R, s', rfl, .inr (hR.ex e), rs.ex e, p1, p2, by omega, oR, by omega, M.oS _ (List.mem_of_getElem? hs'), fun z H3 e3 hz => hC rfl z H3 e3 hz⟩⟩
    rw [filter_yes] at hy
    have ly := pr_len hy
    intro fd0 nfd
    have e2 := _root_.Evl.Ex.new (o := .dT []) nfd
    have hfd := upd_same (H := H1) (a := fd0) (o := .dT [])
    have hD2 := e2 _ _ hD
    have hy2 := pr_mono hy fun _ _ z => z.ex e2
    have eH2 := e1.trans e2
    generalize upd H1 fd0 (.dT []) = H2 at e2 hfd hD2 hy2 eH2 ⊢
    obtain ⟨kvs, hd2, wp2⟩ := hWd.ex eH2
    have lkv := pr_len wp2
    have dfd : d ≠ fd0 := fun z => by
      obtain ⟨_, h0, _⟩ := hWd
      rw [z] at h0
      rw [e1 _ _ h0] at nfd
      cases nfd
    refine ⟨d, _, hd2, True.intro, fun od => ?_⟩
    have fz := upd_same (H := H2) (a := d) (o := .frz od (.dT kvs))
    have k3 : Kp H2 (upd H2 d (.frz od (.dT kvs))) := kp_mut hd2 rfl
    have hfd3 : upd H2 d (.frz od (.dT kvs)) fd0 = some (.dT []) := by rw [upd_ne (Ne.symm dfd)]; exact hfd
    have hD3 : upd H2 d (.frz od (.dT kvs)) D = some (.lst ys) := by
      rw [upd_ne (fun z => by rw [z, hd2] at hD2; cases hD2)]
      exact hD2
    have back : ∀ G, ExB fd0 (upd H2 d (.frz od (.dT kvs))) G → Ex H (upd G d (.dT kvs)) := fun G eB b o hb => by
      have h2 := eH2 _ _ hb
      by_cases bd : b = d
      · rw [bd, upd_same]
        rw [bd, hd2] at h2
        exact h2
      · rw [upd_ne bd]
        refine eB _ _ (fun z => ?_) (by rw [upd_ne bd]; exact h2)
        rw [z] at hb
        rw [e1 _ _ hb] at nfd
        cases nfd
    have hM3 := (hM.ex eH2).k k3
    have hR3 := (hR.ex eH2).k k3
    have hy3 := pr_mono hy2 fun _ _ z => z.k k3
    have wp3 := way_k k3 wp2
    generalize upd H2 d (.frz od (.dT kvs)) = H3 at fz k3 hfd3 hD3 back hM3 hR3 hy3 wp3 ⊢
    have fzn : ∀ G, ExB fd0 H3 G → G d = some (.frz od (.dT kvs)) := fun G eB => eB _ _ dfd fz
    have kB : ∀ G, ExB fd0 H3 G → Kp H3 G := fun G eB => kp_b hfd3 rfl eB
    refine ⟨_, rfl, d, od, kvs, rfl, fz, ?_⟩
    refine for_it walk_itiT (fun i σ' G => ∃ (y4 y6 y7 : Option V), σ' = [some (.ref m), some (.ref ub), some (.ref d), some (.ref D), y4, some (.ref fd0), y6, y7] ∧ ExB fd0 H3 G ∧ ∃ acc, acc = (L.take i).foldl (fun acc q => (List.range S.length).foldl (stepS p R S q) acc) [] ∧ acc.length ≤ i * 100 ∧ WaysD K acc fd0 G)
      ⟨none, none, none, rfl, ExB.refl _ _, [], rfl, Nat.zero_le _, [], hfd3, .nil⟩ (fun i σ' G _ ⟨_, _, _, _, e, _⟩ => fzn G e) (fun i x σ' G G1 hi p' y => ?_) fun σ' G p' => ?_
    · obtain ⟨y4, y6, y7, rfl, eB, acc, eacc, lacc, hacc⟩ := p'
      obtain ⟨T, qa, k, v, hkv, rfl, nT, hqa, rfl⟩ := y
      obtain ⟨qq, hqq, ek, hv⟩ := pr_get wp3 hkv
      obtain ⟨lq1, lq2⟩ := hq qq (List.mem_of_getElem? hqq)
      have hv' : RowT K (natI qq.2) v G := hv.k (kB G eB)
      have hg' : RowT K (natI qq.1) (.ref qa) G := RowT.new (by
        rw [← natK_tup]
        have : (k, v).1 = natK qq.1 := ek
        rw [← this]
        exact hqa)
      have eT : Ex G (upd G T (.tup [.ref qa, v])) := _root_.Evl.Ex.new nT
      have eB1 : ExB fd0 H3 (upd G T (.tup [.ref qa, v])) := eB.lay nT
      have hT1 := upd_same (H := G) (a := T) (o := .tup [.ref qa, v])
      have hacc1 := hacc.ex eT
      have hv1 := hv'.ex eT
      have hg1 := hg'.ex eT
      generalize upd G T (.tup [.ref qa, v]) = G1 at eT eB1 hT1 hacc1 hv1 hg1 ⊢
      refine ⟨T, _, rfl, SqT.of hT1, rfl, _, _, rfl, _, _, rfl, rfl, ?_⟩
      have hD4 := eB1 _ _ (fun z => by rw [z, hfd3] at hD3; cases hD3) hD3
      refine ⟨_, rfl, D, ys, rfl, .inl (SqL.of hD4), _, rfl, by omega, by omega, ?_⟩
      refine for_range (lo := 0) (n := ys.length) (fun s σ' G2 => ∃ y4 : Option V, σ' = [some (.ref m), some (.ref ub), some (.ref d), some (.ref D), y4, some (.ref fd0), some (.ref qa), some v] ∧ ExB fd0 H3 G2 ∧ Kp G1 G2 ∧ ∃ ac, ac = (List.range s).foldl (stepS p R S qq) acc ∧ ac.length ≤ i * 100 + s ∧ WaysD K ac fd0 G2)
        ⟨y4, rfl, eB1, Kp.refl _, acc, rfl, lacc, hacc1⟩ (fun s σ' G2 hs p' => ?_) fun σ' G2 p' => ?_
      · obtain ⟨y4', rfl, eB2, k2, ac, eac, lac, hac⟩ := p'
        rw [Int.zero_add]
        obtain ⟨tv, htv⟩ : ∃ tv, ys[s]? = some tv := ⟨_, List.getElem?_eq_getElem hs⟩
        obtain ⟨sr, hsr, rtv⟩ := pr_get hy3 htv
        have hD5 := eB2 _ _ (fun z => by rw [z, hfd3] at hD3; cases hD3) hD3
        have rtv2 := rtv.k (kB G2 eB2)
        have esr : S.getD s [] = sr := by rw [List.getD_eq_getElem?_getD, hsr]; rfl
        have hv2 := hv1.k k2
        have hg2 := hg1.k k2
        have fin : ∀ (gv wv : V) (G4 : Hp), Ex G2 G4 → TupN (natI (cls ((natI qq.1).zip (R.map fun u => Lin.dot p u sr)))) gv G4 → RowT K (natI (qq.2 ++ [s])) wv G4 →
            ∃ (kv4 : List (List Key × V)) (k : List Key) (b : Addr), G4 fd0 = some (.dT kv4) ∧ gv = .ref b ∧ G4 b = some (.tup (k.map kV)) ∧ kv4.length < sizeLine ∧
              (∀ v', valV kv4 k = some v' → ∃ y4 : Option V, [some (.ref m), some (.ref ub), some (.ref d), some (.ref D), some (V.int ((s : Nat) : Int)), some (.ref fd0), some (.ref qa), some v] = [some (.ref m), some (.ref ub), some (.ref d), some (.ref D), y4, some (.ref fd0), some (.ref qa), some v] ∧ ExB fd0 H3 G4 ∧ Kp G1 G4 ∧ ∃ ac, ac = (List.range (s + 1)).foldl (stepS p R S qq) acc ∧ ac.length ≤ i * 100 + (s + 1) ∧ WaysD K ac fd0 G4) ∧
              (valV kv4 k = none → ∃ y4 : Option V, [some (.ref m), some (.ref ub), some (.ref d), some (.ref D), some (V.int ((s : Nat) : Int)), some (.ref fd0), some (.ref qa), some v] = [some (.ref m), some (.ref ub), some (.ref d), some (.ref D), y4, some (.ref fd0), some (.ref qa), some v] ∧ ExB fd0 H3 (upd G4 fd0 (.dT (putK kv4 k wv))) ∧ Kp G1 (upd G4 fd0 (.dT (putK kv4 k wv))) ∧ ∃ ac, ac = (List.range (s + 1)).foldl (stepS p R S qq) acc ∧ ac.length ≤ i * 100 + (s + 1) ∧ WaysD K ac fd0 (upd G4 fd0 (.dT (putK kv4 k wv)))) := by
          intro gv wv G4 e4 hgv hwv
          obtain ⟨kv4, hk4, wp4⟩ := hac.ex e4
          obtain ⟨b, rfl, hb⟩ := hgv
          have l4 := pr_len wp4
          have eput : (List.range (s + 1)).foldl (stepS p R S qq) acc = put ac (cls ((natI qq.1).zip (R.map fun u => Lin.dot p u sr))) (qq.2 ++ [s]) := by
            rw [List.range_succ, List.foldl_append, ← eac]
            show stepS p R S qq ac s = _
            unfold stepS
            rw [esr]
          have lput := put_len (kv := ac) (k := cls ((natI qq.1).zip (R.map fun u => Lin.dot p u sr))) (v := qq.2 ++ [s])
          have s100 : s < 100 := by omega
          have big : kv4.length < sizeLine := Nat.lt_of_le_of_lt (show kv4.length ≤ 60100 by omega) (by decide)
          refine ⟨kv4, natK (cls ((natI qq.1).zip (R.map fun u => Lin.dot p u sr))), b, hk4, rfl, by rw [natK_tup]; exact hb, big, fun v' hv' => ?_, fun hn' => ?_⟩
          · refine ⟨_, rfl, eB2.trans (ExB.of e4), k2.trans (Ex.k e4), _, eput.symm, by omega, ?_⟩
            rcases way_get (g := cls ((natI qq.1).zip (R.map fun u => Lin.dot p u sr))) wp4 with ⟨h1, _⟩ | ⟨_, _, _, h2, _⟩
            · rw [hv'] at h1; cases h1
            · have : put ac (cls ((natI qq.1).zip (R.map fun u => Lin.dot p u sr))) (qq.2 ++ [s]) = ac := by unfold put; rw [if_pos h2]
              rw [this]
              exact ⟨kv4, hk4, wp4⟩
          · exact ⟨_, rfl, (eB2.trans (ExB.of e4)).at, (k2.trans (Ex.k e4)).trans (kp_mut hk4 rfl), _, eput.symm, by omega, way_put hk4 wp4 hn' hwv⟩
        obtain ⟨kv2, hk2, _⟩ := id hac
        refine ⟨_, rfl, fd0, rfl, .inr ⟨kv2, .inl hk2⟩, _, rfl, _, rfl, _, rfl, D, ys, _, tv, rfl, rfl, SqL.of hD5, at_of rfl htv, .ref qa, tv, _, _, rfl, hg2, rtv2, ?_, ?_, fun gv G3 e3 hgv => ?_⟩
        · rw [List.length_map, List.length_map, lq1]
        · rw [List.length_map, lq1]; exact l30
        obtain ⟨wa, rfl, hwa⟩ := hv2
        refine ⟨_, rfl, _, rfl, (by show 1 ≤ sizeLine; decide), fun b nb => ?_⟩
        have e4 := e3.trans (_root_.Evl.Ex.new (o := .tup [V.int ((s : Nat) : Int)]) nb)
        have hb4 := upd_same (H := G3) (a := b) (o := .tup [V.int ((s : Nat) : Int)])
        have hgv4 := hgv.ex (_root_.Evl.Ex.new (o := .tup [V.int ((s : Nat) : Int)]) nb)
        generalize upd G3 b (.tup [V.int ((s : Nat) : Int)]) = G4 at e4 hb4 hgv4 ⊢
        refine ⟨wa, b, (natI qq.2).map V.int, [V.int ((s : Nat) : Int)], rfl, rfl, _root_.Evl.ex_t e4 hwa, SqT.of hb4, ?_, fun hw => ?_, fun _ z => ?_, fun hw _ c nc => ?_⟩
        · rw [List.length_map, List.length_map]
          show qq.2.length + 1 ≤ sizeLine
          exact Nat.le_trans (show qq.2.length + 1 ≤ 21 by omega) (by decide)
        · have e0 : qq.2 = [] := by
            have := congrArg List.length hw
            rw [List.length_map, List.length_map] at this
            exact List.length_eq_zero_iff.mp this
          exact fin gv _ G4 e4 hgv4 (RowT.new (by rw [e0]; exact hb4))
        · cases z
        · exact fin gv _ _ (e4.trans (_root_.Evl.Ex.new nc)) (hgv4.ex (_root_.Evl.Ex.new nc)) (RowT.new (by rw [upd_same]; unfold natI; rw [List.map_append, List.map_append]; rfl))
      · obtain ⟨y4', rfl, eB2, k2, ac, rfl, lac, hac⟩ := p'
        refine ⟨_, _, _, rfl, eB2, _, ?_, ?_, hac⟩
        · rw [take_snoc hqq, List.foldl_append, ← eacc, ly]
          rfl
        · omega
    · obtain ⟨y4, y6, y7, rfl, eB, acc, eacc, lacc, hacc⟩ := p'
      rw [lkv, List.take_length] at eacc
      have eb := back G eB
      refine ⟨fzn G eB, _, rfl, q _ _ eb ⟨fd0, rfl, ?_⟩⟩
      obtain ⟨kv2, h1, h2⟩ := hacc
      rw [eacc] at h2
      exact ⟨kv2, by rw [upd_ne (Ne.symm dfd)]; exact h1, pr_mono h2 fun _ _ z => ⟨z.1, rowT_unlock (fzn G eB) z.2⟩⟩
end
end K01


set_option Elab.async false
set_option linter.all false
set_option maxRecDepth 100000
set_option maxHeartbeats 4000000
/-! Rows of sights, the first that parts as wanted -/
namespace K01
open PySem PySem.Spec PyProof.Rows L2 Can
/-- what a row of sights, one a tick, tells -/
def tellW (p : Int) (A S : List Row) (w : List Nat) (u : Row) : List Int := (List.range w.length).map fun i => Lin.dot p (Lin.it p A i u) (S.getD (w.getD i 0) [])
def keyW (p : Int) (A S R : List Row) (w : List Nat) : List Nat := cls (R.map (tellW p A S w))
def extW (m : Nat) (w : List Nat) : List (List Nat) := (List.range m).map fun s => w ++ [s]
def allW (m : Nat) : Nat → List (List Nat)
  | 0 => [[]]
  | t + 1 => (allW m t).flatMap (extW m)
theorem allW_len {m : Nat} : ∀ {t : Nat} {w : List Nat}, w ∈ allW m t → w.length = t ∧ ∀ s ∈ w, s < m
  | 0, w, h => by
    rw [List.mem_singleton.mp h]
    exact ⟨rfl, fun s hs => by cases hs⟩
  | t + 1, w, h => by
    obtain ⟨v, hv, hw⟩ := List.mem_flatMap.mp h
    obtain ⟨s, hs, rfl⟩ := List.mem_map.mp hw
    obtain ⟨h1, h2⟩ := allW_len hv
    refine ⟨by rw [List.length_append, h1]; rfl, fun z hz => ?_⟩
    rcases List.mem_append.mp hz with hz | hz
    · exact h2 z hz
    · rw [List.mem_singleton.mp hz]
      exact List.mem_range.mp hs
theorem ext_size {m : Nat} : ∀ l : List (List Nat), (l.flatMap (extW m)).length = l.length * m
  | [] => by simp
  | w :: l => by
    rw [List.flatMap_cons, List.length_append, ext_size l, List.length_cons, Nat.succ_mul]
    unfold extW
    rw [List.length_map, List.length_range, Nat.add_comm]
theorem allW_size {m : Nat} : ∀ t : Nat, (allW m t).length = m ^ t
  | 0 => rfl
  | t + 1 => by
    show ((allW m t).flatMap (extW m)).length = _
    rw [ext_size, allW_size t, Nat.pow_succ]
theorem tellW_snoc {p : Int} {A S : List Row} {w : List Nat} {s : Nat} {u : Row} : tellW p A S (w ++ [s]) u = tellW p A S w u ++ [Lin.dot p (Lin.it p A w.length u) (S.getD s [])] := by
  unfold tellW
  rw [List.length_append, List.length_singleton, List.range_succ, List.map_append]
  congr 1
  · refine List.map_congr_left fun i hi => ?_
    have hi := List.mem_range.mp hi
    have e : (w ++ [s]).getD i 0 = w.getD i 0 := by rw [List.getD_eq_getElem?_getD, List.getElem?_append_left hi, ← List.getD_eq_getElem?_getD]
    rw [e]
  · have e : (w ++ [s]).getD w.length 0 = s := by
      rw [List.getD_eq_getElem?_getD, List.getElem?_append_right (Nat.le_refl _), Nat.sub_self]
      rfl
    rw [List.map_singleton, e]
/-- the parting one tick on, from the parting so far -/
def nextW (p : Int) (S Rt : List Row) (g : List Nat → List Nat) (w : List Nat) : List Nat := cls ((natI (g w.dropLast)).zip (Rt.map fun u => Lin.dot p u (S.getD (w.getLastD 0) [])))
theorem nextW_at {p : Int} {S Rt : List Row} {g : List Nat → List Nat} {w : List Nat} {s : Nat} : nextW p S Rt g (w ++ [s]) = cls ((natI (g w)).zip (Rt.map fun u => Lin.dot p u (S.getD s []))) := by
  unfold nextW
  rw [List.dropLast_concat, List.getLastD_concat]
theorem nextW_key {p : Int} {A S R : List Row} {w : List Nat} {s : Nat} : nextW p S (R.map (Lin.it p A w.length)) (keyW p A S R) (w ++ [s]) = keyW p A S R (w ++ [s]) := by
  rw [nextW_at, List.map_map]
  unfold keyW
  have e : (R.map ((fun u => Lin.dot p u (S.getD s [])) ∘ Lin.it p A w.length)) = R.map fun u => Lin.dot p (Lin.it p A w.length u) (S.getD s []) := rfl
  rw [e, cls_more]
  congr 1
  exact List.map_congr_left fun u _ => tellW_snoc.symm
theorem furth_dd {p : Int} {S Rt : List Row} {g : List Nat → List Nat} : ∀ {L : List (List Nat × List Nat)} {acc : List (List Nat × List Nat)}, (∀ q ∈ L, q.1 = g q.2) →
    L.foldl (fun acc q => (List.range S.length).foldl (stepS p Rt S q) acc) acc = dd (nextW p S Rt g) acc ((L.map Prod.snd).flatMap (extW S.length))
  | [], acc, _ => rfl
  | q :: L, acc, h => by
    have e1 : (List.range S.length).foldl (stepS p Rt S q) acc = dd (nextW p S Rt g) acc (extW S.length q.2) := by
      unfold dd extW
      rw [List.foldl_map]
      congr 1
      funext acc s
      unfold stepS
      rw [nextW_at, h q List.mem_cons_self]
    rw [List.foldl_cons, List.map_cons, List.flatMap_cons, dd_app, ← e1]
    exact furth_dd fun q' hq' => h q' (List.mem_cons_of_mem _ hq')
theorem dd_congr {α β : Type} [DecidableEq β] {f g : α → β} : ∀ {l : List α} {acc : List (β × α)}, (∀ x ∈ l, f x = g x) → dd f acc l = dd g acc l
  | [], acc, _ => rfl
  | x :: l, acc, h => by
    show dd f (put acc (f x) x) l = dd g (put acc (g x) x) l
    rw [h x List.mem_cons_self]
    exact dd_congr fun y hy => h y (List.mem_cons_of_mem _ hy)
/-- the least row of sights for each parting -/
def leastW (p : Int) (A S R : List Row) (t : Nat) : List (List Nat × List Nat) := dd (keyW p A S R) [] (allW S.length t)
theorem leastW_next {p : Int} {A S R : List Row} (t : Nat) : furth p (R.map (Lin.it p A t)) S (leastW p A S R t) = leastW p A S R (t + 1) := by
  have hq : ∀ q ∈ leastW p A S R t, q.1 = keyW p A S R q.2 := dd_mem fun q hq => by cases hq
  unfold furth
  rw [furth_dd hq]
  unfold leastW
  rw [dd_ext (g := keyW p A S R) (fun x y h => ?_)]
  · refine dd_congr fun w hw => ?_
    obtain ⟨v, hv, hw⟩ := List.mem_flatMap.mp hw
    obtain ⟨s, _, rfl⟩ := List.mem_map.mp hw
    rw [← (allW_len hv).1]
    exact nextW_key
  · unfold extW
    rw [List.map_map, List.map_map]
    refine List.map_congr_left fun s _ => ?_
    show nextW _ _ _ _ (x ++ [s]) = nextW _ _ _ _ (y ++ [s])
    rw [nextW_at, nextW_at, h]
theorem leastW_zero {p : Int} {A S R : List Row} : leastW p A S R 0 = [(List.replicate R.length 0, [])] := by
  show put [] (keyW p A S R []) [] = _
  have : keyW p A S R [] = List.replicate R.length 0 := cls_nil R
  rw [this]
  rfl
theorem leastW_q {p : Int} {A S R : List Row} {t : Nat} {q : List Nat × List Nat} (h : q ∈ leastW p A S R t) : q.1.length = R.length ∧ q.2.length = t := by
  have h1 : q.1 = keyW p A S R q.2 := dd_mem (fun q hq => by cases hq) q h
  have h2 : q.2 ∈ allW S.length t := (dd_in q h).resolve_left fun z => by cases z
  refine ⟨?_, (allW_len h2).1⟩
  rw [h1]
  unfold keyW
  rw [cls_len, List.length_map]
theorem dd_size {α β : Type} [DecidableEq β] {f : α → β} : ∀ {l : List α} {acc : List (β × α)}, (dd f acc l).length ≤ acc.length + l.length
  | [], acc => Nat.le_refl _
  | x :: l, acc => by
    have h1 : (dd f (put acc (f x) x) l).length ≤ (put acc (f x) x).length + l.length := dd_size
    have h2 := put_len (kv := acc) (k := f x) (v := x)
    show (dd f (put acc (f x) x) l).length ≤ _
    rw [List.length_cons]
    omega
/-- the first that is found -/
def FirstSol {α : Type} (sol : Nat → Option α) (N : Nat) : Option α → Prop
  | none => ∀ t, t ≤ N → sol t = none
  | some w => ∃ i, i ≤ N ∧ (∀ t, t < i → sol t = none) ∧ sol i = some w
theorem FirstSol.one {α : Type} {sol sol' : Nat → Option α} {N : Nat} (e : ∀ t, t ≤ N → sol t = sol' t) {r r' : Option α} (h : FirstSol sol N r) (h' : FirstSol sol' N r') : r = r' := by
  rcases r with _ | w
  · rcases r' with _ | w'
    · rfl
    · obtain ⟨i, hi, _, q⟩ := h'
      rw [← e i hi, h i hi] at q
      cases q
  · obtain ⟨i, hi, b, q⟩ := h
    rcases r' with _ | w'
    · rw [e i hi, h' i hi] at q
      cases q
    · obtain ⟨j, hj, b', q'⟩ := h'
      rcases Nat.lt_trichotomy i j with z | z | z
      · rw [e i hi, b' i z] at q
        cases q
      · subst z
        rw [← e i hi, q] at q'
        exact q'
      · rw [← e j hj, b j z] at q'
        cases q'
def solW (p : Int) (A S R : List Row) (wanted : List Nat) (t : Nat) : Option (List Nat) := (allW S.length t).find? fun w => decide (keyW p A S R w = wanted)
theorem leastW_find {p : Int} {A S R : List Row} {wanted : List Nat} {t : Nat} : ((leastW p A S R t).find? fun q => decide (q.1 = wanted)).map Prod.snd = solW p A S R wanted t := dd_find (by simp)
def OptW (K : PySem.W.Frag) : Option (List Nat) → V → Hp → Prop
  | none, v, _ => v = .non
  | some w, v, H => RowT K (natI w) v H
end K01


set_option Elab.async false
set_option linter.all false
set_option maxRecDepth 100000
set_option maxHeartbeats 4000000
/-! fewest_looks -/
namespace K01
open PySem PySem.Spec PyProof.Rows L2 Can
/-- what is no ascending tuple of 1 to 30 unlike memories -/
def BadMems (K : PySem.W.Frag) (p : Int) (n : Nat) (v : V) (H : Hp) : Prop :=
  (∀ H', Ex H H' → NotTup K v H') ∨ (∃ b, v = .ref b ∧ SqT K H b []) ∨
  (∃ b us bs, v = .ref b ∧ SqT K H b us ∧ 1 ≤ us.length ∧ us.length ≤ 30 ∧ Paired (fun x c => MayRow K p (n : Nat) x c H) us bs ∧ bs.all id = false) ∨
  ∃ R, RowsT K R v H ∧ Lin.Oks p n R ∧ 1 ≤ R.length ∧ R.length ≤ 30 ∧ ascR R = false
theorem it_rows {p : Int} {n : Nat} {A R : List Row} (hp : 0 < p) (lA : A.length = n) (oR : Lin.Oks p n R) (i : Nat) : Lin.Oks p n (R.map (Lin.it p A i)) := fun r hr => by
  obtain ⟨u, hu, rfl⟩ := List.mem_map.mp hr
  exact Lin.it_ok hp lA (oR u hu) i
section
variable {P : Program} {w : World} {K : PySem.W.Frag} {mg : Str → Option Value} {base : Heap}
def spFewest (K : PySem.W.Frag) (CM : Addr) : Sp := fun vs H Q E => ∃ (p : Int) (n : Nat) (mv uv : V) (A W S : List Row), vs = [mv, uv] ∧ WP K H mv none ∧ MachT K p A W S mv H ∧ MOk p n A W S ∧ S.length ≤ 2 ∧
  ((∃ R, RowsT K R uv H ∧ Lin.Oks p n R ∧ 1 ≤ R.length ∧ R.length ≤ 30 ∧ ascR R = true ∧
      Ret (fun x H => ∃ F r, Lin.Rref p n F ∧ Lin.Same p n F (lookR p n A S) ∧ FirstSol (solW p A S R (cls (R.map (tellF p F)))) 8 r ∧ OptW K r x H) H Q) ∨
   ((∀ H', Ex H H' → BadMems K p n uv H') ∧ ∀ H', Ex H H' → E (.ref CM) none H'))
theorem ok_fewest {f CB CM : Addr} {fd : FuncData} {tk : Tok} (B : Bare mg) (F : Fun K "fewest_looks" "fewest_looks" s_fewest_looks f fd) (Gc : Got P w K mg base (L2.CX P w) 8 "check_machine" p_check_machine (spCheckM K CB)) (Gm : Got P w K mg base (L2.CX P w) 3 "check_memories" p_check_memories (spCheckMems K CM))
    (Gl : Got P w K mg base CX0 8 "looks_apart" p_looks_apart (spLooksA K)) (Gf : Got P w K mg base CX0 3 "further_looks" p_further_looks (spFurther K)) (Gs : Got P w K mg base CX0 2 "stirred" p_stirred (spPStirred K)) (g8 : mg "MOST_LOOKS" = some (.int 8 tk)) :
    FnOk P w K mg base (L2.CX P w) 9 f fd p_fewest_looks (spFewest K CM) := by
  refine F.okX sc_fewest_looks (fun vs H Q E h => ?_) (fun cdv Ar outer s H vs Q E hr h => ?_)
  · obtain ⟨p, n, mv, uv, A, W, S, rfl, _⟩ := h
    rfl
  · obtain ⟨p, n, mv, uv, A, W, S, rfl, hw, hM, M, s2, h⟩ := h
    have hr3 : Room 3 _ := hr.mono (by decide)
    have hu : (cxOf (L2.CX P w) P w K mg base n_fewest_looks (Str.ofString "fewest_looks") (defScope s_fewest_looks) f cdv Ar outer s H E).nox.A.units + 1 < cLine := Nat.lt_of_le_of_lt (Nat.add_le_add_left (by decide) _) hr.units
    refine ⟨_, pss_cons (ps_expr (pe_got Gc hr (passes_call (takes_of rfl rfl rfl rfl) fun _ _ _ _ z => z) (pa_cons (pv 0) pa_nil)))
      (pss_cons (ps_expr (pe_got Gm hr3 (passes_call (takes_of rfl rfl rfl rfl) fun _ _ _ _ z => z) (pa_cons (pv 0) (pa_cons (pv 1) pa_nil))))
      (pss_cons (ps_set (i := 2) sc_fewest_looks.nd rfl (Or.inl rfl) (pe_got Gl hr pass0 (pa_cons (pv 0) (pa_cons (pv 1) pa_nil))))
      (pss_cons (ps_set (i := 3) sc_fewest_looks.nd rfl (Or.inl rfl) (pe_disp1T hu (pe_op op_repN (pe_tup (pa_cons pe_int pa_nil)) (pe_callB call_len_seq (by rfl) B.len PySem.boot_len (pa_cons (pv 1) pa_nil))) (pe_tup pa_nil)))
      (pss_cons (ps_for (passes_of rfl) rfl (pi_range1 rfl B.range (pa_cons (pe_glob (by rfl) g8 (v := .int 8) ⟨_, rfl⟩) pa_nil)) (pg_name (i := 4) sc_fewest_looks.nd rfl (Or.inl rfl))
        (pss_cons (ps_if (pt_cmp (pc_din hu (pv 2) (pv 3))) (pss_one (ps_ret (pe_dget hu (pv 3) (pv 2) (fun _ _ => rfl)))) pss_nil)
        (pss_cons (ps_set (i := 3) sc_fewest_looks.nd rfl (Or.inl rfl) (pe_got Gf hr3 pass0 (pa_cons (pv 0) (pa_cons (pv 1) (pa_cons (pv 3) pa_nil)))))
        (pss_one (ps_set (i := 1) sc_fewest_looks.nd rfl (Or.inl rfl) (pe_callTy call_tuple_of (by rfl) B.tuple (by decide +kernel) (pa_cons (pe_lc (own := [("memory", 5)]) (g := gName 5) (tt := tYes) rfl sc_fewest_looks.nd (pi_tup (pv 1)) (blkOk_by (N := n_fewest_looks) (sc := defScope s_fewest_looks) (by decide +kernel))
          (fun _ _ _ _ _ => pg_name (i := 5) sc_fewest_looks.nd rfl (Or.inl rfl)) (fun _ _ _ _ _ => pts_nil) (fun _ _ _ _ _ => pe_got Gs (hr.mono (by decide)) pass0 (pa_cons (pe_ix (show IxR _ (rIxT K) from ix_tup) (pv 0) pe_int (fun _ _ => rfl)) (pa_cons (pe_ix (show IxR _ (rIxT K) from ix_tup) (pv 0) pe_int (fun _ _ => rfl)) (pa_cons (pv 5) pa_nil))))) pa_nil)))))))
      (pss_one (ps_ret (pe_dget2 hu (pv 3) (pv 2) pe_non ⟨by rfl, by rfl, by rfl, by rfl⟩))))))), ?_⟩
    obtain ⟨m, av, wv, sv, rfl, hm, hA, hW, hS⟩ := id hM
    have p1 := M.p1
    have p2 := M.p2
    have n4 := M.n4
    have lA := M.lA
    have hp0 : 0 < p := by omega
    refine ⟨_, rfl, .ref m, none, rfl, hw, fun z1 H1 e1 _ => ?_⟩
    rcases h with ⟨R, hR, oR, l1, l30, as, q⟩ | ⟨bad, q⟩
    rotate_left
    · refine ⟨_, rfl, _, rfl, p, n, .ref m, uv, A, W, S, rfl, hM.ex e1, lA, n4, ?_⟩
      rcases bad _ e1 with h | ⟨b, h1, h2⟩ | ⟨b, us, bs, h1, h2, h3, h4, h5, h6⟩ | ⟨R, h1, h2, h3, h4, h5⟩
      · exact .inl ⟨h, fun H' e' => q _ (e1.trans e')⟩
      · exact .inr (.inl ⟨b, h1, h2, fun H' e' => q _ (e1.trans e')⟩)
      · exact .inr (.inr (.inl ⟨b, us, bs, h1, h2, h3, h4, h5, h6, fun H' e' => q _ (e1.trans e')⟩))
      · exact .inr (.inr (.inr ⟨R, h1, h2, h3, h4, fun z => (by rw [h5] at z; cases z), fun _ H' e' => q _ (e1.trans e')⟩))
    refine ⟨_, rfl, _, rfl, p, n, .ref m, uv, A, W, S, rfl, hM.ex e1, lA, n4, .inr (.inr (.inr ⟨R, hR.ex e1, oR, l1, l30, fun _ z2 H2 e2 _ => ?_, fun z => (by rw [as] at z; cases z)⟩))⟩
    have e02 := e1.trans e2
    refine ⟨_, rfl, _, rfl, p, n, .ref m, uv, A, W, S, R, rfl, hM.ex e02, M, hR.ex e02, oR, l1, l30, fun wv H3 e3 hw3 => ?_⟩
    obtain ⟨F', rF, sF, hwv⟩ := hw3
    have e03 := e02.trans e3
    intro d nd
    have ed := _root_.Evl.Ex.new (o := .dT []) nd
    have hd0 := upd_same (H := H3) (a := d) (o := .dT [])
    have hwv4 := hwv.ex ed
    have e04 := e03.trans ed
    have ek3 : ∀ b o, H3 b = some o → upd H3 d (.dT []) b = some o := ed
    have only : ∀ b, b ≠ d → upd H3 d (.dT []) b = H3 b := fun b hb => upd_ne hb
    generalize upd H3 d (.dT []) = H4 at ed hd0 hwv4 e04 ek3 only ⊢
    obtain ⟨ub, us, rfl, hub, pub⟩ := id hR
    have lu := pr_len pub
    refine ⟨(by show 1 ≤ sizeLine; decide), fun t0 n0 => ?_⟩
    have e5 := _root_.Evl.Ex.new (o := .tup [.int 0]) n0
    have ht0 := upd_same (H := H4) (a := t0) (o := .tup [.int 0])
    generalize upd H4 t0 (.tup [.int 0]) = H5 at e5 ht0 ⊢
    have e05 := e04.trans e5
    refine ⟨_, rfl, ub, us, rfl, .inr (_root_.Evl.ex_t e05 hub), t0, _, _, rfl, rfl, ht0, by simp, by omega, by omega, (by show 1 ≤ 1000; decide), fun g H6 e6 hg => ?_⟩
    rw [flat_zero, lu] at hg
    have e06 := e05.trans e6
    refine ⟨(by show 0 ≤ sizeLine; decide), fun z0 nz0 => ?_⟩
    have e7 := _root_.Evl.Ex.new (o := .tup []) nz0
    have hz0 := upd_same (H := H6) (a := z0) (o := .tup [])
    generalize upd H6 z0 (.tup []) = H7 at e7 hz0 ⊢
    have e07 := e06.trans e7
    have hd7 := e7 _ _ (e6 _ _ (e5 _ _ hd0))
    have gz : ∃ b, V.ref g = .ref b := ⟨g, rfl⟩
    refine ⟨_, _, rfl, hd7, g, natK (List.replicate R.length 0), rfl, by rw [natK_tup]; exact e7 _ _ hg, ?_⟩
    have hwv7 : TupN (natI (cls (R.map (tellF p F')))) wv H7 := ((hwv4.ex e5).ex e6).ex e7
    have hk8 := upd_same (H := H7) (a := d) (o := .dT [(natK (List.replicate R.length 0), .ref z0)])
    have e08 : Ex H (upd H7 d (.dT [(natK (List.replicate R.length 0), .ref z0)])) := fun b o hb => by
      have bd : b ≠ d := fun z => by
        rw [z] at hb
        rw [e03 _ _ hb] at nd
        cases nd
      rw [upd_ne bd]
      exact e07 _ _ hb
    have k8 : Kp H7 (upd H7 d (.dT [(natK (List.replicate R.length 0), .ref z0)])) := kp_mut hd7 rfl
    have hwv8 : TupN (natI (cls (R.map (tellF p F')))) wv (upd H7 d (.dT [(natK (List.replicate R.length 0), .ref z0)])) := hwv7.b hd7 (fun xs z => nomatch z) (ExB.refl d H7).at
    have hz8 := (RowT.new (K := K) (r := natI []) hz0).k k8
    generalize upd H7 d (.dT [(natK (List.replicate R.length 0), .ref z0)]) = H8 at hk8 e08 k8 hwv8 hz8 ⊢
    obtain ⟨wb, rfl, hwb⟩ := id hwv8
    have wz : WaysD K (leastW p A S R 0) d H8 := ⟨_, hk8, by rw [leastW_zero]; exact .cons ⟨rfl, hz8⟩ .nil⟩
    refine ⟨_, rfl, by decide, by decide, ?_⟩
    have small : ∀ i, i ≤ 8 → (leastW p A S R i).length ≤ 600 := fun i hi => by
      have h1 : (leastW p A S R i).length ≤ 0 + (allW S.length i).length := dd_size
      rw [allW_size] at h1
      have h2 : S.length ^ i ≤ 2 ^ i := Nat.pow_le_pow_left s2 i
      have h3 : 2 ^ i ≤ 2 ^ 8 := Nat.pow_le_pow_right (by decide) hi
      have h4 : (2 : Nat) ^ 8 = 256 := by decide
      omega
    refine for_range (lo := 0) (n := 8) (fun i σ' G => ∃ (u' : V) (dw : Addr) (y4 y5 : Option V), σ' = [some (.ref m), some u', some (.ref wb), some (.ref dw), y4, y5] ∧ Ex H8 G ∧ RowsT K (R.map (Lin.it p A i)) u' G ∧ WaysD K (leastW p A S R i) dw G ∧ ∀ t, t < i → solW p A S R (cls (R.map (tellF p F'))) t = none)
      ⟨.ref ub, d, none, none, rfl, _root_.Evl.Ex.refl _, ?_, wz, fun t h => by omega⟩ (fun i σ' G hi p' => ?_) fun σ' G p' => ?_
    · have : R.map (Lin.it p A 0) = R := by
        conv => rhs; rw [← List.map_id R]
        rfl
      rw [this]
      exact hR.ex e08
    · obtain ⟨u', dw, y4, y5, rfl, eG, hu', hways, none_⟩ := p'
      rw [Int.zero_add]
      have oRi := it_rows hp0 lA oR i
      obtain ⟨kvs, hk, wp⟩ := id hways
      have hwbG := eG _ _ hwb
      have g0 : DGet G dw (.ref wb) (valV kvs (natK (cls (R.map (tellF p F'))))) := .inr ⟨kvs, _, wb, .inl hk, rfl, by rw [natK_tup]; exact hwbG, rfl⟩
      have find := leastW_find (p := p) (A := A) (S := S) (R := R) (wanted := cls (R.map (tellF p F'))) (t := i)
      refine ⟨_, rfl, _, rfl, dw, _, rfl, g0, _, rfl, ?_⟩
      rcases way_get (g := cls (R.map (tellF p F'))) wp with ⟨h1, h2, h3⟩ | ⟨v, wy, h1, h2, h3, h4⟩
      · rw [h3] at find
        rw [h1]
        refine iteF ?_
        refine ⟨_, rfl, _, rfl, _, rfl, p, n, .ref m, u', dw, A, W, S, R.map (Lin.it p A i), leastW p A S R i, rfl, hM.ex (e08.trans eG), M, hu', oRi, by rw [List.length_map]; exact l30, hways, small i (by omega), fun q' hq' => ?_, fun x G2 e9 hx => ?_⟩
        · obtain ⟨z1, z2⟩ := leastW_q hq'
          exact ⟨by rw [z1, List.length_map], by omega⟩
        obtain ⟨d', rfl, hd'⟩ := hx
        rw [leastW_next] at hd'
        obtain ⟨ub', us', rfl, hub', pub'⟩ := hu'.ex e9
        have lu' := pr_len pub'
        refine ⟨_, rfl, ub', rfl, ⟨_, hub'⟩, ?_⟩
        have eHG := (e08.trans eG).trans e9
        refine lc_go (walk_tup (xs := us')) (by rw [lu', List.length_map]; omega) (fun H' e => _root_.Evl.ex_t e hub') (R.map (Lin.it p A i)) lu'.symm (fun _ => true) (fun r x H => RowT K (Lin.app p A r) x H) (fun _ => RowT.stb) (fun j r x G3 G4 hn1 e y C N hC hN => ?_) fun D ys G3 nD e10 hD hy => ?_
        · obtain ⟨rfl, ex'⟩ := y
          obtain ⟨r', hr', rr⟩ := pr_get pub' ex'
          obtain rfl : r' = r := Option.some.inj (hr'.symm.trans hn1)
          have hm3 := _root_.Evl.ex_t (eHG.trans e) hm
          exact ⟨rfl, yes_go ⟨_, rfl, m, _, _, _, rfl, rfl, hm3, at_of (j := 0) rfl rfl, _, rfl, m, _, _, _, rfl, rfl, hm3, at_of (j := 1) rfl rfl, _, rfl, p, n, av, x, A, r', rfl, .inr (hA.ex (eHG.trans e)), rr.ex e, p1, p2, by omega, M.oA, by omega, oRi _ (List.mem_of_getElem? hr'), fun z G5 e11 hz => hC rfl z G5 e11 hz⟩⟩
        · rw [filter_yes] at hy
          refine ⟨D, _, rfl, .inl ⟨SqL.of hD, fun l nl => ?_⟩⟩
          have el := _root_.Evl.Ex.new (o := .tup ys) nl
          refine ⟨_, _, _, _, rfl, ((eG.trans e9).trans e10).trans el, ⟨l, ys, rfl, SqT.of upd_same, ?_⟩, hd'.ex (e10.trans el), fun t ht => ?_⟩
          · have e12 : R.map (Lin.it p A (i + 1)) = (R.map (Lin.it p A i)).map (Lin.app p A) := by
              rw [List.map_map]
              rfl
            rw [e12]
            exact pr_map hy fun a b z => z.ex el
          · rcases Nat.lt_or_ge t i with z | z
            · exact none_ t z
            · have : t = i := by omega
              rw [this]
              exact find.symm
      · rw [h3] at find
        rw [h1]
        refine iteT ?_
        rw [h1] at g0
        refine ⟨_, rfl, _, rfl, dw, v, rfl, g0, ?_⟩
        exact q _ _ (e08.trans eG) ⟨F', some wy, rF, sF, ⟨i, by omega, none_, find.symm⟩, h4⟩
    · obtain ⟨u', dw, y4, y5, rfl, eG, hu', hways, none_⟩ := p'
      obtain ⟨kvs, hk, wp⟩ := id hways
      have hwbG := eG _ _ hwb
      have g0 : DGet G dw (.ref wb) (valV kvs (natK (cls (R.map (tellF p F'))))) := .inr ⟨kvs, _, wb, .inl hk, rfl, by rw [natK_tup]; exact hwbG, rfl⟩
      have find := leastW_find (p := p) (A := A) (S := S) (R := R) (wanted := cls (R.map (tellF p F'))) (t := 8)
      refine ⟨_, rfl, dw, rfl, .inr ⟨kvs, .inl hk⟩, _, rfl, _, g0, ?_⟩
      rcases way_get (g := cls (R.map (tellF p F'))) wp with ⟨h1, h2, h3⟩ | ⟨v, wy, h1, h2, h3, h4⟩
      · rw [h3] at find
        rw [h1]
        refine q _ _ (e08.trans eG) ⟨F', none, rF, sF, fun t ht => ?_, rfl⟩
        rcases Nat.lt_or_ge t 8 with z | z
        · exact none_ t z
        · have : t = 8 := by omega
          rw [this]
          exact find.symm
      · rw [h3] at find
        rw [h1]
        exact q _ _ (e08.trans eG) ⟨F', some wy, rF, sF, ⟨8, Nat.le_refl _, none_, find.symm⟩, h4⟩
end
end K01


set_option Elab.async false
set_option linter.all false
/-! As many kinds told as there are: then the partings are equal -/
namespace Can
section
variable {α β : Type} [DecidableEq α] [DecidableEq β]
/-- the places that are the first of their kind -/
def firsts (xs : List α) : List Nat := (List.range xs.length).filter fun i => decide ((cls xs)[i]? = some i)
theorem mem_firsts {xs : List α} {i : Nat} : i ∈ firsts xs ↔ i < xs.length ∧ ∀ j, j < i → xs[j]? ≠ xs[i]? := by
  unfold firsts
  rw [List.mem_filter, List.mem_range, decide_eq_true_eq]
  refine and_congr_right fun hi => ?_
  have ei := List.getElem?_eq_getElem hi
  obtain ⟨h1, h2, h3⟩ := ix_spec ei
  rw [cls_get ei, Option.some.injEq]
  constructor
  · intro e j hj
    rw [ei]
    exact h3 j (by omega)
  · intro h
    rcases Nat.lt_or_ge (ix xs[i] xs) i with z | z
    · exact absurd (h2.trans ei.symm) (h _ z)
    · omega
theorem firsts_nd {xs : List α} : (firsts xs).Nodup := (List.nodup_range).filter _
theorem filter_eq {P Q : Nat → Bool} : ∀ {l : List Nat}, (∀ x ∈ l, P x = true → Q x = true) → (l.filter Q).length ≤ (l.filter P).length → ∀ x ∈ l, Q x = true → P x = true
  | [], _, _, _, h => by cases h
  | y :: l, sub, le, x, hx => by
    have sub' : ∀ x ∈ l, P x = true → Q x = true := fun z hz => sub z (List.mem_cons_of_mem _ hz)
    have mono : (l.filter P).length ≤ (l.filter Q).length := by
      clear le hx sub
      induction l with
      | nil => exact Nat.le_refl _
      | cons a l ih =>
        have := ih fun z hz => sub' z (List.mem_cons_of_mem _ hz)
        have ha := sub' a List.mem_cons_self
        rw [List.filter_cons, List.filter_cons]
        by_cases p : P a = true
        · rw [if_pos p, if_pos (ha p)]; simpa using this
        · rw [if_neg p]
          split
          · simp; omega
          · exact this
    have hy := sub y List.mem_cons_self
    rw [List.filter_cons, List.filter_cons] at le
    by_cases p : P y = true
    · rw [if_pos p, if_pos (hy p), List.length_cons, List.length_cons] at le
      rcases List.mem_cons.mp hx with rfl | q
      · exact fun _ => p
      · exact filter_eq sub' (by omega) x q
    · rw [if_neg p] at le
      by_cases qy : Q y = true
      · rw [if_pos qy, List.length_cons] at le
        omega
      · rw [if_neg qy] at le
        rcases List.mem_cons.mp hx with rfl | q
        · exact fun z => absurd z qy
        · exact filter_eq sub' le x q
/-- if ks part at least as finely as hs, and there are as many kinds, the partings are equal -/
theorem cls_of_count {ks : List α} {hs : List β} (l : ks.length = hs.length) (ref : ∀ i j, i < ks.length → j < ks.length → ks[i]? = ks[j]? → hs[i]? = hs[j]?) : (firsts hs).length = (firsts ks).length ↔ cls hs = cls ks := by
  constructor
  · intro e
    have sub : ∀ i, i ∈ firsts hs → i ∈ firsts ks := fun i hi => by
      obtain ⟨h1, h2⟩ := mem_firsts.1 hi
      exact mem_firsts.2 ⟨by omega, fun j hj z => h2 j hj (ref j i (by omega) (by omega) z)⟩
    have all : ∀ i, i ∈ firsts ks → i ∈ firsts hs := fun i hi => by
      have hr := (List.mem_filter.mp hi).1
      have e' := e
      unfold firsts at e'
      rw [← l] at e'
      refine List.mem_filter.2 ⟨by rw [← l]; exact hr, ?_⟩
      refine filter_eq (l := List.range ks.length) (fun x hx px => ?_) (Nat.le_of_eq e'.symm) i hr (List.mem_filter.mp hi).2
      exact (List.mem_filter.mp (sub x (List.mem_filter.2 ⟨by rw [← l]; exact hx, px⟩))).2
    refine (cls_eq l fun i j hi hj => ⟨ref i j hi hj, fun h => ?_⟩).symm
    -- the first of each, by ks, is the first by hs
    have key : ∀ i (hi : i < ks.length), ∃ f, f ≤ i ∧ ks[f]? = ks[i]? ∧ f ∈ firsts hs := fun i hi => by
      have ei := List.getElem?_eq_getElem hi
      obtain ⟨h1, h2, h3⟩ := ix_spec ei
      refine ⟨ix ks[i] ks, h1, h2.trans ei.symm, all _ (mem_firsts.2 ⟨by omega, fun j hj z => h3 j hj (z.trans h2)⟩)⟩
    obtain ⟨f, f1, f2, f3⟩ := key i hi
    obtain ⟨g, g1, g2, g3⟩ := key j hj
    have q : hs[f]? = hs[g]? := (ref f i (by omega) hi f2).trans (h.trans (ref g j (by omega) hj g2).symm)
    have : f = g := by
      rcases Nat.lt_trichotomy f g with z | z | z
      · exact absurd q ((mem_firsts.1 g3).2 f z)
      · exact z
      · exact absurd q.symm ((mem_firsts.1 f3).2 g z)
    rw [← f2, this, g2]
  · intro e
    unfold firsts
    rw [e, l]
end
end Can


set_option Elab.async false
set_option linter.all false
set_option maxRecDepth 100000
set_option maxHeartbeats 4000000
/-! As many told apart as kinds: the law's rows of sights and the program's are found alike -/
namespace K01
open PySem PySem.Spec PyProof.Rows L2 Can
theorem count_set {l xs : List (List Int)} (nd : l.Nodup) (h : ∀ x, x ∈ l ↔ x ∈ xs) : l.length = (firsts xs).length := by
  have at_ : ∀ i, i ∈ firsts xs → xs[i]? = some (xs.getD i []) := fun i hi => by
    have := (mem_firsts.1 hi).1
    rw [List.getD_eq_getElem?_getD, List.getElem?_eq_getElem this]
    rfl
  have nd2 : ((firsts xs).map fun i => xs.getD i []).Nodup := by
    refine List.pairwise_map.mpr (List.Pairwise.imp_of_mem (fun {i j} hi hj ne e => ?_) firsts_nd)
    have e2 : xs[i]? = xs[j]? := by rw [at_ i hi, at_ j hj, e]
    rcases Nat.lt_trichotomy i j with z | z | z
    · exact (mem_firsts.1 hj).2 i z e2
    · exact ne z
    · exact (mem_firsts.1 hi).2 j z e2.symm
  have pm : l.Perm ((firsts xs).map fun i => xs.getD i []) := (List.perm_ext_iff_of_nodup nd nd2).mpr fun x => by
    rw [h x, List.mem_map]
    constructor
    · intro hx
      obtain ⟨i, hi⟩ := List.getElem?_of_mem hx
      obtain ⟨h1, h2, h3⟩ := ix_spec hi
      have il := (List.getElem?_eq_some_iff.mp h2).1
      refine ⟨ix x xs, mem_firsts.2 ⟨il, fun j hj z => h3 j hj (z.trans h2)⟩, ?_⟩
      rw [List.getD_eq_getElem?_getD, h2]
      rfl
    · rintro ⟨i, hi, rfl⟩
      exact List.mem_of_getElem? (at_ i hi)
  rw [pm.length_eq, List.length_map]
/-- what six ticks tell of a memory -/
def kindW (p : Int) (A S : List Row) (u : Row) : List Int := (List.range 6).flatMap fun t => S.map fun s => Lin.dot p s (Lin.it p A t u)
section
variable {p : Int} {n : Nat} {A W S F : List Row}
theorem kind_iff {u v : Row} : kindW p A S u = kindW p A S v ↔ ∀ t, t < 6 → ∀ s ∈ S, Lin.dot p s (Lin.it p A t u) = Lin.dot p s (Lin.it p A t v) := by
  have gen : ∀ l : List Nat, (l.flatMap fun t => S.map fun s => Lin.dot p s (Lin.it p A t u)) = (l.flatMap fun t => S.map fun s => Lin.dot p s (Lin.it p A t v)) ↔ ∀ t ∈ l, ∀ s ∈ S, Lin.dot p s (Lin.it p A t u) = Lin.dot p s (Lin.it p A t v) := by
    intro l
    induction l with
    | nil => simp
    | cons t l ih =>
      rw [List.flatMap_cons, List.flatMap_cons]
      constructor
      · intro h
        obtain ⟨h1, h2⟩ := List.append_inj h (by rw [List.length_map, List.length_map])
        intro t' ht' s hs
        rcases List.mem_cons.mp ht' with rfl | ht'
        · exact List.map_inj_left.mp h1 s hs
        · exact ih.1 h2 t' ht' s hs
      · intro h
        rw [ih.2 fun t' ht' => h t' (List.mem_cons_of_mem _ ht'), List.map_inj_left.mpr fun s hs => h t List.mem_cons_self s hs]
  unfold kindW
  rw [gen]
  exact ⟨fun h t ht => h t (List.mem_range.mpr ht), fun h t ht => h t (List.mem_range.mp ht)⟩
theorem tellF_iff (rF : Lin.Rref p n F) {u v : Row} (ou : Lin.OkR p n u) (ov : Lin.OkR p n v) : tellF p F u = tellF p F v ↔ ∀ f ∈ F, Lin.dot p f u = Lin.dot p f v := by
  unfold tellF
  rw [List.map_inj_left]
  constructor
  · intro h f hf
    have of := rF.ok f hf
    rw [Lin.dot_comm of.1 ou.1, Lin.dot_comm of.1 ov.1]
    exact h f hf
  · intro h f hf
    have of := rF.ok f hf
    rw [Lin.dot_comm ou.1 of.1, Lin.dot_comm ov.1 of.1]
    exact h f hf
theorem seen_tell (hp : 0 < p) (lA : A.length = n) (oS : Lin.Oks p n S) {u : Row} (ou : Lin.OkR p n u) {w : List Nat} (hw : ∀ s ∈ w, s < S.length) : seenL p A S u w = tellW p A S w u := by
  unfold seenL tellW
  refine List.map_congr_left fun i hi => ?_
  have hi := List.mem_range.mp hi
  have e1 : w.getD i 0 = w[i] := by rw [List.getD_eq_getElem?_getD, List.getElem?_eq_getElem hi]; rfl
  have l1 := hw _ (List.getElem_mem hi)
  have e2 : S.getD w[i] [] = S[w[i]] := by rw [List.getD_eq_getElem?_getD, List.getElem?_eq_getElem l1]; rfl
  rw [e1, e2]
  exact Lin.dot_comm (oS _ (List.getElem_mem l1)).1 (Lin.it_ok hp lA ou i).1
/-- the law's way of finding -/
def solL (p : Int) (A S R : List Row) (t : Nat) : Option (List Nat) := (allW S.length t).find? fun w => decide ((firsts (R.map fun u => seenL p A S u w)).length = (firsts (R.map (kindW p A S))).length)
theorem find_congr {α : Type} {P Q : α → Bool} : ∀ {l : List α}, (∀ x ∈ l, P x = Q x) → l.find? P = l.find? Q
  | [], _ => rfl
  | x :: l, h => by
    rw [List.find?_cons, List.find?_cons, h x List.mem_cons_self, find_congr fun y hy => h y (List.mem_cons_of_mem _ hy)]
theorem sol_same (M : MOk p n A W S) (rF : Lin.Rref p n F) (sF : Lin.Same p n F (lookR p n A S)) {R : List Row} (oR : Lin.Oks p n R) (t : Nat) : solL p A S R t = solW p A S R (cls (R.map (tellF p F))) t := by
  have hp0 : 0 < p := by have := M.p1; omega
  have n4 := M.n4
  refine find_congr fun w hw => ?_
  have okw := (allW_len hw).2
  have ek : cls (R.map (kindW p A S)) = cls (R.map (tellF p F)) := cls_map fun u hu v hv => by
    rw [kind_iff, tellF_iff rF (oR u hu) (oR v hv)]
    exact (tell_apart M rF sF (oR u hu) (oR v hv) (k := 6) (by omega)).symm
  have es : (R.map fun u => seenL p A S u w) = R.map (tellW p A S w) := List.map_congr_left fun u hu => seen_tell hp0 M.lA M.oS (oR u hu) okw
  have key := cls_of_count (ks := R.map (kindW p A S)) (hs := R.map fun u => seenL p A S u w) (by rw [List.length_map, List.length_map]) fun i j hi hj h => by
    rw [List.length_map] at hi hj
    rw [List.getElem?_map, List.getElem?_map, List.getElem?_eq_getElem hi, List.getElem?_eq_getElem hj] at h ⊢
    have h1 : kindW p A S R[i] = kindW p A S R[j] := Option.some.inj h
    have ou := oR _ (List.getElem_mem hi)
    have ov := oR _ (List.getElem_mem hj)
    rw [kind_iff] at h1
    have hf := (tell_apart M rF sF ou ov (k := 6) (by omega)).2 h1
    have e : seenL p A S R[i] w = seenL p A S R[j] w := by
      unfold seenL
      refine List.map_congr_left fun k hk => ?_
      have hk := List.mem_range.mp hk
      have e1 : w.getD k 0 = w[k] := by rw [List.getD_eq_getElem?_getD, List.getElem?_eq_getElem hk]; rfl
      have l1 := okw _ (List.getElem_mem hk)
      have e2 : S.getD w[k] [] = S[w[k]] := by rw [List.getD_eq_getElem?_getD, List.getElem?_eq_getElem l1]; rfl
      rw [e1, e2]
      exact (tell_apart M rF sF ou ov (k := n + k + 1) (by omega)).1 hf k (by omega) _ (List.getElem_mem l1)
    exact congrArg some e
  rw [ek, es] at key
  have key2 : (firsts (R.map fun u => seenL p A S u w)).length = (firsts (R.map (kindW p A S))).length ↔ keyW p A S R w = cls (R.map (tellF p F)) := by rw [es]; exact key
  exact decide_eq_decide.mpr key2
end
section
variable {K : PySem.W.Frag} {H : Hp}
/-- the tuples by their places -/
theorem rows_ks : ∀ {xs : List V} {rs : List Row}, Paired (fun x r => RowT K r x H) xs rs → ∃ ks : List (Addr × List Int), xs = ks.map (fun q => V.ref q.1) ∧ ks.map (·.2) = rs ∧ ∀ q ∈ ks, SqT K H q.1 (q.2.map V.int)
  | _, _, .nil => ⟨[], rfl, rfl, fun q h => by cases h⟩
  | _, r :: _, .cons h t => by
    obtain ⟨ks, h1, h2, h3⟩ := rows_ks t
    obtain ⟨a, rfl, ha⟩ := h
    refine ⟨(a, r) :: ks, by rw [List.map_cons, ← h1], by rw [List.map_cons, h2], fun q hq => ?_⟩
    rcases List.mem_cons.mp hq with rfl | hq
    · exact ha
    · exact h3 q hq
end
end K01


set_option Elab.async false
set_option linter.all false
set_option maxRecDepth 100000
set_option maxHeartbeats 4000000
/-! The law's own search for the fewest looks -/
namespace K01
open PySem PySem.Spec PyProof.Rows L2 Can
theorem find_at {α : Type} {P : α → Bool} : ∀ {l : List α} {i : Nat} {x : α}, l[i]? = some x → P x = true → (∀ y ∈ l.take i, P y = false) → l.find? P = some x
  | [], i, x, h, _, _ => by simp at h
  | y :: l, 0, x, h, hx, _ => by
    obtain rfl : y = x := Option.some.inj h
    rw [List.find?_cons, hx]
  | y :: l, i + 1, x, h, hx, hn => by
    rw [List.find?_cons, hn y (by simp), find_at (l := l) (i := i) h hx fun z hz => hn z (by rw [List.take_succ_cons]; exact List.mem_cons_of_mem _ hz)]
section
variable {P : Program} {w : World} {K : PySem.W.Frag} {mg : Str → Option Value} {base : Heap}
def spLLooks (K : PySem.W.Frag) : Sp := fun vs H Q _ => ∃ (p : Int) (n : Nat) (mv uv : V) (A W S R : List Row), vs = [mv, uv] ∧ MachT K p A W S mv H ∧ MOk p n A W S ∧ S.length ≤ 2 ∧ RowsT K R uv H ∧ Lin.Oks p n R ∧ 1 ≤ R.length ∧ R.length ≤ 30 ∧
  Ret (fun x H => ∃ r, FirstSol (solL p A S R) 8 r ∧ OptW K r x H) H Q
theorem ok_llooks {f : Addr} {fd : FuncData} (B : Bare mg) (nS : mg "set" = none) (F : Fun K "_law_looks" "_law_looks" s_law_looks f fd) (Gm : Got P w K mg base CX0 1 "_law_met" p_law_met (spMet K)) (Gs : Got P w K mg base CX0 2 "_law_stirred" p_law_stirred (spStirred K))
    (Ge : Got P w K mg base CX0 3 "_law_seen" p_law_seen (spLSeen K)) :
    FnOk P w K mg base CX0 4 f fd p_law_looks (spLLooks K) := by
  refine F.ok sc_law_looks (fun vs H Q E h => ?_) (fun cdv Ar outer s H vs Q E hr h => ?_)
  · obtain ⟨p, n, mv, uv, A, W, S, R, rfl, _⟩ := h
    rfl
  · obtain ⟨p, n, mv, uv, A, W, S, R, rfl, hM, M, s2, hR, oR, l1, l30, q⟩ := h
    have hr1 : Room 1 _ := hr.mono (by decide)
    have hr2 : Room 2 _ := hr.mono (by decide)
    have hu : (cxOf CX0 P w K mg base n_law_looks (Str.ofString "_law_looks") (defScope s_law_looks) f cdv Ar outer s H E).nox.A.units + 64 < cLine := Nat.lt_of_le_of_lt (Nat.add_le_add_left (by decide) _) hr.units
    refine ⟨_, pss_cons (ps_set (i := 2) sc_law_looks.nd rfl (Or.inl rfl) (pe_lst pa_nil))
      (pss_cons (ps_for PassesOwn.never rfl (pi_tup (pv 1)) (pg_name (i := 3) sc_law_looks.nd rfl (Or.inl rfl))
        (pss_cons (ps_asg (pe_tup (pa_cons (pv 3) (pa_cons (pe_lst pa_nil) pa_nil))) (pg_tup rfl (pgs_cons (pg_name (i := 4) sc_law_looks.nd rfl (Or.inr rfl)) (pgs_cons (pg_name (i := 5) sc_law_looks.nd rfl (Or.inl rfl)) pgs_nil))))
        (pss_cons (ps_for PassesOwn.never rfl (pi_range1 rfl B.range (pa_cons pe_int pa_nil)) (pg_name (i := 6) sc_law_looks.nd rfl (Or.inl rfl))
          (pss_cons (ps_set (i := 5) sc_law_looks.nd rfl (Or.inl rfl) (pe_op op_cat (pv 5) (pe_lc (own := [("line", 7)]) (g := gName 7) (tt := tYes) rfl sc_law_looks.nd (pi_tup (pe_ix ix_tup (pv 0) pe_int (fun _ _ => rfl))) (blkOk_by (N := n_law_looks) (sc := defScope s_law_looks) (by decide +kernel))
            (fun _ _ _ _ _ => pg_name (i := 7) sc_law_looks.nd rfl (Or.inl rfl)) (fun _ _ _ _ _ => pts_nil) (fun _ _ _ _ _ => pe_got Gm hr1 pass0 (pa_cons (pe_ix (show IxR _ (rIxT K) from ix_tup) (pv 0) pe_int (fun _ _ => rfl)) (pa_cons (pv 7) (pa_cons (pv 4) pa_nil)))))))
          (pss_one (ps_set (i := 4) sc_law_looks.nd rfl (Or.inr rfl) (pe_got Gs hr2 pass0 (pa_cons (pv 0) (pa_cons (pv 4) pa_nil)))))))
        (pss_one (ps_expr (pe_bm PySem.F.plainAttrs_list PySem.F.slot_list_append PySem.F.type_list_append mt_append (pv 2) (pa_cons (pe_callTy call_tuple_of (by rfl) B.tuple (by decide +kernel) (pa_cons (pv 5) pa_nil)) pa_nil)))))))
      (pss_cons (ps_set (i := 8) sc_law_looks.nd rfl (Or.inl rfl) (pe_lst (pa_cons (pe_tup pa_nil) pa_nil)))
      (pss_cons (ps_for PassesOwn.never rfl (pi_range1 rfl B.range (pa_cons pe_int pa_nil)) (pg_name (i := 9) sc_law_looks.nd rfl (Or.inl rfl))
        (pss_cons (ps_for PassesOwn.never rfl (pi_list (pv 8)) (pg_name (i := 10) sc_law_looks.nd rfl (Or.inr rfl))
          (pss_cons (ps_set (i := 11) sc_law_looks.nd rfl (Or.inl rfl) (pe_callB (show CallR _ (.builtin "sorted") (rSortA K P w) from cr_sortA rfl) (by rfl) B.sorted (by decide +kernel) (pa_cons (pe_callTy (show CallR _ (.type "set") (rSetOfT K P w) from cr_setOfT rfl hu) (by rfl) nS (by decide +kernel) (pa_cons (pe_lc (own := [("memory", 3)]) (g := gName 3) (tt := tYes) rfl sc_law_looks.nd (pi_tup (pv 1)) (blkOk_by (N := n_law_looks) (sc := defScope s_law_looks) (by decide +kernel))
              (fun _ _ _ _ _ => pg_name (i := 3) sc_law_looks.nd rfl (Or.inl rfl)) (fun _ _ _ _ _ => pts_nil) (fun _ _ _ _ _ => pe_callTy (show CallR _ (.type "tuple") (rTupK K) from call_tuple_of) (by rfl) B.tuple (by decide +kernel) (pa_cons (pe_got Ge hr pass0 (pa_cons (pv 0) (pa_cons (pv 3) (pa_cons (pv 10) pa_nil)))) pa_nil))) pa_nil)) pa_nil)))
          (pss_one (ps_if (pt_cmpR op_eq (pe_callB call_len_seq (by rfl) B.len PySem.boot_len (pa_cons (pv 11) pa_nil)) (pe_callB (show CallR _ (.builtin "len") (rLenS K P w) from cr_lenS) (by rfl) B.len PySem.boot_len (pa_cons (pe_callTy (show CallR _ (.type "set") (rSetOfT K P w) from cr_setOfT rfl hu) (by rfl) nS (by decide +kernel) (pa_cons (pv 2) pa_nil)) pa_nil)) rfl) (pss_one (ps_ret (pv 10))) pss_nil))))
        (pss_cons (ps_set (i := 12) sc_law_looks.nd rfl (Or.inl rfl) (pe_lst pa_nil))
        (pss_cons (ps_for PassesOwn.never rfl (pi_list (pv 8)) (pg_name (i := 10) sc_law_looks.nd rfl (Or.inr rfl))
          (pss_one (ps_set (i := 12) sc_law_looks.nd rfl (Or.inl rfl) (pe_op op_cat (pv 12) (pe_lc (own := [("sight", 13)]) (g := gName 13) (tt := tYes) rfl sc_law_looks.nd (pi_range1 rfl B.range (pa_cons (pe_callB (show CallR _ (.builtin "len") (rLenK K) from call_len_seq) (by rfl) B.len PySem.boot_len (pa_cons (pe_ix ix_tup (pv 0) pe_int (fun _ _ => rfl)) pa_nil)) pa_nil)) (blkOk_by (N := n_law_looks) (sc := defScope s_law_looks) (by decide +kernel))
            (fun _ _ _ _ _ => pg_name (i := 13) sc_law_looks.nd rfl (Or.inl rfl)) (fun _ _ _ _ _ => pts_nil) (fun _ _ _ _ _ => pe_op (show OpR _ _ (rCatA K) from op_catA) (pv 10) (pe_tup (pa_cons (pv 13) pa_nil))))))))
        (pss_one (ps_set (i := 8) sc_law_looks.nd rfl (Or.inl rfl) (pv 12)))))))
      (pss_one (ps_ret pe_non))))), ?_⟩
    obtain ⟨m, av, wv, sv, rfl, hm, hA, hW, hS⟩ := id hM
    have p1 := M.p1
    have p2 := M.p2
    have n4 := M.n4
    have lA := M.lA
    have hp0 : 0 < p := by omega
    obtain ⟨ub, us, rfl, hub, pub⟩ := id hR
    have lu := pr_len pub
    obtain ⟨sb, sus, rfl, hsb, psb⟩ := id hS
    have lsu := pr_len psb
    refine ⟨(by show 0 ≤ sizeLine; decide), fun g ng => ?_⟩
    have e0 := _root_.Evl.Ex.new (o := .lst []) ng
    have hg0 := upd_same (H := H) (a := g) (o := .lst [])
    generalize upd H g (.lst []) = H0 at e0 hg0 ⊢
    refine ⟨_, rfl, ub, rfl, ⟨_, _root_.Evl.ex_t e0 hub⟩, ?_⟩
    refine for_tup (K := K) (a := ub) (xs := us) (fun i σ' G => ∃ (y3 y4 y5 y6 y7 : Option V), σ' = [some (.ref m), some (.ref ub), some (.ref g), y3, y4, y5, y6, y7, none, none, none, none, none, none] ∧ Ex H G ∧ ∃ ks, G g = some (.lst ks) ∧ Paired (fun x r => RowT K r x G) ks ((R.take i).map (kindW p A S)))
      ⟨none, none, none, none, none, rfl, e0, [], hg0, .nil⟩ (fun i σ' G _ ⟨_, _, _, _, _, _, e, _⟩ => _root_.Evl.ex_t e hub) (fun i x σ' G hx p' => ?_) fun σ' G p' => ?_
    · obtain ⟨y3, y4, y5, y6, y7, rfl, eG, ks, hg, pks⟩ := p'
      obtain ⟨u, hu', rx⟩ := pr_get pub hx
      have ou := oR u (List.mem_of_getElem? hu')
      have rxG := rx.ex eG
      refine ⟨_, rfl, (by show 0 ≤ sizeLine; decide), fun l0 nl0 => ⟨(by show 2 ≤ sizeLine; decide), fun t0 nt0 => ?_⟩⟩
      have ea := _root_.Evl.Ex.new (o := .lst []) nl0
      have eb := _root_.Evl.Ex.new (o := .tup [x, .ref l0]) nt0
      have ht0 := upd_same (H := upd G l0 (.lst [])) (a := t0) (o := .tup [x, .ref l0])
      have hl0 := eb _ _ (upd_same (H := G) (a := l0) (o := .lst []))
      have eab := ea.trans eb
      generalize upd (upd G l0 (.lst [])) t0 (.tup [x, .ref l0]) = G2 at ht0 hl0 eab
      clear ea eb
      refine ⟨t0, _, rfl, SqT.of ht0, rfl, _, _, rfl, _, _, rfl, rfl, ?_⟩
      refine ⟨_, rfl, by decide, by decide, ?_⟩
      refine for_range (lo := 0) (n := 6) (fun t σ' G3 => ∃ (o1 : V) (l : Addr) (y6 y7 : Option V), σ' = [some (.ref m), some (.ref ub), some (.ref g), some x, some o1, some (.ref l), y6, y7, none, none, none, none, none, none] ∧ Ex G2 G3 ∧ RowT K (Lin.it p A t u) o1 G3 ∧ G3 l = some (.lst (((List.range t).flatMap fun t => S.map fun s => Lin.dot p s (Lin.it p A t u)).map V.int)))
        ⟨x, l0, y6, y7, rfl, _root_.Evl.Ex.refl _, rxG.ex eab, hl0⟩ (fun t σ' G3 ht p' => ?_) fun σ' G3 p' => ?_
      · obtain ⟨o1, l, y6, y7, rfl, e3, ho1, hl⟩ := p'
        have eHG := (eG.trans eab).trans e3
        have ut := Lin.it_ok hp0 lA ou t
        refine ⟨_, rfl, _, rfl, m, _, _, _, rfl, rfl, _root_.Evl.ex_t eHG hm, at_of (j := 3) rfl rfl, sb, rfl, ⟨_, _root_.Evl.ex_t eHG hsb⟩, ?_⟩
        refine lc_go (walk_tup (xs := sus)) (by omega) (fun H' e => _root_.Evl.ex_t (eHG.trans e) hsb) S lsu.symm (fun _ => true) (fun s => IsV (.int (Lin.dot p s (Lin.it p A t u)))) (fun _ _ _ _ _ h => h) (fun j s z G4 G5 hn1 e y C N hC hN => ?_) fun D ys G4 nD e4 hD hy => ?_
        · obtain ⟨rfl, ex'⟩ := y
          obtain ⟨s', hs', rs⟩ := pr_get psb ex'
          obtain rfl : s' = s := Option.some.inj (hs'.symm.trans hn1)
          have os := M.oS _ (List.mem_of_getElem? hs')
          exact ⟨rfl, yes_go ⟨_, rfl, m, _, _, _, rfl, rfl, _root_.Evl.ex_t (eHG.trans e) hm, at_of (j := 0) rfl rfl, _, rfl, _, rfl, p, z, o1, s', _, rfl, rs.ex (eHG.trans e), ho1.ex e, by rw [os.1, ut.1], hp0, fun v hv => (by have := os.2 v hv; omega), by rw [os.1]; omega, fun v G6 e6 ez => hC rfl v G6 e6 ez⟩⟩
        · rw [filter_yes] at hy
          have ey : ys = (S.map fun s => Lin.dot p s (Lin.it p A t u)).map V.int := by rw [List.map_map]; exact pr_fun hy
          subst ey
          have lS : ((List.range t).flatMap fun t => S.map fun s => Lin.dot p s (Lin.it p A t u)).length ≤ 1000 := by
            rw [List.length_flatMap]
            have : ∀ l : List Nat, ((l.map fun t => (S.map fun s => Lin.dot p s (Lin.it p A t u)).length)).sum = l.length * S.length := by
              intro l
              induction l with
              | nil => simp
              | cons a l ih => rw [List.map_cons, List.sum_cons, ih, List.length_map, List.length_cons, Nat.succ_mul, Nat.add_comm]
            rw [this, List.length_range]
            have := Nat.mul_le_mul (show t ≤ 6 by omega) s2
            omega
          refine ⟨l, D, _, _, rfl, rfl, e4 _ _ hl, hD, ?_, fun c nc => ?_⟩
          · rw [List.length_map, List.length_map, List.length_map]
            exact Nat.le_trans (show _ ≤ 1002 by omega) (by decide)
          · have ec := _root_.Evl.Ex.new (o := .lst ((((List.range t).flatMap fun t => S.map fun s => Lin.dot p s (Lin.it p A t u)).map V.int) ++ ((S.map fun s => Lin.dot p s (Lin.it p A t u)).map V.int))) nc
            have hc := upd_same (H := G4) (a := c) (o := .lst ((((List.range t).flatMap fun t => S.map fun s => Lin.dot p s (Lin.it p A t u)).map V.int) ++ ((S.map fun s => Lin.dot p s (Lin.it p A t u)).map V.int)))
            generalize upd G4 c _ = G5 at ec hc ⊢
            have e45 := e4.trans ec
            refine ⟨_, rfl, _, rfl, p, n, .ref m, o1, A, W, S, _, rfl, hM.ex (eHG.trans e45), ho1.ex e45, p1, p2, by omega, M.oA, lA, ut, fun z G6 e6 hz => ?_⟩
            refine ⟨z, c, _, _, rfl, (e3.trans e45).trans e6, hz, ?_⟩
            rw [e6 _ _ hc, List.range_succ, List.flatMap_append, List.map_append]
            simp
      · obtain ⟨o1, l, y6, y7, rfl, e3, ho1, hl⟩ := p'
        have e23 := eab.trans e3
        have hg3 := e23 _ _ hg
        refine ⟨_, rfl, .inl ⟨rfl, _, SqL.of hg3⟩, ?_⟩
        refine ⟨_, rfl, l, _, rfl, .inl ⟨SqL.of hl, fun c nc => ?_⟩⟩
        have ec := _root_.Evl.Ex.new (o := .tup ((kindW p A S u).map V.int)) nc
        have hc := upd_same (H := G3) (a := c) (o := .tup ((kindW p A S u).map V.int))
        have hg4 := ec _ _ hg3
        have e24 := e23.trans ec
        have lk := pr_len pks
        refine ⟨g, ks, _, rfl, rfl, hg4, ?_, ?_⟩
        · rw [lk, List.length_map, List.length_take]
          exact Nat.lt_of_le_of_lt (show _ ≤ 30 by omega) (by decide)
        · have up : ExN (upd G3 c (.tup ((kindW p A S u).map V.int))) (upd (upd G3 c (.tup ((kindW p A S u).map V.int))) g (.lst (ks ++ [.ref c]))) := fun b o hb nl => by
            rw [upd_ne (fun z => by rw [z] at hb; exact nl _ (Option.some.inj (hb.symm.trans hg4)))]
            exact hb
          refine ⟨_, _, _, _, _, rfl, (eG.trans e24).mut ng, _, upd_same, ?_⟩
          rw [take_snoc hu', List.map_append]
          exact pr_snoc (pr_mono pks fun _ _ z => (z.ex e24).n up) ((RowT.new hc).n up)
    · obtain ⟨y3, y4, y5, y6, y7, rfl, eG, ks, hg, pks⟩ := p'
      rw [lu, List.take_length] at pks
      obtain ⟨kq, rfl, kq2, kq3⟩ := rows_ks pks
      have lkq : kq.length = R.length := by
        have := congrArg List.length kq2
        rw [List.length_map, List.length_map] at this
        exact this
      refine ⟨(by show 0 ≤ sizeLine; decide), fun t0 nt0 => ⟨(by show 1 ≤ sizeLine; decide), fun r0 nr0 => ?_⟩⟩
      have ea := _root_.Evl.Ex.new (o := .tup []) nt0
      have eb := _root_.Evl.Ex.new (o := .lst [.ref t0]) nr0
      have hr0 : RowsH K ((allW S.length 0).map natI) (.ref r0) (upd (upd G t0 (.tup [])) r0 (.lst [.ref t0])) := ⟨r0, _, rfl, upd_same, .cons (RowT.ex eb (RowT.new (r := []) upd_same)) .nil⟩
      have eab := eG.trans (ea.trans eb)
      have hg2 := (ea.trans eb) _ _ hg
      have kq4 : ∀ q ∈ kq, SqT K (upd (upd G t0 (.tup [])) r0 (.lst [.ref t0])) q.1 (q.2.map V.int) := fun q hq => _root_.Evl.ex_t (ea.trans eb) (kq3 q hq)
      generalize upd (upd G t0 (.tup [])) r0 (.lst [.ref t0]) = G2 at hr0 eab hg2 kq4 ⊢
      clear ea eb
      refine ⟨_, rfl, by decide, by decide, ?_⟩
      refine for_range (lo := 0) (n := 9) (fun t σ' G3 => ∃ (rv : V) (y3 y4 y5 y6 y7 y9 y10 y11 y12 y13 : Option V), σ' = [some (.ref m), some (.ref ub), some (.ref g), y3, y4, y5, y6, y7, some rv, y9, y10, y11, y12, y13] ∧ Ex G2 G3 ∧ RowsH K ((allW S.length t).map natI) rv G3 ∧ ∀ t', t' < t → solL p A S R t' = none)
        ⟨.ref r0, y3, y4, y5, y6, y7, none, none, none, none, none, rfl, _root_.Evl.Ex.refl _, hr0, fun t h => by omega⟩ (fun t σ' G3 ht p' => ?_) fun σ' G3 p' => ?_
      · obtain ⟨rv, y3, y4, y5, y6, y7, y9, y10, y11, y12, y13, rfl, e3, hrv, none_⟩ := p'
        obtain ⟨rl, xr, rfl, hrl, prl⟩ := id hrv
        have lrl := pr_len prl
        rw [List.length_map, allW_size] at lrl
        have small : xr.length ≤ 256 := by
          have h2 : S.length ^ t ≤ 2 ^ t := Nat.pow_le_pow_left s2 t
          have h3 : 2 ^ t ≤ 2 ^ 8 := Nat.pow_le_pow_right (by decide) (by omega)
          have h4 : (2 : Nat) ^ 8 = 256 := by decide
          omega
        refine ⟨_, rfl, rl, rfl, ⟨_, SqL.of hrl⟩, ?_⟩
        refine for_list (K := K) (a := rl) (xs := xr) (fun i σ' G4 => ∃ (y3 y4 y5 y6 y7 y9 y10 y11 y12 y13 : Option V), σ' = [some (.ref m), some (.ref ub), some (.ref g), y3, y4, y5, y6, y7, some (.ref rl), y9, y10, y11, y12, y13] ∧ Ex G3 G4 ∧ ∀ w ∈ (allW S.length t).take i, ¬ (firsts (R.map fun u => seenL p A S u w)).length = (firsts (R.map (kindW p A S))).length)
          ⟨y3, y4, y5, y6, y7, _, y10, y11, y12, y13, rfl, _root_.Evl.Ex.refl _, fun w h => by simp at h⟩ (fun i σ' G4 _ p => by obtain ⟨_, _, _, _, _, _, _, _, _, _, _, e, _⟩ := p; exact SqL.of (e _ _ hrl)) (fun i x σ' G4 hx p' => ?_) fun σ' G4 p' => ?_
        · obtain ⟨y3, y4, y5, y6, y7, y9, y10, y11, y12, y13, rfl, e4, not_⟩ := p'
          obtain ⟨wr, hwr, rwx⟩ := pr_get prl hx
          obtain ⟨wy, hwy, rfl⟩ := at_map hwr
          obtain ⟨lw, okw⟩ := allW_len (List.mem_of_getElem? hwy)
          have eH4 := (eab.trans e3).trans e4
          refine ⟨_, rfl, ub, rfl, ⟨_, _root_.Evl.ex_t eH4 hub⟩, ?_⟩
          refine lc_go (walk_tup (xs := us)) (by omega) (fun H' e => _root_.Evl.ex_t (eH4.trans e) hub) R lu.symm (fun _ => true) (fun u => RowT K (seenL p A S u wy)) (fun _ => RowT.stb) (fun j u z G5 G6 hn1 e y C N hC hN => ?_) fun D ys G5 nD e5 hD hy => ?_
          · obtain ⟨rfl, ex'⟩ := y
            obtain ⟨u', hu', ru⟩ := pr_get pub ex'
            obtain rfl : u' = u := Option.some.inj (hu'.symm.trans hn1)
            have ou := oR _ (List.mem_of_getElem? hu')
            refine ⟨rfl, yes_go ⟨_, rfl, _, rfl, _, rfl, p, n, .ref m, z, x, A, W, S, u', wy, rfl, hM.ex (eH4.trans e), M, ru.ex (eH4.trans e), ou, (rwx.ex e4).ex e, okw, by omega, fun v G7 e7 hv => ?_⟩⟩
            obtain ⟨sa, rfl, hsa⟩ := hv
            exact ⟨sa, _, rfl, .inl ⟨hsa, fun l nl => hC rfl _ _ (e7.trans (_root_.Evl.Ex.new nl)) (RowT.new upd_same)⟩⟩
          · rw [filter_yes] at hy
            have hy' : Paired (fun x r => RowT K r x G5) ys (R.map fun u => seenL p A S u wy) := pr_map hy fun _ _ z => z
            obtain ⟨tq, rfl, tq2, tq3⟩ := rows_ks hy'
            have ltq : tq.length = R.length := by
              have := congrArg List.length tq2
              rw [List.length_map, List.length_map] at this
              exact this
            have mem_tq : ∀ x, x ∈ tq.map (·.2) ↔ x ∈ R.map fun u => seenL p A S u wy := fun x => by rw [tq2]
            refine ⟨D, tq, rfl, SqL.of hD, tq3, by omega, fun a1 L1 na1 s1 s1' => ?_⟩
            have ex1 := _root_.Evl.Ex.new (o := SetTO P w a1 L1) na1
            have ha1 := upd_same (H := G5) (a := a1) (o := SetTO P w a1 L1)
            generalize upd G5 a1 (SetTO P w a1 L1) = G6 at ex1 ha1 ⊢
            refine ⟨a1, L1, wy.length, p, rfl, ha1, fun q hq => _root_.Evl.ex_t ex1 (tq3 q (s1 q hq)), fun q hq => ?_, fun L' c pm nd few pw nc => ?_⟩
            · have hq2 : q.2 ∈ R.map fun u => seenL p A S u wy := (mem_tq q.2).1 (List.mem_map.mpr ⟨q, s1 q hq, rfl⟩)
              obtain ⟨u, hu', e⟩ := List.mem_map.mp hq2
              rw [← e]
              refine ⟨by unfold seenL; rw [List.length_map, List.length_range], fun v hv => ?_⟩
              unfold seenL at hv
              obtain ⟨k, _, rfl⟩ := List.mem_map.mp hv
              exact dot_rng hp0
            have ex2 := _root_.Evl.Ex.new (o := .lst (L'.map fun q => V.ref q.1)) nc
            have hc := upd_same (H := G6) (a := c) (o := .lst (L'.map fun q => V.ref q.1))
            generalize upd G6 c (.lst (L'.map fun q => V.ref q.1)) = G7 at ex2 hc ⊢
            have e57 := (e5.trans ex1).trans ex2
            have hg7 := e57 _ _ (e4 _ _ (e3 _ _ hg2))
            refine ⟨_, rfl, c, _, rfl, .inl (SqL.of hc), _, rfl, g, kq, rfl, SqL.of hg7, fun q hq => _root_.Evl.ex_t ((e3.trans e4).trans e57) (kq4 q hq), by omega, fun a2 L2 na2 s3 s3' => ?_⟩
            have ex3 := _root_.Evl.Ex.new (o := SetTO P w a2 L2) na2
            have ha2 := upd_same (H := G7) (a := a2) (o := SetTO P w a2 L2)
            generalize upd G7 a2 (SetTO P w a2 L2) = G8 at ex3 ha2 ⊢
            refine ⟨a2, L2, rfl, ha2, fun q hq => _root_.Evl.ex_t (((e3.trans e4).trans e57).trans ex3) (kq4 q (s3 q hq)), fun nd2 => ?_⟩
            have c1 : (L'.map fun q => V.ref q.1).length = (firsts (R.map fun u => seenL p A S u wy)).length := by
              rw [List.length_map, ← List.length_map (f := (·.2)) (as := L')]
              refine count_set nd fun x => ?_
              rw [← mem_tq, (pm.map (·.2)).mem_iff]
              constructor
              · intro h
                obtain ⟨q, hq, rfl⟩ := List.mem_map.mp h
                exact List.mem_map.mpr ⟨q, s1 q hq, rfl⟩
              · intro h
                obtain ⟨q, hq, rfl⟩ := List.mem_map.mp h
                exact s1' q hq
            have c2 : L2.length = (firsts (R.map (kindW p A S))).length := by
              rw [← List.length_map (f := (·.2)) (as := L2)]
              refine count_set nd2 fun x => ?_
              rw [← kq2]
              constructor
              · intro h
                obtain ⟨q, hq, rfl⟩ := List.mem_map.mp h
                exact List.mem_map.mpr ⟨q, s3 q hq, rfl⟩
              · intro h
                obtain ⟨q, hq, rfl⟩ := List.mem_map.mp h
                exact s3' q hq
            have e48 := (e4.trans e57).trans ex3
            refine ⟨rfl, _, rfl, ite2 (fun z => ?_) (fun z => ?_)⟩
            · have zz := yeq z
              refine ⟨_, rfl, q _ _ ((eab.trans e3).trans e48) ⟨some wy, ⟨t, by omega, none_, ?_⟩, (rwx.ex e48)⟩⟩
              unfold solL
              rw [find_at hwy (decide_eq_true (by omega)) fun v hv => decide_eq_false (not_ v hv)]
            · have zz := yne z
              refine ⟨_, _, _, _, _, _, _, _, _, _, rfl, e48, fun v hv => ?_⟩
              rw [take_snoc hwy] at hv
              rcases List.mem_append.mp hv with hv | hv
              · exact not_ v hv
              · rw [List.mem_singleton.mp hv]
                exact fun h => zz (by omega)
        · obtain ⟨y3, y4, y5, y6, y7, y9, y10, y11, y12, y13, rfl, e4, not_⟩ := p'
          have ns : solL p A S R t = none := by
            unfold solL
            refine List.find?_eq_none.mpr fun v hv => ?_
            have := not_ v (by rw [List.take_of_length_le (by rw [allW_size, ← lrl]; exact Nat.le_refl _)]; exact hv)
            simpa using this
          refine ⟨(by show 0 ≤ sizeLine; decide), fun l0 nl0 => ?_⟩
          have ea := _root_.Evl.Ex.new (o := .lst []) nl0
          have hl0 := upd_same (H := G4) (a := l0) (o := .lst [])
          generalize upd G4 l0 (.lst []) = G5 at ea hl0 ⊢
          have e5 := e4.trans ea
          refine ⟨_, rfl, rl, rfl, ⟨_, SqL.of (e5 _ _ hrl)⟩, ?_⟩
          refine for_list (K := K) (a := rl) (xs := xr) (fun i σ' G6 => ∃ (lv : V) (y3 y4 y5 y6 y7 y9 y10 y11 y13 : Option V), σ' = [some (.ref m), some (.ref ub), some (.ref g), y3, y4, y5, y6, y7, some (.ref rl), y9, y10, y11, some lv, y13] ∧ Ex G3 G6 ∧ RowsH K ((((allW S.length t).take i).flatMap (extW S.length)).map natI) lv G6)
            ⟨.ref l0, y3, y4, y5, y6, y7, y9, y10, y11, y13, rfl, e5, ⟨l0, [], rfl, hl0, .nil⟩⟩ (fun i σ' G4 _ p => by obtain ⟨_, _, _, _, _, _, _, _, _, _, _, e, _⟩ := p; exact SqL.of (e _ _ hrl)) (fun i x σ' G6 hx p' => ?_) fun σ' G6 p' => ?_
          · obtain ⟨lv, y3, y4, y5, y6, y7, y9, y10, y11, y13, rfl, e6, hlv⟩ := p'
            obtain ⟨wr, hwr, rwx⟩ := pr_get prl hx
            obtain ⟨wy, hwy, rfl⟩ := at_map hwr
            obtain ⟨lw, okw⟩ := allW_len (List.mem_of_getElem? hwy)
            have eH6 := (eab.trans e3).trans e6
            refine ⟨_, rfl, _, rfl, m, _, _, _, rfl, rfl, _root_.Evl.ex_t eH6 hm, at_of (j := 3) rfl rfl, sb, sus, rfl, .inr (_root_.Evl.ex_t eH6 hsb), _, rfl, by omega, by omega, ?_⟩
            refine lc_go (walk_range (lo := 0) (n := sus.length)) (by omega) (fun _ _ => trivial) (List.range sus.length) List.length_range (fun _ => true) (fun s => RowT K (natI (wy ++ [s]))) (fun _ => RowT.stb) (fun j s z G7 G8 hn1 e y C N hC hN => ?_) fun D ys G7 nD e7 hD hy => ?_
            · obtain ⟨rfl, ez⟩ := y
              have ez' : z = V.int ((j : Nat) : Int) := ez.trans (by show V.int _ = V.int _; rw [Int.zero_add])
              subst ez'
              have hj := (List.getElem?_eq_some_iff.mp hn1).1
              rw [List.length_range] at hj
              rw [List.getElem?_range hj] at hn1
              obtain rfl : j = s := Option.some.inj hn1
              obtain ⟨xa, rfl, hxa⟩ := (rwx.ex e6).ex e
              refine ⟨rfl, yes_go ⟨_, rfl, _, rfl, (by show 1 ≤ sizeLine; decide), fun b nb => ?_⟩⟩
              have e8 := _root_.Evl.Ex.new (o := .tup [V.int ((j : Nat) : Int)]) nb
              have hb := upd_same (H := G8) (a := b) (o := .tup [V.int ((j : Nat) : Int)])
              generalize upd G8 b (.tup [V.int ((j : Nat) : Int)]) = G9 at e8 hb ⊢
              refine ⟨xa, b, (natI wy).map V.int, [V.int ((j : Nat) : Int)], rfl, rfl, _root_.Evl.ex_t e8 hxa, SqT.of hb, ?_, fun hw => ?_, fun _ z => ?_, fun hw _ c nc => ?_⟩
              · rw [List.length_map, List.length_map]
                show wy.length + 1 ≤ sizeLine
                exact Nat.le_trans (show wy.length + 1 ≤ 21 by omega) (by decide)
              · have e0 : wy = [] := by
                  have := congrArg List.length hw
                  rw [List.length_map, List.length_map] at this
                  exact List.length_eq_zero_iff.mp this
                exact hC rfl _ _ e8 (RowT.new (by rw [e0]; exact hb))
              · cases z
              · exact hC rfl _ _ (e8.trans (_root_.Evl.Ex.new nc)) (RowT.new (by rw [upd_same]; unfold natI; rw [List.map_append, List.map_append]; rfl))
            · rw [filter_yes] at hy
              have hy' : RowsH K ((extW S.length wy).map natI) (.ref D) G7 := ⟨D, ys, rfl, hD, by
                unfold extW
                rw [List.map_map, ← lsu]
                exact pr_map hy fun _ _ z => z⟩
              have lt : ((((allW S.length t).take i).flatMap (extW S.length)).map natI).length ≤ 600 := by
                rw [List.length_map, ext_size, List.length_take]
                have h1 : min i (allW S.length t).length ≤ 256 := by rw [allW_size]; omega
                have := Nat.mul_le_mul h1 s2
                omega
              have lt2 : ((extW S.length wy).map natI).length ≤ 2 := by
                unfold extW
                rw [List.length_map, List.length_map, List.length_range]
                exact s2
              refine rowsH_cat (hlv.ex e7) hy' (by omega) fun z G8 e8 hz => ?_
              refine ⟨z, _, _, _, _, _, _, _, _, _, rfl, e6.trans (e7.trans e8), ?_⟩
              rw [take_flat hwy, List.map_append]
              exact hz
          · obtain ⟨lv, y3, y4, y5, y6, y7, y9, y10, y11, y13, rfl, e6, hlv⟩ := p'
            rw [List.take_of_length_le (by rw [allW_size, ← lrl]; exact Nat.le_refl _)] at hlv
            refine ⟨_, rfl, lv, _, _, _, _, _, _, _, _, _, _, rfl, e3.trans e6, hlv, fun t' ht' => ?_⟩
            rcases Nat.lt_or_ge t' t with z | z
            · exact none_ t' z
            · have : t' = t := by omega
              rw [this]
              exact ns
      · obtain ⟨rv, y3, y4, y5, y6, y7, y9, y10, y11, y12, y13, rfl, e3, hrv, none_⟩ := p'
        exact q _ _ (eab.trans e3) ⟨none, fun t ht => none_ t (by omega), rfl⟩
end
end K01


set_option Elab.async false
set_option linter.all false
set_option maxRecDepth 100000
set_option maxHeartbeats 4000000
/-! Alike, of all kinds: None, truth values, whole numbers, texts, tuples and lists of such -/
namespace K01
open PySem PySem.Spec PyProof.Rows L2
/-- what has no parts -/
inductive Atom : V → Prop
  | non : Atom .non
  | bl (b : Bool) : Atom (.bl b)
  | int (i : Int) : Atom (.int i)
  | str (z : Str) : Atom (.str z)
def AlikeU (K : PySem.W.Frag) : Nat → V → V → Hp → Prop
  | 0, x, y, _ => Atom y ∧ x = y
  | k + 1, x, y, H => (Atom y ∧ x = y) ∨ (∃ a b xs ys, x = .ref a ∧ y = .ref b ∧ SqT K H a xs ∧ SqT K H b ys ∧ xs.length = ys.length ∧ ys.length ≤ 1000 ∧ ∀ (i : Nat) (u v : V), xs[i]? = some u → ys[i]? = some v → AlikeU K k u v H) ∨
    (∃ a b xs ys, x = .ref a ∧ y = .ref b ∧ SqL K H a xs ∧ SqL K H b ys ∧ xs.length = ys.length ∧ ys.length ≤ 1000 ∧ ∀ (i : Nat) (u v : V), xs[i]? = some u → ys[i]? = some v → AlikeU K k u v H)
theorem AlikeU.ex {K : PySem.W.Frag} {H H' : Hp} (e : Ex H H') : ∀ {k : Nat} {x y : V}, AlikeU K k x y H → AlikeU K k x y H'
  | 0, _, _, h => h
  | k + 1, _, _, h => by
    rcases h with h | ⟨a, b, xs, ys, h1, h2, h3, h4, h5, h6, h7⟩ | ⟨a, b, xs, ys, h1, h2, h3, h4, h5, h6, h7⟩
    · exact .inl h
    · exact .inr (.inl ⟨a, b, xs, ys, h1, h2, _root_.Evl.ex_t e h3, _root_.Evl.ex_t e h4, h5, h6, fun i u v e1 e2 => AlikeU.ex e (h7 i u v e1 e2)⟩)
    · exact .inr (.inr ⟨a, b, xs, ys, h1, h2, _root_.Evl.ex_l e h3, _root_.Evl.ex_l e h4, h5, h6, fun i u v e1 e2 => AlikeU.ex e (h7 i u v e1 e2)⟩)
theorem AlikeU.up {K : PySem.W.Frag} {H : Hp} : ∀ {k : Nat} {x y : V}, AlikeU K k x y H → AlikeU K (k + 1) x y H
  | 0, _, _, h => .inl h
  | k + 1, _, _, h => by
    rcases h with h | ⟨a, b, xs, ys, h1, h2, h3, h4, h5, h6, h7⟩ | ⟨a, b, xs, ys, h1, h2, h3, h4, h5, h6, h7⟩
    · exact .inl h
    · exact .inr (.inl ⟨a, b, xs, ys, h1, h2, h3, h4, h5, h6, fun i u v e1 e2 => AlikeU.up (h7 i u v e1 e2)⟩)
    · exact .inr (.inr ⟨a, b, xs, ys, h1, h2, h3, h4, h5, h6, fun i u v e1 e2 => AlikeU.up (h7 i u v e1 e2)⟩)
theorem AlikeW.u {K : PySem.W.Frag} {H : Hp} : ∀ {k : Nat} {x y : V}, AlikeW K k x y H → AlikeU K k x y H
  | 0, _, _, ⟨i, h1, h2⟩ => ⟨by rw [h2]; exact .int i, by rw [h1, h2]⟩
  | k + 1, _, _, h => by
    rcases h with ⟨i, h1, h2⟩ | ⟨a, b, xs, ys, h1, h2, h3, h4, h5, h6, h7⟩ | ⟨a, b, xs, ys, h1, h2, h3, h4, h5, h6, h7⟩
    · exact .inl ⟨by rw [h2]; exact .int i, by rw [h1, h2]⟩
    · exact .inr (.inl ⟨a, b, xs, ys, h1, h2, h3, h4, h5, h6, fun i u v e1 e2 => AlikeW.u (h7 i u v e1 e2)⟩)
    · exact .inr (.inr ⟨a, b, xs, ys, h1, h2, h3, h4, h5, h6, fun i u v e1 e2 => AlikeW.u (h7 i u v e1 e2)⟩)
theorem AlikeU.atom {K : PySem.W.Frag} {H : Hp} {k : Nat} {x : V} (h : Atom x) : AlikeU K k x x H := by
  cases k with
  | zero => exact ⟨h, rfl⟩
  | succ k => exact .inl ⟨h, rfl⟩
def spAlikeU (K : PySem.W.Frag) (k : Nat) : Sp := fun vs H Q _ => ∃ x y, vs = [x, y] ∧ AlikeU K k x y H ∧ Ret (IsV (.bl true)) H Q
def spAU (K : PySem.W.Frag) : Nat → Sp
  | 0 => fun _ _ _ _ => False
  | k + 1 => spAlikeU K k
section
variable {P : Program} {w : World} {K : PySem.W.Frag} {mg : Str → Option Value} {base : Heap}
theorem any_NoneTypeU : PySem.W.kitAny K (.type "NoneType") [.type "tuple", .type "list"] = some false := kitAny_cons (b := false) (kit_ty (by decide +kernel)) (fun _ => kitAny_cons (b := false) (kit_ty (by decide +kernel)) (fun _ => kitAny_nil) (fun z => nomatch z)) (fun z => nomatch z)
theorem any_boolU : PySem.W.kitAny K (.type "bool") [.type "tuple", .type "list"] = some false := kitAny_cons (b := false) (kit_ty (by decide +kernel)) (fun _ => kitAny_cons (b := false) (kit_ty (by decide +kernel)) (fun _ => kitAny_nil) (fun z => nomatch z)) (fun z => nomatch z)
theorem any_strU : PySem.W.kitAny K (.type "str") [.type "tuple", .type "list"] = some false := kitAny_cons (b := false) (kit_ty (by decide +kernel)) (fun _ => kitAny_cons (b := false) (kit_ty (by decide +kernel)) (fun _ => kitAny_nil) (fun z => nomatch z)) (fun z => nomatch z)
theorem ok_alikeU0 {f : Addr} {fd : FuncData} : FnOk P w K mg base CX0 0 f fd p_law_alike (spAU K 0) := ⟨fun _ _ _ _ h => h.elim, fun _ _ _ _ _ _ _ _ _ _ _ _ _ h => h.elim⟩
theorem ok_alikeU {f : Addr} {fd : FuncData} (B : Bare mg) (F : Fun K "_law_alike" "_law_alike" s_law_alike f fd) (k : Nat) (Gs : Got P w K mg base CX0 k "_law_alike" p_law_alike (spAU K k)) : FnOk P w K mg base CX0 (k + 1) f fd p_law_alike (spAlikeU K k) := by
  refine F.ok sc_law_alike (fun vs H Q E h => ?_) (fun cdv A outer s H vs Q E hr h => ?_)
  · obtain ⟨x, y, rfl, _⟩ := h
    rfl
  · obtain ⟨x, y, rfl, hal, q⟩ := h
    have hr1 : Room k _ := hr
    refine ⟨_, pss_cons (ps_if (pt_val (pe_callB call_isiT (by rfl) B.isinstance (by decide +kernel) (pa_cons (pv 1) (pa_cons (pe_tup (pa_cons (pe_bltn (v := .ty "tuple") (by rfl) B.tuple (by decide +kernel) rfl) (pa_cons (pe_bltn (v := .ty "list") (by rfl) B.list (by decide +kernel) rfl) pa_nil))) pa_nil))))
        (pss_cons (ps_if (PW.pt (pw_or (pt_not (pt_val (pe_callB call_isiT (by rfl) B.isinstance (by decide +kernel) (pa_cons (pv 0) (pa_cons (pe_tup (pa_cons (pe_bltn (v := .ty "tuple") (by rfl) B.tuple (by decide +kernel) rfl) (pa_cons (pe_bltn (v := .ty "list") (by rfl) B.list (by decide +kernel) rfl) pa_nil))) pa_nil)))))
            (pw_or1 (pt_cmpR op_ne (pe_callB call_isi (by rfl) B.isinstance (by decide +kernel) (pa_cons (pv 0) (pa_cons (pe_bltn (v := .ty "list") (by rfl) B.list (by decide +kernel) rfl) pa_nil))) (pe_callB call_isi (by rfl) B.isinstance (by decide +kernel) (pa_cons (pv 1) (pa_cons (pe_bltn (v := .ty "list") (by rfl) B.list (by decide +kernel) rfl) pa_nil))) rfl))))
            (pss_one (ps_ret pe_bl)) pss_nil)
        (pss_cons (ps_if (pt_cmpR op_ne (pe_callB call_len_seq (by rfl) B.len PySem.boot_len (pa_cons (pv 0) pa_nil)) (pe_callB call_len_seq (by rfl) B.len PySem.boot_len (pa_cons (pv 1) pa_nil)) rfl) (pss_one (ps_ret pe_bl)) pss_nil)
        (pss_one (ps_ret (pe_cmpR (op_eqD hr.units) (pe_lc (own := [("k", 2)]) (g := gName 2) rfl sc_law_alike.nd (pi_range1 rfl B.range (pa_cons (pe_callB call_len_seq (by rfl) B.len PySem.boot_len (pa_cons (pv 1) pa_nil)) pa_nil)) (blkOk_by (N := n_law_alike) (sc := defScope s_law_alike) (by decide +kernel)) (fun _ _ _ _ _ => pg_name (i := 2) sc_law_alike.nd rfl (Or.inl rfl))
          (fun _ _ _ _ _ => pts_one (pt_not (pt_val (pe_got Gs hr1 pass0 (pa_cons (pe_ix (show IxR _ (rIxE K) from ix_either) (pv 0) (pv 2) (fun _ _ => rfl)) (pa_cons (pe_ix (show IxR _ (rIxE K) from ix_either) (pv 1) (pv 2) (fun _ _ => rfl)) pa_nil)))))) (fun _ _ _ _ _ => pv 2)) (pe_lst pa_nil) (nomark _)))))) pss_nil)
      (pss_cons (ps_if (PW.pt (pw_or (pt_cmp (pc_isN (pv 1))) (pw_or1 (pt_val (pe_callB call_isi (by rfl) B.isinstance (by decide +kernel) (pa_cons (pv 1) (pa_cons (pe_bltn (v := .ty "str") (by rfl) B.str (by decide +kernel) rfl) pa_nil)))))))
        (pss_one (ps_ret (pe_and (pe_cmpR op_eq (pv 0) (pv 1) rfl) (pe_one (pe_cmpR op_eq (pe_callB call_isi (by rfl) B.isinstance (by decide +kernel) (pa_cons (pv 0) (pa_cons (pe_bltn (v := .ty "str") (by rfl) B.str (by decide +kernel) rfl) pa_nil))) (pe_callB call_isi (by rfl) B.isinstance (by decide +kernel) (pa_cons (pv 1) (pa_cons (pe_bltn (v := .ty "str") (by rfl) B.str (by decide +kernel) rfl) pa_nil))) rfl))))) pss_nil)
      (pss_one (ps_ret (pe_and (pe_callB call_isi (by rfl) B.isinstance (by decide +kernel) (pa_cons (pv 0) (pa_cons (pe_bltn (v := .ty "int") (by rfl) B.int (by decide +kernel) rfl) pa_nil)))
        (pe_and (pe_cmpR op_eq (pe_callB call_isi (by rfl) B.isinstance (by decide +kernel) (pa_cons (pv 0) (pa_cons (pe_bltn (v := .ty "bool") (by rfl) B.bool (by decide +kernel) rfl) pa_nil))) (pe_callB call_isi (by rfl) B.isinstance (by decide +kernel) (pa_cons (pv 1) (pa_cons (pe_bltn (v := .ty "bool") (by rfl) B.bool (by decide +kernel) rfl) pa_nil))) rfl)
          (pe_one (pe_cmpR op_eq (pv 0) (pv 1) rfl))))))), ?_⟩
    have hh : (Atom y ∧ x = y) ∨ (∃ j a b xs ys, k = j + 1 ∧ x = .ref a ∧ y = .ref b ∧ SqT K H a xs ∧ SqT K H b ys ∧ xs.length = ys.length ∧ ys.length ≤ 1000 ∧ ∀ (i : Nat) (u v : V), xs[i]? = some u → ys[i]? = some v → AlikeU K j u v H) ∨ (∃ j a b xs ys, k = j + 1 ∧ x = .ref a ∧ y = .ref b ∧ SqL K H a xs ∧ SqL K H b ys ∧ xs.length = ys.length ∧ ys.length ≤ 1000 ∧ ∀ (i : Nat) (u v : V), xs[i]? = some u → ys[i]? = some v → AlikeU K j u v H) := by
      cases k with
      | zero => exact .inl hal
      | succ j =>
        rcases hal with h | ⟨a, b, xs, ys, h⟩ | ⟨a, b, xs, ys, h⟩
        · exact .inl h
        · exact .inr (.inl ⟨j, a, b, xs, ys, rfl, h⟩)
        · exact .inr (.inr ⟨j, a, b, xs, ys, rfl, h⟩)
    have two : Paired ClsV [V.ty "tuple", V.ty "list"] [.type "tuple", .type "list"] := .cons (.ty _) (.cons (.ty _) .nil)
    rcases hh with ⟨at_, rfl⟩ | ⟨j, a, b, xs, ys, rfl, rfl, rfl, ha, hb, hl, hz, hi⟩ | ⟨j, a, b, xs, ys, rfl, rfl, rfl, ha, hb, hl, hz, hi⟩
    · cases at_ with
      | int i =>
        refine ⟨_, rfl, (by show 2 ≤ sizeLine; decide), fun tp np => ?_⟩
        refine ⟨.int i, tp, _, .type "int", _, false, rfl, upd_same, two, .base (.int i), any_int, false, rfl, iteF ?_⟩
        refine ⟨_, rfl, _, rfl, iteF ?_⟩
        refine ⟨_, rfl, .int i, .ty "str", .type "int", .type "str", false, rfl, .ty _, .base (.int i), kit_ty (by decide +kernel), false, rfl, iteF ?_⟩
        refine ⟨_, rfl, .int i, .ty "int", .type "int", .type "int", true, rfl, .ty _, .base (.int i), kit_ty (by decide +kernel), _, rfl, iteT ?_⟩
        refine ⟨_, rfl, .int i, .ty "bool", .type "int", .type "bool", false, rfl, .ty _, .base (.int i), kit_ty (by decide +kernel), ?_⟩
        refine ⟨_, rfl, .int i, .ty "bool", .type "int", .type "bool", false, rfl, .ty _, .base (.int i), kit_ty (by decide +kernel), rfl, ?_⟩
        refine ⟨_, rfl, iteT ?_⟩
        refine ⟨_, rfl, _, rfl, rfl, ?_⟩
        exact q _ _ (_root_.Evl.Ex.new np) (by show V.bl _ = V.bl _; simp)
      | bl i =>
        refine ⟨_, rfl, (by show 2 ≤ sizeLine; decide), fun tp np => ?_⟩
        refine ⟨.bl i, tp, _, .type "bool", _, false, rfl, upd_same, two, .base (.bl i), any_boolU, false, rfl, iteF ?_⟩
        refine ⟨_, rfl, _, rfl, iteF ?_⟩
        refine ⟨_, rfl, .bl i, .ty "str", .type "bool", .type "str", false, rfl, .ty _, .base (.bl i), kit_ty (by decide +kernel), false, rfl, iteF ?_⟩
        refine ⟨_, rfl, .bl i, .ty "int", .type "bool", .type "int", true, rfl, .ty _, .base (.bl i), kit_ty (by decide +kernel), _, rfl, iteT ?_⟩
        refine ⟨_, rfl, .bl i, .ty "bool", .type "bool", .type "bool", true, rfl, .ty _, .base (.bl i), kit_ty (by decide +kernel), ?_⟩
        refine ⟨_, rfl, .bl i, .ty "bool", .type "bool", .type "bool", true, rfl, .ty _, .base (.bl i), kit_ty (by decide +kernel), rfl, ?_⟩
        refine ⟨_, rfl, iteT ?_⟩
        refine ⟨_, rfl, _, rfl, rfl, ?_⟩
        exact q _ _ (_root_.Evl.Ex.new np) (by show V.bl _ = V.bl _; simp)
      | str z =>
        refine ⟨_, rfl, (by show 2 ≤ sizeLine; decide), fun tp np => ?_⟩
        refine ⟨.str z, tp, _, .type "str", _, false, rfl, upd_same, two, .base (.str z), any_strU, false, rfl, iteF ?_⟩
        refine ⟨_, rfl, _, rfl, iteF ?_⟩
        refine ⟨_, rfl, .str z, .ty "str", .type "str", .type "str", true, rfl, .ty _, .base (.str z), kit_ty (by decide +kernel), true, rfl, iteT ?_⟩
        refine ⟨_, rfl, _, rfl, rfl, _, rfl, ite2 (fun _ => ?_) (fun c => absurd (decide_eq_true rfl) c)⟩
        refine ⟨_, rfl, .str z, .ty "str", .type "str", .type "str", true, rfl, .ty _, .base (.str z), kit_ty (by decide +kernel), ?_⟩
        refine ⟨_, rfl, .str z, .ty "str", .type "str", .type "str", true, rfl, .ty _, .base (.str z), kit_ty (by decide +kernel), rfl, ?_⟩
        exact q _ _ (_root_.Evl.Ex.new np) rfl
      | non =>
        refine ⟨_, rfl, (by show 2 ≤ sizeLine; decide), fun tp np => ?_⟩
        refine ⟨.non, tp, _, .type "NoneType", _, false, rfl, upd_same, two, .base .non, any_NoneTypeU, false, rfl, iteF ?_⟩
        refine ⟨_, rfl, _, rfl, iteT ?_⟩
        refine ⟨_, rfl, _, rfl, rfl, _, rfl, ite2 (fun _ => ?_) (fun c => absurd (decide_eq_true rfl) c)⟩
        refine ⟨_, rfl, .non, .ty "str", .type "NoneType", .type "str", false, rfl, .ty _, .base .non, kit_ty (by decide +kernel), ?_⟩
        refine ⟨_, rfl, .non, .ty "str", .type "NoneType", .type "str", false, rfl, .ty _, .base .non, kit_ty (by decide +kernel), rfl, ?_⟩
        exact q _ _ (_root_.Evl.Ex.new np) rfl
    · refine ⟨_, rfl, (by show 2 ≤ sizeLine; decide), fun tp np => ?_⟩
      have e1 : Ex H (upd H tp (.tup [.ty "tuple", .ty "list"])) := _root_.Evl.Ex.new np
      refine ⟨.ref b, tp, _, .type "tuple", _, true, rfl, upd_same, two, tyx_t (_root_.Evl.ex_t e1 hb), any_tup, true, rfl, iteT ?_⟩
      refine ⟨_, rfl, (by show 2 ≤ sizeLine; decide), fun tp2 np2 => ?_⟩
      have e2 : Ex (upd H tp (.tup [.ty "tuple", .ty "list"])) (upd (upd H tp (.tup [.ty "tuple", .ty "list"])) tp2 (.tup [.ty "tuple", .ty "list"])) := _root_.Evl.Ex.new np2
      have e12 := e1.trans e2
      refine ⟨.ref a, tp2, _, .type "tuple", _, true, rfl, upd_same, two, tyx_t (_root_.Evl.ex_t e12 ha), any_tup, true, rfl, iteF ?_⟩
      refine ⟨_, rfl, .ref a, .ty "list", .type "tuple", .type "list", false, rfl, .ty _, tyx_t (_root_.Evl.ex_t e12 ha), kit_ty (by decide +kernel), ?_⟩
      refine ⟨_, rfl, .ref b, .ty "list", .type "tuple", .type "list", false, rfl, .ty _, tyx_t (_root_.Evl.ex_t e12 hb), kit_ty (by decide +kernel), rfl, ?_⟩
      refine ⟨_, rfl, iteF ?_⟩
      refine ⟨_, rfl, a, xs, rfl, .inr (_root_.Evl.ex_t e12 ha), _, rfl, b, ys, rfl, .inr (_root_.Evl.ex_t e12 hb), rfl, _, rfl, ?_⟩
      refine ite2 (fun c => absurd (by rw [hl]) (dne c)) (fun _ => ?_)
      refine ⟨_, rfl, b, ys, rfl, .inr (_root_.Evl.ex_t e12 hb), _, rfl, by omega, by omega, ?_⟩
      refine lc_go (walk_range (lo := 0) (n := ((ys.length : Nat) : Int).toNat)) (by omega) (fun _ _ => trivial) (List.range ys.length) (by rw [List.length_range, Int.toNat_natCast]) (fun _ => false) (fun _ _ _ => True) (fun _ _ _ _ _ h => h) (fun i m x H3 H4 hn3 e3 yy C N hC hN => ?_) fun D zs H3 nD e3 hD hz0 => ?_
      · obtain ⟨rfl, ex⟩ := yy
        have ex' : x = V.int ((i : Nat) : Int) := ex.trans (by show V.int _ = V.int _; rw [Int.zero_add])
        subst ex'
        have hi0 : i < ys.length := by
          have := (List.getElem?_eq_some_iff.mp hn3).1
          rwa [List.length_range] at this
        have hi1 : i < xs.length := by omega
        refine ⟨rfl, _, rfl, _, rfl, .inl ⟨a, xs, _, xs[i], rfl, rfl, _root_.Evl.ex_t (e12.trans e3) ha, at_of rfl (List.getElem?_eq_getElem hi1), _, rfl, _, rfl, .inl ⟨b, ys, _, ys[i], rfl, rfl, _root_.Evl.ex_t (e12.trans e3) hb, at_of rfl (List.getElem?_eq_getElem hi0), xs[i], ys[i], rfl, (hi i _ _ (List.getElem?_eq_getElem hi1) (List.getElem?_eq_getElem hi0)).ex (e12.trans e3), fun z H5 e5 ez => ?_⟩⟩⟩
        cases (show z = _ from ez)
        exact ⟨_, rfl, hN rfl _ e5⟩
      · have hz1 : Paired (fun y d => True) zs ((List.range ys.length).filter fun _ => false) := hz0
        have l0 : zs.length = 0 := by
          rw [pr_len hz1]
          simp
        have : zs = [] := List.length_eq_zero_iff.mp l0
        subst this
        refine ⟨Nat.zero_le _, fun g1 ng1 => ?_⟩
        have e4 : Ex H3 (upd H3 g1 (.lst [])) := _root_.Evl.Ex.new ng1
        refine ⟨.list [], .list [], .lst (SqL.of (e4 _ _ hD)) .nil, .lst (SqL.of upd_same) .nil, rfl, rfl, ?_⟩
        exact q _ _ ((e12.trans e3).trans e4) rfl
    · refine ⟨_, rfl, (by show 2 ≤ sizeLine; decide), fun tp np => ?_⟩
      have e1 : Ex H (upd H tp (.tup [.ty "tuple", .ty "list"])) := _root_.Evl.Ex.new np
      refine ⟨.ref b, tp, _, .type "list", _, true, rfl, upd_same, two, tyx_l (_root_.Evl.ex_l e1 hb), any_lst, true, rfl, iteT ?_⟩
      refine ⟨_, rfl, (by show 2 ≤ sizeLine; decide), fun tp2 np2 => ?_⟩
      have e2 : Ex (upd H tp (.tup [.ty "tuple", .ty "list"])) (upd (upd H tp (.tup [.ty "tuple", .ty "list"])) tp2 (.tup [.ty "tuple", .ty "list"])) := _root_.Evl.Ex.new np2
      have e12 := e1.trans e2
      refine ⟨.ref a, tp2, _, .type "list", _, true, rfl, upd_same, two, tyx_l (_root_.Evl.ex_l e12 ha), any_lst, true, rfl, iteF ?_⟩
      refine ⟨_, rfl, .ref a, .ty "list", .type "list", .type "list", true, rfl, .ty _, tyx_l (_root_.Evl.ex_l e12 ha), kit_ty (by decide +kernel), ?_⟩
      refine ⟨_, rfl, .ref b, .ty "list", .type "list", .type "list", true, rfl, .ty _, tyx_l (_root_.Evl.ex_l e12 hb), kit_ty (by decide +kernel), rfl, ?_⟩
      refine ⟨_, rfl, iteF ?_⟩
      refine ⟨_, rfl, a, xs, rfl, .inl (_root_.Evl.ex_l e12 ha), _, rfl, b, ys, rfl, .inl (_root_.Evl.ex_l e12 hb), rfl, _, rfl, ?_⟩
      refine ite2 (fun c => absurd (by rw [hl]) (dne c)) (fun _ => ?_)
      refine ⟨_, rfl, b, ys, rfl, .inl (_root_.Evl.ex_l e12 hb), _, rfl, by omega, by omega, ?_⟩
      refine lc_go (walk_range (lo := 0) (n := ((ys.length : Nat) : Int).toNat)) (by omega) (fun _ _ => trivial) (List.range ys.length) (by rw [List.length_range, Int.toNat_natCast]) (fun _ => false) (fun _ _ _ => True) (fun _ _ _ _ _ h => h) (fun i m x H3 H4 hn3 e3 yy C N hC hN => ?_) fun D zs H3 nD e3 hD hz0 => ?_
      · obtain ⟨rfl, ex⟩ := yy
        have ex' : x = V.int ((i : Nat) : Int) := ex.trans (by show V.int _ = V.int _; rw [Int.zero_add])
        subst ex'
        have hi0 : i < ys.length := by
          have := (List.getElem?_eq_some_iff.mp hn3).1
          rwa [List.length_range] at this
        have hi1 : i < xs.length := by omega
        refine ⟨rfl, _, rfl, _, rfl, .inr ⟨a, xs, _, xs[i], rfl, rfl, _root_.Evl.ex_l (e12.trans e3) ha, at_of rfl (List.getElem?_eq_getElem hi1), _, rfl, _, rfl, .inr ⟨b, ys, _, ys[i], rfl, rfl, _root_.Evl.ex_l (e12.trans e3) hb, at_of rfl (List.getElem?_eq_getElem hi0), xs[i], ys[i], rfl, (hi i _ _ (List.getElem?_eq_getElem hi1) (List.getElem?_eq_getElem hi0)).ex (e12.trans e3), fun z H5 e5 ez => ?_⟩⟩⟩
        cases (show z = _ from ez)
        exact ⟨_, rfl, hN rfl _ e5⟩
      · have hz1 : Paired (fun y d => True) zs ((List.range ys.length).filter fun _ => false) := hz0
        have l0 : zs.length = 0 := by
          rw [pr_len hz1]
          simp
        have : zs = [] := List.length_eq_zero_iff.mp l0
        subst this
        refine ⟨Nat.zero_le _, fun g1 ng1 => ?_⟩
        have e4 : Ex H3 (upd H3 g1 (.lst [])) := _root_.Evl.Ex.new ng1
        refine ⟨.list [], .list [], .lst (SqL.of (e4 _ _ hD)) .nil, .lst (SqL.of upd_same) .nil, rfl, rfl, ?_⟩
        exact q _ _ ((e12.trans e3).trans e4) rfl
end
end K01


set_option Elab.async false
set_option linter.all false
set_option maxRecDepth 100000
set_option maxHeartbeats 8000000
/-! The law's lambdas, the calls that must raise -/
namespace K01
open PySem PySem.Spec PyProof.Rows L2 LamX Can
structure Defs (P : Program) (w : World) (K : PySem.W.Frag) (mg : Str → Option Value) (base : Heap) (CM : Addr) : Prop where
  taken : Got P w K mg base CX0 1 "_law_taken" p_law_taken (spTaken K)
  pickW : Got P w K mg base CX0 2 "_law_pick" p_law_pick (spPickW K)
  row : Got P w K mg base CX0 2 "_law_row" p_law_row (spRow K)
  machine : Got P w K mg base CX0 3 "_law_machine" p_law_machine (spMachine K)
  lfirst : Got P w K mg base CX0 3 "_law_first" p_law_first (spLFirst K)
  lis : Got P w K mg base CX0 1 "_law_is" p_law_is spLIs
  alike : Got P w K mg base CX0 2 "_law_alike" p_law_alike (spAlikeU K 1)
  looks : Got P w K mg base CX0 4 "_law_looks" p_law_looks (spLLooks K)
  apart : Got P w K mg base (L2.CX P w) 9 "are_apart" p_are_apart (spTwo K CM (rApart K))
  look : Got P w K mg base (L2.CX P w) 9 "first_look" p_first_look (spTwo K CM (rLook K))
  fewest : Got P w K mg base (L2.CX P w) 9 "fewest_looks" p_fewest_looks (spFewest K CM)
abbrev LX (P : Program) (w : World) (K : PySem.W.Frag) (mg : Str → Option Value) (base : Heap) (f c : Addr) (A : Around) (outer : List Env) (s : Shared) (H : Hp) (E : XK) : Cx := cxOf (L2.CX P w) P w K mg base n_law "law" (defScope s_law) f (.ref c) A outer s H E
def bodyAt (i : Nat) : Stmt := (defBody s_law).getD i (.Pass ⟨0, 0, 0, 0⟩)
def lamA : Arguments × Expr × Scope := lamOf (match bodyAt 11 with | .For _ (.List es _) _ _ _ => es[0]? | _ => none)
def lamB : Arguments × Expr × Scope := lamOf (match bodyAt 11 with | .For _ (.List es _) _ _ _ => es[1]? | _ => none)
abbrev psA : Arguments := lamA.1
abbrev bA : Expr := lamA.2.1
abbrev scA : Scope := lamA.2.2
theorem lwA : LamW (defScope s_law) scA n_law := lamW_by (by decide +kernel)
abbrev psB : Arguments := lamB.1
abbrev bB : Expr := lamB.2.1
abbrev scB : Scope := lamB.2.2
theorem lwB : LamW (defScope s_law) scB n_law := lamW_by (by decide +kernel)
theorem bindA : BindW psA bA scA none := fun _ _ _ _ _ => rfl
theorem bindB : BindW psB bB scB (some 0) := ⟨"a", rfl, fun _ _ _ _ _ _ _ => ⟨_, rfl, rfl⟩⟩
def qLam : Str := "law.<locals>.<lambda>"
/-- what is no ascending tuple of memories, as the law draws it -/
def BadW (K : PySem.W.Frag) (p : Int) (n : Nat) (v : V) (G : Hp) : Prop :=
  v = .non ∨ (∃ b, v = .ref b ∧ SqT K G b []) ∨ (∃ b xs, v = .ref b ∧ SqL K G b xs) ∨ (∃ r, RowsT K [r] v G ∧ r.length = n + 1) ∨ TupF K [.int 1] v G ∨ ∃ R, RowsT K R v G ∧ Lin.Oks p n R ∧ 1 ≤ R.length ∧ R.length ≤ 30 ∧ ascR R = false
section
variable {K : PySem.W.Frag} {p : Int} {n : Nat} {v : V} {G G' : Hp}
theorem BadW.mems (h : BadW K p n v G) (hn : n ≤ 4) : BadMems K p n v G := by
  rcases h with rfl | ⟨b, rfl, hb⟩ | ⟨b, xs, rfl, hb⟩ | ⟨r, ⟨b, us, rfl, hb, pb⟩, lr⟩ | ⟨b, rfl, hb⟩ | ⟨R, h1, h2, h3, h4, h5⟩
  · exact .inl fun H' _ => ⟨"NoneType", .base .non, by decide +kernel⟩
  · exact .inr (.inl ⟨b, rfl, hb⟩)
  · exact .inl fun H' e => ⟨"list", tyx_l (_root_.Evl.ex_l e hb), by decide +kernel⟩
  · have lu := pr_len pb
    refine .inr (.inr (.inl ⟨b, us, [false], rfl, hb, by rw [lu]; exact Nat.le_refl 1, by rw [lu]; show 1 ≤ 30; decide, ?_, rfl⟩))
    cases pb with
    | cons h t =>
      cases t
      obtain ⟨a, rfl, ha⟩ := h
      refine .cons (.inl ⟨_, ⟨a, rfl, ha⟩, fun f hf => ?_, by rw [List.length_map, lr]; omega, ?_⟩) .nil
      · obtain ⟨x, _, rfl⟩ := List.mem_map.mp hf
        exact .int x
      · unfold isRowB
        rw [List.length_map, lr]
        have : decide (((n + 1 : Nat) : Int) = (n : Nat)) = false := decide_eq_false (by omega)
        rw [this]
        rfl
  · exact .inr (.inr (.inl ⟨b, [.int 1], [false], rfl, hb, by decide, by decide, .cons (.inr ⟨rfl, fun H' _ => ⟨"int", .base (.int _), by decide +kernel⟩⟩) .nil, rfl⟩))
  · exact .inr (.inr (.inr ⟨R, h1, h2, h3, h4, h5⟩))
theorem BadW.kl (k : Kp G G') (l : ∀ b xs, SqL K G b xs → ∃ ys, SqL K G' b ys) (h : BadW K p n v G) : BadW K p n v G' := by
  rcases h with rfl | ⟨b, rfl, hb⟩ | ⟨b, xs, rfl, hb⟩ | ⟨r, h, lr⟩ | h | ⟨R, h1, h2, h3, h4, h5⟩
  · exact .inl rfl
  · exact .inr (.inl ⟨b, rfl, sqt_k k hb⟩)
  · obtain ⟨ys, hy⟩ := l b xs hb
    exact .inr (.inr (.inl ⟨b, ys, rfl, hy⟩))
  · exact .inr (.inr (.inr (.inl ⟨r, h.k k, lr⟩)))
  · exact .inr (.inr (.inr (.inr (.inl (h.k k)))))
  · exact .inr (.inr (.inr (.inr (.inr ⟨R, h1.k k, h2, h3, h4, h5⟩))))
theorem BadW.ex (e : Ex G G') (h : BadW K p n v G) : BadW K p n v G' := h.kl (Ex.k e) fun _ _ hb => ⟨_, _root_.Evl.ex_l e hb⟩
theorem BadW.xt (e : ExtN G G') (h : BadW K p n v G) : BadW K p n v G' := h.kl (ExtN.k e) fun _ _ hb => ⟨_, sql_xt e hb⟩
theorem BadW.b {a : Addr} {xs ys : List V} (e : ExB a G G') (ha : G a = some (.lst xs)) (ha' : G' a = some (.lst ys)) (h : BadW K p n v G) : BadW K p n v G' := by
  refine h.kl (kp_b ha rfl e) fun b zs hb => ?_
  by_cases z : b = a
  · rw [z]
    exact ⟨ys, SqL.of ha'⟩
  · refine ⟨zs, ?_⟩
    rcases hb with (hb | ⟨o, hb⟩) | hb
    · exact .inl (.inl (e _ _ z hb))
    · exact .inl (.inr ⟨o, e _ _ z hb⟩)
    · exact .inr hb
end
/-- what stands while the calls are tried -/
structure Env10 (K : PySem.W.Frag) (a sc : Addr) (ns : List Int) (Pt : Addr) (p : Int) (n : Nat) (A W S : List Row) (mm ov wv : V) (u : Row) (G : Hp) : Prop where
  row : Row0 K a sc ns G
  tab : Tabs [(Pt, qLam)] G
  mach : MachT K p A W S mm G
  one : RowT K u ov G
  bad : BadW K p n wv G
section
variable {K : PySem.W.Frag} {a sc : Addr} {ns : List Int} {Pt : Addr} {p : Int} {n : Nat} {A W S : List Row} {mm ov wv : V} {u : Row} {G G' : Hp}
theorem Env10.ex (E : Env10 K a sc ns Pt p n A W S mm ov wv u G) (e : Ex G G') : Env10 K a sc ns Pt p n A W S mm ov wv u G' := ⟨E.row.ex e, E.tab.ext e, E.mach.ex e, E.one.ex e, E.bad.ex e⟩
theorem Env10.tk (E : Env10 K a sc ns Pt p n A W S mm ov wv u G) (e : ExB a G G') (r : Row0 K a sc ns G') : Env10 K a sc ns Pt p n A W S mm ov wv u G' := by
  have k := ExN.k (E.row.n e)
  obtain ⟨_, _, _, ha, _⟩ := E.row
  obtain ⟨_, _, _, ha', _⟩ := id r
  exact ⟨r, tabs_n (E.row.n e) E.tab, E.mach.k k, E.one.k k, E.bad.b e ha ha'⟩
theorem Env10.lst {b : Addr} {xs ys : List V} (E : Env10 K a sc ns Pt p n A W S mm ov wv u G) (hb : G b = some (.lst xs)) (nb : b ≠ a) (off : Off K b sc ns) : Env10 K a sc ns Pt p n A W S mm ov wv u (upd G b (.lst ys)) := by
  have nn : ExN G (upd G b (.lst ys)) := fun c o e nl => by rw [upd_ne (fun z => nl xs (Option.some.inj (e.symm.trans (by rw [z]; exact hb))))]; exact e
  refine ⟨?_, tabs_n nn E.tab, E.mach.n nn, E.one.n nn, E.bad.b (ExB.at (ExB.refl b G)) hb upd_same⟩
  obtain ⟨i, sd, gr, h1, h2, h3, h4⟩ := E.row
  exact ⟨i, sd, gr, by rw [upd_ne nb.symm]; exact h1, h2, sql_o (ExB.at (ExB.refl b G)) off h3, h4⟩
theorem Env10.xt (E : Env10 K a sc ns Pt p n A W S mm ov wv u G) (e : ExtN G G') (T : Tabs [(Pt, qLam)] G') : Env10 K a sc ns Pt p n A W S mm ov wv u G' := ⟨E.row.xt e, T, E.mach.k (ExtN.k e), E.one.k (ExtN.k e), E.bad.xt e⟩
end
section
variable {P : Program} {w : World} {K : PySem.W.Frag} {mg : Str → Option Value} {base : Heap}
abbrev TXx (P : Program) (w : World) (K : PySem.W.Frag) (mg : Str → Option Value) (base : Heap) (f c : Addr) (A : Around) (outer : List Env) (s : Shared) (H : Hp) (E : XK) (pn : List (Addr × Obj)) (xe : Value → Shared → Prop) : Cx := (LX P w K mg base f c A outer s H E).tr pn xe
theorem bodyA {f c CM : Addr} (G : Defs P w K mg base CM) {Ar : Around} {outer : List Env} {s0 : Shared} {H0 : Hp} {Ez : XK} : ∃ tb : XK → TE,
    (∀ (E : XK) (pn : List (Addr × Obj)) (xe : Value → Shared → Prop) (f' c' : Addr) (s : Shared) (H : Hp), Room 9 ((TXx P w K mg base f c Ar outer s0 H0 Ez pn xe).A.deeper (lamEnv (TXx P w K mg base f c Ar outer s0 H0 Ez pn xe) scA s.heap.objs.size f' c')) →
      PE (lamCx (TXx P w K mg base f c Ar outer s0 H0 Ez pn xe) (TXx P w K mg base f c Ar outer s0 H0 Ez pn xe).A (TXx P w K mg base f c Ar outer s0 H0 Ez pn xe).stack s H E scA f' c') bA (tb E)) ∧
    ∀ (E : XK) (σ : L2.St) (H : Hp) (Q : VK) (a sc : Addr) (ns : List Int) (Pt : Addr) (p : Int) (n : Nat) (A W S : List Row) (mm ov wv : V) (u : Row), σ[2]? = some (some mm) → σ[5]? = some (some ov) → σ[11]? = some (some wv) →
      Env10 K a sc ns Pt p n A W S mm ov wv u H → MOk p n A W S → S.length ≤ 2 → Lin.OkR p n u → (∀ G, MachT K p A W S mm G → WP K G mm none) → (∀ H', ExB a H H' → Row0 K a sc ns H' → E (.ref CM) none H') → tb E σ H Q := by
  refine ⟨_, fun E pn xe f' c' s H hr => pe_got G.apart hr (passes_call (takes_of rfl rfl rfl rfl) fun _ _ _ _ z => z) (pa_cons (pv 2) (pa_cons (pv 5) (pa_cons pe_non pa_nil))), fun E σ H Q a sc ns Pt p n A W S mm ov wv u g2 g5 g11 hE M s2 ou wp q => ?_⟩
  exact ⟨_, g2, _, g5, p, n, mm, ov, .non, A, W, S, u, rfl, wp _ hE.mach, hE.mach, wp, M, hE.one, ou, .inr ⟨fun H' _ => ⟨"NoneType", .base .non, by decide +kernel⟩, fun H' e => q H' (ExB.of e) (hE.row.ex e)⟩⟩
theorem bodyB {f c CM : Addr} (G : Defs P w K mg base CM) {Ar : Around} {outer : List Env} {s0 : Shared} {H0 : Hp} {Ez : XK} : ∃ tb : XK → TE,
    (∀ (E : XK) (pn : List (Addr × Obj)) (xe : Value → Shared → Prop) (f' c' : Addr) (s : Shared) (H : Hp), Room 9 ((TXx P w K mg base f c Ar outer s0 H0 Ez pn xe).A.deeper (lamEnv (TXx P w K mg base f c Ar outer s0 H0 Ez pn xe) scB s.heap.objs.size f' c')) →
      PE (lamCx (TXx P w K mg base f c Ar outer s0 H0 Ez pn xe) (TXx P w K mg base f c Ar outer s0 H0 Ez pn xe).A (TXx P w K mg base f c Ar outer s0 H0 Ez pn xe).stack s H E scB f' c') bB (tb E)) ∧
    ∀ (E : XK) (σ : L2.St) (H : Hp) (Q : VK) (a sc : Addr) (ns : List Int) (Pt : Addr) (p : Int) (n : Nat) (A W S : List Row) (mm ov wv : V) (u : Row), σ[2]? = some (some mm) → σ[5]? = some (some ov) → σ[11]? = some (some wv) →
      Env10 K a sc ns Pt p n A W S mm ov wv u H → MOk p n A W S → S.length ≤ 2 → Lin.OkR p n u → (∀ G, MachT K p A W S mm G → WP K G mm none) → (∀ H', ExB a H H' → Row0 K a sc ns H' → E (.ref CM) none H') → tb E σ H Q := by
  refine ⟨_, fun E pn xe f' c' s H hr => pe_got G.fewest hr (passes_call (takes_of rfl rfl rfl rfl) fun _ _ _ _ z => z) (pa_cons (pv 2) (pa_cons (pv 11) pa_nil)), fun E σ H Q a sc ns Pt p n A W S mm ov wv u g2 g5 g11 hE M s2 ou wp q => ?_⟩
  exact ⟨_, g2, _, g11, p, n, mm, wv, A, W, S, rfl, wp _ hE.mach, hE.mach, M, s2, .inr ⟨fun H' e => (hE.bad.ex e).mems M.n4, fun H' e => q H' (ExB.of e) (hE.row.ex e)⟩⟩
end
end K01


set_option Elab.async false
set_option linter.all false
set_option maxRecDepth 100000
set_option maxHeartbeats 8000000
/-! The law from the words on -/
namespace K01
open PySem PySem.Spec PyProof.Rows L2 LamX Can
def tryT : List Stmt := match bodyAt 11 with | .For _ _ b _ _ => b | _ => []
structure ErrL (K : PySem.W.Frag) (mg : Str → Option Value) (CM : Addr) : Prop where
  gN : mg "BadMemory" = some (.ref CM)
  nn : PySem.W.exmOne K (.ref CM) (.ref CM) = some true
abbrev suiT (K : PySem.W.Frag) (z : Str) : Sui := fun _ _ _ => tDrop (tBM K "list" rAppend (tVar 10) (tCons (tC (.str z)) tNil))
section
variable {P : Program} {w : World} {K : PySem.W.Frag} {mg : Str → Option Value} {base : Heap}
theorem callTry {f c CM : Addr} (Er : ErrL K mg CM) (G : Defs P w K mg base CM) {Ar : Around} {outer : List Env} {s0 : Shared} {H0 : Hp} {Ez : XK}
    (hr : Room (9 + 1) (LX P w K mg base f c Ar outer s0 H0 Ez).A) : ∃ tB : TS, PSs (LX P w K mg base f c Ar outer s0 H0 Ez) tryT tB ∧
    ∀ (D : Ends) (σ : L2.St) (G0 : Hp) (f1 wa : Addr) (xs : List V) (a sc : Addr) (ns : List Int) (Pt : Addr) (p : Int) (n : Nat) (A W S : List Row) (mm ov wv : V) (u : Row),
      Keep 14 [(12, .ref f1), (2, mm), (5, ov), (10, .ref wa), (11, wv)] σ → Env10 K a sc ns Pt p n A W S mm ov wv u G0 → MOk p n A W S → S.length ≤ 2 → Lin.OkR p n u → (∀ G, MachT K p A W S mm G → WP K G mm none) → wa ≠ a → Off K wa sc ns → G0 wa = some (.lst xs) → xs.length < 10 →
      (IsLam (LX P w K mg base f c Ar outer s0 H0 Ez).env psA bA scA none f1 G0 ∨ IsLam (LX P w K mg base f c Ar outer s0 H0 Ez).env psB bB scB (some 0) f1 G0) →
      (∀ y G', Env10 K a sc ns Pt p n A W S mm ov wv u G' → Kp G0 G' → (∀ b ys, b ≠ wa → b ≠ a → G0 b = some (.lst ys) → G' b = some (.lst ys)) → G' wa = some (.lst (xs ++ [.str "memory"])) → D.nx ((σ.set 13 y).set 13 none) G') → tB D σ G0 := by
  obtain ⟨ta, pa1, pa2⟩ := bodyA (c := c) (f := f) G (Ar := Ar) (outer := outer) (s0 := s0) (H0 := H0) (Ez := Ez)
  obtain ⟨tB, pb1, pb2⟩ := bodyB (c := c) (f := f) G (Ar := Ar) (outer := outer) (s0 := s0) (H0 := H0) (Ez := Ez)
  refine ⟨_, (show PSs _ tryT _ from pss_one (ps_try_each (n := "e") (i := 13) (l := [(.ref CM, suiT K "memory")]) rfl rfl sc_law.nd rfl rfl (takes_of rfl rfl rfl rfl)
      (tb := fun W => tDrop (fun t G Q => tWork (LX P w K mg base f c Ar outer s0 H0 Ez).env psA bA scA none 12 ta W t G Q ∨ tWork (LX P w K mg base f c Ar outer s0 H0 Ez).env psB bB scB (some 0) 12 tB W t G Q))
      (fun W pn xe tk _ => pss_one (ps_expr (pe_either (pe_work (i := 12) (a := "work") lwA bindA tk hr (fun E f' c' s H hr => pa1 E pn xe f' c' s H hr) rfl (Or.inl rfl)) (pe_work (i := 12) (a := "work") lwB bindB tk hr (fun E f' c' s H hr => pb1 E pn xe f' c' s H hr) rfl (Or.inl rfl)))))
      (.cons ⟨rfl, by decide, .inl Er.gN⟩ (fun a o cls d pn _ _ => (show PSs _ _ (suiT K "memory" a cls d) from pss_one (ps_expr (pe_bm PySem.F.plainAttrs_list PySem.F.slot_list_append PySem.F.type_list_append mt_append (pv 10) (pa_cons pe_str pa_nil))))) .nil))),
    fun D σ G0 f1 wa xs a sc ns Pt p n A W S mm ov wv u hk hE M s2 ou wp nwa off hx hl lam q => ?_⟩
  have szl : xs.length < sizeLine := Nat.lt_trans hl (by decide)
  have rest : ∀ (W0 : WX) cls d G', (cls = .ref CM ∧ ExB a G0 G' ∧ Row0 K a sc ns G') → wEach K 13 W0 D [(.ref CM, suiT K "memory")] cls d σ G' := fun W0 cls d G' ⟨ec, eB, r⟩ => by
    subst ec
    have E1 := hE.tk eB r
    have hx1 := eB _ _ nwa hx
    refine ⟨true, Er.nn, fun _ e _ => ?_, fun z => nomatch z⟩
    have k2 := hk.put (i := 13) (some (.ref e)) rfl
    refine ⟨_, k2.get rfl, .inl ⟨rfl, _, SqL.of hx1⟩, wa, _, _, rfl, rfl, hx1, szl, ?_⟩
    exact q _ _ (E1.lst hx1 nwa off) ((ExN.k (hE.row.n eB)).trans (kp_lst hx1)) (fun b ys n1 n2 hb => by rw [upd_ne n1]; exact eB _ _ n2 hb) upd_same
  rcases lam with l | l
  · exact .inl ⟨f1, fun cls _ G' => cls = .ref CM ∧ ExB a G0 G' ∧ Row0 K a sc ns G', hk.get rfl, l, fun cls d G' hh => rest _ cls d G' hh, pa2 _ _ _ _ a sc ns Pt p n A W S mm ov wv u (hk.get rfl) (hk.get rfl) (hk.get rfl) hE M s2 ou wp fun G' e r => ⟨rfl, e, r⟩⟩
  · exact .inr ⟨f1, fun cls _ G' => cls = .ref CM ∧ ExB a G0 G' ∧ Row0 K a sc ns G', hk.get rfl, l, fun cls d G' hh => rest _ cls d G' hh, pb2 _ _ _ _ a sc ns Pt p n A W S mm ov wv u (hk.get rfl) (hk.get rfl) (hk.get rfl) hE M s2 ou wp fun G' e r => ⟨rfl, e, r⟩⟩
def restT : List Stmt := (defBody s_law).drop 9
theorem lexLt_self : ∀ r : List Int, HT.lexLt r r = false
  | [] => rfl
  | x :: r => by rw [HT.lexLt_cons, if_pos rfl, lexLt_self r]
theorem asc_twice (r : Row) : ascR [r, r] = false := by
  unfold ascR
  show (HT.lexLt r r && true) = false
  rw [lexLt_self]
  rfl
theorem restOk {f c Pt CM : Addr} (B : Bare mg) (TB : TabB base mg c Pt) (Er : ErrL K mg CM) (G : Defs P w K mg base CM) {Ar : Around} {outer : List Env} {s0 : Shared} {H0 : Hp} {Ez : XK}
    (hr : Room (9 + 1) (LX P w K mg base f c Ar outer s0 H0 Ez).A) : ∃ tB : TS, PSs (LX P w K mg base f c Ar outer s0 H0 Ez) restT tB ∧
    ∀ (D : Ends) (σ : L2.St) (G0 : Hp) (a sc : Addr) (ns : List Int) (p : Int) (n : Nat) (A W S R : List Row) (mm ov mv : V) (u : Row),
      Keep 14 [(1, .ref a), (2, mm), (5, ov), (8, mv)] σ → Row0 K a sc ns G0 → Tabs [(Pt, qLam)] G0 → MachT K p A W S mm G0 → RowT K u ov G0 → RowsT K R mv G0 → Lin.Oks p n R → 1 ≤ R.length → MOk p n A W S → S.length ≤ 2 → Lin.OkR p n u → (∀ G, MachT K p A W S mm G → WP K G mm none) → (∀ H', D.rt (.bl true) H') → tB D σ G0 := by
  have hr2 : Room 2 (LX P w K mg base f c Ar outer s0 H0 Ez).A := hr.mono (by decide)
  obtain ⟨tY, pY, wY⟩ := callTry (c := c) (f := f) Er G (Ar := Ar) (outer := outer) (s0 := s0) (H0 := H0) (Ez := Ez) hr
  refine ⟨_, (show PSs _ restT _ from pss_cons (ps_set (i := 10) sc_law.nd rfl (Or.inl rfl) (pe_lst pa_nil))
      (pss_cons (ps_set (i := 11) sc_law.nd rfl (Or.inr rfl) (pe_got G.pickW hr2 pass0 (pa_cons (pv 1) (pa_cons (pe_lst (pa_cons pe_non (pa_cons (pe_tup pa_nil) (pa_cons (pe_lst (pa_cons (pe_ix ix_tup (pv 8) pe_int (fun _ _ => rfl)) pa_nil)) (pa_cons (pe_tup (pa_cons (pe_op op_catT (pe_ix ix_tup (pv 8) pe_int (fun _ _ => rfl)) (pe_tup (pa_cons pe_int pa_nil))) pa_nil)) (pa_cons (pe_op op_repA (pe_tup (pa_cons (pe_ix ix_tup (pv 8) pe_int (fun _ _ => rfl)) pa_nil)) pe_int) (pa_cons (pe_tup (pa_cons pe_int pa_nil)) pa_nil))))))) pa_nil))))
      (pss_cons (ps_for (passes_of rfl) rfl (pi_list (pe_lst (pa_cons (pe_lamb0 (T := [(Pt, qLam)]) (ps := psA) (b := bA) (sc := scA) TB rfl (List.mem_singleton.mpr rfl) (fun p hp _ => by rw [List.mem_singleton.mp hp]; rfl) lwA.free rfl) (pa_cons (pe_lamb1 (T := [(Pt, qLam)]) (ps := psB) (b := bB) (sc := scB) (i := 0) TB rfl (List.mem_singleton.mpr rfl) (fun p hp _ => by rw [List.mem_singleton.mp hp]; rfl) lwB.free rfl rfl) pa_nil)))) (pg_name (i := 12) sc_law.nd rfl (Or.inl rfl)) pY)
      (pss_one (ps_ret (pe_cmpR (op_eqD hr.units) (pv 10) (pe_op op_rep (pe_lst (pa_cons pe_str pa_nil)) pe_int) (nomark _))))))),
    fun D σ G0 a sc ns p n A W S R mm ov mv u hk r0 T0 hM hov hR oR l1 M s2 ou wp q => ?_⟩
  have n1 := M.n1
  have n4 := M.n4
  obtain ⟨mb, us, rfl, hmb, pmb⟩ := id hR
  obtain ⟨x0, rr0, er0⟩ : ∃ x0 r0, us[0]? = some x0 ∧ RowT K r0 x0 G0 ∧ Lin.OkR p n r0 := by
    have lu := pr_len pmb
    have h0 : 0 < us.length := by omega
    obtain ⟨r, hr', h⟩ := pr_get pmb (List.getElem?_eq_getElem h0)
    exact ⟨_, r, List.getElem?_eq_getElem h0, h, oR r (List.mem_of_getElem? hr')⟩
  obtain ⟨hx0, ⟨xa, rfl, hxa⟩, or0⟩ := er0
  -- the words
  refine ⟨(by show 0 ≤ sizeLine; decide), fun wa nwa => ?_⟩
  have e1 := _root_.Evl.Ex.new (o := .lst []) nwa
  have offW : Off K wa sc ns := off_of nwa r0.sql
  have wa_a : wa ≠ a := fun z => by
    obtain ⟨_, _, _, ha, _⟩ := r0
    rw [z, ha] at nwa
    cases nwa
  have hw1 := upd_same (H := G0) (a := wa) (o := .lst [])
  have k1_ := hk.add (i := 10) (v := .ref wa) (by decide) rfl
  generalize upd G0 wa (.lst []) = G1 at e1 hw1 ⊢
  -- what is drawn from
  refine ⟨_, k1_.get rfl, (by show 0 ≤ sizeLine; decide), fun t1 m1 => ?_⟩
  have e2 := _root_.Evl.Ex.new (o := .tup []) m1
  have h2 := upd_same (H := G1) (a := t1) (o := .tup [])
  have E2 := e1.trans e2
  generalize upd G1 t1 (.tup []) = G2 at e2 h2 E2 ⊢
  refine ⟨_, k1_.get rfl, mb, us, _, _, rfl, rfl, _root_.Evl.ex_t E2 hmb, at_of (j := 0) rfl hx0, (by show 1 ≤ sizeLine; decide), fun l1' m2 => ?_⟩
  have e3 := _root_.Evl.Ex.new (o := .lst [.ref xa]) m2
  have h3 := upd_same (H := G2) (a := l1') (o := .lst [.ref xa])
  have E3 := E2.trans e3
  have h23 := e3 _ _ h2
  generalize upd G2 l1' (.lst [.ref xa]) = G3 at e3 h3 E3 h23 ⊢
  refine ⟨_, k1_.get rfl, mb, us, _, _, rfl, rfl, _root_.Evl.ex_t E3 hmb, at_of (j := 0) rfl hx0, (by show 1 ≤ sizeLine; decide), fun t2 m3 => ?_⟩
  have e4 := _root_.Evl.Ex.new (o := .tup [.int 0]) m3
  have h4 := upd_same (H := G3) (a := t2) (o := .tup [.int 0])
  have E4 := E3.trans e4
  generalize upd G3 t2 (.tup [.int 0]) = G4 at e4 h4 E4 ⊢
  refine ⟨xa, t2, _, _, rfl, rfl, _root_.Evl.ex_t E4 hxa, SqT.of h4, (fun z => by have := congrArg List.length z; rw [List.length_map, or0.1] at this; simp at this; omega), (Nat.le_trans (show _ ≤ 1000 by rw [List.length_map, or0.1]; show n + 1 ≤ 1000; omega) (by decide)), (fun z => by cases z), fun _ t3 m4 => ?_⟩
  have e5 := _root_.Evl.Ex.new (o := .tup (rr0.map V.int ++ [.int 0])) m4
  have h5 := upd_same (H := G4) (a := t3) (o := .tup (rr0.map V.int ++ [.int 0]))
  have E5 := E4.trans e5
  generalize upd G4 t3 (.tup (rr0.map V.int ++ [.int 0])) = G5 at e5 h5 E5 ⊢
  refine ⟨(by show 1 ≤ sizeLine; decide), fun t4 m5 => ?_⟩
  have e6 := _root_.Evl.Ex.new (o := .tup [.ref t3]) m5
  have h6 := upd_same (H := G5) (a := t4) (o := .tup [.ref t3])
  have h56 := e6 _ _ h5
  have E6 := E5.trans e6
  generalize upd G5 t4 (.tup [.ref t3]) = G6 at e6 h6 h56 E6 ⊢
  refine ⟨_, k1_.get rfl, mb, us, _, _, rfl, rfl, _root_.Evl.ex_t E6 hmb, at_of (j := 0) rfl hx0, (by show 1 ≤ sizeLine; decide), fun t5 m6 => ?_⟩
  have e7 := _root_.Evl.Ex.new (o := .tup [.ref xa]) m6
  have h7 := upd_same (H := G6) (a := t5) (o := .tup [.ref xa])
  have E7 := E6.trans e7
  generalize upd G6 t5 (.tup [.ref xa]) = G7 at e7 h7 E7 ⊢
  refine ⟨t5, 2, [.ref xa], rfl, rfl, SqT.of h7, (by simp), (by decide), (by decide), (by show 1 ≤ 1000; decide), fun t6 G8 e8 h8 => ?_⟩
  have E8 := E7.trans e8
  refine ⟨(by show 1 ≤ sizeLine; decide), fun t7 m8 => ?_⟩
  have e9 := _root_.Evl.Ex.new (o := .tup [.int 1]) m8
  have h9 := upd_same (H := G8) (a := t7) (o := .tup [.int 1])
  have E9 := E8.trans e9
  generalize upd G8 t7 (.tup [.int 1]) = G9 at e9 h9 E9 ⊢
  refine ⟨(by show 6 ≤ sizeLine; decide), fun lz m9 => ?_⟩
  have e10 := _root_.Evl.Ex.new (o := .lst [.non, .ref t1, .ref l1', .ref t4, .ref t6, .ref t7]) m9
  have h10 := upd_same (H := G9) (a := lz) (o := .lst [.non, .ref t1, .ref l1', .ref t4, .ref t6, .ref t7])
  have E10 := E9.trans e10
  have f39 := (((((e4.trans e5).trans e6).trans e7).trans e8).trans e9)
  have h2A := e10 _ _ (f39 _ _ h23)
  have h3A := e10 _ _ (f39 _ _ h3)
  have f69 := (e7.trans e8).trans e9
  have h6A := e10 _ _ (f69 _ _ h6)
  have h5A := e10 _ _ (f69 _ _ h56)
  have h8A := _root_.Evl.ex_t (e9.trans e10) h8
  have h9A := e10 _ _ h9
  have hxaA := _root_.Evl.ex_t E10 hxa
  have lz_a : lz ≠ a := fun z => by
    obtain ⟨_, _, _, ha, _⟩ := r0
    rw [z, E9 _ _ ha] at m9
    cases m9
  have hwA := ((((e2.trans e3).trans f39).trans e10)) _ _ hw1
  generalize upd G9 lz (.lst [.non, .ref t1, .ref l1', .ref t4, .ref t6, .ref t7]) = GA at e10 h10 E10 h2A h3A h6A h5A h8A h9A hxaA hwA ⊢
  refine ⟨a, lz, sc, ns, _, rfl, r0.ex E10, .inl lz_a, SqL.of h10, (by show 1 ≤ 6; decide), (by show 6 ≤ 1000; decide), fun j wv GB hj eB rB => ?_⟩
  have bad : BadW K p n wv GA := by
    have hm := List.mem_of_getElem? hj
    simp only [List.mem_cons, List.not_mem_nil, or_false] at hm
    rcases hm with rfl | rfl | rfl | rfl | rfl | rfl
    · exact .inl rfl
    · exact .inr (.inl ⟨t1, rfl, SqT.of h2A⟩)
    · exact .inr (.inr (.inl ⟨l1', _, rfl, SqL.of h3A⟩))
    · refine .inr (.inr (.inr (.inl ⟨rr0 ++ [0], ⟨t4, _, rfl, SqT.of h6A, .cons (RowT.new ?_) .nil⟩, by rw [List.length_append, or0.1]; rfl⟩)))
      rw [h5A, List.map_append]
      rfl
    · refine .inr (.inr (.inr (.inr (.inr ⟨[rr0, rr0], ⟨t6, _, rfl, h8A, ?_⟩, ?_, (by show 1 ≤ 2; decide), (by show 2 ≤ 30; decide), asc_twice rr0⟩))))
      · exact .cons ⟨xa, rfl, hxaA⟩ (.cons ⟨xa, rfl, hxaA⟩ .nil)
      · intro z hz
        simp only [List.mem_cons, List.not_mem_nil, or_false] at hz
        rcases hz with rfl | rfl <;> exact or0
    · exact .inr (.inr (.inr (.inr (.inl ⟨t7, rfl, SqT.of h9A⟩))))
  have rA := r0.ex E10
  have EB : Env10 K a sc ns Pt p n A W S mm ov wv u GB := Env10.tk ⟨rA, T0.ext E10, hM.ex E10, hov.ex E10, bad⟩ eB rB
  have hwB := eB _ _ wa_a hwA
  have k2_ := k1_.add (i := 11) (v := wv) (by decide) rfl
  clear rA bad h2A h3A h6A h5A h8A h9A hxaA hwA h10 E10 e10 m9 h9 E9 e9 m8 h8 E8 e8 h7 E7 e7 m6 h6 h56 E6 e6 m5 h5 E5 e5 m4 h4 E4 e4 m3 h3 h23 E3 e3 m2 h2 E2 e2 m1 hw1 f39 f69
  -- the two lambdas
  refine ⟨EB.tab, fun f1 G2 x2 T2 lam1 => ?_⟩
  have EC := EB.xt x2 T2
  have hw2 := x2 _ _ hwB fun _ z => by cases z
  refine ⟨T2, fun f2 G3 x3 T3 lam2 => ⟨(by show 2 ≤ sizeLine; decide), fun wl nwl => ?_⟩⟩
  have ED := EC.xt x3 T3
  have hw3 := x3 _ _ hw2 fun _ z => by cases z
  have lam13 := lam1.k (ExtN.k x3)
  have e4 := _root_.Evl.Ex.new (o := .lst [.ref f1, .ref f2]) nwl
  have hl4 := upd_same (H := G3) (a := wl) (o := .lst [.ref f1, .ref f2])
  have nwlwa : wl ≠ wa := fun z => by rw [z, hw3] at nwl; cases nwl
  have nwla : wl ≠ a := fun z => by
    obtain ⟨_, _, _, ha, _⟩ := ED.row
    rw [z, ha] at nwl
    cases nwl
  have hw4 := e4 _ _ hw3
  have EE := ED.ex e4
  have L1 := lam13.k (Ex.k e4)
  have L2 := lam2.k (Ex.k e4)
  generalize upd G3 wl (.lst [.ref f1, .ref f2]) = G4 at e4 hl4 hw4 EE L1 L2 ⊢
  refine ⟨wl, rfl, ⟨_, SqL.of hl4⟩, ?_⟩
  refine for_list (K := K) (a := wl) (xs := [.ref f1, .ref f2]) (fun i t_ G => Keep 14 [(2, mm), (5, ov), (10, .ref wa), (11, wv)] t_ ∧ Env10 K a sc ns Pt p n A W S mm ov wv u G ∧ Kp G4 G ∧ G wl = some (.lst [.ref f1, .ref f2]) ∧ G wa = some (.lst (List.replicate i (.str "memory"))))
    ?_ (fun i t_ G _ ⟨_, _, _, h, _⟩ => SqL.of h) (fun i y t_ G hx p' => ?_) (fun t_ G p' => ?_)
  · exact ⟨k2_.sub (by intro x hx; simp only [List.mem_cons, List.not_mem_nil, or_false] at hx ⊢; grind), EE, Kp.refl _, hl4, hw4⟩
  · obtain ⟨kt, EG, kG, hG, wG⟩ := p'
    have hi : i < 2 := (List.getElem?_eq_some_iff.mp hx).1
    obtain ⟨fx, rfl, lam⟩ : ∃ fx, y = .ref fx ∧ (IsLam (LX P w K mg base f c Ar outer s0 H0 Ez).env psA bA scA none fx G ∨ IsLam (LX P w K mg base f c Ar outer s0 H0 Ez).env psB bB scB (some 0) fx G) := by
      rcases (show i = 0 ∨ i = 1 by omega) with rfl | rfl
      · exact ⟨f1, (Option.some.inj hx).symm, .inl (L1.k kG)⟩
      · exact ⟨f2, (Option.some.inj hx).symm, .inr (L2.k kG)⟩
    refine wY _ _ _ fx wa _ a sc ns Pt p n A W S mm ov wv u ((kt.add (i := 12) (v := .ref fx) (by decide) rfl).sub (by intro x hx; simp only [List.mem_cons, List.not_mem_nil, or_false] at hx ⊢; grind)) EG M s2 ou wp wa_a offW wG (by rw [List.length_replicate]; omega) lam fun y' G' E' k' ll' w' => ?_
    exact ⟨((kt.put (i := 12) (some (.ref fx)) rfl).put (i := 13) y' rfl).put (i := 13) none rfl, E', kG.trans k', ll' wl _ nwlwa nwla hG, by rw [w', ← List.replicate_succ']⟩
  · obtain ⟨kt, EG, kG, hG, wG⟩ := p'
    refine ⟨_, kt.get rfl, (by show 1 ≤ sizeLine; decide), fun g ng => ?_⟩
    have y1 := _root_.Evl.Ex.new (o := .lst [.str "memory"]) ng
    refine ⟨g, 2, [.str "memory"], rfl, rfl, upd_same, by decide, by decide, (by show 1 * 2 ≤ sizeLine; decide), fun g2 ng2 => ?_⟩
    have y2 := _root_.Evl.Ex.new (o := .lst (List.replicate (2 : Int).toNat [V.str "memory"]).flatten) ng2
    have y12 := y1.trans y2
    refine ⟨.list (List.replicate 2 (.str "memory")), .list (List.replicate 2 (.str "memory")), .lst (SqL.of (y12 _ _ wG)) (.cons (.str _) (.cons (.str _) .nil)), .lst (SqL.of upd_same) (.cons (.str _) (.cons (.str _) .nil)), by decide +kernel, by decide +kernel, ?_⟩
    rw [show PyData.eqv (.list (List.replicate 2 (.str "memory"))) (.list (List.replicate 2 (.str "memory"))) = true by decide +kernel]
    exact q _
end
end K01


set_option Elab.async false
set_option linter.all false
set_option maxRecDepth 100000
set_option maxHeartbeats 8000000
/-! The law -/
namespace K01
open PySem PySem.Spec PyProof.Rows L2 LamX Can
def spLaw (K : PySem.W.Frag) (Pt : Addr) : Sp := fun vs H Q _ => ∃ (sc : Addr) (ns : List Int), vs = [.ref sc] ∧ SqL K H sc (ns.map V.int) ∧ Tabs [(Pt, qLam)] H ∧ ∀ H', Q (.bl true) H'
/-- the law's def, its code object at c -/
structure FunC (K : PySem.W.Frag) (c : Addr) (f : Addr) (fd : FuncData) : Prop where
  ex : ∃ (oc : Value) (od : Option Addr) (kV doc pm : Value) (an : Option Addr) (ct : Value) (osl : Array (Option Value)),
    fd = PySem.W.fnOf "law" "law" (defArgs s_law) (defBody s_law) (defScope s_law) .none kV doc pm an (.ref c) ct ∧ K.lookup f = some ⟨oc, od, .func fd, osl⟩ ∧ PySem.W.codeIn K (.ref c) "law" = true
theorem code_lex {B : Int} : ∀ {a b : List Int}, a.length = b.length → TS.Bd B a → TS.Bd B b → TS.code B a ≤ TS.code B b → a ≠ b → HT.lexLt a b = true
  | [], [], _, _, _, _, ne => absurd rfl ne
  | [], _ :: _, h, _, _, _, _ => by simp at h
  | _ :: _, [], h, _, _, _, _ => by simp at h
  | x :: a, y :: b, h, ha, hb, c, ne => by
    have hl : a.length = b.length := by simpa using h
    rw [HT.lexLt_cons]
    by_cases e : x = y
    · subst e
      rw [if_pos rfl]
      refine code_lex hl ha.tail hb.tail ?_ fun z => ne (by rw [z])
      rcases Int.lt_or_le (TS.code B b) (TS.code B a) with z | z
      · have := (TS.code_same (d := x) hl.symm).2 z
        omega
      · exact z
    · rw [if_neg e]
      rcases Int.lt_trichotomy x y with z | z | z
      · exact decide_eq_true z
      · exact absurd z e
      · have := TS.code_lt hl.symm hb.tail ha.tail z
        omega
theorem asc_of : ∀ {R : List Row}, R.Pairwise (fun a b => HT.lexLt a b = true) → ascR R = true
  | [], _ => rfl
  | [_], _ => rfl
  | x :: y :: R, h => by
    have h1 := (List.pairwise_cons.mp h).1 y List.mem_cons_self
    have h2 := asc_of (R := y :: R) (List.pairwise_cons.mp h).2
    unfold ascR at h2 ⊢
    rw [List.tail_cons, List.zip_cons_cons, List.map_cons, List.all_cons]
    show (HT.lexLt x y && _) = true
    rw [h1]
    exact h2
theorem alike_rowU {K : PySem.W.Frag} {r : Row} {x y : V} {H : Hp} (hx : RowT K r x H) (hy : RowT K r y H) (l : r.length ≤ 1000) : AlikeU K 1 x y H := by
  obtain ⟨a, rfl, ha⟩ := hx
  obtain ⟨b, rfl, hb⟩ := hy
  refine .inr (.inl ⟨a, b, _, _, rfl, rfl, ha, hb, rfl, by rw [List.length_map]; exact l, fun i u v e1 e2 => ?_⟩)
  rw [e1] at e2
  obtain rfl : u = v := Option.some.inj e2
  obtain ⟨n, _, rfl⟩ := at_map e1
  exact ⟨.int n, rfl⟩
theorem alike_pair {K : PySem.W.Frag} {r : Option (Nat × Nat)} {x y : V} {H : Hp} (hx : PairT K r x H) (hy : PairT K r y H) : AlikeU K 1 x y H := by
  rcases r with _ | ⟨t, s⟩
  · obtain rfl : x = .non := hx
    obtain rfl : y = .non := hy
    exact .inl ⟨.non, rfl⟩
  · exact alike_rowU hx hy (by show 2 ≤ 1000; decide)
section
variable {P : Program} {w : World} {K : PySem.W.Frag} {mg : Str → Option Value} {base : Heap}
theorem ok_law {f c Pt CM : Addr} {fd : FuncData} (B : Bare mg) (nS : mg "set" = none) (F : FunC K c f fd) (TB : TabB base mg c Pt) (Er : ErrL K mg CM) (G : Defs P w K mg base CM) : FnOk P w K mg base (L2.CX P w) 11 f fd p_law (spLaw K Pt) := by
  obtain ⟨oc, od, kV, doc, pm, an, ct, osl, rfl, lk, hcd⟩ := F.ex
  refine fn_of (N := n_law) lk hcd sc_law (fun vs H Q E h => ?_) (fun Ar outer s H vs Q E hr h => ?_)
  · obtain ⟨sc, ns, rfl, _⟩ := h
    rfl
  · obtain ⟨sc, ns, rfl, hsc, hT, q⟩ := h
    have hr1 : Room 1 _ := hr.mono (by decide)
    have hr2 : Room 2 _ := hr.mono (by decide)
    have hr3 : Room 3 _ := hr.mono (by decide)
    have hr4 : Room 4 _ := hr.mono (by decide)
    have hr9 : Room 9 _ := hr.mono (by decide)
    have hu : (LX P w K mg base f c Ar outer s H E).A.units + 64 < cLine := Nat.lt_of_le_of_lt (Nat.add_le_add_left (by decide) _) hr.units
    obtain ⟨tR, pR, wR⟩ := restOk (c := c) (f := f) B TB Er G (Ar := Ar) (outer := outer) (s0 := s) (H0 := H) (Ez := E) hr
    refine ⟨_, pss_cons (ps_set (i := 1) sc_law.nd rfl (Or.inr rfl) (pe_lst (pa_cons (pv 0) (pa_cons pe_int (pa_cons pe_int (pa_cons pe_int pa_nil))))))
      (pss_cons (ps_set (i := 2) sc_law.nd rfl (Or.inr rfl) (pe_got G.machine hr3 pass0 (pa_cons (pv 1) (pa_cons (pe_lst (pa_cons pe_int (pa_cons pe_int pa_nil))) (pa_cons pe_int (pa_cons pe_int pa_nil))))))
      (pss_cons (ps_asg (pe_tup (pa_cons (pe_ix ix_tup (pv 2) pe_int (fun _ _ => rfl)) (pa_cons (pe_callB call_len_seq (by rfl) B.len PySem.boot_len (pa_cons (pe_ix ix_tup (pv 2) pe_int (fun _ _ => rfl)) pa_nil)) pa_nil))) (pg_tup rfl (pgs_cons (pg_name (i := 3) sc_law.nd rfl (Or.inr rfl)) (pgs_cons (pg_name (i := 4) sc_law.nd rfl (Or.inr rfl)) pgs_nil))))
      (pss_cons (ps_asg (pe_tup (pa_cons (pe_got G.row hr2 pass0 (pa_cons (pv 1) (pa_cons (pv 3) (pa_cons (pv 4) pa_nil)))) (pa_cons (pe_got G.row hr2 pass0 (pa_cons (pv 1) (pa_cons (pv 3) (pa_cons (pv 4) pa_nil)))) pa_nil))) (pg_tup rfl (pgs_cons (pg_name (i := 5) sc_law.nd rfl (Or.inr rfl)) (pgs_cons (pg_name (i := 6) sc_law.nd rfl (Or.inl rfl)) pgs_nil))))
      (pss_cons (ps_set (i := 7) sc_law.nd rfl (Or.inl rfl) (pe_got G.lfirst hr3 pass0 (pa_cons (pv 2) (pa_cons (pv 5) (pa_cons (pv 6) pa_nil)))))
      (pss_cons (ps_if (pt_not (pt_val (pe_got G.lis hr1 pass0 (pa_cons (pe_got G.apart hr9 (passes_call (takes_of rfl rfl rfl rfl) fun _ _ _ _ z => z) (pa_cons (pv 2) (pa_cons (pv 5) (pa_cons (pv 6) pa_nil)))) (pa_cons (pe_cmpR op_notN (pv 7) pe_non rfl) pa_nil))))) (pss_one (ps_ret pe_bl)) pss_nil)
      (pss_cons (ps_if (pt_not (pt_val (pe_got G.alike hr2 pass0 (pa_cons (pe_got G.look hr9 (passes_call (takes_of rfl rfl rfl rfl) fun _ _ _ _ z => z) (pa_cons (pv 2) (pa_cons (pv 5) (pa_cons (pv 6) pa_nil)))) (pa_cons (pv 7) pa_nil))))) (pss_one (ps_ret pe_bl)) pss_nil)
      (pss_cons (ps_set (i := 8) sc_law.nd rfl (Or.inl rfl) (pe_callTy call_tuple_of (by rfl) B.tuple (by decide +kernel) (pa_cons (pe_callB (show CallR _ (.builtin "sorted") (rSortA K P w) from cr_sortA rfl) (by rfl) B.sorted (by decide +kernel) (pa_cons (pe_callTy (show CallR _ (.type "set") (rSetOfT K P w) from cr_setOfT rfl hu) (by rfl) nS (by decide +kernel) (pa_cons (pe_lc (own := [("turn", 9)]) (g := gName 9) (tt := tYes) rfl sc_law.nd (pi_range1 rfl B.range (pa_cons (pe_op op_add pe_int (pe_got G.taken hr1 pass0 (pa_cons (pv 1) (pa_cons pe_int pa_nil)))) pa_nil)) (blkOk_by (N := n_law) (sc := defScope s_law) (by decide +kernel))
          (fun _ _ _ _ _ => pg_name (i := 9) sc_law.nd rfl (Or.inl rfl)) (fun _ _ _ _ _ => pts_nil) (fun _ _ _ _ _ => pe_got G.row hr2 pass0 (pa_cons (pv 1) (pa_cons (pv 3) (pa_cons (pv 4) pa_nil))))) pa_nil)) pa_nil)) pa_nil)))
      (pss_cons (ps_if (pt_not (pt_val (pe_got G.alike hr2 pass0 (pa_cons (pe_got G.fewest hr9 (passes_call (takes_of rfl rfl rfl rfl) fun _ _ _ _ z => z) (pa_cons (pv 2) (pa_cons (pv 8) pa_nil))) (pa_cons (pe_got G.looks hr4 pass0 (pa_cons (pv 2) (pa_cons (pv 8) pa_nil))) pa_nil))))) (pss_one (ps_ret pe_bl)) pss_nil)
      pR)))))))), ?_⟩
    -- the drawer's row
    refine ⟨_, rfl, (by show 4 ≤ sizeLine; decide), fun a na => ?_⟩
    have r1 : Row0 K a sc ns (upd H a (.lst [.ref sc, .int 0, .int 7610, .int 0])) := row0_new (off_of na hsc) hsc (by decide) (by decide) (by decide)
    have Tb1 : Tabs [(Pt, qLam)] (upd H a (.lst [.ref sc, .int 0, .int 7610, .int 0])) := hT.ext (_root_.Evl.Ex.new na)
    generalize upd H a (.lst [.ref sc, .int 0, .int 7610, .int 0]) = H1 at r1 Tb1 ⊢
    -- the machine
    refine ⟨_, rfl, (by show 2 ≤ sizeLine; decide), fun t nt => ?_⟩
    have e2 : Ex H1 (upd H1 t (.lst [.int 2, .int 3])) := _root_.Evl.Ex.new nt
    have ta_ : t ≠ a := fun z => by
      obtain ⟨_, _, _, ha, _⟩ := r1
      rw [z, ha] at nt
      cases nt
    refine ⟨a, t, sc, ns, [2, 3], 3, 2, rfl, r1.ex e2, ta_, SqL.of upd_same, (fun p hp => ?_), by decide, by decide, by decide, by decide, by decide, by decide, fun v2 H2 eB2 r2 hD => ?_⟩
    · simp only [List.mem_cons, List.not_mem_nil, or_false] at hp
      rcases hp with rfl | rfl <;> decide
    obtain ⟨p, n, A, W, S, hp, n1, n3, hM2, oA, lA, fA, oW, oS, neW, lW, neS, lS⟩ := hD
    have hp' : p = 2 ∨ p = 3 := by
      simp only [List.mem_cons, List.not_mem_nil, or_false] at hp
      omega
    have prm : isPrm (.int p) = true := by rcases hp' with rfl | rfl <;> rfl
    have pb := prm_bd prm
    have M : MOk p n A W S := ⟨pb.1, pb.2, prmI prm, n1, by omega, oA, lA, oW, by omega, oS, by omega⟩
    have p1 := M.p1
    have p2 := M.p2
    have w1 := List.length_pos_iff.mpr neW
    have s1 := List.length_pos_iff.mpr neS
    have s2 : S.length ≤ 2 := by omega
    have wp : ∀ {v : V} {G : Hp}, MachT K p A W S v G → WP K G v none := fun h => wp_good M prm fA w1 (by omega) s1 (by omega) h
    have Tb2 := tabs_n ((r1.ex e2).n eB2) (Tb1.ext e2)
    clear nt ta_ e2 eB2 r1 Tb1
    obtain ⟨m, av, wv, sv, rfl, hm2, ⟨ab, aus, rfl, hab2, pab⟩, hW2, hS2⟩ := id hM2
    have la : aus.length = n := (pr_len pab).trans lA
    -- prime and many
    refine ⟨_, rfl, m, _, _, _, rfl, rfl, hm2, at_of (j := 0) rfl rfl, _, rfl, m, _, _, _, rfl, rfl, hm2, at_of (j := 1) rfl rfl, ab, aus, rfl, .inr hab2, (by show 2 ≤ sizeLine; decide), fun t3 n3' => ?_⟩
    have e3 := _root_.Evl.Ex.new (o := .tup [.int p, .int ((aus.length : Nat) : Int)]) n3'
    have h3 := upd_same (H := H2) (a := t3) (o := .tup [.int p, .int ((aus.length : Nat) : Int)])
    generalize upd H2 t3 (.tup [.int p, .int ((aus.length : Nat) : Int)]) = H3 at e3 h3 ⊢
    rw [la] at h3
    refine ⟨t3, _, rfl, SqT.of h3, rfl, _, _, rfl, _, _, rfl, rfl, ?_⟩
    have r3 := r2.ex e3
    have hM3 := hM2.ex e3
    have Tb3 := Tb2.ext e3
    -- one and other
    refine ⟨_, rfl, _, rfl, _, rfl, a, sc, ns, p, n, rfl, r3, p1, p2, by omega, fun ov H4 eB4 r4 h4 => ?_⟩
    obtain ⟨u, hu4, ou⟩ := h4
    refine ⟨_, rfl, _, rfl, _, rfl, a, sc, ns, p, n, rfl, r4, p1, p2, by omega, fun ov2 H5 eB5 r5 h5 => ?_⟩
    obtain ⟨v, hv5, ow⟩ := h5
    refine ⟨(by show 2 ≤ sizeLine; decide), fun t6 n6 => ?_⟩
    have e6 := _root_.Evl.Ex.new (o := .tup [ov, ov2]) n6
    have h6 := upd_same (H := H5) (a := t6) (o := .tup [ov, ov2])
    have x35 := (r3.n eB4)
    have x45 := (r4.n eB5)
    have hM6 := ((hM3.n x35).n x45).ex e6
    have hu6 := (hu4.n x45).ex e6
    have hv6 := hv5.ex e6
    have Tb6 := (tabs_n x45 (tabs_n x35 Tb3)).ext e6
    have r6 := r5.ex e6
    generalize upd H5 t6 (.tup [ov, ov2]) = H6 at e6 h6 hM6 hu6 hv6 Tb6 r6 ⊢
    refine ⟨t6, _, rfl, SqT.of h6, rfl, _, _, rfl, _, _, rfl, rfl, ?_⟩
    -- where they are told apart
    refine ⟨_, rfl, _, rfl, _, rfl, p, n, .ref m, ov, ov2, A, W, S, u, v, rfl, hM6, M, hu6, hv6, ou, ow, fun dv H7 e7 hd => ?_⟩
    obtain ⟨r, fr, pr⟩ := hd
    have all := dfs_all M ou ow
    refine ⟨_, rfl, _, rfl, _, rfl, p, n, .ref m, ov, ov2, A, W, S, u, rfl, wp (hM6.ex e7), hM6.ex e7, fun G h => wp h, M, hu6.ex e7, ou, .inl ⟨v, hv6.ex e7, ow, fun x8 H8 e8 h8 => ?_⟩⟩
    obtain ⟨r', fr', rfl⟩ := h8
    have er : r' = r := Fst2.one fr' fr (by omega) all
    subst er
    refine ⟨_, rfl, rfl, r'.isSome, ?_, fun z9 H9 e9 h9 => ?_⟩
    · rcases r' with _ | ⟨t, s⟩
      · obtain rfl : dv = .non := pr
        rfl
      · obtain ⟨_, rfl, _⟩ := pr
        rfl
    cases (show z9 = _ from h9)
    refine ⟨_, rfl, iteF ?_⟩
    have e69 := (e7.trans e8).trans e9
    refine ⟨_, rfl, _, rfl, _, rfl, p, n, .ref m, ov, ov2, A, W, S, u, rfl, wp (hM6.ex e69), hM6.ex e69, fun G h => wp h, M, hu6.ex e69, ou, .inl ⟨v, hv6.ex e69, ow, fun x10 H10 e10 h10 => ?_⟩⟩
    obtain ⟨r2', fr2, pr2⟩ := h10
    have er2 : r2' = r' := Fst2.one fr2 fr (by omega) all
    subst er2
    have prA : PairT K r2' dv H10 := by
      rcases r2' with _ | ⟨t, s⟩
      · exact pr
      · exact RowT.ex ((e8.trans e9).trans e10) pr
    refine ⟨_, rfl, x10, dv, rfl, alike_pair pr2 prA, fun z11 H11 e11 h11 => ?_⟩
    cases (show z11 = _ from h11)
    refine ⟨_, rfl, iteF ?_⟩
    have e6B := (e69.trans e10).trans e11
    have rB := r6.ex e6B
    have hMB := hM6.ex e6B
    have huB := hu6.ex e6B
    have TbB := Tb6.ext e6B
    clear pr2 prA fr2 fr fr' pr all e11 e10 e9 e8 e7 e69 h6 e6 h3
    -- the memories
    refine ⟨_, rfl, a, sc, ns, 6, rfl, rB, by decide, by decide, fun k H12 k0 k1 eB12 r12 => ⟨_, _, rfl, rfl, _, rfl, by omega, by omega, ?_⟩⟩
    refine lc_row (a := a) (n := (1 + k).toNat) (by omega) r12 (fun y H' => ∃ r, RowT K r y H' ∧ Lin.OkR p n r) (fun y G G' e ⟨r, z, o⟩ => ⟨r, z.n e, o⟩) (fun i x G hi ex eG rG C N hC => ?_) fun D ys H13 nD eB13 r13 hD hl hy => ?_
    · exact ⟨rfl, yes_go ⟨_, rfl, _, rfl, _, rfl, a, sc, ns, p, n, rfl, rG, p1, p2, by omega, fun y G' e' rG' hh => hC y G' e' rG' hh⟩⟩
    · obtain ⟨R0, pR0, oR0⟩ := rows_ofB hy
      have lR0 := pr_len pR0
      obtain ⟨kq, rfl, kq2, kq3⟩ := rows_ks pR0
      have lkq : kq.length = (1 + k).toNat := by rw [← hl, List.length_map]
      refine ⟨D, kq, rfl, SqL.of hD, kq3, by omega, fun a1 L1 na1 q1 q2 => ?_⟩
      have e14 := _root_.Evl.Ex.new (o := SetTO P w a1 L1) na1
      have h14 := upd_same (H := H13) (a := a1) (o := SetTO P w a1 L1)
      generalize upd H13 a1 (SetTO P w a1 L1) = H14 at e14 h14 ⊢
      have okL : ∀ z ∈ L1, Lin.OkR p n z.2 := fun z hz => oR0 _ (by rw [← kq2]; exact List.mem_map.mpr ⟨z, q1 z hz, rfl⟩)
      have bdL : ∀ z ∈ L1, z.2.length = n ∧ TS.Bd p z.2 := fun z hz => ⟨(okL z hz).1, fun x hx => (okL z hz).2 x hx⟩
      refine ⟨a1, L1, n, p, rfl, h14, fun z hz => _root_.Evl.ex_t e14 (kq3 z (q1 z hz)), bdL, fun L' c15 pm nd few pw nc => ?_⟩
      have e15 := _root_.Evl.Ex.new (o := .lst (L'.map fun q => V.ref q.1)) nc
      have h15 := upd_same (H := H14) (a := c15) (o := .lst (L'.map fun q => V.ref q.1))
      generalize upd H14 c15 (.lst (L'.map fun q => V.ref q.1)) = H15 at e15 h15 ⊢
      refine ⟨c15, _, rfl, .inl ⟨SqL.of h15, fun mb nmb => ?_⟩⟩
      have e16 := _root_.Evl.Ex.new (o := .tup (L'.map fun q => V.ref q.1)) nmb
      have h16 := upd_same (H := H15) (a := mb) (o := .tup (L'.map fun q => V.ref q.1))
      generalize upd H15 mb (.tup (L'.map fun q => V.ref q.1)) = H16 at e16 h16 ⊢
      have e36 := (e14.trans e15).trans e16
      have mem' : ∀ z ∈ L', z ∈ L1 := fun z hz => pm.mem_iff.mp hz
      have hR16 : RowsT K (L'.map (·.2)) (.ref mb) H16 := by
        refine ⟨mb, _, rfl, SqT.of h16, ?_⟩
        have gen : ∀ l : List (Addr × List Int), (∀ z ∈ l, z ∈ L1) → Paired (fun x r => RowT K r x H16) (l.map fun q => V.ref q.1) (l.map (·.2)) := by
          intro l
          induction l with
          | nil => intro _; exact .nil
          | cons z l ih =>
            intro h
            exact .cons ⟨z.1, rfl, _root_.Evl.ex_t e36 (kq3 z (q1 z (h z List.mem_cons_self)))⟩ (ih fun y hy => h y (List.mem_cons_of_mem _ hy))
        exact gen L' mem'
      have oR16 : Lin.Oks p n (L'.map (·.2)) := fun r hr => by
        obtain ⟨z, hz, rfl⟩ := List.mem_map.mp hr
        exact okL z (mem' z hz)
      have len1 : 1 ≤ (L'.map (·.2)).length := by
        have : 0 < kq.length := by omega
        have hm := q2 _ (List.getElem_mem this)
        rw [List.length_map, pm.length_eq, ← List.length_map (f := (·.2)) (as := L1)]
        exact List.length_pos_of_mem hm
      have len6 : (L'.map (·.2)).length ≤ 30 := by
        have hs : ∀ x ∈ L'.map (·.2), x ∈ kq.map (·.2) := fun x hx => by
          obtain ⟨z, hz, rfl⟩ := List.mem_map.mp hx
          exact List.mem_map.mpr ⟨z, q1 z (mem' z hz), rfl⟩
        have := Lin.nd_len nd hs
        rw [List.length_map] at this ⊢
        rw [List.length_map] at this
        omega
      have as16 : ascR (L'.map (·.2)) = true := by
        refine asc_of ?_
        have nd' := nd
        unfold List.Nodup at nd'
        rw [List.pairwise_map] at nd' ⊢
        refine List.Pairwise.imp_of_mem (fun {x y} hx hy h => ?_) (nd'.and pw)
        exact code_lex (by rw [(bdL x (mem' x hx)).1, (bdL y (mem' y hy)).1]) (bdL x (mem' x hx)).2 (bdL y (mem' y hy)).2 h.2 h.1
      have xB := (rB.n eB12)
      have xC := (r12.n eB13)
      have hM16 := ((hMB.n xB).n xC).ex e36
      have hu16 := ((huB.n xB).n xC).ex e36
      have Tb16 := (tabs_n xC (tabs_n xB TbB)).ext e36
      have r16 := r13.ex e36
      generalize L'.map (·.2) = R at hR16 oR16 len1 len6 as16
      clear xB xC h16 e16 h15 e15 h14 e14 e36 pw nd few nc nmb kq3 q1 q2 okL bdL mem' pm
      -- the fewest looks
      refine ⟨_, rfl, _, rfl, p, n, .ref m, .ref mb, A, W, S, rfl, wp hM16, hM16, M, s2, .inl ⟨R, hR16, oR16, len1, len6, as16, fun x17 H17 e17 h17 => ?_⟩⟩
      obtain ⟨F', rr, rF, sF, fs, ox⟩ := h17
      refine ⟨_, rfl, _, rfl, p, n, .ref m, .ref mb, A, W, S, R, rfl, hM16.ex e17, M, s2, hR16.ex e17, oR16, len1, len6, fun x18 H18 e18 h18 => ?_⟩
      obtain ⟨rr', fs', ox'⟩ := h18
      have err : rr' = rr := FirstSol.one (fun t _ => sol_same M rF sF oR16 t) fs' fs
      subst err
      have al : AlikeU K 1 x17 x18 H18 := by
        rcases rr' with _ | wy
        · obtain rfl : x17 = .non := ox
          obtain rfl : x18 = .non := ox'
          exact .inl ⟨.non, rfl⟩
        · obtain ⟨i, hi, _, hs⟩ := fs'
          have hm := List.mem_of_find?_eq_some hs
          have lw := (allW_len hm).1
          exact alike_rowU (RowT.ex e18 ox) ox' (by rw [List.length_map, lw]; omega)
      refine ⟨x17, x18, rfl, al, fun z19 H19 e19 h19 => ?_⟩
      cases (show z19 = _ from h19)
      refine ⟨_, rfl, iteF ?_⟩
      have eF := (e17.trans e18).trans e19
      exact wR _ _ _ a sc ns p n A W S R (.ref m) ov (.ref mb) u ⟨rfl, fun i v mm => by
        simp only [List.mem_cons, List.not_mem_nil, or_false, Prod.mk.injEq] at mm
        rcases mm with ⟨rfl, rfl⟩ | ⟨rfl, rfl⟩ | ⟨rfl, rfl⟩ | ⟨rfl, rfl⟩ <;> rfl⟩ (r16.ex eF) (Tb16.ext eF) (hM16.ex eF) (hu16.ex eF) (hR16.ex eF) oR16 len1 M s2 ou (fun G h => wp h) q
end
end K01


set_option Elab.async false
set_option linter.all false
set_option maxRecDepth 100000
set_option maxHeartbeats 4000000
/-! What the top has written; the end -/
namespace K01
open PySem PySem.Spec PyProof.Rows L2
structure DefK (K : PySem.W.Frag) (x : Str) (st : Stmt) : Prop where
  ex : ∃ (f : Addr) (od an : Option Addr) (oc kV dc pm cd ct : Value) (sl : Array (Option Value)), PySem.W.nsIn K mainGlobals x = some (some (.ref f)) ∧
    K.lookup f = some ⟨oc, od, .func (PySem.W.fnOf x x (defArgs st) (defBody st) (defScope st) .none kV dc pm an cd ct), sl⟩ ∧ PySem.W.codeIn K cd x = true ∧ PySem.W.keepIn K (.ref f) = true
structure ErrK (K : PySem.W.Frag) (x : Str) (C : Addr) : Prop where
  a : PySem.W.nsIn K mainGlobals x = some (some (.ref C))
  x : PySem.W.excIn K C [.type "ValueError", .type "Exception", .type "BaseException", .type "object"] "ValueError.__new__" = true
  k : PySem.W.keepIn K (.ref C) = true
  b : PySem.W.subIn K (.ref C) (.type "BaseException") = some true
  t : PySem.W.typeIn K (.ref C) = some (.type "type")
structure IntK (K : PySem.W.Frag) (x : Str) (i : Int) : Prop where
  ex : ∃ t, PySem.W.nsIn K mainGlobals x = some (some (.int i t))
structure PrimesK (K : PySem.W.Frag) : Prop where
  ex : ∃ (a : Addr) (dd : Option Addr) (t1 t2 t3 t4 : Tok) (n : Nat) (sl : Array (Option Value)), PySem.W.nsIn K mainGlobals "PRIMES" = some (some (.ref a)) ∧ K.lookup a = some ⟨.type "tuple", dd, .seq #[.int 2 t1, .int 3 t2, .int 5 t3, .int 7 t4] n, sl⟩
structure OexK (K : PySem.W.Frag) (x fld : Str) (st : Stmt) (qual : Str) (C fI : Addr) : Prop where
  a : PySem.W.nsIn K mainGlobals x = some (some (.ref C))
  ex : OexC K C
  no : PySem.W.findIn K (.ref C) fld = some none
  ini : PySem.W.findIn K (.ref C) "__init__" = some (some (.ref fI))
  tyI : PySem.W.typeIn K (.ref fI) = some (.type "function")
  fd : ∃ (od an : Option Addr) (oc kV dc pm cd ct : Value) (sl : Array (Option Value)), K.lookup fI = some ⟨oc, od, .func (PySem.W.fnOf "__init__" qual (defArgs st) (defBody st) (defScope st) .none kV dc pm an cd ct), sl⟩ ∧ PySem.W.codeIn K cd qual = true ∧ PySem.W.keepIn K (.ref fI) = true
theorem mkOex {K : PySem.W.Frag} {x fld qual : Str} {st : Stmt} {C fI : Addr} {nm q N bs bm sn sub ab col dd k0 k1 k2 k3 k5} {od an : Option Addr} {oc kV dc pm cd ct : Value} {sl : Array (Option Value)} (a : PySem.W.nsIn K mainGlobals x = some (some (.ref C)))
    (l : K.lookup C = some (excClassObj nm q C N bs bm true sn sub ab col dd k0 k1 k2 k3 k5 "ValueError.__new__")) (r : PySem.HandSPX.refsVE bm = true) (sa : PySem.W.findIn K (.ref C) "__setattr__" = some (some (.builtin "object.__setattr__"))) (exC : PySem.W.subIn K (.ref C) (.type "BaseException") = some true)
    (tyC : PySem.W.typeIn K (.ref C) = some (.type "type")) (kC : PySem.W.keepIn K (.ref C) = true) (no : PySem.W.findIn K (.ref C) fld = some none) (ini : PySem.W.findIn K (.ref C) "__init__" = some (some (.ref fI))) (tyI : PySem.W.typeIn K (.ref fI) = some (.type "function"))
    (lf : K.lookup fI = some ⟨oc, od, .func (PySem.W.fnOf "__init__" qual (defArgs st) (defBody st) (defScope st) .none kV dc pm an cd ct), sl⟩) (cf : PySem.W.codeIn K cd qual = true) (kf : PySem.W.keepIn K (.ref fI) = true) : OexK K x fld st qual C fI :=
  ⟨a, ⟨⟨nm, q, N, bs, bm, sn, sub, ab, col, dd, k0, k1, k2, k3, k5, l, r⟩, sa, exC, tyC, kC⟩, no, ini, tyI, ⟨od, an, oc, kV, dc, pm, cd, ct, sl, lf, cf, kf⟩⟩
structure LawK (K : PySem.W.Frag) (c Pt : Addr) : Prop where
  ex : ∃ (f : Addr) (od an : Option Addr) (oc kV dc pm ct : Value) (sl : Array (Option Value)), PySem.W.nsIn K mainGlobals "law" = some (some (.ref f)) ∧
    K.lookup f = some ⟨oc, od, .func (PySem.W.fnOf "law" "law" (defArgs s_law) (defBody s_law) (defScope s_law) .none kV dc pm an (.ref c) ct), sl⟩ ∧ PySem.W.codeIn K (.ref c) "law" = true
  hd : PySem.W.codeHdIn K c Pt = true
  no : K.lookup Pt = none
theorem mkLaw {K : PySem.W.Frag} {cA Pt f : Addr} {od an : Option Addr} {oc kV dc pm ct : Value} {sl : Array (Option Value)} (a : PySem.W.nsIn K mainGlobals "law" = some (some (.ref f)))
    (l : K.lookup f = some ⟨oc, od, .func (PySem.W.fnOf "law" "law" (defArgs s_law) (defBody s_law) (defScope s_law) .none kV dc pm an (.ref cA) ct), sl⟩) (c : PySem.W.codeIn K (.ref cA) "law" = true) (hd : PySem.W.codeHdIn K cA Pt = true) (no : K.lookup Pt = none) : LawK K cA Pt := ⟨⟨f, od, an, oc, kV, dc, pm, ct, sl, a, l, c⟩, hd, no⟩
structure TopK (K : PySem.W.Frag) (c Pt CM CB fI_CB : Addr) : Prop where
  d_is_number : DefK K "is_number" s_is_number
  d_is_prime : DefK K "is_prime" s_is_prime
  d_is_row : DefK K "is_row" s_is_row
  d_is_rows : DefK K "is_rows" s_is_rows
  d_meet : DefK K "meet" s_meet
  d_inverse : DefK K "inverse" s_inverse
  d_times : DefK K "times" s_times
  d_less : DefK K "less" s_less
  d_first_place : DefK K "first_place" s_first_place
  d_remainder : DefK K "remainder" s_remainder
  d_with_row : DefK K "with_row" s_with_row
  d_staircase : DefK K "staircase" s_staircase
  d_is_stir : DefK K "is_stir" s_is_stir
  d_wrong_part : DefK K "wrong_part" s_wrong_part
  d_check_machine : DefK K "check_machine" s_check_machine
  d_check_memory : DefK K "check_memory" s_check_memory
  d_stirred : DefK K "stirred" s_stirred
  d_closure : DefK K "closure" s_closure
  d_looks : DefK K "looks" s_looks
  d_told_by : DefK K "told_by" s_told_by
  d_check_memories : DefK K "check_memories" s_check_memories
  d_first_seen_apart : DefK K "first_seen_apart" s_first_seen_apart
  d_are_apart : DefK K "are_apart" s_are_apart
  d_first_look : DefK K "first_look" s_first_look
  d_parted : DefK K "parted" s_parted
  d_looks_apart : DefK K "looks_apart" s_looks_apart
  d_further_looks : DefK K "further_looks" s_further_looks
  d_fewest_looks : DefK K "fewest_looks" s_fewest_looks
  d_law_taken : DefK K "_law_taken" s_law_taken
  d_law_pick : DefK K "_law_pick" s_law_pick
  d_law_row : DefK K "_law_row" s_law_row
  d_law_stir : DefK K "_law_stir" s_law_stir
  d_law_machine : DefK K "_law_machine" s_law_machine
  d_law_met : DefK K "_law_met" s_law_met
  d_law_stirred : DefK K "_law_stirred" s_law_stirred
  d_law_first : DefK K "_law_first" s_law_first
  d_law_is : DefK K "_law_is" s_law_is
  d_law_seen : DefK K "_law_seen" s_law_seen
  d_law_looks : DefK K "_law_looks" s_law_looks
  d_law_alike : DefK K "_law_alike" s_law_alike
  law : LawK K c Pt
  e_CM : ErrK K "BadMemory" CM
  e_CB : OexK K "BadMachine" "part" s_BadMachine_init "BadMachine.__init__" CB fI_CB
  x_CMCM : PySem.W.exmOne K (.ref CM) (.ref CM) = some true
  primes : PrimesK K
  i_MOST_CELLS : IntK K "MOST_CELLS" 4
  i_MOST_PLUGS : IntK K "MOST_PLUGS" 4
  i_MOST_MEMORIES : IntK K "MOST_MEMORIES" 30
  i_MOST_LOOKS : IntK K "MOST_LOOKS" 8
  z_len : PySem.W.nsIn K mainGlobals "len" = some none
  z_zip : PySem.W.nsIn K mainGlobals "zip" = some none
  z_tuple : PySem.W.nsIn K mainGlobals "tuple" = some none
  z_list : PySem.W.nsIn K mainGlobals "list" = some none
  z_sorted : PySem.W.nsIn K mainGlobals "sorted" = some none
  z_enumerate : PySem.W.nsIn K mainGlobals "enumerate" = some none
  z_range : PySem.W.nsIn K mainGlobals "range" = some none
  z_isinstance : PySem.W.nsIn K mainGlobals "isinstance" = some none
  z_int : PySem.W.nsIn K mainGlobals "int" = some none
  z_bool : PySem.W.nsIn K mainGlobals "bool" = some none
  z_str : PySem.W.nsIn K mainGlobals "str" = some none
  z_all : PySem.W.nsIn K mainGlobals "all" = some none
  z_sum : PySem.W.nsIn K mainGlobals "sum" = some none
  z_max : PySem.W.nsIn K mainGlobals "max" = some none
  z_set : PySem.W.nsIn K mainGlobals "set" = some none
abbrev DefX {K : PySem.W.Frag} {h : Heap} (_ : K.In h) (x : Str) (st : Stmt) : Prop := DefK K x st
abbrev NoX {K : PySem.W.Frag} {h : Heap} (_ : K.In h) (x : Str) : Prop := PySem.W.nsIn K mainGlobals x = some none
theorem mkDef {K : PySem.W.Frag} {x : Str} {st : Stmt} {f : Addr} {od an : Option Addr} {oc kV dc pm cd ct : Value} {sl : Array (Option Value)} (a : PySem.W.nsIn K mainGlobals x = some (some (.ref f)))
    (l : K.lookup f = some ⟨oc, od, .func (PySem.W.fnOf x x (defArgs st) (defBody st) (defScope st) .none kV dc pm an cd ct), sl⟩) (c : PySem.W.codeIn K cd x = true) (k : PySem.W.keepIn K (.ref f) = true) : DefK K x st := ⟨⟨f, od, an, oc, kV, dc, pm, cd, ct, sl, a, l, c, k⟩⟩
theorem mkPrimes {K : PySem.W.Frag} {a : Addr} {dd : Option Addr} {t1 t2 t3 t4 : Tok} {n : Nat} {sl : Array (Option Value)} (h : PySem.W.nsIn K mainGlobals "PRIMES" = some (some (.ref a))) (l : K.lookup a = some ⟨.type "tuple", dd, .seq #[.int 2 t1, .int 3 t2, .int 5 t3, .int 7 t4] n, sl⟩) : PrimesK K :=
  ⟨⟨a, dd, t1, t2, t3, t4, n, sl, h, l⟩⟩
theorem mkInt {K : PySem.W.Frag} {x : Str} {i : Int} {t : Tok} (h : PySem.W.nsIn K mainGlobals x = some (some (.int i t))) : IntK K x i := ⟨⟨t, h⟩⟩
section
variable {P : Program} {w : World} {K : PySem.W.Frag} {mg : Str → Option Value} {base h : Heap}
theorem DefK.got {x : Str} {st : Stmt} {ps : List Str} {sp : Sp} {k : Nat} {CX : CXT} (X : K.In h) (G : h.Ns mainGlobals mg) (D : DefK K x st)
    (bind : ∀ (kV doc pm : Value) (an : Option Addr) (cdv ct : Value) (us : List Value), us.length = ps.length → bindArgs (PySem.W.fnOf x x (defArgs st) (defBody st) (defScope st) .none kV doc pm an cdv ct) ⟨us, []⟩ = pure (ps.zip us))
    (ok : ∀ f fd, Fun K x x st f fd → FnOk P w K mg base CX k f fd ps sp) : Got P w K mg base CX k x ps sp := by
  obtain ⟨f, od, an, oc, kV, dc, pm, cd, ct, sl, a, l, c, kp⟩ := D.ex
  have F := fun_mk (st := st) l c kp
  exact ⟨f, _, PySem.W.mg_of X G a, kp, F.binds bind, ok f _ F⟩

theorem err_of {x : Str} {C : Addr} (X : K.In h) (G : h.Ns mainGlobals mg) (D : ErrK K x C) : ErrC K mg x C := ⟨PySem.W.mg_of X G D.a, D.x, D.k, D.b, D.t⟩
theorem defs_of {c Pt CM CB fI_CB : Addr} (X : K.In h) (G : h.Ns mainGlobals mg) (T : TopK K c Pt CM CB fI_CB) : Bare mg ∧ Defs P w K mg base CM := by
  have B : Bare mg := ⟨PySem.W.mg_none_of X G T.z_len, PySem.W.mg_none_of X G T.z_zip, PySem.W.mg_none_of X G T.z_tuple, PySem.W.mg_none_of X G T.z_list, PySem.W.mg_none_of X G T.z_sorted, PySem.W.mg_none_of X G T.z_enumerate, PySem.W.mg_none_of X G T.z_range, PySem.W.mg_none_of X G T.z_isinstance, PySem.W.mg_none_of X G T.z_int, PySem.W.mg_none_of X G T.z_bool, PySem.W.mg_none_of X G T.z_str, PySem.W.mg_none_of X G T.z_all, PySem.W.mg_none_of X G T.z_sum, PySem.W.mg_none_of X G T.z_max, PySem.W.mg_none_of X G T.z_set⟩
  have E_CM := err_of X G T.e_CM
  have g_CB := PySem.W.mg_of X G T.e_CB.a
  obtain ⟨od_CB, an_CB, oc_CB, kV_CB, dc_CB, pm_CB, cd_CB, ct_CB, sl_CB, lf_CB, cf_CB, kf_CB⟩ := T.e_CB.fd
  have FI_CB := fun_mk (st := s_BadMachine_init) lf_CB cf_CB kf_CB
  obtain ⟨aP, dd, t1, t2, t3, t4, nP, slP, hP1, hP2⟩ := T.primes.ex
  have gP := PySem.W.mg_of X G hP1
  have hP : ∀ H : Hp, SqT K H aP [.int 2, .int 3, .int 5, .int 7] := fun H => .inr ⟨_, _, nP, hP2, rfl, rfl, (by show 4 ≤ sizeLine; decide), .cons ⟨_, rfl⟩ (.cons ⟨_, rfl⟩ (.cons ⟨_, rfl⟩ (.cons ⟨_, rfl⟩ .nil)))⟩
  have M_ : BadM K mg CB fI_CB := ⟨T.e_CB.ex, g_CB, T.e_CB.no, T.e_CB.ini, T.e_CB.tyI⟩
  obtain ⟨tk_MOST_CELLS, hk_MOST_CELLS⟩ := T.i_MOST_CELLS.ex
  have m_MOST_CELLS := PySem.W.mg_of X G hk_MOST_CELLS
  obtain ⟨tk_MOST_PLUGS, hk_MOST_PLUGS⟩ := T.i_MOST_PLUGS.ex
  have m_MOST_PLUGS := PySem.W.mg_of X G hk_MOST_PLUGS
  obtain ⟨tk_MOST_MEMORIES, hk_MOST_MEMORIES⟩ := T.i_MOST_MEMORIES.ex
  have m_MOST_MEMORIES := PySem.W.mg_of X G hk_MOST_MEMORIES
  obtain ⟨tk_MOST_LOOKS, hk_MOST_LOOKS⟩ := T.i_MOST_LOOKS.ex
  have m_MOST_LOOKS := PySem.W.mg_of X G hk_MOST_LOOKS
  have gNum : Got P w K mg base CX0 1 "is_number" p_is_number spNumber := T.d_is_number.got X G (fun _ _ _ _ _ _ us hl => match us, hl with | [_, _, _], _ => rfl) fun f fd F => ok_number B F
  have gPrime : Got P w K mg base CX0 2 "is_prime" p_is_prime spPrime := T.d_is_prime.got X G (fun _ _ _ _ _ _ us hl => match us, hl with | [_], _ => rfl) fun f fd F => ok_prime F gNum gP hP
  have gRow : Got P w K mg base CX0 2 "is_row" p_is_row (spIsRow K) := T.d_is_row.got X G (fun _ _ _ _ _ _ us hl => match us, hl with | [_, _, _], _ => rfl) fun f fd F => ok_isrow B F gNum
  have gRows : Got P w K mg base CX0 3 "is_rows" p_is_rows (spIsRows K) := T.d_is_rows.got X G (fun _ _ _ _ _ _ us hl => match us, hl with | [_, _, _, _], _ => rfl) fun f fd F => ok_isrows B F gRow
  have gRowX : Got P w K mg base CX0 2 "is_row" p_is_row (spIsRowX K) := T.d_is_row.got X G (fun _ _ _ _ _ _ us hl => match us, hl with | [_, _, _], _ => rfl) fun f fd F => ok_isrowX B F gNum
  have gMeet : Got P w K mg base CX0 1 "meet" p_meet (spMet K) := T.d_meet.got X G (fun _ _ _ _ _ _ us hl => match us, hl with | [_, _, _], _ => rfl) fun f fd F => ok_meet B F
  have gInv : Got P w K mg base CX0 1 "inverse" p_inverse spInverse := T.d_inverse.got X G (fun _ _ _ _ _ _ us hl => match us, hl with | [_, _], _ => rfl) fun f fd F => ok_inverse F
  have gTimes : Got P w K mg base CX0 1 "times" p_times (spTimes K) := T.d_times.got X G (fun _ _ _ _ _ _ us hl => match us, hl with | [_, _, _], _ => rfl) fun f fd F => ok_times B F
  have gLess : Got P w K mg base CX0 1 "less" p_less (spLess K) := T.d_less.got X G (fun _ _ _ _ _ _ us hl => match us, hl with | [_, _, _, _], _ => rfl) fun f fd F => ok_less B F
  have gFirst : Got P w K mg base CX0 1 "first_place" p_first_place (spFirst K) := T.d_first_place.got X G (fun _ _ _ _ _ _ us hl => match us, hl with | [_], _ => rfl) fun f fd F => ok_first B F
  have gRem : Got P w K mg base CX0 2 "remainder" p_remainder (spRem K) := T.d_remainder.got X G (fun _ _ _ _ _ _ us hl => match us, hl with | [_, _, _], _ => rfl) fun f fd F => ok_rem F gLess gFirst
  have gWith : Got P w K mg base CX0 4 "with_row" p_with_row (spWith K) := T.d_with_row.got X G (fun _ _ _ _ _ _ us hl => match us, hl with | [_, _, _], _ => rfl) fun f fd F => ok_with B F gLess gFirst gRem gTimes gInv
  have gStair : Got P w K mg base CX0 5 "staircase" p_staircase (spStair K) := T.d_staircase.got X G (fun _ _ _ _ _ _ us hl => match us, hl with | [_, _], _ => rfl) fun f fd F => ok_stair F gWith
  have gIsStir : Got P w K mg base CX0 6 "is_stir" p_is_stir (spIsStir K) := T.d_is_stir.got X G (fun _ _ _ _ _ _ us hl => match us, hl with | [_, _], _ => rfl) fun f fd F => ok_isstir B F gRows gStair m_MOST_CELLS
  have gWrong : Got P w K mg base CX0 7 "wrong_part" p_wrong_part (spWrong K) := T.d_wrong_part.got X G (fun _ _ _ _ _ _ us hl => match us, hl with | [_], _ => rfl) fun f fd F => ok_wrong B F gPrime gIsStir gRows m_MOST_PLUGS
  have gCheck : Got P w K mg base (L2.CX P w) 8 "check_machine" p_check_machine (spCheckM K CB) := T.d_check_machine.got X G (fun _ _ _ _ _ _ us hl => match us, hl with | [_], _ => rfl) fun f fd F => ok_checkM M_ F FI_CB gWrong
  have gMemX : Got P w K mg base (L2.CX P w) 3 "check_memory" p_check_memory (spCheckMemX K CM) := T.d_check_memory.got X G (fun _ _ _ _ _ _ us hl => match us, hl with | [_, _], _ => rfl) fun f fd F => ok_checkMemX B F gRowX E_CM
  have gStirred : Got P w K mg base CX0 2 "stirred" p_stirred (spPStirred K) := T.d_stirred.got X G (fun _ _ _ _ _ _ us hl => match us, hl with | [_, _, _], _ => rfl) fun f fd F => ok_pstirred B F gMeet
  have gClosure : Got P w K mg base CX0 6 "closure" p_closure (spClosure K) := T.d_closure.got X G (fun _ _ _ _ _ _ us hl => match us, hl with | [_, _, _], _ => rfl) fun f fd F => ok_closure B F gStair gStirred
  have gLooks : Got P w K mg base CX0 7 "looks" p_looks (spM K (rLooks K)) := T.d_looks.got X G (fun _ _ _ _ _ _ us hl => match us, hl with | [_], _ => rfl) fun f fd F => ok_looks B F gClosure
  have gToldBy : Got P w K mg base CX0 2 "told_by" p_told_by (spPStirred K) := T.d_told_by.got X G (fun _ _ _ _ _ _ us hl => match us, hl with | [_, _, _], _ => rfl) fun f fd F => ok_told_by B F gMeet
  have gMems : Got P w K mg base (L2.CX P w) 3 "check_memories" p_check_memories (spCheckMems K CM) := T.d_check_memories.got X G (fun _ _ _ _ _ _ us hl => match us, hl with | [_, _], _ => rfl) fun f fd F => ok_checkMems B F gRowX E_CM m_MOST_MEMORIES
  have gSeen : Got P w K mg base CX0 3 "first_seen_apart" p_first_seen_apart (spSeen K) := T.d_first_seen_apart.got X G (fun _ _ _ _ _ _ us hl => match us, hl with | [_, _, _], _ => rfl) fun f fd F => ok_seen B F gToldBy gStirred
  have gApart : Got P w K mg base (L2.CX P w) 9 "are_apart" p_are_apart (spTwo K CM (rApart K)) := T.d_are_apart.got X G (fun _ _ _ _ _ _ us hl => match us, hl with | [_, _, _], _ => rfl) fun f fd F => ok_apartM F gCheck gMemX gSeen
  have gLook : Got P w K mg base (L2.CX P w) 9 "first_look" p_first_look (spTwo K CM (rLook K)) := T.d_first_look.got X G (fun _ _ _ _ _ _ us hl => match us, hl with | [_, _, _], _ => rfl) fun f fd F => ok_lookM F gCheck gMemX gSeen
  have gParted : Got P w K mg base CX0 1 "parted" p_parted (spParted K) := T.d_parted.got X G (fun _ _ _ _ _ _ us hl => match us, hl with | [_, _], _ => rfl) fun f fd F => ok_parted B F
  have gLooksA : Got P w K mg base CX0 8 "looks_apart" p_looks_apart (spLooksA K) := T.d_looks_apart.got X G (fun _ _ _ _ _ _ us hl => match us, hl with | [_, _], _ => rfl) fun f fd F => ok_looksA B F gLooks gParted gToldBy
  have gFurther : Got P w K mg base CX0 3 "further_looks" p_further_looks (spFurther K) := T.d_further_looks.got X G (fun _ _ _ _ _ _ us hl => match us, hl with | [_, _, _], _ => rfl) fun f fd F => ok_further B F gParted gToldBy
  have gFewest : Got P w K mg base (L2.CX P w) 9 "fewest_looks" p_fewest_looks (spFewest K CM) := T.d_fewest_looks.got X G (fun _ _ _ _ _ _ us hl => match us, hl with | [_, _], _ => rfl) fun f fd F => ok_fewest B F gCheck gMems gLooksA gFurther gStirred m_MOST_LOOKS
  have gTaken : Got P w K mg base CX0 1 "_law_taken" p_law_taken (spTaken K) := T.d_law_taken.got X G (fun _ _ _ _ _ _ us hl => match us, hl with | [_, _], _ => rfl) fun f fd F => ok_taken B F
  have gPick : Got P w K mg base CX0 2 "_law_pick" p_law_pick (spPick K) := T.d_law_pick.got X G (fun _ _ _ _ _ _ us hl => match us, hl with | [_, _], _ => rfl) fun f fd F => ok_pick B F gTaken
  have gPickW : Got P w K mg base CX0 2 "_law_pick" p_law_pick (spPickW K) := T.d_law_pick.got X G (fun _ _ _ _ _ _ us hl => match us, hl with | [_, _], _ => rfl) fun f fd F => ok_pickW B F gTaken
  have gLRow : Got P w K mg base CX0 2 "_law_row" p_law_row (spRow K) := T.d_law_row.got X G (fun _ _ _ _ _ _ us hl => match us, hl with | [_, _, _], _ => rfl) fun f fd F => ok_row B F gTaken
  have gLStir : Got P w K mg base CX0 2 "_law_stir" p_law_stir (spStir K) := T.d_law_stir.got X G (fun _ _ _ _ _ _ us hl => match us, hl with | [_, _, _], _ => rfl) fun f fd F => ok_stirL B F gTaken
  have gLMach : Got P w K mg base CX0 3 "_law_machine" p_law_machine (spMachine K) := T.d_law_machine.got X G (fun _ _ _ _ _ _ us hl => match us, hl with | [_, _, _, _], _ => rfl) fun f fd F => ok_machine B F gTaken gPick gLRow gLStir
  have gMet : Got P w K mg base CX0 1 "_law_met" p_law_met (spMet K) := T.d_law_met.got X G (fun _ _ _ _ _ _ us hl => match us, hl with | [_, _, _], _ => rfl) fun f fd F => ok_met B F
  have gLStirred : Got P w K mg base CX0 2 "_law_stirred" p_law_stirred (spStirred K) := T.d_law_stirred.got X G (fun _ _ _ _ _ _ us hl => match us, hl with | [_, _], _ => rfl) fun f fd F => ok_stirred B F gMet
  have gLFirst : Got P w K mg base CX0 3 "_law_first" p_law_first (spLFirst K) := T.d_law_first.got X G (fun _ _ _ _ _ _ us hl => match us, hl with | [_, _, _], _ => rfl) fun f fd F => ok_lfirst B F gMet gLStirred
  have gLIs : Got P w K mg base CX0 1 "_law_is" p_law_is spLIs := T.d_law_is.got X G (fun _ _ _ _ _ _ us hl => match us, hl with | [_, _], _ => rfl) fun f fd F => ok_lis B F
  have gLSeen : Got P w K mg base CX0 3 "_law_seen" p_law_seen (spLSeen K) := T.d_law_seen.got X G (fun _ _ _ _ _ _ us hl => match us, hl with | [_, _, _], _ => rfl) fun f fd F => ok_lseen B F gMet gLStirred
  have gLLooks : Got P w K mg base CX0 4 "_law_looks" p_law_looks (spLLooks K) := T.d_law_looks.got X G (fun _ _ _ _ _ _ us hl => match us, hl with | [_, _], _ => rfl) fun f fd F => ok_llooks B B.set F gMet gLStirred gLSeen
  have gU0 : Got P w K mg base CX0 0 "_law_alike" p_law_alike (spAU K 0) := T.d_law_alike.got X G (fun _ _ _ _ _ _ us hl => match us, hl with | [_, _], _ => rfl) fun f fd F => ok_alikeU0
  have gU1 : Got P w K mg base CX0 1 "_law_alike" p_law_alike (spAU K 1) := T.d_law_alike.got X G (fun _ _ _ _ _ _ us hl => match us, hl with | [_, _], _ => rfl) fun f fd F => ok_alikeU B F 0 gU0
  have gU2 : Got P w K mg base CX0 2 "_law_alike" p_law_alike (spAU K 2) := T.d_law_alike.got X G (fun _ _ _ _ _ _ us hl => match us, hl with | [_, _], _ => rfl) fun f fd F => ok_alikeU B F 1 gU1
  exact ⟨B, ⟨gTaken, gPickW, gLRow, gLMach, gLFirst, gLIs, gU2, gLLooks, gApart, gLook, gFewest⟩⟩
theorem law_at {l : PySem.W.OpenLaw} {fa c Pt CM CB fI_CB : Addr} (X : K.In h) (G : h.Ns mainGlobals mg) (hfa : mg "law" = some (.ref fa)) (T : TopK K c Pt CM CB fI_CB) (tab : h.get? Pt = some { cls := .none, data := .fields #[] }) :
    LamX.LawAtS l w K (L2.CX l.prog w) 11 63 "script" mg fa h := by
  obtain ⟨f, od, an, oc, kV, dc, pm, ct, sl, a, lk, cd⟩ := T.law.ex
  have e := hfa.symm.trans (PySem.W.mg_of X G a)
  cases e
  refine ⟨_, [(c, Pt)], spLaw K Pt, fun p hp => ?_, fun p hp => ?_, fun p hp => ?_, fun s v => BindsTo.of_eq (fd := PySem.W.fnOf "law" "law" (defArgs s_law) (defBody s_law) (defScope s_law) .none kV dc pm an (.ref c) ct) rfl, fun H a ns _ _ hT hS => ?_, fun base Xb Gb TB => ?_⟩
  · rw [List.mem_singleton.mp hp]; exact tab
  · rw [List.mem_singleton.mp hp]; exact T.law.no
  · rw [List.mem_singleton.mp hp]; exact PySem.W.codeHd_of_K X T.law.hd
  · refine ⟨a, ns, rfl, hS, fun p hp => ?_, fun _ => rfl⟩
    rw [List.mem_singleton.mp hp]
    exact LamX.TabS.nil (hT (c, Pt) (List.mem_singleton.mpr rfl))
  · obtain ⟨B, D⟩ := defs_of (P := l.prog) (w := w) (base := base) X G T
    have E_CM := err_of X G T.e_CM
    have g_CB := PySem.W.mg_of X G T.e_CB.a
    exact ok_law B B.set ⟨oc, od, kV, dc, pm, an, ct, sl, rfl, lk, cd⟩ (TB (c, Pt) (List.mem_singleton.mpr rfl)) ⟨E_CM.gC, T.x_CMCM⟩ D
end
end K01


set_option Elab.async false
set_option maxRecDepth 100000
open PySem PySem.W PyProof.Rows in
set_option maxRecDepth 100000 in
set_option maxHeartbeats 0 in
theorem PySem.Challenge.cw_driftstore_k10_whole_starts_holds : PySem.Challenge.rw_driftstore_k10_whole_starts.Holds := by
  w_on; o_law; k_head; (case hw => w_witness2)
  k_fill
  refine LamX.walk_ofTs (l := PySem.Challenge.rw_driftstore_k10_whole_starts) (n := 63) (k := 11) (x := "script") (CX := fun w => L2.CX PySem.Challenge.rw_driftstore_k10_whole_starts.prog w) rfl (by decide) rfl ⟨rfl, by decide, by decide⟩ (fun w h Y => km_in_of Y) ?F (fun w H s e s' z => ?C)
  case C =>
    obtain ⟨_, _, _, _, _, _, _, _, _, _, _, _, z⟩ := z
    exact z
  case F =>
    intro w mg fa h Y KX G hmg
    have tb := km_tabs_of Y 301 (by simp)
    have d_is_number : K01.DefX KX "is_number" K01.s_is_number := by
      refine' K01.mkDef ?a ?l ?c ?k
      (case a => k_is); (case l => k_is); (case c => k_is); (case k => k_is)
    have d_is_prime : K01.DefX KX "is_prime" K01.s_is_prime := by
      refine' K01.mkDef ?a ?l ?c ?k
      (case a => k_is); (case l => k_is); (case c => k_is); (case k => k_is)
    have d_is_row : K01.DefX KX "is_row" K01.s_is_row := by
      refine' K01.mkDef ?a ?l ?c ?k
      (case a => k_is); (case l => k_is); (case c => k_is); (case k => k_is)
    have d_is_rows : K01.DefX KX "is_rows" K01.s_is_rows := by
      refine' K01.mkDef ?a ?l ?c ?k
      (case a => k_is); (case l => k_is); (case c => k_is); (case k => k_is)
    have d_meet : K01.DefX KX "meet" K01.s_meet := by
      refine' K01.mkDef ?a ?l ?c ?k
      (case a => k_is); (case l => k_is); (case c => k_is); (case k => k_is)
    have d_inverse : K01.DefX KX "inverse" K01.s_inverse := by
      refine' K01.mkDef ?a ?l ?c ?k
      (case a => k_is); (case l => k_is); (case c => k_is); (case k => k_is)
    have d_times : K01.DefX KX "times" K01.s_times := by
      refine' K01.mkDef ?a ?l ?c ?k
      (case a => k_is); (case l => k_is); (case c => k_is); (case k => k_is)
    have d_less : K01.DefX KX "less" K01.s_less := by
      refine' K01.mkDef ?a ?l ?c ?k
      (case a => k_is); (case l => k_is); (case c => k_is); (case k => k_is)
    have d_first_place : K01.DefX KX "first_place" K01.s_first_place := by
      refine' K01.mkDef ?a ?l ?c ?k
      (case a => k_is); (case l => k_is); (case c => k_is); (case k => k_is)
    have d_remainder : K01.DefX KX "remainder" K01.s_remainder := by
      refine' K01.mkDef ?a ?l ?c ?k
      (case a => k_is); (case l => k_is); (case c => k_is); (case k => k_is)
    have d_with_row : K01.DefX KX "with_row" K01.s_with_row := by
      refine' K01.mkDef ?a ?l ?c ?k
      (case a => k_is); (case l => k_is); (case c => k_is); (case k => k_is)
    have d_staircase : K01.DefX KX "staircase" K01.s_staircase := by
      refine' K01.mkDef ?a ?l ?c ?k
      (case a => k_is); (case l => k_is); (case c => k_is); (case k => k_is)
    have d_is_stir : K01.DefX KX "is_stir" K01.s_is_stir := by
      refine' K01.mkDef ?a ?l ?c ?k
      (case a => k_is); (case l => k_is); (case c => k_is); (case k => k_is)
    have d_wrong_part : K01.DefX KX "wrong_part" K01.s_wrong_part := by
      refine' K01.mkDef ?a ?l ?c ?k
      (case a => k_is); (case l => k_is); (case c => k_is); (case k => k_is)
    have d_check_machine : K01.DefX KX "check_machine" K01.s_check_machine := by
      refine' K01.mkDef ?a ?l ?c ?k
      (case a => k_is); (case l => k_is); (case c => k_is); (case k => k_is)
    have d_check_memory : K01.DefX KX "check_memory" K01.s_check_memory := by
      refine' K01.mkDef ?a ?l ?c ?k
      (case a => k_is); (case l => k_is); (case c => k_is); (case k => k_is)
    have d_stirred : K01.DefX KX "stirred" K01.s_stirred := by
      refine' K01.mkDef ?a ?l ?c ?k
      (case a => k_is); (case l => k_is); (case c => k_is); (case k => k_is)
    have d_closure : K01.DefX KX "closure" K01.s_closure := by
      refine' K01.mkDef ?a ?l ?c ?k
      (case a => k_is); (case l => k_is); (case c => k_is); (case k => k_is)
    have d_looks : K01.DefX KX "looks" K01.s_looks := by
      refine' K01.mkDef ?a ?l ?c ?k
      (case a => k_is); (case l => k_is); (case c => k_is); (case k => k_is)
    have d_told_by : K01.DefX KX "told_by" K01.s_told_by := by
      refine' K01.mkDef ?a ?l ?c ?k
      (case a => k_is); (case l => k_is); (case c => k_is); (case k => k_is)
    have d_check_memories : K01.DefX KX "check_memories" K01.s_check_memories := by
      refine' K01.mkDef ?a ?l ?c ?k
      (case a => k_is); (case l => k_is); (case c => k_is); (case k => k_is)
    have d_first_seen_apart : K01.DefX KX "first_seen_apart" K01.s_first_seen_apart := by
      refine' K01.mkDef ?a ?l ?c ?k
      (case a => k_is); (case l => k_is); (case c => k_is); (case k => k_is)
    have d_are_apart : K01.DefX KX "are_apart" K01.s_are_apart := by
      refine' K01.mkDef ?a ?l ?c ?k
      (case a => k_is); (case l => k_is); (case c => k_is); (case k => k_is)
    have d_first_look : K01.DefX KX "first_look" K01.s_first_look := by
      refine' K01.mkDef ?a ?l ?c ?k
      (case a => k_is); (case l => k_is); (case c => k_is); (case k => k_is)
    have d_parted : K01.DefX KX "parted" K01.s_parted := by
      refine' K01.mkDef ?a ?l ?c ?k
      (case a => k_is); (case l => k_is); (case c => k_is); (case k => k_is)
    have d_looks_apart : K01.DefX KX "looks_apart" K01.s_looks_apart := by
      refine' K01.mkDef ?a ?l ?c ?k
      (case a => k_is); (case l => k_is); (case c => k_is); (case k => k_is)
    have d_further_looks : K01.DefX KX "further_looks" K01.s_further_looks := by
      refine' K01.mkDef ?a ?l ?c ?k
      (case a => k_is); (case l => k_is); (case c => k_is); (case k => k_is)
    have d_fewest_looks : K01.DefX KX "fewest_looks" K01.s_fewest_looks := by
      refine' K01.mkDef ?a ?l ?c ?k
      (case a => k_is); (case l => k_is); (case c => k_is); (case k => k_is)
    have d_law_taken : K01.DefX KX "_law_taken" K01.s_law_taken := by
      refine' K01.mkDef ?a ?l ?c ?k
      (case a => k_is); (case l => k_is); (case c => k_is); (case k => k_is)
    have d_law_pick : K01.DefX KX "_law_pick" K01.s_law_pick := by
      refine' K01.mkDef ?a ?l ?c ?k
      (case a => k_is); (case l => k_is); (case c => k_is); (case k => k_is)
    have d_law_row : K01.DefX KX "_law_row" K01.s_law_row := by
      refine' K01.mkDef ?a ?l ?c ?k
      (case a => k_is); (case l => k_is); (case c => k_is); (case k => k_is)
    have d_law_stir : K01.DefX KX "_law_stir" K01.s_law_stir := by
      refine' K01.mkDef ?a ?l ?c ?k
      (case a => k_is); (case l => k_is); (case c => k_is); (case k => k_is)
    have d_law_machine : K01.DefX KX "_law_machine" K01.s_law_machine := by
      refine' K01.mkDef ?a ?l ?c ?k
      (case a => k_is); (case l => k_is); (case c => k_is); (case k => k_is)
    have d_law_met : K01.DefX KX "_law_met" K01.s_law_met := by
      refine' K01.mkDef ?a ?l ?c ?k
      (case a => k_is); (case l => k_is); (case c => k_is); (case k => k_is)
    have d_law_stirred : K01.DefX KX "_law_stirred" K01.s_law_stirred := by
      refine' K01.mkDef ?a ?l ?c ?k
      (case a => k_is); (case l => k_is); (case c => k_is); (case k => k_is)
    have d_law_first : K01.DefX KX "_law_first" K01.s_law_first := by
      refine' K01.mkDef ?a ?l ?c ?k
      (case a => k_is); (case l => k_is); (case c => k_is); (case k => k_is)
    have d_law_is : K01.DefX KX "_law_is" K01.s_law_is := by
      refine' K01.mkDef ?a ?l ?c ?k
      (case a => k_is); (case l => k_is); (case c => k_is); (case k => k_is)
    have d_law_seen : K01.DefX KX "_law_seen" K01.s_law_seen := by
      refine' K01.mkDef ?a ?l ?c ?k
      (case a => k_is); (case l => k_is); (case c => k_is); (case k => k_is)
    have d_law_looks : K01.DefX KX "_law_looks" K01.s_law_looks := by
      refine' K01.mkDef ?a ?l ?c ?k
      (case a => k_is); (case l => k_is); (case c => k_is); (case k => k_is)
    have d_law_alike : K01.DefX KX "_law_alike" K01.s_law_alike := by
      refine' K01.mkDef ?a ?l ?c ?k
      (case a => k_is); (case l => k_is); (case c => k_is); (case k => k_is)
    have z_len : K01.NoX KX "len" := by unfold K01.NoX; k_is
    have z_zip : K01.NoX KX "zip" := by unfold K01.NoX; k_is
    have z_tuple : K01.NoX KX "tuple" := by unfold K01.NoX; k_is
    have z_list : K01.NoX KX "list" := by unfold K01.NoX; k_is
    have z_sorted : K01.NoX KX "sorted" := by unfold K01.NoX; k_is
    have z_enumerate : K01.NoX KX "enumerate" := by unfold K01.NoX; k_is
    have z_range : K01.NoX KX "range" := by unfold K01.NoX; k_is
    have z_isinstance : K01.NoX KX "isinstance" := by unfold K01.NoX; k_is
    have z_int : K01.NoX KX "int" := by unfold K01.NoX; k_is
    have z_bool : K01.NoX KX "bool" := by unfold K01.NoX; k_is
    have z_str : K01.NoX KX "str" := by unfold K01.NoX; k_is
    have z_all : K01.NoX KX "all" := by unfold K01.NoX; k_is
    have z_sum : K01.NoX KX "sum" := by unfold K01.NoX; k_is
    have z_max : K01.NoX KX "max" := by unfold K01.NoX; k_is
    have z_set : K01.NoX KX "set" := by unfold K01.NoX; k_is
    refine' K01.law_at KX G hmg ⟨d_is_number, d_is_prime, d_is_row, d_is_rows, d_meet, d_inverse, d_times, d_less, d_first_place, d_remainder, d_with_row, d_staircase, d_is_stir, d_wrong_part, d_check_machine, d_check_memory, d_stirred, d_closure, d_looks, d_told_by, d_check_memories, d_first_seen_apart, d_are_apart, d_first_look, d_parted, d_looks_apart, d_further_looks, d_fewest_looks, d_law_taken, d_law_pick, d_law_row, d_law_stir, d_law_machine, d_law_met, d_law_stirred, d_law_first, d_law_is, d_law_seen, d_law_looks, d_law_alike, K01.mkLaw ?a ?l ?cd ?hd ?no, ⟨?aCM, ?xCM, ?kCM, ?bCM, ?tCM⟩, K01.mkOex ?oaCB ?olCB ?orCB ?osCB ?oeCB ?otCB ?okCB ?onCB ?oiCB ?oyCB ?ofCB ?ocCB ?odCB, ?mCMCM, K01.mkPrimes ?pa ?pl, K01.mkInt ?iMOST_CELLS, K01.mkInt ?iMOST_PLUGS, K01.mkInt ?iMOST_MEMORIES, K01.mkInt ?iMOST_LOOKS, z_len, z_zip, z_tuple, z_list, z_sorted, z_enumerate, z_range, z_isinstance, z_int, z_bool, z_str, z_all, z_sum, z_max, z_set⟩ tb
    (case a => first | k_is | kernel_rfl)
    (case l => first | k_is | kernel_rfl)
    (case cd => first | k_is | kernel_rfl)
    (case hd => first | k_is | kernel_rfl)
    (case no => first | k_is | kernel_rfl)
    (case aCM => first | k_is | kernel_rfl)
    (case xCM => first | k_is | kernel_rfl)
    (case kCM => first | k_is | kernel_rfl)
    (case bCM => first | k_is | kernel_rfl)
    (case tCM => first | k_is | kernel_rfl)
    (case oaCB => first | k_is | kernel_rfl)
    (case olCB => first | k_is | kernel_rfl)
    (case orCB => first | decide +kernel | k_is | kernel_rfl)
    (case osCB => first | k_is | kernel_rfl)
    (case oeCB => first | k_is | kernel_rfl)
    (case otCB => first | k_is | kernel_rfl)
    (case okCB => first | k_is | kernel_rfl)
    (case onCB => first | k_is | kernel_rfl)
    (case oiCB => first | k_is | kernel_rfl)
    (case oyCB => first | k_is | kernel_rfl)
    (case ofCB => first | k_is | kernel_rfl)
    (case ocCB => first | k_is | kernel_rfl)
    (case odCB => first | k_is | kernel_rfl)
    (case mCMCM => first | k_is | kernel_rfl)
    (case pa => first | k_is | kernel_rfl)
    (case pl => first | k_is | kernel_rfl)
    (case iMOST_CELLS => first | k_is | kernel_rfl)
    (case iMOST_PLUGS => first | k_is | kernel_rfl)
    (case iMOST_MEMORIES => first | k_is | kernel_rfl)
    (case iMOST_LOOKS => first | k_is | kernel_rfl)

