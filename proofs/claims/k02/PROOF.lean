import PyProof.Rows.All
import Wide.All
import OpenK.AllK
import Wide.FinOn
import HandS.ForMost
import HandS.Exc
import HandS.ExcOwn
import HandS.WordsExc
import HandS.TryOnly
import HandS.TryMany
import HandS.Zip
import HandS.Conv
import HandS.TupSets
import HandS.SortKw
import HandS.Strs
import HandS.Deep
import HandS.IsInst
import HandS.TupAny
import HandS.TupMul
import HandS.Wide
import HandS.Flow
import HandS.Evl
import HandS.Lambda
import HandS.Walk
import KE.GoesMore
import KE.GoesEnum
import KE.SortKeyHeap
import PyProof.Draws
import PyProof.TupleOfSeq
import HandS.SetFor
import KE.KEqDeep
import KE.KEqSeq
import KE.SortData
import HandS.ExcInit
import HandS.Style
import PyProof.ZipIter
import KE.KDictZip
import HandS.Zip0
import HandS.MapObj
import PyProof.CollectWalk
import HandS.Star
import HandS.WordsDict
import HandS.More
import HandS.SetBool
import HandS.Sort
import HandS.ExcField
import HandS.EndTab
import PySem.Challenge.RW_driftstore_k02_whole_runs
set_option Elab.async false
set_option linter.all false
set_option maxRecDepth 100000
set_option maxHeartbeats 4000000
namespace K01
open PySem PySem.Spec PyProof.Rows L2
def topS (i : Nat) : Stmt := PySem.Challenge.pw_driftstore_k02_whole_runs.main.body.getD i (.Pass ⟨0, 0, 0, 0⟩)
end K01


set_option Elab.async false
set_option linter.all false
set_option maxRecDepth 100000
set_option maxHeartbeats 4000000
/-! enumerate over a tuple -/
namespace K01
open PySem PySem.Spec PyProof.Rows L2
open Sem (wp)
abbrev tupIt (t : Addr) : Obj := { cls := .type "tuple_iterator", data := .fields #[.ref t, .int 0 0] }
abbrev enumO (h : Heap) : Obj := { cls := .type "enumerate", data := .fields #[.none, .bool false, .ref h.objs.size, rawInt 0, .none, .none] }
theorem meets_enumT (t : Addr) (items : Array Value) :
    Meets (Builtin.«enumerate.__new__» ⟨[.type "enumerate", .ref t], []⟩) (fun _ R s => s.heap.IsTuple t items ∧
      R (.ok (.ret (.ref (s.heap.push (tupIt t)).objs.size))) { s with heap := (s.heap.push (tupIt t)).push (enumO s.heap) }) :=
  .of_wp fun prog w A R st hh => by
    obtain ⟨hp, gg, dd, tt, oo⟩ := st
    obtain ⟨hT, hR⟩ := hh
    have hT' : Heap.IsTuple (Shared.heap ⟨hp, gg, dd, tt, oo⟩) t items := hT
    obtain ⟨ob, hob, hcl, n, hdat⟩ := hT
    obtain ⟨oc, od, odt, osl⟩ := ob
    simp only at hcl hdat
    subst hcl hdat
    have sb := sub_enumerate
    wp_walk using wpAny_loadPart' hob
    refine wpAny_stack_any fun stk => wpAny_pure ?_
    split
    · rename_i cc _ _ _ _ _
      cases (cc == Value.type "enumerate") <;> (wp_walk using wpAny_loadPart' hob, wpAny_pyIter_tuple hT'; exact ⟨_, rfl, hR⟩)
    · wp_walk using wpAny_loadPart' hob, wpAny_pyIter_tuple hT'
      exact ⟨_, rfl, hR⟩
theorem enum_tuple {prog : Program} {w : World} {A : Around} {E : Value → Shared → Prop} {s : Shared} {t : Addr} {items : Array Value} {Q : Value → Shared → Prop} (hT : s.heap.IsTuple t items)
    (k : ∀ h', IsEnum h' (s.heap.objs.size + 1) s.heap.objs.size 0 .none → h'.IsTupleIter s.heap.objs.size t 0 → (∀ b o, s.heap.get? b = some o → h'.get? b = some o) → Q (.ref (s.heap.objs.size + 1)) { s with heap := h' }) :
    wpAny (model prog w) A (call (.type "enumerate") [.ref t]) Q E s := by
  have z1 : (s.heap.push (tupIt t)).objs.size = s.heap.objs.size + 1 := Heap.size_push ..
  have e1 : IsEnum ((s.heap.push (tupIt t)).push (enumO s.heap)) (s.heap.objs.size + 1) s.heap.objs.size 0 .none := by
    have q := Heap.get?_push_size (s.heap.push (tupIt t)) (o := enumO s.heap) rfl
    rw [z1] at q
    exact q
  have fin := k ((s.heap.push (tupIt t)).push (enumO s.heap)) e1 ⟨_, Heap.get?_push_of_some _ (Heap.get?_push_size _ rfl), rfl, rfl⟩ fun b o x => Heap.get?_push_of_some _ (Heap.get?_push_of_some _ x)
  refine callType_new F.called_enumerate (by decide) (F.typeCall_enumerate_1 _) (F.newCall_enumerate_1 _) (fun obj => F.args_object_init_2 obj _) F.entry_enumerate_new (meets_enumT t items) ⟨hT, ?_⟩
  show _ ∧ _
  rw [z1]
  exact ⟨⟨_, e1, rfl⟩, fin⟩
/-- the tuple at a, each item in a new pair with its place -/
def ItE (K : PySem.W.Frag) (a : Addr) : It :=
  ⟨fun i H => ∃ (xs : List V) (x : V), SqT K H a xs ∧ xs[i]? = some x,
    fun i H v H' => ∃ T x, v = .ref T ∧ H T = none ∧ H' = upd H T (.tup [.int (i : Nat), x]) ∧ ∀ xs, SqT K H a xs → xs[i]? = some x,
    fun i H => ∃ xs : List V, SqT K H a xs ∧ xs.length ≤ i⟩
theorem turn_enumT {P : Program} {w : World} {K : PySem.W.Frag} {elts : List Expr} {kk : Nat} {tpos : Pos} (a e it : Addr) (hai : a ≠ it) :
    Turn P w K (.Tuple elts kk tpos) (ItE K a) [e, it] e (fun i h => (∃ old, IsEnum h e it ((i : Nat) : Int) old) ∧ h.IsTupleIter it a i ∧ e ≠ it ∧ e ≠ a) where
  mem := List.mem_cons_self
  obj := fun i h st b hb => by
    obtain ⟨⟨old, he⟩, ⟨o, ho, _, hd⟩, _⟩ := st
    rcases List.mem_cons.mp hb with z | z
    · subst z; exact ⟨_, he, fun v q => nomatch q⟩
    · rw [List.mem_singleton.mp z]; exact ⟨o, ho, fun v q => by rw [hd] at q; cases q⟩
  keep := fun i h h' st k => by
    obtain ⟨⟨old, he⟩, hi, hn⟩ := st
    exact ⟨⟨old, k e List.mem_cons_self _ he⟩, hi.at fun o q => k it (List.mem_cons_of_mem _ List.mem_cons_self) o q, hn⟩
  item := by
    intro X hP hw hK hc i pins s σ H E I hf st hg
    subst hP hw hK
    obtain ⟨⟨old, he⟩, hit, hne, hea⟩ := st
    obtain ⟨xs, x, hq, hx⟩ := hg
    obtain ⟨its, rv, pt, _⟩ := I.tuple hq
    obtain ⟨u, hu, ru⟩ := rv.get hx
    have hil : i < its.toArray.size := by
      have := (List.getElem?_eq_some_iff.mp hu).1
      simpa using this
    have hel : e < s.heap.objs.size := Heap.lt_size he
    have hitl : it < s.heap.objs.size := by
      obtain ⟨_, q, _⟩ := hit
      exact Heap.lt_size q
    have Dw := Draws.tuple (prog := X.prog) (w := X.w) (A := X.A.in1) (show X.A.in1.handled = none from I.ok.hd hc) it a hai its.toArray
    refine wpAny_pyNext_enum_itemD Dw he ⟨hit, pt⟩ hil hne (by simp [hne, hea]) fun y h' tk hy ho hst hT hsz hk => ?_
    have ey : y = u := by
      have : its.toArray[i]? = some u := by simpa using hu
      exact Option.some.inj (hy.symm.trans this)
    subst ey
    refine ⟨_, rfl, wpAny_letOwnedTupleGo_enum (s := { s with heap := h', toks := tk + 1 }) ho fun h'' he' sb => ?_⟩
    have hT2 := (sb.2 _ (Nat.ne_of_gt hel)).trans hT
    have nw : ObjOk X.prog X.w (upd H s.heap.objs.size (.tup [.int (i : Nat), x])) h'' s.heap.objs.size (.tup [.int (i : Nat), x]) :=
      ⟨by show 2 ≤ sizeLine; decide, [.int i tk, y], .cons ⟨_, rfl⟩ (.cons ru .nil), ⟨_, hT2, rfl, _, rfl⟩⟩
    have keep2 : ∀ b ob, b ∉ [e, it] → s.heap.get? b = some ob → h''.get? b = some ob := fun b ob hb q => by
      have n1 : b ≠ e := fun z => hb (by simp [z])
      have n2 : b ≠ it := fun z => hb (by simp [z])
      exact (sb.2 b n1).trans (hk b ob n1 n2 q)
    have I1 : Inv X pins σ (upd H s.heap.objs.size (.tup [.int (i : Nat), x])) { s with heap := h'', toks := tk + 1 } := I.turnedNew (ch := [e, it]) keep2 hf (Nat.le_refl _) nw
    refine ⟨.ref s.heap.objs.size, _, I1, rfl, ⟨_, x, rfl, I.hok.fresh (Nat.le_refl _), rfl, fun ys hy => by rw [I.tuple_inj hy hq]; exact hx⟩, ⟨⟨y, ?_⟩, hst.1.at fun o q => (sb.2 it (Ne.symm hne)).trans q, hne, hea⟩, fun b hb => ?_⟩
    · have e1 : ((i + 1 : Nat) : Int) = (i : Int) + 1 := by omega
      rw [e1]
      exact he'
    · have hlt : b < s.heap.objs.size := by
        rcases List.mem_cons.mp hb with z | z
        · rw [z]; exact hel
        · rw [List.mem_singleton.mp z]; exact hitl
      rw [upd_ne (Nat.ne_of_lt hlt)]
      exact (hf b hb).1
  done := by
    intro X hP hw hK hc i pins s σ H E I hf st hg
    subst hP hw hK
    obtain ⟨⟨old, he⟩, hit, hne, hea⟩ := st
    obtain ⟨xs, hq, hx⟩ := hg
    obtain ⟨its, rv, pt, _⟩ := I.tuple hq
    have hl := rv.length
    have hfi := hf it (List.mem_cons_of_mem _ List.mem_cons_self)
    obtain ⟨f0, f1, f2, f3, f4, f5⟩ := hfi
    have hn : its.toArray[i]? = none := by simp; omega
    have T : s.TypeIs (.ref e) "enumerate" := ⟨_, he, rfl⟩
    unfold pyNext
    refine wpAny_bind (wpAny_attempt (wpAny_callSpecial?_slot (name := Str.ofString "__next__") T F.slot_enumerate_next (wpAny_call_entry F.slot_enumerate_next T F.entry_enumerate_next ?_ (F.args_enumerate_next_1 _))))
    show wpAny _ _ (field (.ref e) 2 >>= _) _ _ _
    refine wpAny_bind (wpAny_field he rfl (x := .ref it) rfl ?_)
    refine wpAny_bind (wpAny_nextOf_tuple_end (show X.A.in1.handled = none from I.ok.hd hc) hit pt hn fun h' x he' hx' => ?_)
    obtain ⟨o, ho, hcx⟩ := hx'
    refine wpAny_bind (wpAny_isInstance (T := "StopIteration") (b := true) ⟨o, ho, hcx⟩ isSubtype_stop ?_)
    exact wpAny_pure ⟨rfl, I.turned (t' := s.toks) (fun b o hb q => he' b o hb q) f0 f1 f3 f4 f5⟩
  self := fun A i s Q E st h => wpAny_pyIter_enum st.1.choose_spec h
def iEnumT (K : PySem.W.Frag) (ta : TA) : TI := fun σ H R => ta σ H fun vs H1 => ∃ a xs, vs = [.ref a] ∧ SqT K H1 a xs ∧ R (ItE K a) H1
theorem pi_enumT {X : Cx} {e : Expr} {ta : TA} {p pos tpos : Pos} {elts : List Expr} {kk : Nat} (hg : Gl X "enumerate") (hm : X.mg "enumerate" = none) (ha : PA X [e] ta) (hs : starEach [e] X.env = [(false, eval e X.env)] := by rfl) :
    PI X (.Tuple elts kk tpos) (.Call (.Name "enumerate" p) [e] [] pos) (iEnumT X.K ta) := by
  constructor
  intro pins s σ H R I h
  refine Call_ (ld_blt I hg hm boot_enumerate (PyProof.Rows.callWith_type1 (thn (ha.run pos pins s σ H _ I h) fun us s1 ww => ?_) hs rfl))
  obtain ⟨vs, H1, I1, r1, a, xs, ex, hq, q⟩ := ww
  subst ex
  obtain ⟨u1, rfl, ru⟩ : ∃ u, us = [u] ∧ RelV (.ref a) u := by
    cases r1 with
    | cons r rr => cases rr; exact ⟨_, rfl, r⟩
  cases (show u1 = Value.ref a from ru)
  obtain ⟨its, rv, pt, _⟩ := I1.tuple hq
  have hal : a < s1.heap.objs.size := by obtain ⟨o, ho, _⟩ := id pt; exact Heap.lt_size ho
  refine enum_tuple pt fun h' he hit hk => wpAny_pyIter_enum he ?_
  have I2 : Inv X pins σ H1 { s1 with heap := h' } := I1.kept (t' := s1.toks) hk
  refine ⟨s1.heap.objs.size + 1, [s1.heap.objs.size + 1, s1.heap.objs.size], _, _, H1, rfl, I2, turn_enumT a (s1.heap.objs.size + 1) s1.heap.objs.size (Nat.ne_of_lt hal), ⟨⟨.none, he⟩, hit, Nat.succ_ne_self _, fun z => Nat.lt_irrefl _ (Nat.lt_of_lt_of_le hal (z ▸ Nat.le_succ _))⟩, fun b hb => ?_, q⟩
  have le : s1.heap.objs.size ≤ b := by
    rcases List.mem_cons.mp hb with z | z
    · rw [z]; exact Nat.le_succ _
    · rw [List.mem_singleton.mp z]; exact Nat.le_refl _
  exact I1.fpOk le (I1.hok.fresh le)
theorem walk_enumT {K : PySem.W.Frag} {a : Addr} {xs : List V} : Walk (ItE K a) xs.length (fun H => SqT K H a xs) (YPair (fun i => some (.int (i : Nat))) (fun i => xs[i]?)) := by
  refine ⟨fun i _ hi q => ⟨xs, xs[i], q, by simp [hi]⟩, fun _ q => ⟨xs, q, Nat.le_refl _⟩, fun i H v H' _ q y => ?_⟩
  obtain ⟨T, x, h1, h2, h3, h4⟩ := y
  exact ⟨T, .int (i : Nat), x, h1, h2, h3, rfl, h4 xs q⟩
end K01


set_option Elab.async false
set_option linter.all false
set_option maxRecDepth 100000
set_option maxHeartbeats 4000000
/-! sorted(a tuple, key = a def of the program that gives whole numbers) -/
namespace K01
open PySem PySem.Spec PyProof.Rows L2 PySem.W
open Sem (wp)
abbrev kstr : Str := Str.ofString "key"
/-- what the sort asks of the key's def, and what it gives -/
def rSortK (K : PySem.W.Frag) (sp : Sp) (f : Addr) : List V → List V → Hp → VK → Prop := fun vs zs H Q => ∃ (a : Addr) (α : Type) (bs : List α) (val : α → V) (key : α → Int), vs = [.ref a] ∧ zs = [.ref f] ∧ SqT K H a (bs.map val) ∧
  (∀ b ∈ bs, ∀ H', Evl.Ex H H' → ∀ Q' : VK, (∀ H2, Evl.Ex H' H2 → Q' (.int (key b)) H2) → sp [val b] H' Q' E0) ∧
  ∀ p H', H p = none → Evl.Ex H H' → H' p = some (.lst ((bs.mergeSort fun x y => decide (key x ≤ key y)).map val)) → Q (.ref p) H'
theorem vals_each : ∀ {xs : List V} {us : List Value}, Vals xs us → EachIs (fun (u : Value) (x : V) => RelV x u) us xs
  | _, _, .nil => .nil
  | _, _, .cons r t => .cons r (vals_each t)
theorem each_vals : ∀ {xs : List V} {us : List Value}, EachIs (fun (u : Value) (x : V) => RelV x u) us xs → Vals xs us
  | _, _, .nil => .nil
  | _, _, .cons r t => .cons r (each_vals t)
theorem each_unmap {α β γ : Type} {R : α → γ → Prop} {f : β → γ} : ∀ {bs : List β} {as : List α}, EachIs R as (bs.map f) → EachIs (fun a b => R a (f b)) as bs
  | [], _, h => by cases h; exact .nil
  | b :: bs, _, h => by
    cases h with
    | cons r t => exact .cons r (each_unmap t)
theorem each_map {α β γ : Type} {R : α → γ → Prop} {f : β → γ} : ∀ {bs : List β} {as : List α}, EachIs (fun a b => R a (f b)) as bs → EachIs R as (bs.map f)
  | [], _, h => by cases h; exact .nil
  | b :: bs, _, h => by
    cases h with
    | cons r t => exact .cons r (each_map t)
theorem each_app {α β : Type} {R : α → β → Prop} {a : α} {b : β} : ∀ {as : List α} {bs : List β}, EachIs R as bs → R a b → EachIs R (as ++ [a]) (bs ++ [b])
  | _, _, .nil, r => .cons r .nil
  | _, _, .cons h t, r => .cons h (each_app t r)
section
variable {X : Cx} {pins : List (Addr × Obj)} {σ : L2.St} {H : Hp} {s : Shared}
/-- a fresh record is pinned -/
theorem pin_add {a : Addr} {o : Obj} (I : Inv X pins σ H s) (f : FpOk X pins H a) (ho : s.heap.get? a = some o) (nc : ∀ v, o.data ≠ .cell v) : Inv X ((a, o) :: pins) σ H s :=
  I.pins_of fun p hp => by
    rcases List.mem_cons.mp hp with z | z
    · rw [z]; exact ⟨ho, f.1, f.2.1, f.2.2.1, nc⟩
    · exact I.pin p (List.mem_append_right _ z)
theorem pin_drop {q : Addr × Obj} (I : Inv X (q :: pins) σ H s) : Inv X pins σ H s := I.pins_of fun p hp => I.pin p (List.mem_append_right _ (List.mem_cons_of_mem _ hp))
theorem fp_pin {a b : Addr} {o : Obj} (f : FpOk X pins H b) (ne : a ≠ b) : FpOk X ((a, o) :: pins) H b :=
  ⟨f.1, f.2.1, f.2.2.1, f.2.2.2.1, f.2.2.2.2.1, fun p hp => by
    rcases List.mem_append.mp hp with z | z
    · exact f.2.2.2.2.2 p (List.mem_append_left _ z)
    · rcases List.mem_cons.mp z with z | z
      · rw [z]; exact ne
      · exact f.2.2.2.2.2 p (List.mem_append_right _ z)⟩
theorem fp_heap {H' : Hp} {b : Addr} (f : FpOk X pins H b) (n : H' b = none) : FpOk X pins H' b := ⟨n, f.2⟩
variable {k : Nat} {f : Addr} {fd : FuncData} {pn : Str} {sp : Sp}
theorem seq_nocell {c : String} {a : Array Value} {n : Nat} : ∀ v, (seqObj c a n).data ≠ .cell v := fun v z => by cases z
theorem cr_sortK (F : FnOk X.prog X.w X.K X.mg X.base CX0 k f fd [pn] sp) (hr : Room (k + 2) X.A) (hb : Binds X.K fd [pn] []) : CallRK X (.builtin "sorted") [kstr] (rSortK X.K sp f) := by
  intro pins s σ H vs zs us ws Q I r rz h
  obtain ⟨a, α, bs, val, key, rfl, rfl, hq, hkey, q⟩ := h
  obtain rfl := Vals.ref1 r
  obtain ⟨w1, rfl, e1⟩ := vals1 rz
  cases (show w1 = Value.ref f from e1)
  obtain ⟨its, rv, hT, hz⟩ := I.tuple hq
  have hlen : its.length = bs.length := by rw [← rv.length, List.length_map]
  have hzi : its.length ≤ sizeLine := by rw [← rv.length]; exact hz
  show wpAny (model X.prog X.w) X.A (call (.builtin "sorted") [.ref a] [(kstr, .ref f)]) (EP X pins σ Q) X.xe s
  refine call_function_entry_kw kind_sorted plain_sorted entry_sorted (ksk_s1 _ _) ?_
  unfold Builtin.«sorted»
  refine wpAny_bind (m := checkCount "sorted" 1 1 _) (wpAny_pure ?_)
  obtain ⟨oT, gT, cT, nT, dT⟩ := (show s.heap.IsTuple a its.toArray from hT)
  refine wpAny_bind (wpAny_collect_seq a (.inr rfl) gT cT dT (fun g kp => ?_) (by rw [List.size_toArray]; exact hzi))
  have I0 : Inv X pins σ H { s with heap := g } := I.kept (t' := s.toks) kp
  refine wpAny_bind (wpAny_newList ?_ hzi)
  have at1 : (g.push (seqObj "list" its.toArray 0)).get? g.objs.size = some (seqObj "list" its.toArray 0) := Heap.get?_push_size g rfl
  refine wpAny_bind (wpAny_holding (wpAny_call_entry_kw slot_list_sort ⟨_, at1, rfl⟩ entry_list_sort ?_ (ksk_l1 _ _)))
  rw [ksk_t1]
  generalize ea : g.objs.size = a1 at at1 ⊢
  have ext : ∀ b o, s.heap.get? b = some o → b < a1 ∧ (g.push (seqObj "list" its.toArray 0)).get? b = some o := fun b o e => ⟨by rw [← ea]; exact Heap.lt_size (kp b o e), Heap.get?_push_of_some (seqObj "list" its.toArray 0) (kp b o e)⟩
  show wpAny _ _ _ _ _ { s with heap := g.push (seqObj "list" its.toArray 0) }
  generalize g.push (seqObj "list" its.toArray 0) = cp at at1 ext ⊢
  have cat := at1
  have csz : a1 < cp.objs.size := Heap.lt_size cat
  have hu1 : (cp.update a1 (Obj.mapSeq fun _ => (#[] : Array Value))).objs.size = cp.objs.size := Heap.size_update ..
  have hu2 : ((cp.update a1 (Obj.mapSeq fun _ => (#[] : Array Value))).push (seqObj "tuple" its.toArray 0)).objs.size = cp.objs.size + 1 := by rw [size_push', hu1]
  obtain ⟨e1, ho1⟩ : ∃ e1, (cp.update a1 (Obj.mapSeq fun _ => (#[] : Array Value))).get? a1 = some (seqObj "list" #[] e1) := ⟨_, get?_update_seq cat fun _ => #[]⟩
  unfold ksk_tree
  refine wpAny_bind (listItems_at cat rfl ?_)
  refine wpAny_bind (listUpdate_at cat rfl ?_ (by rw [List.size_toArray]; exact hzi) (Nat.zero_le _))
  refine wpAny_bind (seqEpoch_at ho1 rfl ?_)
  refine wpAny_bind (wpAny_newTuple ?_ (by show its.length ≤ _; exact hzi))
  refine wpAny_bind (wpAny_newList ?_ (Nat.zero_le _))
  refine wpAny_holding ?_
  generalize ekS : ((cp.update a1 (Obj.mapSeq fun _ => (#[] : Array Value))).push (seqObj "tuple" its.toArray 0)).objs.size = kS
  have kSz : kS = cp.objs.size + 1 := by rw [← ekS, hu2]
  have nka : kS ≠ a1 := Nat.ne_of_gt (by rw [kSz]; exact Nat.lt_succ_of_lt csz)
  show wpAny _ _ _ _ _ { s with heap := sortingHeap cp a1 its }
  have old : ∀ b o, s.heap.get? b = some o → (sortingHeap cp a1 its).get? b = some o := fun b o e =>
    sortingHeap_old (Nat.ne_of_lt (ext b o e).1) (ext b o e).2
  have sa : (sortingHeap cp a1 its).get? a1 = some (seqObj "list" #[] e1) := by
    unfold sortingHeap
    exact Heap.get?_push_of_some _ (Heap.get?_push_of_some _ ho1)
  have sk : (sortingHeap cp a1 its).get? kS = some (seqObj "list" #[] 0) := by
    unfold sortingHeap
    rw [← ekS]
    exact Heap.get?_push_size _ rfl
  have le1 : g.objs.size ≤ a1 := Nat.le_of_eq ea
  have lek : g.objs.size ≤ kS := by omega
  have Ha1 : H a1 = none := I0.hok.fresh le1
  have HkS : H kS = none := I0.hok.fresh lek
  have fa : FpOk X pins H a1 := I0.fpOk le1 Ha1
  have fk : FpOk X pins H kS := I0.fpOk lek HkS
  have I1 : Inv X pins σ H { s with heap := sortingHeap cp a1 its } := I.kept (t' := s.toks) old
  have I2 : Inv X ((kS, seqObj "list" #[] 0) :: (a1, seqObj "list" #[] e1) :: pins) σ H { s with heap := sortingHeap cp a1 its } :=
    pin_add (pin_add I1 fa sa seq_nocell) (fp_pin fk nka.symm) sk seq_nocell
  unfold ksk_rest
  refine wpAny_bind (wpAny_rule ?_)
  first
    | rw [List.forIn_toArray]
    | (rw [← Array.forIn_toList]; simp only [List.toList_toArray])
  refine wpAny_bind (ksk_fold (fun i s' => ∃ (H' : Hp) (kA : Array Value) (e : Nat), Inv X ((kS, seqObj "list" kA e) :: (a1, seqObj "list" #[] e1) :: pins) σ H' s' ∧ Evl.Ex H H' ∧ EachIs (fun (v : Value) (n : Int) => ∃ t, v = .int n t) kA.toList ((bs.map key).take i)) its 0 _
    ⟨H, #[], 0, I2, Evl.Ex.refl H, by rw [List.take_zero]; exact .nil⟩ ?step ?done)
  case step =>
    rintro j v s' hv ⟨H', kA, e, J, ex, hk⟩
    simp only [Nat.zero_add] at hk ⊢
    have hj : j < its.length := (List.getElem?_eq_some_iff.mp hv).1
    have hjx : j < bs.length := by omega
    obtain ⟨u, hu, ru⟩ := rv.get (i := j) (x := val bs[j]) (by rw [List.getElem?_map, List.getElem?_eq_getElem hjx]; rfl)
    have eu : u = v := Option.some.inj (hu.symm.trans hv)
    subst eu
    have pk := J.pin _ (List.mem_append_right _ List.mem_cons_self)
    have hkz : kA.size = j := by
      have h1 := hk.length
      rw [Array.length_toList, List.length_take, List.length_map] at h1
      omega
    refine wpAny_bind (wpAny_attempt (wpAny_mono (Q := EP X ((kS, seqObj "list" kA e) :: (a1, seqObj "list" #[] e1) :: pins) σ fun z H2 => z = .int (key bs[j]) ∧ Evl.Ex H' H2) (E := fun _ _ => False) ?_ (fun z s3 hz3 => ?_) fun _ _ hF => hF.elim))
    · have rv1 : Vals [val bs[j]] [u] := .cons ru .nil
      refine wpAny_call (codeAny_mono (F.run X.A.in1.in1 X.stack s' H' ⟨[u], []⟩ [u] [val bs[j]] (fun z H2 => z = .int (key bs[j]) ∧ Evl.Ex H' H2) E0 (Room.in1 (Room.in1 hr)) J.env0.in1.in1 ?_ rv1 (hkey _ (List.getElem_mem hjx) H' ex _ fun H2 e2 => ⟨rfl, e2⟩)) fun rr s4 hq4 => ?_)
      · have := hb s' [u] J.kIn rfl
        simpa using this
      · cases rr with
        | error z => exact (show False from hq4).elim
        | ok fl =>
          cases fl with
          | ret u2 => exact J.after hq4
          | next => exact False.elim hq4
          | brk => exact False.elim hq4
          | cont => exact False.elim hq4
    · obtain ⟨zv, H2, J2, rz2, ez, ex2⟩ := hz3
      subst ez
      obtain ⟨tz, rfl⟩ := (show ∃ t, z = Value.int (key bs[j]) t from rz2)
      have pk2 := J2.pin _ (List.mem_append_right _ List.mem_cons_self)
      have pa2 := J2.pin (a1, seqObj "list" #[] e1) (List.mem_append_right _ (List.mem_cons_of_mem _ List.mem_cons_self))
      dsimp only at pk2 pa2
      refine wpAny_bind (listUpdate_at pk2.1 rfl ?_ (by omega) (by rw [Array.size_push]; omega))
      have s1 := Heap.SameBut.update s3.heap kS (Obj.mapSeq (·.push (Value.int (key bs[j]) tz)))
      obtain ⟨c2, hc2⟩ : ∃ c2, (s3.heap.update kS (Obj.mapSeq (·.push (Value.int (key bs[j]) tz)))).get? kS = some (seqObj "list" (kA.push (Value.int (key bs[j]) tz)) c2) := ⟨_, get?_update_seq pk2.1 (·.push _)⟩
      have fk2 : FpOk X ((a1, seqObj "list" #[] e1) :: pins) H2 kS := fp_heap (fp_pin fk nka.symm) pk2.2.1
      have J3 := (pin_drop J2).turned (t' := s3.toks) (h' := s3.heap.update kS (Obj.mapSeq (·.push (Value.int (key bs[j]) tz)))) (it := kS) (fun b o hb e => (s1.2 b hb).trans e) fk2.1 fk2.2.1 fk2.2.2.2.1 fk2.2.2.2.2.1 fk2.2.2.2.2.2
      refine wpAny_pure ⟨rfl, H2, kA.push (Value.int (key bs[j]) tz), c2, pin_add J3 fk2 hc2 seq_nocell, ex.trans ex2, ?_⟩
      have et : (bs.map key).take (j + 1) = (bs.map key).take j ++ [key bs[j]] := by
        rw [List.take_add_one, List.getElem?_map, List.getElem?_eq_getElem hjx]; rfl
      rw [et, Array.toList_push]
      exact each_app hk ⟨tz, rfl⟩
  case done =>
    rintro s' ⟨H', kA, e, J, ex, hk⟩
    have et : (bs.map key).take (0 + its.length) = bs.map key := List.take_of_length_le (by rw [List.length_map]; omega)
    rw [et] at hk
    have hkz : kA.size = its.length := by
      have h1 := hk.length
      rw [Array.length_toList, List.length_map] at h1
      omega
    have pk := J.pin _ (List.mem_append_right _ List.mem_cons_self)
    have pa := J.pin (a1, seqObj "list" #[] e1) (List.mem_append_right _ (List.mem_cons_of_mem _ List.mem_cons_self))
    dsimp only at pk pa
    refine wpAny_bind (listItems_at pk.1 rfl ?_)
    obtain ⟨G, g1, g2⟩ := restrict s'.heap fun b => decide (b ≠ kS)
    have gk : ∀ b, b ≠ kS → G.get? b = s'.heap.get? b := fun b hb => g1 b (decide_eq_true hb)
    have gkS : G.get? kS = none := g2 kS (by simp)
    let kz : List PyData := bs.map fun x => PyData.int (key x)
    have hkd : EachIs (fun (v : Value) (d : PyData) => ∃ as, Reads s'.heap v d as) kA.toList kz := by
      have : ∀ {vs : List Value} {ns : List Int}, EachIs (fun (v : Value) (n : Int) => ∃ t, v = .int n t) vs ns → EachIs (fun (v : Value) (d : PyData) => ∃ as, Reads s'.heap v d as) vs (ns.map PyData.int) := by
        intro vs ns hh
        induction hh with
        | nil => exact .nil
        | cons hx _ ih =>
          obtain ⟨t, rfl⟩ := hx
          exact .cons ⟨[], .int _ t⟩ ih
      have h2 := this hk
      rw [List.map_map] at h2
      exact h2
    have hal : AllAlike kz := fun d hd d' hd' => by
      obtain ⟨x, _, rfl⟩ := List.mem_map.mp hd
      obtain ⟨y, _, rfl⟩ := List.mem_map.mp hd'
      rfl
    have hsk : Sortable kz := .inr fun d hd => by
      obtain ⟨x, _, rfl⟩ := List.mem_map.mp hd
      exact ⟨fun z => (by cases z), fun xs z => (by cases z)⟩
    have hu : ∀ d, d ∈ kz → X.A.in1.in1.units + d.depth < cLine := fun d hd => by
      obtain ⟨x, _, rfl⟩ := List.mem_map.mp hd
      have := hr.un
      show X.A.units + 1 + 1 + 0 < cLine
      omega
    refine keyH_end (κ := dataKind s'.heap kz) (h₁ := G) (fun b o hb e => ?_) gkS pk.1 pa.1 nka (SortsAt.data hkd hal hsk hu) hkz hzi fun h' tk c kp hc => ?_
    · by_cases z : b = kS
      · rw [z, gkS] at e; cases e
      · rw [← gk b z]; exact e
    · refine ⟨_, rfl, wpAny_pure ⟨_, rfl, ?_⟩⟩
      have J0 := pin_drop (pin_drop J)
      have fk0 : FpOk X pins H' kS := fp_heap fk pk.2.1
      have fa0 : FpOk X pins H' a1 := fp_heap fa pa.2.1
      have keep : ∀ b o, b ∉ [a1, kS] → s'.heap.get? b = some o → h'.get? b = some o := fun b o hb e => by
        have n1 : b ≠ a1 := fun z => hb (by simp [z])
        have n2 : b ≠ kS := fun z => hb (by simp [z])
        exact kp b o n1 ((gk b n2).trans e)
      have J1 : Inv X pins σ H' { s' with heap := h', toks := tk } := J0.turnedL (t' := tk) (ch := [a1, kS]) keep fun b hb => by
        rcases List.mem_cons.mp hb with z | z
        · rw [z]; exact fa0
        · rw [List.mem_singleton.mp z]; exact fk0
      have ko : KeyedOut false (bs.map fun x => PyData.int (key x)) its (sortVals (dataKind s'.heap kz) false kA.toList its) := ⟨s'.heap, kA.toList, hal, rfl, hkd⟩
      have eo := keyedOut_each (R := fun (u : Value) (x : α) => RelV (val x) u) (bs := bs) (fun x => PyData.int (key x)) ko (each_unmap (vals_each rv))
      rw [dataLe_int] at eo
      have vo := each_vals (each_map (R := fun (u : Value) (x : V) => RelV x u) eo)
      have J2 : Inv X pins σ (upd H' a1 (.lst ((bs.mergeSort fun x y => decide (key x ≤ key y)).map val))) { s' with heap := h', toks := tk } :=
        J1.take (t' := tk) (h' := h') (it := a1) (fun b ob _ e => e) fa0 ⟨by rw [List.length_map, List.length_mergeSort, ← List.length_map (f := val)]; exact hz, _, c, vo, hc⟩
      refine ⟨.ref a1, _, J2, rfl, q a1 _ Ha1 (fun b o e => ?_) upd_same⟩
      rw [upd_ne (ne_of_none e Ha1)]
      exact ex b o e
end
end K01


set_option Elab.async false
set_option linter.all false
set_option maxRecDepth 100000
set_option maxHeartbeats 4000000
/-! max of a tuple of whole numbers -/
namespace K01
open PySem PySem.Spec PyProof.Rows L2
section
variable {prog : Program} {w : World} {A : Around} {E : Value → Shared → Prop} {s : Shared} {l : Addr} {its : List Value} {ns : List Int} {Q : Value → Shared → Prop}
theorem max_tup0 {xs : Array (Int × Tok)} (hh : A.handled = none) (hT : s.heap.IsTuple l (intItems xs)) (hne : 0 < xs.size)
    (k : ∀ v h' tk, (intItems xs)[argBest (fun i j => decide (numAt xs i > numAt xs j)) (xs.size - 1)]? = some v → (∀ b o, s.heap.get? b = some o → h'.get? b = some o) → Q v { s with heap := h', toks := tk }) :
    wpAny (model prog w) A (call (.builtin "max") [.ref l]) Q E s := by
  have hl : l < s.heap.objs.size := by
    obtain ⟨o, ho, _⟩ := id hT
    exact Heap.lt_size ho
  refine call_max_walk (wpAny_pyIter_tuple hT ?_)
  refine ⟨_, [_, l], [_], _, _, _, _, rfl, Walks.tuple (A := A.in1) hh s.heap.objs.size l (Nat.ne_of_lt hl) (intItems xs), ⟨⟨_, Heap.get?_push_size _ rfl, rfl, rfl⟩, hT.push _⟩, fun c hc => ?_, by simpa [intItems] using hne,
    CmpOf.ints_gt (numAt xs) (fun _ _ => intItems_at), fun v h' tk hP hk => ?_⟩
  · show c < (s.heap.push _).objs.size
    rw [Heap.size_push]
    rcases List.mem_cons.mp hc with z | z
    · rw [z]; exact Nat.lt_succ_self _
    · rw [List.mem_singleton.mp z]; exact Nat.lt_succ_of_lt hl
  · refine k v h' tk (by simpa [intItems] using hP) fun b o e => hk b o (fun z => ?_) (Heap.get?_push_of_some _ e)
    have := Heap.lt_size e
    rw [List.mem_singleton.mp z] at this
    exact Nat.lt_irrefl _ this
theorem max_tupR (hh : A.handled = none) (hT : s.heap.IsTuple l its.toArray) (hi : IntsAre its ns) (hne : 0 < ns.length)
    (k : ∀ h' tk M t', (∀ b o, s.heap.get? b = some o → h'.get? b = some o) → M ∈ ns → (∀ a, a ∈ ns → a ≤ M) → Q (.int M t') { s with heap := h', toks := tk }) : wpAny (model prog w) A (call (.builtin "max") [.ref l]) Q E s := by
  obtain ⟨xs, e⟩ := hi.allInts.items
  have en : numsOf (intItems xs).toList = ns := by rw [← e]; exact hi.numsOf
  rw [nums_intItems] at en
  subst en
  rw [e] at hT
  have hz : 0 < xs.size := by simpa using hne
  refine max_tup0 hh hT hz fun v h' tk hv hk => ?_
  obtain ⟨t, rfl⟩ := intItems_at hv
  obtain ⟨m1, m2⟩ := argBest_gt (numAt xs) (xs.size - 1)
  refine k h' tk _ t hk ?_ fun a ha => ?_
  · rw [numAt_eq]
    refine PySem.getD_mem ?_
    rw [List.length_map, Array.length_toList]
    omega
  · obtain ⟨j, hj, rfl⟩ := mem_getD ha
    rw [List.length_map, Array.length_toList] at hj
    rw [← numAt_eq]
    exact m2 j (by omega)
end
def rMaxT (K : PySem.W.Frag) : List V → Hp → VK → Prop := fun vs H Q => ∃ (a : Addr) (ns : List Int), vs = [V.ref a] ∧ SqT K H a (ns.map V.int) ∧ 0 < ns.length ∧ ∀ m, m ∈ ns → (∀ y, y ∈ ns → y ≤ m) → Q (.int m) H
theorem cr_maxT {X : Cx} (hc : X.calm = true) : CallR X (.builtin "max") (rMaxT X.K) := by
  intro pins s σ H vs us Q I r hh
  obtain ⟨a, ns, rfl, hs, hne, q⟩ := hh
  obtain ⟨its, rv, hT, _⟩ := I.tuple hs
  obtain rfl := Vals.ref1 r
  refine max_tupR (I.ok.hd hc) (show s.heap.IsTuple a its.toArray from hT) rv.ints hne fun h' tk m t' hk m1 m2 => ?_
  exact ⟨.int m, H, I.kept hk, ⟨t', rfl⟩, q m m1 m2⟩
end K01


set_option maxRecDepth 100000
namespace Lin
/-! rows of whole numbers modulo a prime -/
abbrev Row := List Int
def OkR (p : Int) (n : Nat) (v : Row) : Prop := v.length = n ∧ ∀ x ∈ v, 0 ≤ x ∧ x < p
def g (v : Row) (i : Nat) : Int := v.getD i 0
def add (p : Int) (u : Row) (c : Int) (w : Row) : Row := List.zipWith (fun a b => (a + c * b) % p) u w
def times (p f : Int) (u : Row) : Row := u.map fun x => f * x % p
def zero (n : Nat) : Row := List.replicate n 0
def lead : Row → Nat
  | [] => 0
  | x :: r => if x = 0 then lead r + 1 else 0

theorem modEq {a b p : Int} (k : Int) (h : a = b + p * k) : a % p = b % p := by
  rw [h, Int.add_mul_emod_self_left]
theorem md (x p : Int) : x % p = x - p * (x / p) := by have := Int.mul_ediv_add_emod x p; omega
theorem mod_add_cong {a b c d p : Int} (h1 : a % p = b % p) (h2 : c % p = d % p) : (a + c) % p = (b + d) % p := by
  rw [Int.add_emod, h1, h2, ← Int.add_emod]
theorem mod_mul_cong {a b c d p : Int} (h1 : a % p = b % p) (h2 : c % p = d % p) : (a * c) % p = (b * d) % p := by
  rw [Int.mul_emod, h1, h2, ← Int.mul_emod]
theorem mod_sub_cong {a b c d p : Int} (h1 : a % p = b % p) (h2 : c % p = d % p) : (a - c) % p = (b - d) % p := by
  rw [Int.sub_emod, h1, h2, ← Int.sub_emod]
theorem mm (a p : Int) : a % p % p = a % p := Int.emod_emod_of_dvd a (Int.dvd_refl p)

theorem g_ge {v : Row} {i : Nat} (h : v.length ≤ i) : g v i = 0 := by
  unfold g; rw [List.getD_eq_getElem?_getD, List.getElem?_eq_none h]; rfl
theorem g_lt {v : Row} {i : Nat} (h : i < v.length) : g v i = v[i] := by
  unfold g; rw [List.getD_eq_getElem?_getD, List.getElem?_eq_getElem h]; rfl
theorem g_get? {v : Row} {i : Nat} (h : i < v.length) : v[i]? = some (g v i) := by
  rw [g_lt h]; exact List.getElem?_eq_getElem h
theorem g_bd {p : Int} {n : Nat} {v : Row} (hp : 0 < p) (h : OkR p n v) (i : Nat) : 0 ≤ g v i ∧ g v i < p := by
  by_cases hi : i < v.length
  · rw [g_lt hi]; exact h.2 _ (List.getElem_mem hi)
  · rw [g_ge (by omega)]; omega
theorem g_mod {p : Int} {n : Nat} {v : Row} (hp : 0 < p) (h : OkR p n v) (i : Nat) : g v i % p = g v i := by
  have := g_bd hp h i
  exact Int.emod_eq_of_lt this.1 this.2
theorem g_add {p : Int} {u w : Row} {c : Int} (h : u.length = w.length) (i : Nat) : g (add p u c w) i = (g u i + c * g w i) % p := by
  by_cases hi : i < u.length
  · have hw : i < w.length := h ▸ hi
    have hz : i < (add p u c w).length := by unfold add; rw [List.length_zipWith]; omega
    rw [g_lt hz, g_lt hi, g_lt hw]; simp only [add, List.getElem_zipWith]
  · rw [g_ge (v := u) (by omega), g_ge (v := w) (by omega), g_ge (v := add p u c w) (by unfold add; rw [List.length_zipWith]; omega)]
    simp
theorem g_times {p f : Int} {u : Row} (i : Nat) : g (times p f u) i = f * g u i % p := by
  by_cases hi : i < u.length
  · have hz : i < (times p f u).length := by unfold times; rw [List.length_map]; omega
    rw [g_lt hz, g_lt hi]; simp only [times, List.getElem_map]
  · rw [g_ge (v := u) (by omega), g_ge (v := times p f u) (by unfold times; rw [List.length_map]; omega)]
    simp
theorem g_zero (n i : Nat) : g (zero n) i = 0 := by
  unfold g zero
  rw [List.getD_eq_getElem?_getD, List.getElem?_replicate]; split <;> rfl
theorem len_add {p : Int} {u w : Row} {c : Int} {n : Nat} (h : u.length = n) (h2 : w.length = n) : (add p u c w).length = n := by
  unfold add; rw [List.length_zipWith]; omega
theorem ok_add {p : Int} {u w : Row} {c : Int} {n : Nat} (hp : 0 < p) (h : u.length = n) (h2 : w.length = n) : OkR p n (add p u c w) := by
  refine ⟨len_add h h2, fun x hx => ?_⟩
  unfold add at hx
  obtain ⟨i, hi, e⟩ := List.mem_iff_getElem.mp hx
  rw [List.getElem_zipWith] at e
  rw [← e]; exact ⟨Int.emod_nonneg _ (by omega), Int.emod_lt_of_pos _ hp⟩
theorem ok_times {p f : Int} {u : Row} {n : Nat} (hp : 0 < p) (h : u.length = n) : OkR p n (times p f u) := by
  refine ⟨by unfold times; rw [List.length_map]; exact h, fun x hx => ?_⟩
  unfold times at hx
  obtain ⟨y, _, e⟩ := List.mem_map.mp hx
  rw [← e]; exact ⟨Int.emod_nonneg _ (by omega), Int.emod_lt_of_pos _ hp⟩
theorem ok_zero {p : Int} (n : Nat) (hp : 0 < p) : OkR p n (zero n) := by
  refine ⟨List.length_replicate, fun x hx => ?_⟩
  have := List.eq_of_mem_replicate hx
  omega
theorem ext {n : Nat} {u v : Row} (h1 : u.length = n) (h2 : v.length = n) (h : ∀ i, i < n → g u i = g v i) : u = v := by
  apply List.ext_getElem (by omega)
  intro i hi hj
  have := h i (by omega)
  rwa [g_lt hi, g_lt hj] at this

/-! ### sums of multiples -/
inductive Sp (p : Int) (n : Nat) (R : List Row) : Row → Prop
  | zero : Sp p n R (zero n)
  | step {u r : Row} (c : Int) : Sp p n R u → r ∈ R → Sp p n R (add p u c r)
def Oks (p : Int) (n : Nat) (R : List Row) : Prop := ∀ r ∈ R, OkR p n r
section
variable {p : Int} {n : Nat} {R R' : List Row} {u v w r : Row} {c : Int}
theorem Sp.ok (hp : 0 < p) (hR : Oks p n R) (h : Sp p n R v) : OkR p n v := by
  induction h with
  | zero => exact ok_zero n hp
  | step c _ hr ih => exact ok_add hp ih.1 (hR _ hr).1
theorem add_zero' (hp : 0 < p) (hu : OkR p n u) : add p u c (zero n) = u :=
  ext (n := n) (len_add hu.1 (ok_zero n hp).1) hu.1 fun i _ => by
    rw [g_add (by rw [hu.1, (ok_zero n hp).1]), g_zero, Int.mul_zero, Int.add_zero, g_mod hp hu]
theorem Sp.add (hp : 0 < p) (hR : Oks p n R) (hu : Sp p n R u) (hv : Sp p n R v) (c : Int) : Sp p n R (Lin.add p u c v) := by
  induction hv generalizing c with
  | zero => rw [add_zero' hp (hu.ok hp hR)]; exact hu
  | @step v' r d hv' hr ih =>
    have ou := hu.ok hp hR
    have ov := hv'.ok hp hR
    have orr := hR _ hr
    have e : Lin.add p u c (Lin.add p v' d r) = Lin.add p (Lin.add p u c v') (c * d) r := by
      have l1 := len_add (p := p) (c := d) ov.1 orr.1
      have l2 := len_add (p := p) (c := c) ou.1 ov.1
      refine ext (n := n) (len_add ou.1 l1) (len_add l2 orr.1) fun i _ => ?_
      rw [g_add (by rw [ou.1, l1]), g_add (by rw [ov.1, orr.1]), g_add (by rw [l2, orr.1]), g_add (by rw [ou.1, ov.1])]
      rw [md (g v' i + d * g r i) p, md (g u i + c * g v' i) p]
      refine modEq (-(c * ((g v' i + d * g r i) / p)) + (g u i + c * g v' i) / p) ?_
      grind
    rw [e]; exact (ih c).step _ hr
theorem Sp.gen (hp : 0 < p) (hr : OkR p n r) (h : r ∈ R) : Sp p n R r := by
  have e : Lin.add p (Lin.zero n) 1 r = r := ext (n := n) (len_add (ok_zero n hp).1 hr.1) hr.1 fun i _ => by
    rw [g_add (by rw [hr.1, (ok_zero n hp).1]), g_zero, Int.one_mul, Int.zero_add, g_mod hp hr]
  rw [← e]; exact Sp.zero.step 1 h
theorem Sp.mono (hp : 0 < p) (hR' : Oks p n R') (h : ∀ r ∈ R, Sp p n R' r) (hv : Sp p n R v) : Sp p n R' v := by
  induction hv with
  | zero => exact .zero
  | step c _ hr ih => exact ih.add hp hR' (h _ hr) c
theorem Sp.sub (h : ∀ r ∈ R, r ∈ R') (hv : Sp p n R v) : Sp p n R' v := by
  induction hv with
  | zero => exact .zero
  | step c _ hr ih => exact ih.step c (h _ hr)
theorem Sp.times (hp : 0 < p) (hR : Oks p n R) (hv : Sp p n R v) (f : Int) : Sp p n R (times p f v) := by
  have ov := hv.ok hp hR
  have e : Lin.times p f v = Lin.add p (Lin.zero n) f v := ext (n := n) (ok_times hp ov.1).1 (len_add (ok_zero n hp).1 ov.1) fun i _ => by
    rw [g_add (by rw [ov.1, (ok_zero n hp).1]), g_zero, Int.zero_add, g_times]
  rw [e]; exact Sp.zero.add hp hR hv f
end
/-! ### rows with a place of their own -/
structure Ind (p : Int) (n : Nat) (S : List Row) (piv : Row → Nat) : Prop where
  ok : Oks p n S
  nd : S.Nodup
  one : ∀ s ∈ S, g s (piv s) = 1
  off : ∀ s ∈ S, ∀ t ∈ S, t ≠ s → g t (piv s) = 0
theorem sum_none {α : Type} {S : List α} {f : α → Int} (h : ∀ s ∈ S, f s = 0) : (S.map f).sum = 0 := by
  induction S with
  | nil => rfl
  | cons a r ih =>
    rw [List.map_cons, List.sum_cons, h a List.mem_cons_self, ih fun s hs => h s (List.mem_cons_of_mem _ hs)]; rfl
theorem sum_one {α : Type} {S : List α} {f : α → Int} {r : α} (nd : S.Nodup) (hr : r ∈ S) (h : ∀ s ∈ S, s ≠ r → f s = 0) : (S.map f).sum = f r := by
  induction S with
  | nil => cases hr
  | cons a l ih =>
    rw [List.map_cons, List.sum_cons]
    have hn := List.nodup_cons.mp nd
    rcases List.mem_cons.mp hr with e | e
    · subst e
      rw [sum_none fun s hs => h s (List.mem_cons_of_mem _ hs) fun z => hn.1 (z ▸ hs)]; omega
    · rw [ih hn.2 e fun s hs => h s (List.mem_cons_of_mem _ hs), h a List.mem_cons_self fun z => hn.1 (z ▸ e)]; omega
theorem sum_lin {α : Type} {p : Int} {S : List α} {f a b : α → Int} {c : Int} (h : ∀ s ∈ S, f s % p = (a s + c * b s) % p) : (S.map f).sum % p = ((S.map a).sum + c * (S.map b).sum) % p := by
  induction S with
  | nil => simp
  | cons x l ih =>
    simp only [List.map_cons, List.sum_cons]
    have e : a x + (l.map a).sum + c * (b x + (l.map b).sum) = (a x + c * b x) + ((l.map a).sum + c * (l.map b).sum) := by grind
    rw [e]
    exact mod_add_cong (h x List.mem_cons_self) (ih fun s hs => h s (List.mem_cons_of_mem _ hs))
section
variable {p : Int} {n : Nat} {S : List Row} {piv : Row → Nat} {v w : Row}
theorem Ind.rep (hp : 0 < p) (I : Ind p n S piv) (h : Sp p n S v) (j : Nat) : g v j % p = (S.map fun s => g v (piv s) * g s j).sum % p := by
  induction h with
  | zero => rw [g_zero, sum_none fun s _ => by rw [g_zero, Int.zero_mul]]
  | @step v' r c hv hr ih =>
    have ov := hv.ok hp I.ok
    have orr := I.ok _ hr
    have hl : v'.length = r.length := by rw [ov.1, orr.1]
    rw [g_add hl, mm]
    have e1 : (S.map fun s => g (add p v' c r) (piv s) * g s j).sum % p = ((S.map fun s => g v' (piv s) * g s j).sum + c * (S.map fun s => g r (piv s) * g s j).sum) % p := by
      refine sum_lin fun s _ => ?_
      rw [g_add hl]
      have e : g v' (piv s) * g s j + c * (g r (piv s) * g s j) = (g v' (piv s) + c * g r (piv s)) * g s j := by grind
      rw [e]; exact mod_mul_cong (mm _ _) rfl
    have e2 : (S.map fun s => g r (piv s) * g s j).sum = g r j := by
      rw [sum_one (r := r) I.nd hr fun s hs ne => by rw [I.off s hs r hr (Ne.symm ne), Int.zero_mul], I.one r hr, Int.one_mul]
    rw [e1, e2]
    exact mod_add_cong ih rfl
theorem Ind.eq (hp : 0 < p) (I : Ind p n S piv) (hv : Sp p n S v) (hw : Sp p n S w) (h : ∀ s ∈ S, g v (piv s) = g w (piv s)) : v = w := by
  have ov := hv.ok hp I.ok
  have ow := hw.ok hp I.ok
  refine ext ov.1 ow.1 fun j _ => ?_
  rw [← g_mod hp ov, ← g_mod hp ow, I.rep hp hv j, I.rep hp hw j]
  congr 1
  congr 1
  exact List.map_congr_left fun s hs => by rw [h s hs]
theorem Ind.zero (hp : 0 < p) (I : Ind p n S piv) (hv : Sp p n S v) (h : ∀ s ∈ S, g v (piv s) = 0) : v = Lin.zero n :=
  I.eq hp hv .zero fun s hs => by rw [h s hs, g_zero]
end
end Lin


set_option maxRecDepth 100000
namespace Lin
/-! ### the first place that isn't 0 -/
theorem lead_le : ∀ v : Row, lead v ≤ v.length
  | [] => Nat.le_refl _
  | x :: r => by
    have := lead_le r
    unfold lead; split <;> simp <;> omega
theorem g_cons0 {x : Int} {r : Row} : g (x :: r) 0 = x := rfl
theorem g_consS {x : Int} {r : Row} {i : Nat} : g (x :: r) (i + 1) = g r i := by simp [g]
theorem lead_ne : ∀ {v : Row}, lead v < v.length → g v (lead v) ≠ 0
  | [], h => by simp at h
  | x :: r, h => by
    by_cases hx : x = 0
    · have e : lead (x :: r) = lead r + 1 := by rw [lead, if_pos hx]
      rw [e] at h ⊢
      rw [g_consS]; exact lead_ne (by simpa using h)
    · have e : lead (x :: r) = 0 := by rw [lead, if_neg hx]
      rw [e, g_cons0]; exact hx
theorem lead_lt : ∀ {v : Row} {i : Nat}, i < lead v → g v i = 0
  | [], i, h => by simp [lead] at h
  | x :: r, i, h => by
    by_cases hx : x = 0
    · have e : lead (x :: r) = lead r + 1 := by rw [lead, if_pos hx]
      rw [e] at h
      cases i with
      | zero => exact hx
      | succ i => rw [g_consS]; exact lead_lt (by omega)
    · have e : lead (x :: r) = 0 := by rw [lead, if_neg hx]
      omega
theorem lead_is {v : Row} {k : Nat} (h : ∀ i, i < k → g v i = 0) (hk : g v k ≠ 0) : lead v = k := by
  by_cases h1 : lead v < k
  · by_cases h2 : lead v < v.length
    · exact absurd (h _ h1) (lead_ne h2)
    · exact absurd (g_ge (by have := lead_le v; omega)) hk
  · by_cases h2 : k < lead v
    · exact absurd (lead_lt h2) hk
    · omega
theorem g_ne_lt {v : Row} {k : Nat} (hk : g v k ≠ 0) : k < v.length := by
  by_cases h : k < v.length
  · exact h
  · exact absurd (g_ge (by omega)) hk
theorem lead_len {n : Nat} {v : Row} (hv : v.length = n) (h : lead v = v.length) : v = zero n :=
  ext hv List.length_replicate fun i hi => by rw [g_zero]; exact lead_lt (by omega)
theorem lead_nz {n : Nat} {v : Row} (hv : v.length = n) (h : v ≠ zero n) : lead v < n := by
  have := lead_le v
  rcases Nat.lt_or_ge (lead v) n with z | z
  · exact z
  · exact absurd (lead_len hv (by omega)) h
/-! ### staircases -/
structure Rref (p : Int) (n : Nat) (S : List Row) : Prop where
  ok : Oks p n S
  one : ∀ s ∈ S, g s (lead s) = 1
  off : ∀ s ∈ S, ∀ t ∈ S, t ≠ s → g t (lead s) = 0
  srt : S.Pairwise fun s t => lead s < lead t
section
variable {p : Int} {n : Nat} {S : List Row} {v w : Row}
theorem Rref.nil : Rref p n [] := ⟨by simp [Oks], by simp, by simp, List.Pairwise.nil⟩
theorem Rref.ind (h : Rref p n S) : Ind p n S lead := ⟨h.ok, h.srt.imp fun {a b} q e => by rw [e] at q; omega, h.one, h.off⟩
theorem Rref.lt (h : Rref p n S) {s : Row} (hs : s ∈ S) : lead s < n := by
  have := g_ne_lt (v := s) (k := lead s) (by rw [h.one s hs]; decide)
  rw [(h.ok s hs).1] at this; exact this
/-- the first place of a sum of multiples is that of a step -/
theorem Rref.lead_mem (hp : 0 < p) (h : Rref p n S) (hv : Sp p n S v) (nz : v ≠ zero n) : ∃ s ∈ S, lead s = lead v := by
  have ov := hv.ok hp h.ok
  have hl := lead_nz ov.1 nz
  have hne := lead_ne (v := v) (by rw [ov.1]; exact hl)
  rcases Classical.em (∃ s ∈ S, lead s = lead v) with z | z
  · exact z
  · have hz : ∀ s ∈ S, g v (lead s) * g s (lead v) = 0 := fun s hs => by
      rcases Nat.lt_trichotomy (lead s) (lead v) with q | q | q
      · rw [lead_lt q, Int.zero_mul]
      · exact absurd ⟨s, hs, q⟩ z
      · rw [lead_lt q, Int.mul_zero]
    have := h.ind.rep hp hv (lead v)
    rw [sum_none hz, g_mod hp ov, Int.zero_emod] at this
    exact absurd this hne
end
/-! ### lists in order -/
theorem sorted_eq : ∀ {xs ys : List Nat}, xs.Pairwise (· < ·) → ys.Pairwise (· < ·) → (∀ a, a ∈ xs ↔ a ∈ ys) → xs = ys
  | [], [], _, _, _ => rfl
  | [], y :: l, _, _, h => absurd ((h y).2 List.mem_cons_self) (by simp)
  | x :: l, [], _, _, h => absurd ((h x).1 List.mem_cons_self) (by simp)
  | x :: l, y :: m, h1, h2, h => by
    have a1 := List.pairwise_cons.mp h1
    have a2 := List.pairwise_cons.mp h2
    have e : x = y := by
      rcases List.mem_cons.mp ((h x).1 List.mem_cons_self) with q | q
      · exact q
      · rcases List.mem_cons.mp ((h y).2 List.mem_cons_self) with q' | q'
        · exact q'.symm
        · have := a2.1 x q; have := a1.1 y q'; omega
    subst e
    rw [sorted_eq a1.2 a2.2 fun a => ⟨fun ha => ?_, fun ha => ?_⟩]
    · rcases List.mem_cons.mp ((h a).1 (List.mem_cons_of_mem _ ha)) with q | q
      · have := a1.1 a ha; omega
      · exact q
    · rcases List.mem_cons.mp ((h a).2 (List.mem_cons_of_mem _ ha)) with q | q
      · have := a2.1 a ha; omega
      · exact q
theorem filter_one {α : Type} {L : List α} {f : α → Bool} {s : α} (nd : L.Nodup) (hs : s ∈ L) (h : ∀ x ∈ L, f x = true ↔ x = s) : L.filter f = [s] := by
  induction L with
  | nil => cases hs
  | cons a l ih =>
    have hn := List.nodup_cons.mp nd
    rcases List.mem_cons.mp hs with e | e
    · subst e
      rw [List.filter_cons, if_pos ((h s List.mem_cons_self).2 rfl)]
      rw [List.filter_eq_nil_iff.mpr fun x hx q => hn.1 (by rw [← (h x (List.mem_cons_of_mem _ hx)).1 q]; exact hx)]
    · have ha : ¬ f a = true := fun q => hn.1 (by rw [(h a List.mem_cons_self).1 q]; exact e)
      rw [List.filter_cons, if_neg ha]
      exact ih hn.2 e fun x hx => h x (List.mem_cons_of_mem _ hx)
/-! ### the staircase of a list of all sums: what the law says of it -/
def lawRows (lot : List Row) : List Row := lot.filter fun one => decide (g one (lead one) = 1)
def lawNear (leads : List Nat) (rows : List Row) (place : Nat) : List Row :=
  (rows.filter fun one => decide (lead one = place)).filter fun one => leads.all fun a => decide (a = place) || decide (g one a = 0)
def lawStairs (leads : List Nat) (lot : List Row) : List Row := leads.flatMap fun place => lawNear leads (lawRows lot) place
section
variable {p : Int} {n : Nat} {S : List Row} {L : List Row}
theorem Rref.leads (hp : 1 < p) (h : Rref p n S) (hL : ∀ v, v ∈ L ↔ Sp p n S v) (a : Nat) : a ∈ (lawRows L).map lead ↔ a ∈ S.map lead := by
  unfold lawRows
  constructor
  · intro ha
    obtain ⟨v, hv, e⟩ := List.mem_map.mp ha
    have hv' := List.mem_filter.mp hv
    have sv := (hL v).1 hv'.1
    have nz : v ≠ zero n := fun z => by
      have := of_decide_eq_true hv'.2
      rw [z, g_zero] at this; cases this
    obtain ⟨s, hs, q⟩ := h.lead_mem (by omega) sv nz
    exact List.mem_map.mpr ⟨s, hs, by rw [q, e]⟩
  · intro ha
    obtain ⟨s, hs, e⟩ := List.mem_map.mp ha
    exact List.mem_map.mpr ⟨s, List.mem_filter.mpr ⟨(hL s).2 (Sp.gen (by omega) (h.ok s hs) hs), decide_eq_true (h.one s hs)⟩, e⟩
theorem flatMap_single {α β : Type} {xs : List α} {f : α → List β} {k : α → β} (h : ∀ x ∈ xs, f x = [k x]) : xs.flatMap f = xs.map k := by
  induction xs with
  | nil => rfl
  | cons a l ih => rw [List.flatMap_cons, h a List.mem_cons_self, ih fun x hx => h x (List.mem_cons_of_mem _ hx)]; rfl
theorem Rref.leads_srt (h : Rref p n S) : (S.map lead).Pairwise (· < ·) := List.pairwise_map.mpr h.srt
theorem lawStairs_is (hp : 1 < p) (h : Rref p n S) (hL : ∀ v, v ∈ L ↔ Sp p n S v) (nd : L.Nodup) {leads : List Nat} (hs : leads.Pairwise (· < ·)) (hm : ∀ a, a ∈ leads ↔ a ∈ (lawRows L).map lead) : lawStairs leads L = S := by
  have e : leads = S.map lead := sorted_eq hs h.leads_srt fun a => by rw [hm a, h.leads hp hL a]
  subst e
  have hp0 : 0 < p := by omega
  unfold lawStairs
  rw [List.flatMap_map]
  rw [flatMap_single (k := id) fun s hs => ?_, List.map_id]
  unfold lawNear lawRows
  rw [List.filter_filter, List.filter_filter]
  refine filter_one nd ((hL s).2 (Sp.gen hp0 (h.ok s hs) hs)) fun v hv => ?_
  have sv := (hL v).1 hv
  constructor
  · intro q
    simp only [Bool.and_eq_true, decide_eq_true_eq, List.all_eq_true, Bool.or_eq_true] at q
    obtain ⟨⟨q1, q2⟩, q3⟩ := q
    refine h.ind.eq hp0 sv (Sp.gen hp0 (h.ok s hs) hs) fun t ht => ?_
    by_cases e : t = s
    · subst e; show g v (lead t) = g t (lead t); rw [h.one t ht, ← q2, q3]
    · show g v (lead t) = g s (lead t); rw [h.off t ht s hs (fun z => e z.symm)]
      rcases q1 (lead t) (List.mem_map_of_mem ht) with z | z
      · exact absurd (z : lead t = lead s) fun z => by
          have := h.off t ht s hs (fun z => e z.symm)
          rw [z, h.one s hs] at this; cases this
      · exact z
  · intro q
    subst q
    simp only [Bool.and_eq_true, decide_eq_true_eq, List.all_eq_true, Bool.or_eq_true, id_eq]
    refine ⟨⟨fun a ha => ?_, trivial⟩, h.one v hs⟩
    obtain ⟨t, ht, e⟩ := List.mem_map.mp ha
    subst e
    by_cases e : t = v
    · subst e; exact .inl rfl
    · exact .inr (h.off t ht v hs (fun z => e z.symm))
end
end Lin


set_option maxRecDepth 100000
set_option linter.unusedVariables false
namespace Lin
section
variable {p : Int} {n : Nat} {S T R : List Row} {v w r : Row}
/-! ### what is left of a row behind the steps -/
def remS (p : Int) (S : List Row) (row : Row) : Row := S.foldl (fun row s => add p row (-(g row (lead s))) s) row
structure Rem (p : Int) (n : Nat) (S : List Row) (row out : Row) : Prop where
  ok : OkR p n out
  away : ∀ s ∈ S, g out (lead s) = 0
  to : Sp p n (row :: S) out
  back : Sp p n (out :: S) row
theorem oks_cons (h : OkR p n r) (hS : Oks p n S) : Oks p n (r :: S) := fun x hx => by
  rcases List.mem_cons.mp hx with e | e
  · subst e; exact h
  · exact hS x e
theorem remS_inv (hp : 0 < p) (h : Rref p n S) : ∀ (T : List Row), (∀ t ∈ T, t ∈ S) → ∀ row, OkR p n row →
    OkR p n (remS p T row) ∧ (∀ s ∈ S, g row (lead s) = 0 → g (remS p T row) (lead s) = 0) ∧ (∀ t ∈ T, g (remS p T row) (lead t) = 0) ∧ Sp p n (row :: S) (remS p T row) ∧ Sp p n (remS p T row :: S) row
  | [], _, row, o => ⟨o, fun _ _ e => e, by simp, Sp.gen hp o List.mem_cons_self, Sp.gen hp o List.mem_cons_self⟩
  | t :: T, hT, row, o => by
    have tS := hT t List.mem_cons_self
    have ot := h.ok t tS
    have l : row.length = t.length := by rw [o.1, ot.1]
    have o1 : OkR p n (add p row (-(g row (lead t))) t) := ok_add hp o.1 ot.1
    obtain ⟨a, b, c, d, e⟩ := remS_inv hp h T (fun x hx => hT x (List.mem_cons_of_mem _ hx)) _ o1
    have s1 : Sp p n (row :: S) (add p row (-(g row (lead t))) t) := (Sp.gen hp o List.mem_cons_self).step _ (List.mem_cons_of_mem _ tS)
    have s2 : Sp p n (add p row (-(g row (lead t))) t :: S) row := by
      have e : add p (add p row (-(g row (lead t))) t) (g row (lead t)) t = row := ext (n := n) (len_add o1.1 ot.1) o.1 fun i _ => by
        rw [g_add (by rw [o1.1, ot.1]), g_add l, md (g row i + _) p, ← g_mod hp o i]
        refine modEq (-((g row i % p + -(g row (lead t)) * g t i) / p)) ?_
        rw [g_mod hp o i]; grind
      have := (Sp.gen (R := add p row (-(g row (lead t))) t :: S) hp o1 List.mem_cons_self).step (g row (lead t)) (List.mem_cons_of_mem _ tS)
      rw [e] at this; exact this
    have z : ∀ s ∈ S, g row (lead s) = 0 → g (add p row (-(g row (lead t))) t) (lead s) = 0 := fun s hs e0 => by
      rw [g_add l, e0]
      by_cases q : t = s
      · subst q; rw [e0]; simp
      · rw [h.off s hs t tS q]; simp
    have zt : g (add p row (-(g row (lead t))) t) (lead t) = 0 := by
      rw [g_add l, h.one t tS]
      have : g row (lead t) + -(g row (lead t)) * 1 = 0 := by omega
      rw [this]; rfl
    refine ⟨a, fun s hs e0 => b s hs (z s hs e0), fun x hx => ?_, ?_, ?_⟩
    · rcases List.mem_cons.mp hx with q | q
      · subst q; exact b x tS zt
      · exact c x q
    · refine d.mono hp (oks_cons o h.ok) fun x hx => ?_
      rcases List.mem_cons.mp hx with q | q
      · subst q; exact s1
      · exact Sp.gen hp (h.ok x q) (List.mem_cons_of_mem _ q)
    · refine s2.mono hp (oks_cons a h.ok) fun x hx => ?_
      rcases List.mem_cons.mp hx with q | q
      · subst q; exact e
      · exact Sp.gen hp (h.ok x q) (List.mem_cons_of_mem _ q)
theorem remS_is (hp : 0 < p) (h : Rref p n S) (o : OkR p n r) : Rem p n S r (remS p S r) := by
  obtain ⟨a, _, c, d, e⟩ := remS_inv hp h S (fun _ q => q) r o
  exact ⟨a, c, d, e⟩
/-! ### one more row -/
def Same (p : Int) (n : Nat) (R R' : List Row) : Prop := ∀ v, Sp p n R v ↔ Sp p n R' v
theorem same_of (hp : 0 < p) (h1 : Oks p n R) (h2 : Oks p n T) (a : ∀ r ∈ R, Sp p n T r) (b : ∀ r ∈ T, Sp p n R r) : Same p n R T := fun _ => ⟨fun h => h.mono hp h2 a, fun h => h.mono hp h1 b⟩
theorem Same.trans {R1 R2 R3 : List Row} (a : Same p n R1 R2) (b : Same p n R2 R3) : Same p n R1 R3 := fun v => (a v).trans (b v)
theorem Same.symm {R1 R2 : List Row} (a : Same p n R1 R2) : Same p n R2 R1 := fun v => (a v).symm
theorem Same.refl : Same p n R R := fun _ => Iff.rfl
theorem withRow_in (hp : 0 < p) (h : Rref p n S) (o : OkR p n r) {out : Row} (m : Rem p n S r out) (z : lead out = out.length) : Same p n S (r :: S) := by
  have e := lead_len m.ok.1 z
  refine same_of hp h.ok (oks_cons o h.ok) (fun x hx => Sp.gen hp (h.ok x hx) (List.mem_cons_of_mem _ hx)) fun x hx => ?_
  rcases List.mem_cons.mp hx with q | q
  · subst q
    refine m.back.mono hp h.ok fun y hy => ?_
    rcases List.mem_cons.mp hy with q | q
    · subst q; rw [e]; exact .zero
    · exact Sp.gen hp (h.ok y q) q
  · exact Sp.gen hp (h.ok x q) q
theorem withRow_new (hp : 1 < p) (h : Rref p n S) (o : OkR p n r) {out : Row} (m : Rem p n S r out) (hl : lead out ≠ out.length) {inv : Int} (hinv : inv * g out (lead out) % p = 1) {S' : List Row}
    (perm : S'.Perm ((S.map fun old => add p old (-(g old (lead out))) (times p inv out)) ++ [times p inv out])) (srt : S'.Pairwise fun s t => lead s ≤ lead t) :
    Rref p n S' ∧ Same p n S' (r :: S) ∧ ¬ Sp p n S r := by
  have hp0 : 0 < p := by omega
  have hq : lead out < n := by have := lead_le out; have := m.ok.1; omega
  generalize eq : lead out = q at *
  have ne : ∀ s ∈ S, lead s ≠ q := fun s hs z => by
    have h1 := m.away s hs
    rw [z, ← eq] at h1
    exact lead_ne (by rw [eq, m.ok.1]; exact hq) h1
  generalize es : times p inv out = st at *
  have ost : OkR p n st := by rw [← es]; exact ok_times hp0 m.ok.1
  have gst : ∀ i, g st i = inv * g out i % p := fun i => by rw [← es, g_times]
  have st1 : g st q = 1 := by rw [gst, hinv]
  have st0 : ∀ i, i < q → g st i = 0 := fun i hi => by rw [gst, lead_lt (by omega)]; simp
  have stS : ∀ s ∈ S, g st (lead s) = 0 := fun s hs => by rw [gst, m.away s hs]; simp
  have lst : lead st = q := lead_is st0 (by rw [st1]; decide)
  let c := fun old : Row => add p old (-(g old q)) st
  have oc : ∀ s ∈ S, OkR p n (c s) := fun s hs => ok_add hp0 (h.ok s hs).1 ost.1
  have gc : ∀ s ∈ S, ∀ i, g (c s) i = (g s i + -(g s q) * g st i) % p := fun s hs i => g_add (by rw [(h.ok s hs).1, ost.1]) i
  have c1 : ∀ s ∈ S, g (c s) (lead s) = 1 := fun s hs => by
    rw [gc s hs, h.one s hs, stS s hs, Int.mul_zero]; exact Int.emod_eq_of_lt (by omega) (by omega)
  have c0 : ∀ s ∈ S, ∀ t ∈ S, t ≠ s → g (c t) (lead s) = 0 := fun s hs t ht d => by
    rw [gc t ht, h.off s hs t ht d, stS s hs, Int.mul_zero]; rfl
  have cq : ∀ s ∈ S, g (c s) q = 0 := fun s hs => by
    rw [gc s hs, st1]
    have : g s q + -(g s q) * 1 = 0 := by omega
    rw [this]; rfl
  have cl : ∀ s ∈ S, lead (c s) = lead s := fun s hs => lead_is (fun i hi => by
    rw [gc s hs, lead_lt hi]
    rcases Nat.lt_or_ge q (lead s) with z | z
    · rw [lead_lt z]; simp
    · have := ne s hs
      rw [st0 i (by omega)]; simp) (by rw [c1 s hs]; decide)
  have mem : ∀ x, x ∈ S' ↔ (∃ s ∈ S, c s = x) ∨ x = st := fun x => by
    rw [perm.mem_iff, List.mem_append, List.mem_map, List.mem_singleton]
  have ok' : Oks p n S' := fun x hx => by
    rcases (mem x).1 hx with ⟨s, hs, e⟩ | e
    · rw [← e]; exact oc s hs
    · rw [e]; exact ost
  have leads : (S'.map lead).Perm (S.map lead ++ [q]) := by
    have a := perm.map lead
    rw [List.map_append, List.map_map, List.map_singleton, lst] at a
    have b : S.map (lead ∘ fun old => add p old (-(g old q)) st) = S.map lead := List.map_congr_left fun s hs => cl s hs
    rw [b] at a; exact a
  have nd : (S'.map lead).Nodup := by
    rw [leads.nodup_iff]
    refine List.nodup_append.mpr ⟨?_, by simp, fun a ha b hb e => ?_⟩
    · exact (List.pairwise_map.mpr h.srt).imp fun {a b} z e => by omega
    · obtain ⟨s, hs, e1⟩ := List.mem_map.mp ha
      rw [List.mem_singleton] at hb
      exact ne s hs (by rw [e1, e, hb])
  refine ⟨⟨ok', fun x hx => ?_, fun x hx y hy d => ?_, ?_⟩, ?_, fun z => ?_⟩
  · rcases (mem x).1 hx with ⟨s, hs, e⟩ | e
    · rw [← e, cl s hs]; exact c1 s hs
    · rw [e, lst]; exact st1
  · rcases (mem x).1 hx with ⟨s, hs, e⟩ | e
    · rcases (mem y).1 hy with ⟨t, ht, e'⟩ | e'
      · rw [← e, ← e', cl s hs]; exact c0 s hs t ht fun z => d (by rw [← e, ← e', z])
      · rw [← e, e', cl s hs]; exact stS s hs
    · rcases (mem y).1 hy with ⟨t, ht, e'⟩ | e'
      · rw [e, ← e', lst]; exact cq t ht
      · exact absurd (e'.trans e.symm) d
  · have nd2 : S'.Pairwise fun s t => lead s ≠ lead t := List.pairwise_map.mp nd
    exact (srt.and nd2).imp fun {a b} z => by omega
  · have hin : ∀ x, ((∃ s ∈ S, c s = x) ∨ x = st) → Sp p n S' x := fun x hx => by
      have hx' := (mem x).2 hx
      exact Sp.gen hp0 (ok' x hx') hx'
    have sS : ∀ s ∈ S, Sp p n S' s := fun s hs => by
      have e : add p (c s) (g s q) st = s := ext (n := n) (len_add (oc s hs).1 ost.1) (h.ok s hs).1 fun i _ => by
        rw [g_add (by rw [(oc s hs).1, ost.1]), gc s hs, md (g s i + _) p, ← g_mod hp0 (h.ok s hs) i]
        refine modEq (-((g s i % p + -(g s q) * g st i) / p)) ?_
        rw [g_mod hp0 (h.ok s hs) i]; grind
      have := (hin _ (.inl ⟨s, hs, rfl⟩)).step (g s q) ((mem st).2 (.inr rfl))
      rw [e] at this; exact this
    have sO : Sp p n S' out := by
      have e : times p (g out q) st = out := ext (n := n) (ok_times hp0 ost.1).1 m.ok.1 fun i _ => by
        rw [g_times, gst, ← g_mod hp0 m.ok i]
        have e1 : g out q * (inv * (g out i % p) % p) % p = (inv * g out q) * g out i % p := by
          have e3 : inv * g out q * g out i = g out q * (inv * g out i) := by grind
          rw [Int.mul_emod, mm, ← Int.mul_emod, e3, g_mod hp0 m.ok i]
        rw [g_mod hp0 m.ok i] at e1 ⊢
        rw [e1, Int.mul_emod, hinv, Int.one_mul, mm, g_mod hp0 m.ok i]
      have := (hin st (.inr rfl)).times hp0 ok' (g out q)
      rw [e] at this; exact this
    have oR := oks_cons o h.ok
    have sst : Sp p n (r :: S) st := by rw [← es]; exact m.to.times hp0 oR inv
    refine same_of hp0 ok' oR (fun x hx => ?_) fun x hx => ?_
    · rcases (mem x).1 hx with ⟨s, hs, e⟩ | e
      · rw [← e]; exact (Sp.gen hp0 (h.ok s hs) (List.mem_cons_of_mem _ hs)).add hp0 oR sst _
      · rw [e]; exact sst
    · rcases List.mem_cons.mp hx with e | e
      · rw [e]
        refine m.back.mono hp0 ok' fun y hy => ?_
        rcases List.mem_cons.mp hy with e | e
        · rw [e]; exact sO
        · exact sS y e
      · exact sS x e
  · -- a row of the span leaves nothing
    have so : Sp p n S out := m.to.mono hp0 h.ok fun y hy => by
      rcases List.mem_cons.mp hy with e | e
      · rw [e]; exact z
      · exact Sp.gen hp0 (h.ok y e) e
    have e0 := h.ind.zero hp0 so m.away
    have := lead_ne (v := out) (by rw [eq, m.ok.1]; exact hq)
    rw [e0, g_zero] at this; exact this rfl
/-! ### counting -/
def combos (p : Int) (n : Nat) : List Row → List Row
  | [] => [zero n]
  | s :: S => (List.range p.toNat).flatMap fun (c : Nat) => (combos p n S).map fun u => add p u (c : Int) s
theorem sp_cons (hp : 0 < p) (hr : OkR p n r) (hS : Oks p n S) : Sp p n (r :: S) v ↔ ∃ c : Int, (0 ≤ c ∧ c < p) ∧ ∃ u, Sp p n S u ∧ v = add p u c r := by
  constructor
  · intro h
    induction h with
    | zero => exact ⟨0, ⟨by omega, hp⟩, zero n, .zero, ext (n := n) List.length_replicate (len_add List.length_replicate hr.1) fun i _ => by
        rw [g_add (by rw [hr.1]; exact List.length_replicate), g_zero]; simp⟩
    | @step v' x c hv hx ih =>
      obtain ⟨c', hc, u, hu, e⟩ := ih
      have ou := hu.ok hp hS
      subst e
      rcases List.mem_cons.mp hx with q | q
      · subst q
        refine ⟨(c' + c) % p, ⟨Int.emod_nonneg _ (by omega), Int.emod_lt_of_pos _ hp⟩, u, hu, ext (n := n) (len_add (len_add ou.1 hr.1) hr.1) (len_add ou.1 hr.1) fun i _ => ?_⟩
        rw [g_add (by rw [len_add ou.1 hr.1, hr.1]), g_add (by rw [ou.1, hr.1]), g_add (by rw [ou.1, hr.1]), md (g u i + c' * g x i) p, md (c' + c) p]
        refine modEq (-((g u i + c' * g x i) / p) + (c' + c) / p * g x i) ?_
        grind
      · have ox := hS x q
        refine ⟨c', hc, add p u c x, hu.step c q, ext (n := n) (len_add (len_add ou.1 hr.1) ox.1) (len_add (len_add ou.1 ox.1) hr.1) fun i _ => ?_⟩
        rw [g_add (by rw [len_add ou.1 hr.1, ox.1]), g_add (by rw [ou.1, hr.1]), g_add (by rw [len_add ou.1 ox.1, hr.1]), g_add (by rw [ou.1, ox.1]), md (g u i + c' * g r i) p, md (g u i + c * g x i) p]
        refine modEq (-((g u i + c' * g r i) / p) + (g u i + c * g x i) / p) ?_
        grind
  · rintro ⟨c, _, u, hu, e⟩
    rw [e]; exact (hu.sub fun x hx => List.mem_cons_of_mem _ hx).step c List.mem_cons_self
theorem mem_flat {L : List Row} (hp : 0 < p) : v ∈ ((List.range p.toNat).flatMap fun (c : Nat) => L.map fun u => add p u (c : Int) r) ↔ ∃ c : Int, (0 ≤ c ∧ c < p) ∧ ∃ u, u ∈ L ∧ v = add p u c r := by
  rw [List.mem_flatMap]
  constructor
  · rintro ⟨c, hc, hv⟩
    obtain ⟨u, hu, e⟩ := List.mem_map.mp hv
    have := List.mem_range.mp hc
    exact ⟨c, ⟨by omega, by omega⟩, u, hu, e.symm⟩
  · rintro ⟨c, hc, u, hu, e⟩
    refine ⟨c.toNat, List.mem_range.mpr (by omega), List.mem_map.mpr ⟨u, hu, ?_⟩⟩
    rw [e, Int.toNat_of_nonneg hc.1]
theorem mem_combos (hp : 0 < p) : ∀ {S : List Row} {v : Row}, Oks p n S → (v ∈ combos p n S ↔ Sp p n S v)
  | [], v, _ => by
    unfold combos
    rw [List.mem_singleton]
    constructor
    · intro e; rw [e]; exact .zero
    · intro h
      cases h with
      | zero => rfl
      | step c _ hr => cases hr
  | s :: S, v, o => by
    have oS : Oks p n S := fun x hx => o x (List.mem_cons_of_mem _ hx)
    unfold combos
    rw [mem_flat hp, sp_cons hp (o s List.mem_cons_self) oS]
    constructor
    · rintro ⟨c, hc, u, hu, e⟩; exact ⟨c, hc, u, (mem_combos hp oS).1 hu, e⟩
    · rintro ⟨c, hc, u, hu, e⟩; exact ⟨c, hc, u, (mem_combos hp oS).2 hu, e⟩
theorem nodup_flat {L : List Row} (hp : 0 < p) (nd : L.Nodup) (oL : ∀ u ∈ L, u.length = n) (oL2 : ∀ u ∈ L, OkR p n u) (or_ : r.length = n) (inj : ∀ u ∈ L, ∀ u' ∈ L, ∀ c c' : Int, 0 ≤ c → c < p → 0 ≤ c' → c' < p → add p u c r = add p u' c' r → c = c') :
    ((List.range p.toNat).flatMap fun (c : Nat) => L.map fun u => add p u (c : Int) r).Nodup := by
  unfold List.Nodup
  rw [List.pairwise_flatMap]
  refine ⟨fun c hc => ?_, ?_⟩
  · rw [List.pairwise_map]
    refine List.Pairwise.imp_of_mem (fun {a b} ha hb q e => q ?_) nd
    refine ext (oL a ha) (oL b hb) fun i _ => ?_
    have h1 := congrArg (fun z => g z i) e
    simp only [g_add (show a.length = r.length by rw [oL a ha, or_]), g_add (show b.length = r.length by rw [oL b hb, or_])] at h1
    have h2 := mod_sub_cong h1 (rfl : ((c : Int) * g r i) % p = ((c : Int) * g r i) % p)
    rw [Int.add_sub_cancel, Int.add_sub_cancel, g_mod hp (oL2 a ha), g_mod hp (oL2 b hb)] at h2
    exact h2
  · refine (List.nodup_range (n := p.toNat)).imp_of_mem fun {a b} ha hb q x hx y hy e => q ?_
    obtain ⟨u, hu, e1⟩ := List.mem_map.mp hx
    obtain ⟨u', hu', e2⟩ := List.mem_map.mp hy
    have := List.mem_range.mp ha
    have := List.mem_range.mp hb
    have := inj u hu u' hu' a b (by omega) (by omega) (by omega) (by omega) (by rw [e1, e2, e])
    omega
end
end Lin


set_option maxRecDepth 100000
set_option linter.unusedVariables false
namespace Lin
section
variable {p : Int} {n : Nat} {S T R : List Row} {v w r : Row} {piv : Row → Nat}
theorem Ind.tail {s : Row} (I : Ind p n (s :: S) piv) : Ind p n S piv :=
  ⟨fun x hx => I.ok x (List.mem_cons_of_mem _ hx), (List.nodup_cons.mp I.nd).2, fun x hx => I.one x (List.mem_cons_of_mem _ hx), fun x hx y hy d => I.off x (List.mem_cons_of_mem _ hx) y (List.mem_cons_of_mem _ hy) d⟩
theorem Sp.at0 (hp : 0 < p) {q : Nat} (hS : Oks p n S) (h0 : ∀ s ∈ S, g s q = 0) (h : Sp p n S v) : g v q = 0 := by
  induction h with
  | zero => exact g_zero _ _
  | @step v' x c hv hx ih => rw [g_add (by rw [(hv.ok hp hS).1, (hS x hx).1]), ih, h0 x hx]; simp
theorem Ind.head0 (hp : 0 < p) {s : Row} (I : Ind p n (s :: S) piv) (h : Sp p n S v) : g v (piv s) = 0 :=
  h.at0 hp I.tail.ok fun t ht => I.off s List.mem_cons_self t (List.mem_cons_of_mem _ ht) fun z => (List.nodup_cons.mp I.nd).1 (z ▸ ht)
theorem combos_nd (hp : 0 < p) : ∀ {S : List Row}, Ind p n S piv → (combos p n S).Nodup
  | [], _ => by unfold combos; simp
  | s :: S, I => by
    unfold combos
    have os := I.ok s List.mem_cons_self
    have okm : ∀ u ∈ combos p n S, OkR p n u := fun u hu => ((mem_combos hp I.tail.ok).1 hu).ok hp I.tail.ok
    refine nodup_flat hp (combos_nd hp I.tail) (fun u hu => (okm u hu).1) okm os.1 fun u hu u' hu' c c' h0 h1 h2 h3 e => ?_
    have z := congrArg (fun z => g z (piv s)) e
    simp only [g_add (show u.length = s.length by rw [(okm u hu).1, os.1]), g_add (show u'.length = s.length by rw [(okm u' hu').1, os.1])] at z
    rw [I.head0 hp ((mem_combos hp I.tail.ok).1 hu), I.head0 hp ((mem_combos hp I.tail.ok).1 hu'), I.one s List.mem_cons_self, Int.mul_one, Int.mul_one, Int.zero_add, Int.zero_add, Int.emod_eq_of_lt h0 h1, Int.emod_eq_of_lt h2 h3] at z
    exact z
theorem len_flat {α β : Type} {xs : List α} {f : α → List β} {k : Nat} (h : ∀ x ∈ xs, (f x).length = k) : (xs.flatMap f).length = xs.length * k := by
  induction xs with
  | nil => simp
  | cons a l ih => rw [List.flatMap_cons, List.length_append, h a List.mem_cons_self, ih fun x hx => h x (List.mem_cons_of_mem _ hx), List.length_cons, Nat.succ_mul]; omega
theorem combos_len : ∀ {S : List Row}, (combos p n S).length = p.toNat ^ S.length
  | [] => by unfold combos; simp
  | s :: S => by
    unfold combos
    rw [len_flat (k := p.toNat ^ S.length) fun c _ => by rw [List.length_map, combos_len], List.length_range, List.length_cons, Nat.pow_succ, Nat.mul_comm]
theorem nd_len {α : Type} [DecidableEq α] : ∀ {xs ys : List α}, xs.Nodup → (∀ x ∈ xs, x ∈ ys) → xs.length ≤ ys.length
  | [], ys, _, _ => Nat.zero_le _
  | a :: l, ys, h, hs => by
    have hn := List.nodup_cons.mp h
    have ha := hs a List.mem_cons_self
    have := nd_len (ys := ys.erase a) hn.2 fun x hx => (List.mem_erase_of_ne (fun z : x = a => hn.1 (by rw [← z]; exact hx))).mpr (hs x (List.mem_cons_of_mem _ hx))
    rw [List.length_erase_of_mem ha] at this
    have : 0 < ys.length := List.length_pos_of_mem ha
    rw [List.length_cons]; omega
theorem len_eq {α : Type} [DecidableEq α] {xs ys : List α} (h1 : xs.Nodup) (h2 : ys.Nodup) (h : ∀ x, x ∈ xs ↔ x ∈ ys) : xs.length = ys.length :=
  Nat.le_antisymm (nd_len h1 fun x hx => (h x).1 hx) (nd_len h2 fun x hx => (h x).2 hx)
theorem Ind.count (hp : 0 < p) (I : Ind p n S piv) {L : List Row} (nd : L.Nodup) (hL : ∀ v, v ∈ L ↔ Sp p n S v) : L.length = p.toNat ^ S.length := by
  rw [← combos_len (p := p) (n := n)]
  exact len_eq nd (combos_nd hp I) fun v => by rw [hL, mem_combos hp I.ok]
theorem small_dvd {x : Int} (hp : 0 < p) (h1 : -p < x) (h2 : x < p) (h : x % p = 0) : x = 0 := by
  rcases Int.lt_or_le x 0 with z | z
  · have a : (x + p) % p = 0 := by rw [Int.add_emod_right]; exact h
    rw [Int.emod_eq_of_lt (by omega) (by omega)] at a; omega
  · rw [Int.emod_eq_of_lt z h2] at h; exact h
/-! ### the law's span -/
def lawLater (p : Int) (found : List Row) (one : Row) : List Row := (List.range p.toNat).flatMap fun (c : Nat) => found.map fun own => add p own (c : Int) one
def lawTurn (p : Int) (found : List Row) (one : Row) : List Row := if one ∈ found then found else lawLater p found one
def lawSpan (p : Int) (n : Nat) (rows : List Row) : List Row := rows.foldl (lawTurn p) [zero n]
structure Lot (p : Int) (n : Nat) (R : List Row) (L : List Row) : Prop where
  nd : L.Nodup
  mem : ∀ v, v ∈ L ↔ Sp p n R v
def Prm (p : Int) : Prop := ∀ x : Int, 0 < x → x < p → ∃ k : Int, k * x % p = 1
theorem sp_swap : Sp p n (R ++ [r]) v ↔ Sp p n (r :: R) v := ⟨fun h => h.sub fun x hx => by
    rcases List.mem_append.mp hx with e | e
    · exact List.mem_cons_of_mem _ e
    · rw [List.mem_singleton.mp e]; exact List.mem_cons_self, fun h => h.sub fun x hx => by
    rcases List.mem_cons.mp hx with e | e
    · rw [e]; exact List.mem_append_right _ List.mem_cons_self
    · exact List.mem_append_left _ e⟩
theorem lawTurn_ok (hp : 1 < p) (P : Prm p) (hR : Oks p n R) (hr : OkR p n r) {L : List Row} (l : Lot p n R L) : Lot p n (R ++ [r]) (lawTurn p L r) := by
  have hp0 : 0 < p := by omega
  unfold lawTurn
  split
  · rename_i hm
    refine ⟨l.nd, fun v => ?_⟩
    rw [l.mem, sp_swap]
    refine ⟨fun h => h.sub fun x hx => List.mem_cons_of_mem _ hx, fun h => h.mono hp0 hR fun x hx => ?_⟩
    rcases List.mem_cons.mp hx with e | e
    · rw [e]; exact (l.mem r).1 hm
    · exact Sp.gen hp0 (hR x e) e
  · rename_i hm
    have okm : ∀ u ∈ L, OkR p n u := fun u hu => ((l.mem u).1 hu).ok hp0 hR
    refine ⟨nodup_flat hp0 l.nd (fun u hu => (okm u hu).1) okm hr.1 fun u hu u' hu' c c' h0 h1 h2 h3 e => ?_, fun v => ?_⟩
    · rcases Classical.em (c = c') with z | z
      · exact z
      · refine absurd ((l.mem r).2 ?_) hm
        have hd : (c - c') % p ≠ 0 := fun z0 => by
          exact z (by have := small_dvd (x := c - c') hp0 (by omega) (by omega) z0; omega)
        have h5 := Int.emod_nonneg (c - c') (show p ≠ 0 by omega)
        have h6 := Int.emod_lt_of_pos (c - c') hp0
        obtain ⟨k, hk⟩ := P ((c - c') % p) (by omega) h6
        have hk' : k * (c - c') % p = 1 := by rw [Int.mul_emod, ← mm (c - c') p, ← Int.mul_emod]; exact hk
        have ou := okm u hu
        have ou' := okm u' hu'
        have e2 : times p k (add p u' (-1) u) = r := ext (n := n) (ok_times hp0 (len_add ou'.1 ou.1)).1 hr.1 fun i _ => by
          have z := congrArg (fun z => g z i) e
          simp only [g_add (show u.length = r.length by rw [ou.1, hr.1]), g_add (show u'.length = r.length by rw [ou'.1, hr.1])] at z
          rw [g_times, g_add (by rw [ou.1, ou'.1])]
          have z2 : (g u' i + -1 * g u i) % p = ((c - c') * g r i) % p := by
            have := Int.emod_emod_of_dvd (c - c') (Int.dvd_refl p)
            have a1 := Int.mul_ediv_add_emod (g u i + c * g r i) p
            have a2 := Int.mul_ediv_add_emod (g u' i + c' * g r i) p
            refine modEq ((g u' i + c' * g r i) / p - (g u i + c * g r i) / p) ?_
            grind
          rw [z2, Int.mul_emod, mm, ← Int.mul_emod, ← Int.mul_assoc, Int.mul_emod, hk', Int.one_mul, mm, g_mod hp0 hr]
        rw [← e2]
        exact (((l.mem u').1 hu').add hp0 hR ((l.mem u).1 hu) (-1)).times hp0 hR k
    · rw [sp_swap, sp_cons hp0 hr hR]
      unfold lawLater
      rw [mem_flat hp0]
      constructor
      · rintro ⟨c, hc, u, hu, e⟩; exact ⟨c, hc, u, (l.mem u).1 hu, e⟩
      · rintro ⟨c, hc, u, hu, e⟩; exact ⟨c, hc, u, (l.mem u).2 hu, e⟩
theorem lawSpan_go (hp : 1 < p) (P : Prm p) : ∀ (rows : List Row) (R L : List Row), Oks p n R → Oks p n rows → Lot p n R L → Lot p n (R ++ rows) (rows.foldl (lawTurn p) L)
  | [], R, L, _, _, l => by rw [List.append_nil]; exact l
  | r :: rows, R, L, hR, hr, l => by
    have o := hr r List.mem_cons_self
    have := lawSpan_go hp P rows (R ++ [r]) (lawTurn p L r) (fun x hx => by
      rcases List.mem_append.mp hx with e | e
      · exact hR x e
      · rw [List.mem_singleton.mp e]; exact o) (fun x hx => hr x (List.mem_cons_of_mem _ hx)) (lawTurn_ok hp P hR o l)
    rw [List.append_assoc] at this; exact this
theorem lawSpan_ok (hp : 1 < p) (P : Prm p) {rows : List Row} (hr : Oks p n rows) : Lot p n rows (lawSpan p n rows) :=
  lawSpan_go hp P rows [] [zero n] (fun x hx => by cases hx) hr ⟨by simp, fun v => by
    rw [List.mem_singleton]
    constructor
    · intro e; rw [e]; exact .zero
    · intro h
      cases h with
      | zero => rfl
      | step c _ hr => cases hr⟩
/-! ### meeting -/
def dot (p : Int) (u w : Row) : Int := (List.zipWith (· * ·) u w).sum % p
theorem sum_zip : ∀ {u w : Row} {n : Nat}, u.length = n → w.length = n → (List.zipWith (· * ·) u w).sum = ((List.range n).map fun i => g u i * g w i).sum
  | [], w, n, h1, h2 => by
    have : n = 0 := by simpa using h1.symm
    subst this; simp
  | a :: u, [], n, h1, h2 => by simp at h1 h2; omega
  | a :: u, b :: w, 0, h1, h2 => by simp at h1
  | a :: u, b :: w, n + 1, h1, h2 => by
    rw [List.zipWith_cons_cons, List.sum_cons, List.range_succ_eq_map, List.map_cons, List.sum_cons, List.map_map, g_cons0, g_cons0]
    rw [sum_zip (u := u) (w := w) (n := n) (by simpa using h1) (by simpa using h2)]
    congr 1
theorem dot_eq {u w : Row} (h1 : u.length = n) (h2 : w.length = n) : dot p u w = ((List.range n).map fun i => g u i * g w i).sum % p := by unfold dot; rw [sum_zip h1 h2]
theorem dot_comm {u w : Row} (h1 : u.length = n) (h2 : w.length = n) : dot p u w = dot p w u := by
  rw [dot_eq h1 h2, dot_eq h2 h1]
  congr 2
  exact List.map_congr_left fun i _ => Int.mul_comm _ _
theorem dot_add {u x w : Row} {c : Int} (h1 : u.length = n) (hx : x.length = n) (h2 : w.length = n) : dot p (add p u c x) w = (dot p u w + c * dot p x w) % p := by
  have e : dot p (add p u c x) w = (((List.range n).map fun i => g u i * g w i).sum + c * ((List.range n).map fun i => g x i * g w i).sum) % p := by
    rw [dot_eq (len_add h1 hx) h2]
    refine sum_lin fun i _ => ?_
    rw [g_add (by rw [h1, hx])]
    have e : g u i * g w i + c * (g x i * g w i) = (g u i + c * g x i) * g w i := by grind
    rw [e]; exact mod_mul_cong (mm _ _) rfl
  rw [e, dot_eq h1 h2, dot_eq hx h2]
  refine mod_add_cong (mm _ _).symm (mod_mul_cong rfl (mm _ _).symm)
theorem dot_zero {w : Row} (h : w.length = n) : dot p (zero n) w = 0 := by
  rw [dot_eq (u := zero n) (show (List.replicate n (0 : Int)).length = n from List.length_replicate) h, sum_none fun i _ => by rw [g_zero, Int.zero_mul]]; rfl
theorem perp_sp (hp : 0 < p) (hR : Oks p n R) (hv : v.length = n) (h : ∀ r ∈ R, dot p r v = 0) (hw : Sp p n R w) : dot p w v = 0 := by
  induction hw with
  | zero => exact dot_zero hv
  | @step u x c hu hx ih => rw [dot_add (hu.ok hp hR).1 (hR x hx).1 hv, ih, h x hx]; simp
theorem perp_same (hp : 0 < p) (hR : Oks p n R) (hS : Oks p n S) (s : Same p n R S) (hv : v.length = n) : (∀ r ∈ R, dot p r v = 0) ↔ ∀ r ∈ S, dot p r v = 0 :=
  ⟨fun h r hr => perp_sp hp hR hv h ((s r).2 (Sp.gen hp (hS r hr) hr)), fun h r hr => perp_sp hp hS hv h ((s r).1 (Sp.gen hp (hR r hr) hr))⟩
theorem sum_two {α : Type} {S : List α} {f : α → Int} {a b : α} (nd : S.Nodup) (ha : a ∈ S) (hb : b ∈ S) (ne : a ≠ b) (h : ∀ s ∈ S, s ≠ a → s ≠ b → f s = 0) : (S.map f).sum = f a + f b := by
  induction S with
  | nil => cases ha
  | cons x l ih =>
    have hn := List.nodup_cons.mp nd
    rw [List.map_cons, List.sum_cons]
    rcases List.mem_cons.mp ha with e | e
    · subst e
      rw [sum_one (r := b) hn.2 ((List.mem_cons.mp hb).resolve_left fun z => ne z.symm) fun s hs d => h s (List.mem_cons_of_mem _ hs) (fun z => hn.1 (z ▸ hs)) d]
    · rcases List.mem_cons.mp hb with e' | e'
      · subst e'
        rw [sum_one (r := a) hn.2 e fun s hs d => h s (List.mem_cons_of_mem _ hs) d (fun z => hn.1 (z ▸ hs))]; omega
      · rw [ih hn.2 e e' fun s hs => h s (List.mem_cons_of_mem _ hs), h x List.mem_cons_self (fun z => hn.1 (z ▸ e)) (fun z => hn.1 (z ▸ e'))]; omega
/-! ### the rows that meet a staircase with 0 -/
def facingRow (p : Int) (n : Nat) (S : List Row) (j : Nat) : Row := S.foldl (fun v s => v.set (lead s) (-(g s j) % p)) ((zero n).set j 1)
theorem g_set {v : Row} {q i : Nat} {x : Int} (hq : q < v.length) : g (v.set q x) i = if i = q then x else g v i := by
  unfold g
  rw [List.getD_eq_getElem?_getD, List.getElem?_set, List.getD_eq_getElem?_getD]
  by_cases e : q = i
  · subst e; simp [hq]
  · rw [if_neg e, if_neg fun z => e z.symm]
def fset (p : Int) (j : Nat) (T : List Row) (v : Row) : Row := T.foldl (fun v s => v.set (lead s) (-(g s j) % p)) v
theorem fset_len {j : Nat} : ∀ (T : List Row) (v : Row), (fset p j T v).length = v.length
  | [], v => rfl
  | s :: T, v => by
    show (fset p j T (v.set (lead s) (-(g s j) % p))).length = _
    rw [fset_len T, List.length_set]
theorem fset_other {j i : Nat} : ∀ (T : List Row) (v : Row), (∀ s ∈ T, lead s ≠ i) → g (fset p j T v) i = g v i
  | [], v, _ => rfl
  | s :: T, v, h => by
    show g (fset p j T (v.set (lead s) (-(g s j) % p))) i = _
    rw [fset_other T _ fun x hx => h x (List.mem_cons_of_mem _ hx)]
    have hi := h s List.mem_cons_self
    by_cases hq : lead s < v.length
    · rw [g_set hq, if_neg fun z => hi z.symm]
    · rw [List.set_eq_of_length_le (by omega)]
theorem fset_at {j : Nat} : ∀ (T : List Row) (v : Row), (T.Pairwise fun s t => lead s < lead t) → (∀ s ∈ T, lead s < v.length) → ∀ s ∈ T, g (fset p j T v) (lead s) = -(g s j) % p
  | [], v, _, _, s, hs => by cases hs
  | t :: T, v, hw, hl, s, hs => by
    show g (fset p j T (v.set (lead t) (-(g t j) % p))) (lead s) = _
    have hp := List.pairwise_cons.mp hw
    rcases List.mem_cons.mp hs with e | e
    · subst e
      rw [fset_other T _ fun x hx z => by have := hp.1 x hx; omega, g_set (hl s List.mem_cons_self), if_pos rfl]
    · exact fset_at T _ hp.2 (fun x hx => by rw [List.length_set]; exact hl x (List.mem_cons_of_mem _ hx)) s e
structure Free (n : Nat) (S : List Row) (j : Nat) : Prop where
  lt : j < n
  no : ∀ s ∈ S, lead s ≠ j
theorem facing_len {j : Nat} : (facingRow p n S j).length = n := by
  show (fset p j S _).length = n
  rw [fset_len, List.length_set]; exact List.length_replicate
theorem facing_at (h : Rref p n S) {j : Nat} {s : Row} (hs : s ∈ S) : g (facingRow p n S j) (lead s) = -(g s j) % p :=
  fset_at S _ h.srt (fun x hx => by rw [List.length_set]; show _ < (List.replicate n (0 : Int)).length; rw [List.length_replicate]; exact h.lt hx) s hs
theorem facing_free {j i : Nat} (hj : j < n) (hi : ∀ s ∈ S, lead s ≠ i) : g (facingRow p n S j) i = if i = j then 1 else 0 := by
  show g (fset p j S _) i = _
  rw [fset_other S _ hi, g_set (by show _ < (List.replicate n (0 : Int)).length; rw [List.length_replicate]; exact hj), g_zero]
theorem facing_ok (hp : 1 < p) (h : Rref p n S) {j : Nat} (f : j < n) : OkR p n (facingRow p n S j) := by
  refine ⟨facing_len, fun x hx => ?_⟩
  obtain ⟨i, hi, e⟩ := List.mem_iff_getElem.mp hx
  rw [← e, ← g_lt hi]
  rcases Classical.em (∃ s ∈ S, lead s = i) with ⟨s, hs, z⟩ | z
  · rw [← z, facing_at h hs]; exact ⟨Int.emod_nonneg _ (by omega), Int.emod_lt_of_pos _ (by omega)⟩
  · rw [facing_free f fun s hs q => z ⟨s, hs, q⟩]; split <;> omega
theorem facing_perp (hp : 1 < p) (h : Rref p n S) {j : Nat} (f : Free n S j) {s : Row} (hs : s ∈ S) : dot p s (facingRow p n S j) = 0 := by
  have os := h.ok s hs
  rw [dot_eq os.1 facing_len, sum_two (a := lead s) (b := j) List.nodup_range (List.mem_range.mpr (h.lt hs)) (List.mem_range.mpr f.lt) (f.no s hs) fun i hi n1 n2 => ?_]
  · rw [h.one s hs, facing_at h hs, facing_free f.lt f.no, if_pos rfl, Int.one_mul, Int.mul_one, md (-(g s j)) p]
    have : -(g s j) - p * (-(g s j) / p) + g s j = 0 + p * (-(-(g s j) / p)) := by grind
    rw [modEq _ this]; rfl
  · rcases Classical.em (∃ t ∈ S, lead t = i) with ⟨t, ht, z⟩ | z
    · subst z
      rw [h.off t ht s hs fun q => n1 (by rw [q]), Int.zero_mul]
    · rw [facing_free f.lt fun t ht q => z ⟨t, ht, q⟩, if_neg n2, Int.mul_zero]
def frees (n : Nat) (S : List Row) : List Nat := (List.range n).filter fun j => !(S.map lead).contains j
theorem mem_frees {j : Nat} : j ∈ frees n S ↔ Free n S j := by
  unfold frees
  rw [List.mem_filter, List.mem_range]
  simp only [Bool.not_eq_true', List.contains_eq_mem, decide_eq_false_iff_not, List.mem_map, not_exists, not_and]
  exact ⟨fun h => ⟨h.1, h.2⟩, fun h => ⟨h.lt, h.no⟩⟩
theorem filter_len {α : Type} (xs : List α) (f : α → Bool) : (xs.filter f).length + (xs.filter fun x => !f x).length = xs.length := by
  induction xs with
  | nil => rfl
  | cons a l ih => rw [List.filter_cons, List.filter_cons]; cases f a <;> simp <;> omega
theorem frees_len (h : Rref p n S) : (frees n S).length + S.length = n := by
  have a := filter_len (List.range n) fun j => (S.map lead).contains j
  rw [List.length_range] at a
  have b : ((List.range n).filter fun j => (S.map lead).contains j).length = (S.map lead).length := by
    refine len_eq (List.Nodup.sublist List.filter_sublist List.nodup_range) (h.leads_srt.imp fun {a b} z => by omega) fun j => ?_
    rw [List.mem_filter, List.mem_range, List.contains_eq_mem, decide_eq_true_iff]
    refine ⟨fun z => z.2, fun z => ⟨?_, z⟩⟩
    obtain ⟨s, hs, e⟩ := List.mem_map.mp z
    rw [← e]; exact h.lt hs
  rw [List.length_map] at b
  unfold frees
  omega
def facings (p : Int) (n : Nat) (S : List Row) : List Row := (frees n S).map (facingRow p n S)
def fpiv (n : Nat) (S : List Row) (v : Row) : Nat := ((frees n S).find? fun j => g v j == 1).getD 0
theorem fpiv_is {j : Nat} (f : Free n S j) : fpiv n S (facingRow p n S j) = j := by
  unfold fpiv
  have : (frees n S).find? (fun i => g (facingRow p n S j) i == 1) = some j := by
    have e : ∀ i ∈ frees n S, (g (facingRow p n S j) i == 1) = decide (i = j) := fun i hi => by
      rw [facing_free f.lt (mem_frees.1 hi).no]
      by_cases z : i = j
      · simp [z]
      · simp [z]
    cases q : (frees n S).find? (fun i => g (facingRow p n S j) i == 1) with
    | none =>
      have := List.find?_eq_none.mp q j (mem_frees.2 f)
      rw [e j (mem_frees.2 f)] at this
      simp at this
    | some i =>
      have h1 := List.find?_some q
      have h2 := List.mem_of_find?_eq_some q
      rw [e i h2] at h1
      rw [of_decide_eq_true h1]
  rw [this]; rfl
theorem facings_ind (hp : 1 < p) (h : Rref p n S) : Ind p n (facings p n S) (fpiv n S) := by
  have ff : ∀ {x}, x ∈ facings p n S → ∃ j, Free n S j ∧ x = facingRow p n S j := fun {x} hx => by
    obtain ⟨j, hj, e⟩ := List.mem_map.mp hx
    exact ⟨j, mem_frees.1 hj, e.symm⟩
  refine ⟨fun x hx => ?_, ?_, fun x hx => ?_, fun x hx y hy d => ?_⟩
  · obtain ⟨j, f, e⟩ := ff hx
    rw [e]; exact facing_ok hp h f.lt
  · unfold facings List.Nodup
    rw [List.pairwise_map]
    refine (show (frees n S).Nodup from List.Nodup.sublist List.filter_sublist List.nodup_range).imp_of_mem fun {a b} ha hb ne e => ne ?_
    have fa := mem_frees.1 ha
    have fb := mem_frees.1 hb
    rw [← fpiv_is (p := p) fa, ← fpiv_is (p := p) fb, e]
  · obtain ⟨j, f, e⟩ := ff hx
    rw [e, fpiv_is f, facing_free f.lt f.no, if_pos rfl]
  · obtain ⟨j, f, e⟩ := ff hx
    obtain ⟨i, f', e'⟩ := ff hy
    rw [e, e', fpiv_is f, facing_free f'.lt f.no, if_neg fun z => d (by rw [e, e', z])]
theorem Ind.make (hp : 1 < p) {a : Nat → Int} (ha : ∀ i, 0 ≤ a i ∧ a i < p) : ∀ {S : List Row}, Ind p n S piv → ∃ w, Sp p n S w ∧ ∀ s ∈ S, g w (piv s) = a (piv s)
  | [], _ => ⟨Lin.zero n, .zero, by simp⟩
  | s :: S, I => by
    obtain ⟨w, hw, e⟩ := Ind.make hp ha I.tail
    have os := I.ok s List.mem_cons_self
    have ow := hw.ok (by omega) I.tail.ok
    have l : w.length = s.length := by rw [ow.1, os.1]
    refine ⟨add p w (a (piv s)) s, (hw.sub fun x hx => List.mem_cons_of_mem _ hx).step _ List.mem_cons_self, fun t ht => ?_⟩
    rw [g_add l]
    rcases List.mem_cons.mp ht with z | z
    · subst z
      rw [I.head0 (by omega) hw, I.one t List.mem_cons_self, Int.mul_one, Int.zero_add]
      exact Int.emod_eq_of_lt (ha _).1 (ha _).2
    · have n0 : s ≠ t := fun q => (List.nodup_cons.mp I.nd).1 (q ▸ z)
      rw [e t z, I.off t (List.mem_cons_of_mem _ z) s List.mem_cons_self n0, Int.mul_zero, Int.add_zero]
      exact Int.emod_eq_of_lt (ha _).1 (ha _).2
theorem facings_sp (hp : 1 < p) (h : Rref p n S) : Sp p n (facings p n S) v ↔ OkR p n v ∧ ∀ s ∈ S, dot p s v = 0 := by
  have hp0 : 0 < p := by omega
  have I := facings_ind hp h
  constructor
  · intro hv
    refine ⟨hv.ok hp0 I.ok, fun s hs => ?_⟩
    rw [dot_comm (h.ok s hs).1 (hv.ok hp0 I.ok).1]
    refine perp_sp hp0 I.ok (h.ok s hs).1 (fun f hf => ?_) hv
    obtain ⟨j, hj, e⟩ := List.mem_map.mp hf
    rw [← e, dot_comm facing_len (h.ok s hs).1]
    exact facing_perp hp h (mem_frees.1 hj) hs
  · rintro ⟨ov, hv⟩
    obtain ⟨w, hw, e⟩ := I.make hp (a := fun i => g v i) fun i => g_bd hp0 ov i
    have ow := hw.ok hp0 I.ok
    have od : OkR p n (add p v (-1) w) := ok_add hp0 ov.1 ow.1
    have lw : v.length = w.length := by rw [ov.1, ow.1]
    have ef : ∀ j, Free n S j → g w j = g v j := fun j f => by
      have := e (facingRow p n S j) (List.mem_map.mpr ⟨j, mem_frees.2 f, rfl⟩)
      rw [fpiv_is f] at this; exact this
    have d0 : ∀ j, Free n S j → g (add p v (-1) w) j = 0 := fun j f => by
      rw [g_add lw, ef j f]
      have : g v j + -1 * g v j = 0 := by omega
      rw [this]; rfl
    have wS : ∀ s ∈ S, dot p s w = 0 := fun s hs => by
      rw [dot_comm (h.ok s hs).1 ow.1]
      refine perp_sp hp0 I.ok (h.ok s hs).1 (fun f hf => ?_) hw
      obtain ⟨j, hj, e⟩ := List.mem_map.mp hf
      rw [← e, dot_comm facing_len (h.ok s hs).1]
      exact facing_perp hp h (mem_frees.1 hj) hs
    have dS : ∀ s ∈ S, g (add p v (-1) w) (lead s) = 0 := fun s hs => by
      have os := h.ok s hs
      have z : dot p s (add p v (-1) w) = 0 := by
        rw [dot_comm os.1 od.1, dot_add ov.1 ow.1 os.1, dot_comm ov.1 os.1, dot_comm ow.1 os.1, hv s hs, wS s hs]; rfl
      rw [dot_eq os.1 od.1, sum_one (r := lead s) List.nodup_range (List.mem_range.mpr (h.lt hs)) fun i hi ne => ?_, h.one s hs, Int.one_mul, g_mod hp0 od] at z
      · exact z
      · rcases Classical.em (∃ t ∈ S, lead t = i) with ⟨t, ht, q⟩ | q
        · subst q
          rw [h.off t ht s hs fun q => ne (by rw [q]), Int.zero_mul]
        · rw [d0 i ⟨List.mem_range.mp hi, fun t ht z => q ⟨t, ht, z⟩⟩, Int.mul_zero]
    have ev : v = w := ext ov.1 ow.1 fun i hi => by
      have z : g (add p v (-1) w) i = 0 := by
        rcases Classical.em (∃ t ∈ S, lead t = i) with ⟨t, ht, q⟩ | q
        · rw [← q]; exact dS t ht
        · exact d0 i ⟨hi, fun t ht z => q ⟨t, ht, z⟩⟩
      rw [g_add lw] at z
      have b1 := g_bd hp0 ov i
      have b2 := g_bd hp0 ow i
      have := small_dvd hp0 (by omega) (by omega) z
      omega
    rw [ev]; exact hw
/-! ### all rows -/
def nexts (p : Int) (found : List Row) : List Row := found.flatMap fun one => (List.range p.toNat).map fun (x : Nat) => one ++ [(x : Int)]
def allRows (p : Int) : Nat → List Row
  | 0 => [[]]
  | n + 1 => nexts p (allRows p n)
theorem mem_all (hp : 0 < p) : ∀ {n : Nat} {v : Row}, v ∈ allRows p n ↔ OkR p n v
  | 0, v => by
    unfold allRows
    rw [List.mem_singleton]
    constructor
    · intro e; subst e; exact ⟨rfl, by simp⟩
    · intro h; exact List.length_eq_zero_iff.mp h.1
  | n + 1, v => by
    unfold allRows nexts
    rw [List.mem_flatMap]
    constructor
    · rintro ⟨u, hu, hv⟩
      obtain ⟨x, hx, e⟩ := List.mem_map.mp hv
      have o := (mem_all hp).1 hu
      have := List.mem_range.mp hx
      subst e
      refine ⟨by simp [o.1], fun y hy => ?_⟩
      rcases List.mem_append.mp hy with z | z
      · exact o.2 y z
      · rw [List.mem_singleton.mp z]; omega
    · intro h
      have ne : v ≠ [] := fun z => by have := h.1; rw [z] at this; simp at this
      refine ⟨v.dropLast, (mem_all hp).2 ⟨by rw [List.length_dropLast, h.1]; omega, fun x hx => h.2 x (List.dropLast_subset _ hx)⟩, List.mem_map.mpr ⟨(v.getLast ne).toNat, ?_, ?_⟩⟩
      · have := h.2 _ (List.getLast_mem ne)
        exact List.mem_range.mpr (by omega)
      · have := h.2 _ (List.getLast_mem ne)
        rw [Int.toNat_of_nonneg this.1, List.dropLast_concat_getLast]
theorem all_nd : ∀ (n : Nat), (allRows p n).Nodup
  | 0 => by unfold allRows; simp
  | n + 1 => by
    unfold allRows nexts List.Nodup
    rw [List.pairwise_flatMap]
    refine ⟨fun u hu => ?_, (all_nd n).imp fun {a b} q x hx y hy e => q ?_⟩
    · rw [List.pairwise_map]
      exact List.nodup_range.imp fun {a b} q e => q (by have := List.append_inj_right' e rfl; simp at this; omega)
    · obtain ⟨i, _, e1⟩ := List.mem_map.mp hx
      obtain ⟨j, _, e2⟩ := List.mem_map.mp hy
      subst e1; subst e2
      exact (List.append_inj' e rfl).1
theorem all_len : ∀ (n : Nat), (allRows p n).length = p.toNat ^ n
  | 0 => rfl
  | n + 1 => by
    unfold allRows nexts
    rw [len_flat (k := p.toNat) fun u _ => by rw [List.length_map, List.length_range], all_len n, Nat.pow_succ]
end
end Lin


set_option maxRecDepth 100000
set_option linter.unusedVariables false
namespace Lin
section
variable {p : Int} {n : Nat} {S T R : List Row} {v w r : Row}
theorem Rref.len_le (h : Rref p n S) : S.length ≤ n := by
  have := nd_len (xs := S.map lead) (ys := List.range n) (h.leads_srt.imp fun {a b} z => by omega) fun x hx => by
    obtain ⟨s, hs, e⟩ := List.mem_map.mp hx
    rw [← e]; exact List.mem_range.mpr (h.lt hs)
  rwa [List.length_map, List.length_range] at this
theorem same_snoc (hp : 0 < p) (oS : Oks p n S) (oT : Oks p n T) (o : OkR p n r) (s : Same p n S T) : Same p n (r :: S) (T ++ [r]) := by
  have oT' : Oks p n (T ++ [r]) := fun x hx => by
    rcases List.mem_append.mp hx with e | e
    · exact oT x e
    · rw [List.mem_singleton.mp e]; exact o
  refine same_of hp (oks_cons o oS) oT' (fun x hx => ?_) fun x hx => ?_
  · rcases List.mem_cons.mp hx with e | e
    · rw [e]; exact Sp.gen hp o (List.mem_append_right _ List.mem_cons_self)
    · exact ((s x).1 (Sp.gen hp (oS x e) e)).sub fun y hy => List.mem_append_left _ hy
  · rcases List.mem_append.mp hx with e | e
    · exact ((s x).2 (Sp.gen hp (oT x e) e)).sub fun y hy => List.mem_cons_of_mem _ hy
    · rw [List.mem_singleton.mp e]; exact Sp.gen hp o List.mem_cons_self
theorem oks_take (h : Oks p n S) (i : Nat) : Oks p n (S.take i) := fun x hx => h x (List.mem_of_mem_take hx)
theorem remS_take {i : Nat} {s : Row} (h : S[i]? = some s) : remS p (S.take (i + 1)) r = add p (remS p (S.take i) r) (-(g (remS p (S.take i) r) (lead s))) s := by
  unfold remS
  rw [List.take_add_one, h, List.foldl_append]
  rfl
theorem fset_take {i j : Nat} {s v : Row} (h : S[i]? = some s) : fset p j (S.take (i + 1)) v = (fset p j (S.take i) v).set (lead s) (-(g s j) % p) := by
  unfold fset
  rw [List.take_add_one, h, List.foldl_append]
  rfl
/-- what the rows that meet all of R with 0 are -/
theorem facings_of (hp : 1 < p) (h : Rref p n S) (oR : Oks p n R) (s : Same p n S R) : Sp p n (facings p n S) v ↔ OkR p n v ∧ ∀ r ∈ R, dot p r v = 0 := by
  rw [facings_sp hp h]
  constructor
  · rintro ⟨a, b⟩; exact ⟨a, (perp_same (by omega) oR h.ok s.symm a.1).2 b⟩
  · rintro ⟨a, b⟩; exact ⟨a, (perp_same (by omega) oR h.ok s.symm a.1).1 b⟩
/-- staircases of one span are one -/
theorem Rref.uniq (hp : 1 < p) (h : Rref p n S) (h' : Rref p n T) (s : Same p n S T) : S = T := by
  have hp0 : 0 < p := by omega
  have a := lawStairs_is (L := combos p n S) hp h (fun v => mem_combos hp0 h.ok) (combos_nd hp0 h.ind) h.leads_srt fun a => (h.leads hp (fun v => mem_combos hp0 h.ok) a).symm
  have b := lawStairs_is (L := combos p n S) hp h' (fun v => (mem_combos hp0 h.ok).trans (s v)) (combos_nd hp0 h.ind) (leads := S.map lead) h.leads_srt fun a => (h.leads hp (fun v => mem_combos hp0 h.ok) a).symm
  rw [← a, b]
end
end Lin


set_option Elab.async false
set_option linter.all false
set_option maxRecDepth 100000
set_option maxHeartbeats 4000000
/-! What values stand for, what is handed back, comprehensions -/
namespace K01
open PySem PySem.Spec PyProof.Rows L2
abbrev Ex := Evl.Ex
abbrev Row := List Int
section
variable {K : PySem.W.Frag} {H H1 H2 H' : Hp}
/-- all but the lists stands -/
def ExN (H H' : Hp) : Prop := ∀ a o, H a = some o → (∀ xs, o ≠ .lst xs) → H' a = some o
theorem Evl.Ex.n (e : Ex H H') : ExN H H' := fun a o h _ => e a o h
theorem sqt_n {a : Addr} {xs : List V} (e : ExN H H') (h : SqT K H a xs) : SqT K H' a xs := by
  rcases h with (h | ⟨o, h⟩) | h
  · exact .inl (.inl (e _ _ h fun _ z => by cases z))
  · exact .inl (.inr ⟨o, e _ _ h fun _ z => by cases z⟩)
  · exact .inr h
def RowT (K : PySem.W.Frag) (r : Row) (v : V) (H : Hp) : Prop := ∃ a, v = .ref a ∧ SqT K H a (r.map V.int)
def RowsT (K : PySem.W.Frag) (rs : List Row) (v : V) (H : Hp) : Prop := ∃ a vs, v = .ref a ∧ SqT K H a vs ∧ Paired (fun x r => RowT K r x H) vs rs
def RowsL (K : PySem.W.Frag) (rs : List Row) (v : V) (H : Hp) : Prop := ∃ a vs, v = .ref a ∧ SqL K H a vs ∧ Paired (fun x r => RowT K r x H) vs rs
def IntsL (K : PySem.W.Frag) (ns : List Int) (v : V) (H : Hp) : Prop := ∃ a, v = .ref a ∧ SqL K H a (ns.map V.int)
def Stb (R : V → Hp → Prop) : Prop := ∀ v H1 H2, ExN H1 H2 → R v H1 → R v H2
theorem RowT.n {r : Row} {v : V} (e : ExN H H') (h : RowT K r v H) : RowT K r v H' := by
  obtain ⟨a, z, q⟩ := h
  exact ⟨a, z, sqt_n e q⟩
theorem RowT.stb {r : Row} : Stb (RowT K r) := fun _ _ _ e h => h.n e
theorem pr_mono {α β : Type} {F G : α → β → Prop} {xs : List α} {ys : List β} (h : Paired F xs ys) (i : ∀ a b, F a b → G a b) : Paired G xs ys := Paired.mapP h i
theorem RowsT.n {rs : List Row} {v : V} (e : ExN H H') (h : RowsT K rs v H) : RowsT K rs v H' := by
  obtain ⟨a, vs, z, q, p⟩ := h
  exact ⟨a, vs, z, sqt_n e q, pr_mono p fun _ _ x => x.n e⟩
theorem RowsL.ex {rs : List Row} {v : V} (e : Ex H H') (h : RowsL K rs v H) : RowsL K rs v H' := by
  obtain ⟨a, vs, z, q, p⟩ := h
  exact ⟨a, vs, z, Evl.ex_l e q, pr_mono p fun _ _ x => x.n (Evl.Ex.n e)⟩
theorem IntsL.ex {ns : List Int} {v : V} (e : Ex H H') (h : IntsL K ns v H) : IntsL K ns v H' := by
  obtain ⟨a, z, q⟩ := h
  exact ⟨a, z, Evl.ex_l e q⟩
theorem RowT.ex {r : Row} {v : V} (e : Ex H H') (h : RowT K r v H) : RowT K r v H' := h.n (Evl.Ex.n e)
theorem RowsT.ex {rs : List Row} {v : V} (e : Ex H H') (h : RowsT K rs v H) : RowsT K rs v H' := h.n (Evl.Ex.n e)
theorem RowT.new {r : Row} {p : Addr} (h : H p = some (.tup (r.map V.int))) : RowT K r (.ref p) H := ⟨p, rfl, SqT.of h⟩
end
/-- what a def hands back: a value of which R holds, all that was tracked stands -/
def Ret (R : V → Hp → Prop) (H : Hp) (Q : VK) : Prop := ∀ v H', Ex H H' → R v H' → Q v H'
def IsV (x : V) : V → Hp → Prop := fun v _ => v = x
theorem Ret.go {R : V → Hp → Prop} {H H' : Hp} {Q : VK} (q : Ret R H Q) (e : Ex H H') : Ret R H' Q := fun v H2 e2 r => q v H2 (e.trans e2) r
/-! ### lists beside lists -/
section
variable {α β γ : Type} {F : α → β → Prop} {xs : List α} {ys : List β}
theorem pr_len (h : Paired F xs ys) : xs.length = ys.length := Paired.length h
theorem pr_get (h : Paired F xs ys) {i : Nat} {x : α} (e : xs[i]? = some x) : ∃ y, ys[i]? = some y ∧ F x y := by
  induction h generalizing i with
  | nil => simp at e
  | @cons a b l1 l2 r t ih =>
    cases i with
    | zero => exact ⟨b, rfl, by rw [show a = x by simpa using e] at r; exact r⟩
    | succ i => exact ih (by simpa using e)
theorem pr_getR (h : Paired F xs ys) {i : Nat} {y : β} (e : ys[i]? = some y) : ∃ x, xs[i]? = some x ∧ F x y := by
  have hl := pr_len h
  have hi : i < xs.length := by rw [hl]; exact (List.getElem?_eq_some_iff.mp e).1
  obtain ⟨y', e', f⟩ := pr_get h (List.getElem?_eq_getElem hi)
  rw [Option.some.inj (e'.symm.trans e)] at f
  exact ⟨_, List.getElem?_eq_getElem hi, f⟩
theorem pr_snoc {a : α} {b : β} (h : Paired F xs ys) (r : F a b) : Paired F (xs ++ [a]) (ys ++ [b]) := Paired.snoc h r
theorem pr_app {xs' : List α} {ys' : List β} (h : Paired F xs ys) (h' : Paired F xs' ys') : Paired F (xs ++ xs') (ys ++ ys') := by
  induction h with
  | nil => exact h'
  | cons r _ ih => exact .cons r ih
theorem pr_map {f : β → γ} {G : α → γ → Prop} (h : Paired F xs ys) (i : ∀ a b, F a b → G a (f b)) : Paired G xs (ys.map f) := by
  induction h with
  | nil => exact .nil
  | cons r _ ih => exact .cons (i _ _ r) ih
theorem pr_mem (h : Paired F xs ys) {x : α} (hx : x ∈ xs) : ∃ y ∈ ys, F x y := by
  obtain ⟨i, e⟩ := List.getElem?_of_mem hx
  obtain ⟨y, e', f⟩ := pr_get h e
  exact ⟨y, List.mem_of_getElem? e', f⟩
theorem pr_fun {f : β → α} (h : Paired (fun a b => a = f b) xs ys) : xs = ys.map f := by
  induction h with
  | nil => rfl
  | cons r _ ih => rw [r, ih]; rfl
theorem pr_self {G : α → α → Prop} : ∀ {xs : List α}, (∀ x ∈ xs, G x x) → Paired G xs xs
  | [], _ => .nil
  | x :: l, h => .cons (h x List.mem_cons_self) (pr_self fun y hy => h y (List.mem_cons_of_mem _ hy))
theorem pr_memR (h : Paired F xs ys) {y : β} (hy : y ∈ ys) : ∃ x ∈ xs, F x y := by
  obtain ⟨i, e⟩ := List.getElem?_of_mem hy
  obtain ⟨x, e', f⟩ := pr_getR h e
  exact ⟨x, List.mem_of_getElem? e', f⟩
end
/-! ### a comprehension over any walk: the items' data ds, which are kept, what each makes -/
theorem lc_go {J : It} {n : Nat} {G : Hp → Prop} {Y : Nat → Hp → V → Hp → Prop} (w : Walk J n G Y) {g : TG} {tt : TT} {te : TE} {vs : List Nat} {σ : L2.St} {H : Hp} {Qd : Addr → Hp → Prop} (hn : n ≤ 40000) (hG : ∀ H', Ex H H' → G H')
    {α : Type} (ds : List α) (hds : ds.length = n) (f : α → Bool) (R : α → V → Hp → Prop) (stb : ∀ d, Stb (R d))
    (turn : ∀ i d x H1 H2, ds[i]? = some d → Ex H H1 → Y i H1 x H2 → ∀ (C : V → Hp → Prop) (N : Hp → Prop), (f d = true → ∀ y H3, Ex H1 H3 → R d y H3 → C y H3) → (f d = false → ∀ H3, Ex H1 H3 → N H3) →
      g x (wipe σ vs) H2 fun σ2 H2' => wipe σ2 vs = wipe σ vs ∧ tt σ2 H2' fun b H3 => if b = true then te σ2 H3 C else N H3)
    (q : ∀ D ys H', H D = none → Ex H H' → H' D = some (.lst ys) → Paired (fun y d => R d y H') ys (ds.filter f) → Qd D H') :
    ∀ D, H D = none → ∃ W : Nat → Nat → Hp → Prop, (∃ m, W 0 m (upd H D (.lst []))) ∧ ∀ i m H, W i m H →
      (J.stop i H ∧ Qd D H) ∨ (J.go i H ∧ ∃ Nx : Hp → Prop, (∀ H', Nx H' → ∃ m', m' < m ∧ W (i + 1) m' H') ∧ ∀ x H', J.yld i H x H' → g x (wipe σ vs) H' fun σ2 H2 => wipe σ2 vs = wipe σ vs ∧ tt σ2 H2 fun b H3 =>
        if b = true then te σ2 H3 fun y H4 => ∃ acc, H4 D = some (.lst acc) ∧ acc.length < sizeLine ∧ Nx (upd H4 D (.lst (acc ++ [y]))) else Nx H3) := by
  intro D hD
  refine lc_it w (Qd := Qd D) (fun i H' => Ex H H' ∧ ∃ ys, H' D = some (.lst ys) ∧ ys.length ≤ i ∧ Paired (fun y d => R d y H') ys ((ds.take i).filter f)) ⟨_root_.Evl.Ex.new hD, [], upd_same, Nat.le_refl _, by rw [List.take_zero]; exact .nil⟩
    (fun i H' _ p => hG H' p.1) (fun i x H1 H2 hi p y => ?_) fun H' p => ?_
  · obtain ⟨e1, ys, hy, hl, hp⟩ := p
    have hid : i < ds.length := by omega
    have ed : ds[i]? = some ds[i] := List.getElem?_eq_getElem hid
    have et : (ds.take (i + 1)).filter f = (ds.take i).filter f ++ (if f ds[i] = true then [ds[i]] else []) := by
      rw [List.take_add_one, ed, List.filter_append]
      show _ ++ List.filter f [ds[i]] = _
      rw [List.filter_cons]
      split <;> rfl
    refine turn i ds[i] x H1 H2 ed e1 y _ _ (fun hf y H3 e3 r => ?_) (fun hf H3 e3 => ?_)
    · have h3 := e3 D _ hy
      have up : ExN H3 (upd H3 D (.lst (ys ++ [y]))) := fun a o h nl => by
        rw [upd_ne (fun z => by rw [z, h3] at h; exact nl ys (Option.some.inj h).symm)]
        exact h
      refine ⟨ys, h3, _root_.Evl.sz_lt (by omega), _root_.Evl.Ex.mut (e1.trans e3) hD, ys ++ [y], upd_same, by rw [List.length_append, List.length_singleton]; omega, ?_⟩
      rw [et, if_pos hf]
      exact pr_snoc (pr_mono hp fun a b z => stb b _ _ _ up (stb b _ _ _ (Evl.Ex.n e3) z)) (stb _ _ _ _ up r)
    · refine ⟨e1.trans e3, ys, e3 D _ hy, by omega, ?_⟩
      rw [et, if_neg (by rw [hf]; decide), List.append_nil]
      exact pr_mono hp fun a b z => stb b _ _ _ (Evl.Ex.n e3) z
  · obtain ⟨e1, ys, hy, hl, hp⟩ := p
    rw [List.take_of_length_le (by omega)] at hp
    exact q D ys H' hD e1 hy hp
theorem dne {a b : Int} (c : (!decide (V.int a = V.int b)) = true) : a ≠ b := fun z => by
  subst z
  simp at c
theorem deq {a b : Int} (c : ¬ (!decide (V.int a = V.int b)) = true) : a = b := by
  rcases Classical.em (a = b) with z | z
  · exact z
  · exact absurd (by simp [z]) c
theorem yeq {a b : Int} (c : decide (V.int a = V.int b) = true) : a = b := V.int.inj (of_decide_eq_true c)
theorem yne {a b : Int} (c : ¬ decide (V.int a = V.int b) = true) : a ≠ b := fun z => c (decide_eq_true (by rw [z]))
theorem filter_yes {α : Type} (l : List α) : l.filter (fun _ => true) = l := by simp
theorem yes_go {C : V → Hp → Prop} {N : Hp → Prop} {te : TE} {σ : L2.St} {H : Hp} (h : te σ H C) : tYes σ H fun b H3 => if b = true then te σ H3 C else N H3 := by
  show if true = true then te σ H C else N H
  rw [if_pos rfl]
  exact h
/-! ### a def, for its callers -/
structure Got (P : Program) (w : World) (K : PySem.W.Frag) (mg : Str → Option Value) (base : Heap) (CX : CXT) (k : Nat) (x : Str) (ps : List Str) (sp : Sp) : Prop where
  ex : ∃ f fd, mg x = some (.ref f) ∧ PySem.W.keepIn K (.ref f) = true ∧ L2.Binds K fd ps [] ∧ FnOk P w K mg base CX k f fd ps sp
theorem pe_got {X : Cx} {CX : CXT} {k : Nat} {x : Str} {ps : List Str} {sp : Sp} {E : XK} {p pos : Pos} {e : Expr} {es : List Expr} {t : TA} (F : Got X.prog X.w X.K X.mg X.base CX k x ps sp) (hr : Room k X.A) (hx : Passes CX X E) (ha : PA X (e :: es) t)
    (hg : Gl X x := by rfl) (hdb : (x == ("__debug__" : Str)) = false := by decide) (he : starEach (e :: es) X.env = (false, eval e X.env) :: starEach es X.env := by rfl) (hpl : (backTo pos (starEach es X.env)).any (·.1) = false := by rfl) :
    PE X (.Call (.Name x p) (e :: es) [] pos) (tCall sp [] E t) := by
  obtain ⟨f, fd, h1, h2, h3, h4⟩ := F.ex
  exact pe_call h4 hr hg h1 h2 h3 .nil hx ha hdb he hpl
theorem pe_gotS {X : Cx} {CX : CXT} {k : Nat} {x : Str} {ps : List Str} {sp : Sp} {E : L2.St → XK} {p pos : Pos} {e : Expr} {es : List Expr} {t : TA} (F : Got X.prog X.w X.K X.mg X.base CX k x ps sp) (hr : Room k X.A) (hx : ∀ σ, PassesAt CX X σ (E σ)) (ha : PA X (e :: es) t)
    (hg : Gl X x := by rfl) (hdb : (x == ("__debug__" : Str)) = false := by decide) (he : starEach (e :: es) X.env = (false, eval e X.env) :: starEach es X.env := by rfl) (hpl : (backTo pos (starEach es X.env)).any (·.1) = false := by rfl) :
    PE X (.Call (.Name x p) (e :: es) [] pos) (tCallS sp E t) := by
  obtain ⟨f, fd, h1, h2, h3, h4⟩ := F.ex
  exact pe_callS h4 hr hg h1 h2 h3 hx ha hdb he hpl
theorem Got.mono {P : Program} {w : World} {K : PySem.W.Frag} {mg : Str → Option Value} {base : Heap} {CX : CXT} {j k : Nat} {x : Str} {ps : List Str} {sp : Sp} (F : Got P w K mg base CX j x ps sp) (h : j ≤ k) : Got P w K mg base CX k x ps sp := by
  obtain ⟨f, fd, h1, h2, h3, h4⟩ := F.ex
  exact ⟨f, fd, h1, h2, h3, h4.mono h⟩
/-- the built-in names that the program leaves as they are -/
structure Bare (mg : Str → Option Value) : Prop where
  len : mg "len" = none
  zip : mg "zip" = none
  tuple : mg "tuple" = none
  list : mg "list" = none
  sorted : mg "sorted" = none
  enumerate : mg "enumerate" = none
  range : mg "range" = none
  isinstance : mg "isinstance" = none
  int : mg "int" = none
  bool : mg "bool" = none
  str : mg "str" = none
  all : mg "all" = none
  sum : mg "sum" = none
  max : mg "max" = none
  set : mg "set" = none
end K01


set_option Elab.async false
set_option linter.all false
set_option maxRecDepth 100000
set_option maxHeartbeats 4000000
/-! The defs of the text: where each stands, its names by slot -/
namespace K01
open PySem PySem.Spec PyProof.Rows L2
abbrev s_is_number : Stmt := topS 9
abbrev n_is_number : List Str := ["value", "least", "most"]
abbrev p_is_number : List Str := ["value", "least", "most"]
theorem sc_is_number : FnScope n_is_number p_is_number (defScope s_is_number) := ⟨rfl, rfl, rfl, by decide +kernel, rfl, by decide +kernel, by decide +kernel⟩
abbrev s_is_prime : Stmt := topS 10
abbrev n_is_prime : List Str := ["value"]
abbrev p_is_prime : List Str := ["value"]
theorem sc_is_prime : FnScope n_is_prime p_is_prime (defScope s_is_prime) := ⟨rfl, rfl, rfl, by decide +kernel, rfl, by decide +kernel, by decide +kernel⟩
abbrev s_is_row : Stmt := topS 11
abbrev n_is_row : List Str := ["prime", "value", "width", "number"]
abbrev p_is_row : List Str := ["prime", "value", "width"]
theorem sc_is_row : FnScope n_is_row p_is_row (defScope s_is_row) := ⟨rfl, rfl, rfl, by decide +kernel, rfl, by decide +kernel, by decide +kernel⟩
abbrev s_is_rows : Stmt := topS 12
abbrev n_is_rows : List Str := ["prime", "value", "most", "width", "row"]
abbrev p_is_rows : List Str := ["prime", "value", "most", "width"]
theorem sc_is_rows : FnScope n_is_rows p_is_rows (defScope s_is_rows) := ⟨rfl, rfl, rfl, by decide +kernel, rfl, by decide +kernel, by decide +kernel⟩
abbrev s_check_number : Stmt := topS 13
abbrev n_check_number : List Str := ["value", "least", "most"]
abbrev p_check_number : List Str := ["value", "least", "most"]
theorem sc_check_number : FnScope n_check_number p_check_number (defScope s_check_number) := ⟨rfl, rfl, rfl, by decide +kernel, rfl, by decide +kernel, by decide +kernel⟩
abbrev s_check_prime : Stmt := topS 14
abbrev n_check_prime : List Str := ["prime"]
abbrev p_check_prime : List Str := ["prime"]
theorem sc_check_prime : FnScope n_check_prime p_check_prime (defScope s_check_prime) := ⟨rfl, rfl, rfl, by decide +kernel, rfl, by decide +kernel, by decide +kernel⟩
abbrev s_meet : Stmt := topS 16
abbrev n_meet : List Str := ["prime", "one", "other", "a", "b"]
abbrev p_meet : List Str := ["prime", "one", "other"]
theorem sc_meet : FnScope n_meet p_meet (defScope s_meet) := ⟨rfl, rfl, rfl, by decide +kernel, rfl, by decide +kernel, by decide +kernel⟩
abbrev s_inverse : Stmt := topS 17
abbrev n_inverse : List Str := ["prime", "number", "found"]
abbrev p_inverse : List Str := ["prime", "number"]
theorem sc_inverse : FnScope n_inverse p_inverse (defScope s_inverse) := ⟨rfl, rfl, rfl, by decide +kernel, rfl, by decide +kernel, by decide +kernel⟩
abbrev s_times : Stmt := topS 18
abbrev n_times : List Str := ["prime", "factor", "row", "number"]
abbrev p_times : List Str := ["prime", "factor", "row"]
theorem sc_times : FnScope n_times p_times (defScope s_times) := ⟨rfl, rfl, rfl, by decide +kernel, rfl, by decide +kernel, by decide +kernel⟩
abbrev s_less : Stmt := topS 19
abbrev n_less : List Str := ["prime", "row", "factor", "other", "a", "b"]
abbrev p_less : List Str := ["prime", "row", "factor", "other"]
theorem sc_less : FnScope n_less p_less (defScope s_less) := ⟨rfl, rfl, rfl, by decide +kernel, rfl, by decide +kernel, by decide +kernel⟩
abbrev s_first_place : Stmt := topS 20
abbrev n_first_place : List Str := ["row", "place", "number"]
abbrev p_first_place : List Str := ["row"]
theorem sc_first_place : FnScope n_first_place p_first_place (defScope s_first_place) := ⟨rfl, rfl, rfl, by decide +kernel, rfl, by decide +kernel, by decide +kernel⟩
abbrev s_remainder : Stmt := topS 21
abbrev n_remainder : List Str := ["prime", "steps", "row", "step"]
abbrev p_remainder : List Str := ["prime", "steps", "row"]
theorem sc_remainder : FnScope n_remainder p_remainder (defScope s_remainder) := ⟨rfl, rfl, rfl, by decide +kernel, rfl, by decide +kernel, by decide +kernel⟩
abbrev s_with_row : Stmt := topS 22
abbrev n_with_row : List Str := ["prime", "steps", "row", "rest", "place", "step", "cleared", "old"]
abbrev p_with_row : List Str := ["prime", "steps", "row"]
theorem sc_with_row : FnScope n_with_row p_with_row (defScope s_with_row) := ⟨rfl, rfl, rfl, by decide +kernel, rfl, by decide +kernel, by decide +kernel⟩
abbrev s_staircase : Stmt := topS 23
abbrev n_staircase : List Str := ["prime", "rows", "steps", "row"]
abbrev p_staircase : List Str := ["prime", "rows"]
theorem sc_staircase : FnScope n_staircase p_staircase (defScope s_staircase) := ⟨rfl, rfl, rfl, by decide +kernel, rfl, by decide +kernel, by decide +kernel⟩
abbrev s_is_stir : Stmt := topS 28
abbrev n_is_stir : List Str := ["prime", "value"]
abbrev p_is_stir : List Str := ["prime", "value"]
theorem sc_is_stir : FnScope n_is_stir p_is_stir (defScope s_is_stir) := ⟨rfl, rfl, rfl, by decide +kernel, rfl, by decide +kernel, by decide +kernel⟩
abbrev s_wrong_part : Stmt := topS 29
abbrev n_wrong_part : List Str := ["machine", "prime", "stir", "writes", "sights"]
abbrev p_wrong_part : List Str := ["machine"]
theorem sc_wrong_part : FnScope n_wrong_part p_wrong_part (defScope s_wrong_part) := ⟨rfl, rfl, rfl, by decide +kernel, rfl, by decide +kernel, by decide +kernel⟩
abbrev s_check_machine : Stmt := topS 30
abbrev n_check_machine : List Str := ["machine", "part"]
abbrev p_check_machine : List Str := ["machine"]
theorem sc_check_machine : FnScope n_check_machine p_check_machine (defScope s_check_machine) := ⟨rfl, rfl, rfl, by decide +kernel, rfl, by decide +kernel, by decide +kernel⟩
abbrev s_check_memory : Stmt := topS 31
abbrev n_check_memory : List Str := ["machine", "memory"]
abbrev p_check_memory : List Str := ["machine", "memory"]
theorem sc_check_memory : FnScope n_check_memory p_check_memory (defScope s_check_memory) := ⟨rfl, rfl, rfl, by decide +kernel, rfl, by decide +kernel, by decide +kernel⟩
abbrev s_stirred : Stmt := topS 32
abbrev n_stirred : List Str := ["prime", "stir", "memory", "row"]
abbrev p_stirred : List Str := ["prime", "stir", "memory"]
theorem sc_stirred : FnScope n_stirred p_stirred (defScope s_stirred) := ⟨rfl, rfl, rfl, by decide +kernel, rfl, by decide +kernel, by decide +kernel⟩
abbrev s_stirred_by_both : Stmt := topS 33
abbrev n_stirred_by_both : List Str := ["prime", "one", "other", "columns", "column"]
abbrev p_stirred_by_both : List Str := ["prime", "one", "other"]
theorem sc_stirred_by_both : FnScope n_stirred_by_both p_stirred_by_both (defScope s_stirred_by_both) := ⟨rfl, rfl, rfl, by decide +kernel, rfl, by decide +kernel, by decide +kernel⟩
abbrev s_still : Stmt := topS 34
abbrev n_still : List Str := ["cells", "column", "row"]
abbrev p_still : List Str := ["cells"]
theorem sc_still : FnScope n_still p_still (defScope s_still) := ⟨rfl, rfl, rfl, by decide +kernel, rfl, by decide +kernel, by decide +kernel⟩
abbrev s_still_machine : Stmt := topS 35
abbrev n_still_machine : List Str := ["prime", "values", "cells"]
abbrev p_still_machine : List Str := ["prime", "values"]
theorem sc_still_machine : FnScope n_still_machine p_still_machine (defScope s_still_machine) := ⟨rfl, rfl, rfl, by decide +kernel, rfl, by decide +kernel, by decide +kernel⟩
abbrev s_stirred_often : Stmt := topS 36
abbrev n_stirred_often : List Str := ["prime", "stir", "ticks", "table"]
abbrev p_stirred_often : List Str := ["prime", "stir", "ticks"]
theorem sc_stirred_often : FnScope n_stirred_often p_stirred_often (defScope s_stirred_often) := ⟨rfl, rfl, rfl, by decide +kernel, rfl, by decide +kernel, by decide +kernel⟩
abbrev s_behind_ticks : Stmt := topS 37
abbrev n_behind_ticks : List Str := ["machine", "memory", "ticks"]
abbrev p_behind_ticks : List Str := ["machine", "memory", "ticks"]
theorem sc_behind_ticks : FnScope n_behind_ticks p_behind_ticks (defScope s_behind_ticks) := ⟨rfl, rfl, rfl, by decide +kernel, rfl, by decide +kernel, by decide +kernel⟩
abbrev s_turns : Stmt := topS 38
abbrev n_turns : List Str := ["machine", "prime", "stir", "unmoved", "table", "ticks"]
abbrev p_turns : List Str := ["machine"]
theorem sc_turns : FnScope n_turns p_turns (defScope s_turns) := ⟨rfl, rfl, rfl, by decide +kernel, rfl, by decide +kernel, by decide +kernel⟩
abbrev s_most_numbers : Stmt := topS 48
abbrev n_most_numbers : List Str := ["prime", "sights", "writes", "many"]
abbrev p_most_numbers : List Str := ["prime", "sights", "writes", "many"]
theorem sc_most_numbers : FnScope n_most_numbers p_most_numbers (defScope s_most_numbers) := ⟨rfl, rfl, rfl, by decide +kernel, rfl, by decide +kernel, by decide +kernel⟩
abbrev s_is_instruction : Stmt := topS 49
abbrev n_is_instruction : List Str := ["value", "numbers", "bare_words"]
abbrev p_is_instruction : List Str := ["value", "numbers", "bare_words"]
theorem sc_is_instruction : FnScope n_is_instruction p_is_instruction (defScope s_is_instruction) := ⟨rfl, rfl, rfl, by decide +kernel, rfl, by decide +kernel, by decide +kernel⟩
abbrev s_check_many : Stmt := topS 50
abbrev n_check_many : List Str := ["program", "most"]
abbrev p_check_many : List Str := ["program", "most"]
theorem sc_check_many : FnScope n_check_many p_check_many (defScope s_check_many) := ⟨rfl, rfl, rfl, by decide +kernel, rfl, by decide +kernel, by decide +kernel⟩
abbrev s_check_instructions : Stmt := topS 51
abbrev n_check_instructions : List Str := ["program", "numbers", "bare_words", "place", "instruction"]
abbrev p_check_instructions : List Str := ["program", "numbers", "bare_words"]
theorem sc_check_instructions : FnScope n_check_instructions p_check_instructions (defScope s_check_instructions) := ⟨rfl, rfl, rfl, by decide +kernel, rfl, by decide +kernel, by decide +kernel⟩
abbrev s_check_values : Stmt := topS 52
abbrev n_check_values : List Str := ["values"]
abbrev p_check_values : List Str := ["values"]
theorem sc_check_values : FnScope n_check_values p_check_values (defScope s_check_values) := ⟨rfl, rfl, rfl, by decide +kernel, rfl, by decide +kernel, by decide +kernel⟩
abbrev s_check_program : Stmt := topS 53
abbrev n_check_program : List Str := ["prime", "values", "program"]
abbrev p_check_program : List Str := ["prime", "values", "program"]
theorem sc_check_program : FnScope n_check_program p_check_program (defScope s_check_program) := ⟨rfl, rfl, rfl, by decide +kernel, rfl, by decide +kernel, by decide +kernel⟩
abbrev s_check_kept : Stmt := topS 54
abbrev n_check_kept : List Str := ["machine", "kept", "numbers"]
abbrev p_check_kept : List Str := ["machine", "kept"]
theorem sc_check_kept : FnScope n_check_kept p_check_kept (defScope s_check_kept) := ⟨rfl, rfl, rfl, by decide +kernel, rfl, by decide +kernel, by decide +kernel⟩
abbrev s_landings : Stmt := topS 55
abbrev n_landings : List Str := ["program", "end", "found", "first", "place", "gos", "word", "go"]
abbrev p_landings : List Str := ["program"]
theorem sc_landings : FnScope n_landings p_landings (defScope s_landings) := ⟨rfl, rfl, rfl, by decide +kernel, rfl, by decide +kernel, by decide +kernel⟩
abbrev s_nexts : Stmt := topS 56
abbrev n_nexts : List Str := ["program", "lands", "place"]
abbrev p_nexts : List Str := ["program", "lands", "place"]
theorem sc_nexts : FnScope n_nexts p_nexts (defScope s_nexts) := ⟨rfl, rfl, rfl, by decide +kernel, rfl, by decide +kernel, by decide +kernel⟩
abbrev s_places_met : Stmt := topS 57
abbrev n_places_met : List Str := ["program", "lands", "found", "waiting", "place"]
abbrev p_places_met : List Str := ["program"]
theorem sc_places_met : FnScope n_places_met p_places_met (defScope s_places_met) := ⟨rfl, rfl, rfl, by decide +kernel, rfl, by decide +kernel, by decide +kernel⟩
abbrev s_names_met : Stmt := topS 58
abbrev n_names_met : List Str := ["program", "met", "place", "deed"]
abbrev p_names_met : List Str := ["program"]
theorem sc_names_met : FnScope n_names_met p_names_met (defScope s_names_met) := ⟨rfl, rfl, rfl, by decide +kernel, rfl, by decide +kernel, by decide +kernel⟩
abbrev s_used : Stmt := topS 59
abbrev n_used : List Str := ["prime", "values", "program"]
abbrev p_used : List Str := ["prime", "values", "program"]
theorem sc_used : FnScope n_used p_used (defScope s_used) := ⟨rfl, rfl, rfl, by decide +kernel, rfl, by decide +kernel, by decide +kernel⟩
abbrev s_check_inputs : Stmt := topS 62
abbrev n_check_inputs : List Str := ["prime", "inputs", "number"]
abbrev p_check_inputs : List Str := ["prime", "inputs"]
theorem sc_check_inputs : FnScope n_check_inputs p_check_inputs (defScope s_check_inputs) := ⟨rfl, rfl, rfl, by decide +kernel, rfl, by decide +kernel, by decide +kernel⟩
abbrev s_done : Stmt := topS 63
abbrev n_done : List Str := ["machine", "deed", "memory", "hand", "prime", "_", "writes", "sights", "word"]
abbrev p_done : List Str := ["machine", "deed", "memory", "hand"]
theorem sc_done : FnScope n_done p_done (defScope s_done) := ⟨rfl, rfl, rfl, by decide +kernel, rfl, by decide +kernel, by decide +kernel⟩
abbrev s_run : Stmt := topS 64
abbrev n_run : List Str := ["machine", "program", "inputs", "most", "memory", "strikes", "lands", "said", "hand", "asked", "ticks", "marks", "place", "instruction", "following", "word"]
abbrev p_run : List Str := ["machine", "program", "inputs", "most", "memory", "strikes"]
theorem sc_run : FnScope n_run p_run (defScope s_run) := ⟨rfl, rfl, rfl, by decide +kernel, rfl, by decide +kernel, by decide +kernel⟩
abbrev s_run_stirred : Stmt := topS 65
abbrev n_run_stirred : List Str := ["machine", "program", "inputs", "most", "memory"]
abbrev p_run_stirred : List Str := ["machine", "program", "inputs", "most", "memory"]
theorem sc_run_stirred : FnScope n_run_stirred p_run_stirred (defScope s_run_stirred) := ⟨rfl, rfl, rfl, by decide +kernel, rfl, by decide +kernel, by decide +kernel⟩
abbrev s_run_still : Stmt := topS 66
abbrev n_run_still : List Str := ["prime", "values", "program", "inputs", "most"]
abbrev p_run_still : List Str := ["prime", "values", "program", "inputs", "most"]
theorem sc_run_still : FnScope n_run_still p_run_still (defScope s_run_still) := ⟨rfl, rfl, rfl, by decide +kernel, rfl, by decide +kernel, by decide +kernel⟩
abbrev s_law_taken : Stmt := topS 68
abbrev n_law_taken : List Str := ["row", "many", "found", "cell"]
abbrev p_law_taken : List Str := ["row", "many"]
theorem sc_law_taken : FnScope n_law_taken p_law_taken (defScope s_law_taken) := ⟨rfl, rfl, rfl, by decide +kernel, rfl, by decide +kernel, by decide +kernel⟩
abbrev s_law_pick : Stmt := topS 69
abbrev n_law_pick : List Str := ["row", "things"]
abbrev p_law_pick : List Str := ["row", "things"]
theorem sc_law_pick : FnScope n_law_pick p_law_pick (defScope s_law_pick) := ⟨rfl, rfl, rfl, by decide +kernel, rfl, by decide +kernel, by decide +kernel⟩
abbrev s_law_alike : Stmt := topS 70
abbrev n_law_alike : List Str := ["found", "due", "k"]
abbrev p_law_alike : List Str := ["found", "due"]
theorem sc_law_alike : FnScope n_law_alike p_law_alike (defScope s_law_alike) := ⟨rfl, rfl, rfl, by decide +kernel, rfl, by decide +kernel, by decide +kernel⟩
abbrev s_law_row : Stmt := topS 71
abbrev n_law_row : List Str := ["row", "prime", "many", "place"]
abbrev p_law_row : List Str := ["row", "prime", "many"]
theorem sc_law_row : FnScope n_law_row p_law_row (defScope s_law_row) := ⟨rfl, rfl, rfl, by decide +kernel, rfl, by decide +kernel, by decide +kernel⟩
abbrev s_law_stir : Stmt := topS 72
abbrev n_law_stir : List Str := ["row", "prime", "many", "found", "one", "other", "turn", "factor", "left", "right", "line"]
abbrev p_law_stir : List Str := ["row", "prime", "many"]
theorem sc_law_stir : FnScope n_law_stir p_law_stir (defScope s_law_stir) := ⟨rfl, rfl, rfl, by decide +kernel, rfl, by decide +kernel, by decide +kernel⟩
abbrev s_law_machine : Stmt := topS 73
abbrev n_law_machine : List Str := ["row", "primes", "cells", "plugs", "prime", "many", "writes", "turn", "sights"]
abbrev p_law_machine : List Str := ["row", "primes", "cells", "plugs"]
theorem sc_law_machine : FnScope n_law_machine p_law_machine (defScope s_law_machine) := ⟨rfl, rfl, rfl, by decide +kernel, rfl, by decide +kernel, by decide +kernel⟩
abbrev s_law_met : Stmt := topS 74
abbrev n_law_met : List Str := ["prime", "one", "other", "left", "right"]
abbrev p_law_met : List Str := ["prime", "one", "other"]
theorem sc_law_met : FnScope n_law_met p_law_met (defScope s_law_met) := ⟨rfl, rfl, rfl, by decide +kernel, rfl, by decide +kernel, by decide +kernel⟩
abbrev s_law_added : Stmt := topS 75
abbrev n_law_added : List Str := ["prime", "one", "other", "factor", "left", "right"]
abbrev p_law_added : List Str := ["prime", "one", "other", "factor"]
theorem sc_law_added : FnScope n_law_added p_law_added (defScope s_law_added) := ⟨rfl, rfl, rfl, by decide +kernel, rfl, by decide +kernel, by decide +kernel⟩
abbrev s_law_stirred : Stmt := topS 76
abbrev n_law_stirred : List Str := ["machine", "memory", "line"]
abbrev p_law_stirred : List Str := ["machine", "memory"]
theorem sc_law_stirred : FnScope n_law_stirred p_law_stirred (defScope s_law_stirred) := ⟨rfl, rfl, rfl, by decide +kernel, rfl, by decide +kernel, by decide +kernel⟩
abbrev s_law_stands : Stmt := topS 77
abbrev n_law_stands : List Str := ["program", "index", "turn"]
abbrev p_law_stands : List Str := ["program", "index"]
theorem sc_law_stands : FnScope n_law_stands p_law_stands (defScope s_law_stands) := ⟨rfl, rfl, rfl, by decide +kernel, rfl, by decide +kernel, by decide +kernel⟩
abbrev s_law_program : Stmt := topS 78
abbrev n_law_program : List Str := ["row", "prime", "values", "most", "size", "found", "turn", "way", "shown"]
abbrev p_law_program : List Str := ["row", "prime", "values", "most"]
theorem sc_law_program : FnScope n_law_program p_law_program (defScope s_law_program) := ⟨rfl, rfl, rfl, by decide +kernel, rfl, by decide +kernel, by decide +kernel⟩
abbrev s_law_deed : Stmt := topS 79
abbrev n_law_deed : List Str := ["machine", "memory", "hand", "one", "prime", "word", "plug", "seen"]
abbrev p_law_deed : List Str := ["machine", "memory", "hand", "one"]
theorem sc_law_deed : FnScope n_law_deed p_law_deed (defScope s_law_deed) := ⟨rfl, rfl, rfl, by decide +kernel, rfl, by decide +kernel, by decide +kernel⟩
abbrev s_law_run : Stmt := topS 80
abbrev n_law_run : List Str := ["machine", "program", "inputs", "most", "memory", "hand", "left", "said", "at", "tick", "one", "is_jump"]
abbrev p_law_run : List Str := ["machine", "program", "inputs", "most", "memory"]
theorem sc_law_run : FnScope n_law_run p_law_run (defScope s_law_run) := ⟨rfl, rfl, rfl, by decide +kernel, rfl, by decide +kernel, by decide +kernel⟩
abbrev s_law_plain : Stmt := topS 81
abbrev n_law_plain : List Str := ["prime", "values", "table", "one", "other"]
abbrev p_law_plain : List Str := ["prime", "values"]
theorem sc_law_plain : FnScope n_law_plain p_law_plain (defScope s_law_plain) := ⟨rfl, rfl, rfl, by decide +kernel, rfl, by decide +kernel, by decide +kernel⟩
abbrev s_law_used : Stmt := topS 82
abbrev n_law_used : List Str := ["program", "found", "cells", "turn", "index", "one", "nexts_v", "place", "other"]
abbrev p_law_used : List Str := ["program"]
theorem sc_law_used : FnScope n_law_used p_law_used (defScope s_law_used) := ⟨rfl, rfl, rfl, by decide +kernel, rfl, by decide +kernel, by decide +kernel⟩
abbrev s_law : Stmt := topS 83
abbrev n_law : List Str := ["script", "row", "machine", "prime", "many", "memory", "ticks", "later", "tick", "whole", "units", "one", "other", "now", "program", "inputs", "most", "turn", "plain", "far", "odds", "odd", "due", "e", "words", "works", "wrong", "work"]
abbrev p_law : List Str := ["script"]
theorem sc_law : FnScope n_law p_law (defScope s_law) := ⟨rfl, rfl, rfl, by decide +kernel, rfl, by decide +kernel, by decide +kernel⟩
end K01


set_option Elab.async false
set_option linter.all false
set_option maxRecDepth 100000
set_option maxHeartbeats 4000000
namespace K01
open PySem PySem.Spec PyProof.Rows L2
theorem walk_zipT {K : PySem.W.Frag} {a b : Addr} {xs ys : List V} {n : Nat} (h1 : xs.length = n) (h2 : ys.length = n) : Walk (RZ.ItzT K a b) n (fun H => SqT K H a xs ∧ SqT K H b ys) (YPair (fun i => xs[i]?) (fun i => ys[i]?)) := by
  refine ⟨fun i _ hi q => ?_, fun _ q => ⟨xs, ys, q.1, q.2, .inl (by omega)⟩, fun i H v H' _ q y => ?_⟩
  · have z1 : i < xs.length := by omega
    have z2 : i < ys.length := by omega
    exact ⟨xs, ys, xs[i], ys[i], q.1, q.2, List.getElem?_eq_getElem z1, List.getElem?_eq_getElem z2⟩
  · obtain ⟨T, x, z, e1, e2, e3, e4, e5⟩ := y
    exact ⟨T, x, z, e1, e2, e3, e4 xs q.1, e5 ys q.2⟩
theorem zip_map {α β γ : Type} (f : α → β → γ) : ∀ (xs : List α) (ys : List β), List.zipWith f xs ys = (xs.zip ys).map fun z => f z.1 z.2
  | [], _ => rfl
  | _ :: _, [] => rfl
  | x :: xs, y :: ys => by
    rw [List.zipWith_cons_cons, List.zip_cons_cons, List.map_cons, zip_map f xs ys]
theorem map_get {xs : Row} {i : Nat} {y : V} (h : (xs.map V.int)[i]? = some y) : ∃ n, xs[i]? = some n ∧ y = .int n := by
  rw [List.getElem?_map] at h
  cases e : xs[i]? with
  | none => rw [e] at h; cases h
  | some n => rw [e] at h; exact ⟨n, rfl, (Option.some.inj h).symm⟩
theorem zip_at {α β : Type} {xs : List α} {ys : List β} {i : Nat} {x : α} {y : β} (h1 : xs[i]? = some x) (h2 : ys[i]? = some y) : (xs.zip ys)[i]? = some (x, y) := by
  rw [List.getElem?_zip_eq_some]
  exact ⟨h1, h2⟩
section
variable {P : Program} {w : World} {K : PySem.W.Frag} {mg : Str → Option Value} {base : Heap}
def spTimes (K : PySem.W.Frag) : Sp := fun vs H Q _ => ∃ (p f : Int) (v : V) (r : Row), vs = [.int p, .int f, v] ∧ RowT K r v H ∧ 0 < p ∧ (-1000 < f ∧ f < 1000) ∧ r.length ≤ 1000 ∧ Ret (RowT K (Lin.times p f r)) H Q
theorem ok_times {f : Addr} {fd : FuncData} (B : Bare mg) (F : Fun K "times" "times" s_times f fd) : FnOk P w K mg base CX0 1 f fd p_times (spTimes K) := by
  refine F.ok sc_times (fun vs H Q E h => ?_) (fun cdv A outer s H vs Q E hr h => ?_)
  · obtain ⟨p, f, v, r, rfl, _⟩ := h
    rfl
  · obtain ⟨p, f, v, r, rfl, ⟨a, rfl, hq⟩, hp, hf, hl, q⟩ := h
    refine ⟨_, pss_one (ps_ret (pe_callTy call_tuple_of (by rfl) B.tuple (by decide +kernel) (pa_cons (pe_lc (own := [("number", 3)]) (g := gName 3) (tt := tYes) rfl sc_times.nd (pi_tup (pv 2)) (blkOk_by (N := n_times) (sc := defScope s_times) (by decide +kernel))
      (fun _ _ _ _ _ => pg_name (i := 3) sc_times.nd rfl (Or.inl rfl)) (fun _ _ _ _ _ => pts_nil) (fun _ _ _ _ _ => pe_op op_modN (pe_op op_mul (pv 1) (pv 3)) (pv 0))) pa_nil))), ?_⟩
    refine ⟨_, rfl, a, rfl, ⟨_, hq⟩, lc_go walk_tup (by rw [List.length_map]; omega) (fun H' e => _root_.Evl.ex_t e hq) r (by rw [List.length_map]) (fun _ => true) (fun n => IsV (.int (f * n % p))) (fun _ _ _ _ _ h => h)
      (fun i n x H1 H2 hn e y C N hC hN => ?_) fun D ys H' nD e hD hy => ?_⟩
    · obtain ⟨rfl, hx⟩ := y
      rw [List.getElem?_map, hn] at hx
      obtain rfl := Option.some.inj hx
      refine ⟨rfl, yes_go ⟨_, rfl, _, rfl, _, _, rfl, rfl, .inl ⟨by omega, by omega⟩, _, rfl, _, _, rfl, rfl, by omega, hC rfl _ _ (_root_.Evl.Ex.refl _) ?_⟩⟩
      show V.int _ = V.int _
      rw [Int.fmod_eq_emod_of_nonneg _ (by omega)]
    · rw [filter_yes] at hy
      have ey : ys = (Lin.times p f r).map V.int := by
        rw [pr_fun hy]
        unfold Lin.times
        rw [List.map_map]
        rfl
      subst ey
      refine ⟨D, _, rfl, .inl ⟨SqL.of hD, fun l hl => q _ _ (e.trans (_root_.Evl.Ex.new hl)) (RowT.new upd_same)⟩⟩
/-- a row as a def gets it -/
def RowN (K : PySem.W.Frag) (n : Nat) (r : Row) (v : V) (H : Hp) : Prop := RowT K r v H ∧ r.length = n
def spLess (K : PySem.W.Frag) : Sp := fun vs H Q _ => ∃ (p f : Int) (v u : V) (r o : Row), vs = [.int p, v, .int f, u] ∧ RowT K r v H ∧ RowT K o u H ∧ r.length = o.length ∧ 0 < p ∧ (-1000 < f ∧ f < 1000) ∧ r.length ≤ 1000 ∧ Ret (RowT K (Lin.add p r (-f) o)) H Q
theorem ok_less {f : Addr} {fd : FuncData} (B : Bare mg) (F : Fun K "less" "less" s_less f fd) : FnOk P w K mg base CX0 1 f fd p_less (spLess K) := by
  refine F.ok sc_less (fun vs H Q E h => ?_) (fun cdv A outer s H vs Q E hr h => ?_)
  · obtain ⟨p, f, v, u, r, o, rfl, _⟩ := h
    rfl
  · obtain ⟨p, f, v, u, r, o, rfl, ⟨a, rfl, hq⟩, ⟨b, rfl, hq2⟩, hl, hp, hf, hz, q⟩ := h
    refine ⟨_, pss_one (ps_ret (pe_callTy call_tuple_of (by rfl) B.tuple (by decide +kernel) (pa_cons (pe_lc (own := [("a", 4), ("b", 5)]) (g := gTup K 2 (gCons (gName 4) (gCons (gName 5) gNil))) (tt := tYes) rfl sc_less.nd (RZ.pi_zipA (by rfl) B.zip (pa_cons (pv 1) (pa_cons (pv 3) pa_nil))) (blkOk_by (N := n_less) (sc := defScope s_less) (by decide +kernel))
      (fun _ _ _ _ _ => pg_tup rfl (pgs_cons (pg_name (i := 4) sc_less.nd rfl (Or.inl rfl)) (pgs_cons (pg_name (i := 5) sc_less.nd rfl (Or.inl rfl)) pgs_nil))) (fun _ _ _ _ _ => pts_nil) (fun _ _ _ _ _ => pe_op op_modN (pe_op op_sub (pv 4) (pe_op op_mul (pv 2) (pv 5))) (pv 0))) pa_nil))), ?_⟩
    refine ⟨_, rfl, _, rfl, a, b, _, _, rfl, .inr ⟨hq, hq2, ?_⟩⟩
    refine lc_go (walk_zipT (xs := r.map V.int) (ys := o.map V.int) (n := r.length) (by rw [List.length_map]) (by rw [List.length_map]; omega)) (by omega) (fun H' e => ⟨_root_.Evl.ex_t e hq, _root_.Evl.ex_t e hq2⟩) (r.zip o) (by rw [List.length_zip]; omega) (fun _ => true)
      (fun z => IsV (.int ((z.1 + -f * z.2) % p))) (fun _ _ _ _ _ h => h) (fun i z x H1 H2 hn e y C N hC hN => ?_) fun D ys H' nD e hD hy => ?_
    · obtain ⟨T, x1, x2, rfl, nT, rfl, f1, f2⟩ := y
      obtain ⟨n1, g1, rfl⟩ := map_get f1
      obtain ⟨n2, g2, rfl⟩ := map_get f2
      have ez : z = (n1, n2) := by
        rw [zip_at g1 g2] at hn
        exact (Option.some.inj hn).symm
      subst ez
      refine ⟨T, _, rfl, SqT.of upd_same, rfl, _, _, rfl, _, _, rfl, rfl, rfl, yes_go ⟨_, rfl, _, rfl, _, rfl, _, _, rfl, rfl, .inl ⟨by omega, by omega⟩, _, _, rfl, rfl, _, rfl, _, _, rfl, rfl, by omega, hC rfl _ _ (_root_.Evl.Ex.new nT) ?_⟩⟩
      show V.int _ = V.int _
      rw [Int.fmod_eq_emod_of_nonneg _ (by omega), Int.sub_eq_add_neg, ← Int.neg_mul]
    · rw [filter_yes] at hy
      have ey : ys = (Lin.add p r (-f) o).map V.int := by
        rw [pr_fun hy]
        unfold Lin.add
        rw [zip_map, List.map_map]
        rfl
      subst ey
      exact ⟨D, _, rfl, .inl ⟨SqL.of hD, fun l hl => q _ _ (e.trans (_root_.Evl.Ex.new hl)) (RowT.new upd_same)⟩⟩
def spAdded (K : PySem.W.Frag) : Sp := fun vs H Q _ => ∃ (p f : Int) (v u : V) (r o : Row), vs = [.int p, v, u, .int f] ∧ RowT K r v H ∧ RowT K o u H ∧ r.length = o.length ∧ 0 < p ∧ (-1000 < f ∧ f < 1000) ∧ r.length ≤ 1000 ∧ Ret (RowT K (Lin.add p r f o)) H Q
theorem ok_added {f : Addr} {fd : FuncData} (B : Bare mg) (F : Fun K "_law_added" "_law_added" s_law_added f fd) : FnOk P w K mg base CX0 1 f fd p_law_added (spAdded K) := by
  refine F.ok sc_law_added (fun vs H Q E h => ?_) (fun cdv A outer s H vs Q E hr h => ?_)
  · obtain ⟨p, f, v, u, r, o, rfl, _⟩ := h
    rfl
  · obtain ⟨p, f, v, u, r, o, rfl, ⟨a, rfl, hq⟩, ⟨b, rfl, hq2⟩, hl, hp, hf, hz, q⟩ := h
    refine ⟨_, pss_one (ps_ret (pe_callTy call_tuple_of (by rfl) B.tuple (by decide +kernel) (pa_cons (pe_lc (own := [("left", 4), ("right", 5)]) (g := gTup K 2 (gCons (gName 4) (gCons (gName 5) gNil))) (tt := tYes) rfl sc_law_added.nd (RZ.pi_zipA (by rfl) B.zip (pa_cons (pv 1) (pa_cons (pv 2) pa_nil))) (blkOk_by (N := n_law_added) (sc := defScope s_law_added) (by decide +kernel))
      (fun _ _ _ _ _ => pg_tup rfl (pgs_cons (pg_name (i := 4) sc_law_added.nd rfl (Or.inl rfl)) (pgs_cons (pg_name (i := 5) sc_law_added.nd rfl (Or.inl rfl)) pgs_nil))) (fun _ _ _ _ _ => pts_nil) (fun _ _ _ _ _ => pe_op op_modN (pe_op op_add (pv 4) (pe_op op_mul (pv 3) (pv 5))) (pv 0))) pa_nil))), ?_⟩
    refine ⟨_, rfl, _, rfl, a, b, _, _, rfl, .inr ⟨hq, hq2, ?_⟩⟩
    refine lc_go (walk_zipT (xs := r.map V.int) (ys := o.map V.int) (n := r.length) (by rw [List.length_map]) (by rw [List.length_map]; omega)) (by omega) (fun H' e => ⟨_root_.Evl.ex_t e hq, _root_.Evl.ex_t e hq2⟩) (r.zip o) (by rw [List.length_zip]; omega) (fun _ => true)
      (fun z => IsV (.int ((z.1 + f * z.2) % p))) (fun _ _ _ _ _ h => h) (fun i z x H1 H2 hn e y C N hC hN => ?_) fun D ys H' nD e hD hy => ?_
    · obtain ⟨T, x1, x2, rfl, nT, rfl, f1, f2⟩ := y
      obtain ⟨n1, g1, rfl⟩ := map_get f1
      obtain ⟨n2, g2, rfl⟩ := map_get f2
      have ez : z = (n1, n2) := by
        rw [zip_at g1 g2] at hn
        exact (Option.some.inj hn).symm
      subst ez
      refine ⟨T, _, rfl, SqT.of upd_same, rfl, _, _, rfl, _, _, rfl, rfl, rfl, yes_go ⟨_, rfl, _, rfl, _, rfl, _, _, rfl, rfl, .inl ⟨by omega, by omega⟩, _, _, rfl, rfl, _, rfl, _, _, rfl, rfl, by omega, hC rfl _ _ (_root_.Evl.Ex.new nT) ?_⟩⟩
      show V.int _ = V.int _
      rw [Int.fmod_eq_emod_of_nonneg _ (by omega)]
    · rw [filter_yes] at hy
      have ey : ys = (Lin.add p r f o).map V.int := by
        rw [pr_fun hy]
        unfold Lin.add
        rw [zip_map, List.map_map]
        rfl
      subst ey
      exact ⟨D, _, rfl, .inl ⟨SqL.of hD, fun l hl => q _ _ (e.trans (_root_.Evl.Ex.new hl)) (RowT.new upd_same)⟩⟩
def spMet (K : PySem.W.Frag) : Sp := fun vs H Q _ => ∃ (p : Int) (v u : V) (r o : Row), vs = [.int p, v, u] ∧ RowT K r v H ∧ RowT K o u H ∧ r.length = o.length ∧ 0 < p ∧ (∀ x ∈ r, -1000 < x ∧ x < 1000) ∧ r.length ≤ 1000 ∧ Ret (IsV (.int (Lin.dot p r o))) H Q
theorem ok_met {f : Addr} {fd : FuncData} (B : Bare mg) (F : Fun K "_law_met" "_law_met" s_law_met f fd) : FnOk P w K mg base CX0 1 f fd p_law_met (spMet K) := by
  refine F.ok sc_law_met (fun vs H Q E h => ?_) (fun cdv A outer s H vs Q E hr h => ?_)
  · obtain ⟨p, v, u, r, o, rfl, _⟩ := h
    rfl
  · obtain ⟨p, v, u, r, o, rfl, ⟨a, rfl, hq⟩, ⟨b, rfl, hq2⟩, hl, hp, hf, hz, q⟩ := h
    refine ⟨_, pss_one (ps_ret (pe_op op_modN (pe_callB (cr_sum rfl) (by rfl) B.sum (by decide +kernel) (pa_cons (pe_lc (own := [("left", 3), ("right", 4)]) (g := gTup K 2 (gCons (gName 3) (gCons (gName 4) gNil))) (tt := tYes) rfl sc_law_met.nd (RZ.pi_zipA (by rfl) B.zip (pa_cons (pv 1) (pa_cons (pv 2) pa_nil))) (blkOk_by (N := n_law_met) (sc := defScope s_law_met) (by decide +kernel))
      (fun _ _ _ _ _ => pg_tup rfl (pgs_cons (pg_name (i := 3) sc_law_met.nd rfl (Or.inl rfl)) (pgs_cons (pg_name (i := 4) sc_law_met.nd rfl (Or.inl rfl)) pgs_nil))) (fun _ _ _ _ _ => pts_nil) (fun _ _ _ _ _ => pe_op op_mul (pv 3) (pv 4))) pa_nil)) (pv 0))), ?_⟩
    refine ⟨_, rfl, _, rfl, a, b, _, _, rfl, .inr ⟨hq, hq2, ?_⟩⟩
    refine lc_go (walk_zipT (xs := r.map V.int) (ys := o.map V.int) (n := r.length) (by rw [List.length_map]) (by rw [List.length_map]; omega)) (by omega) (fun H' e => ⟨_root_.Evl.ex_t e hq, _root_.Evl.ex_t e hq2⟩) (r.zip o) (by rw [List.length_zip]; omega) (fun _ => true)
      (fun z => IsV (.int (z.1 * z.2))) (fun _ _ _ _ _ h => h) (fun i z x H1 H2 hn e y C N hC hN => ?_) fun D ys H' nD e hD hy => ?_
    · obtain ⟨T, x1, x2, rfl, nT, rfl, f1, f2⟩ := y
      obtain ⟨n1, g1, rfl⟩ := map_get f1
      obtain ⟨n2, g2, rfl⟩ := map_get f2
      have ez : z = (n1, n2) := by
        rw [zip_at g1 g2] at hn
        exact (Option.some.inj hn).symm
      subst ez
      have hb := hf n1 (List.mem_of_getElem? g1)
      exact ⟨T, _, rfl, SqT.of upd_same, rfl, _, _, rfl, _, _, rfl, rfl, rfl, yes_go ⟨_, rfl, _, rfl, _, _, rfl, rfl, .inl ⟨by omega, by omega⟩, hC rfl _ _ (_root_.Evl.Ex.new nT) rfl⟩⟩
    · rw [filter_yes] at hy
      have ey : ys = (List.zipWith (· * ·) r o).map V.int := by
        rw [pr_fun hy, zip_map, List.map_map]
        rfl
      subst ey
      refine ⟨D, _, rfl, SqL.of hD, _, rfl, _, _, rfl, rfl, by omega, ?_⟩
      refine q _ _ e ?_
      show V.int _ = V.int _
      rw [Int.fmod_eq_emod_of_nonneg _ (by omega)]
      rfl
def spFirst (K : PySem.W.Frag) : Sp := fun vs H Q _ => ∃ (v : V) (r : Row), vs = [v] ∧ RowT K r v H ∧ Ret (IsV (.int (Lin.lead r : Nat))) H Q
theorem ok_first {f : Addr} {fd : FuncData} (B : Bare mg) (F : Fun K "first_place" "first_place" s_first_place f fd) : FnOk P w K mg base CX0 1 f fd p_first_place (spFirst K) := by
  refine F.ok sc_first_place (fun vs H Q E h => ?_) (fun cdv A outer s H vs Q E hr h => ?_)
  · obtain ⟨v, r, rfl, _⟩ := h
    rfl
  · obtain ⟨v, r, rfl, ⟨a, rfl, hq⟩, q⟩ := h
    refine ⟨_, pss_cons (ps_for PassesOwn.never rfl (pi_enumT (by rfl) B.enumerate (pa_cons (pv 0) pa_nil)) (pg_tup rfl (pgs_cons (pg_name (i := 1) sc_first_place.nd rfl (Or.inl rfl)) (pgs_cons (pg_name (i := 2) sc_first_place.nd rfl (Or.inl rfl)) pgs_nil)))
        (pss_one (ps_if (pt_cmpR op_ne (pv 2) pe_int (nomark _)) (pss_one (ps_ret (pv 1))) pss_nil)))
      (pss_one (ps_ret (pe_callB call_len_seq (by rfl) B.len PySem.boot_len (pa_cons (pv 0) pa_nil)))), ?_⟩
    refine ⟨_, rfl, a, _, rfl, hq, ?_⟩
    refine for_it walk_enumT (fun i σ' H' => (∃ y1 y2, σ' = [some (.ref a), y1, y2]) ∧ Ex H H' ∧ ∀ j, j < i → Lin.g r j = 0) ⟨⟨none, none, rfl⟩, _root_.Evl.Ex.refl H, fun j hj => by omega⟩ (fun i σ' H' _ p => _root_.Evl.ex_t p.2.1 hq) (fun i x σ' H1 H2 hi p y => ?_) fun σ' H' p => ?_
    · obtain ⟨⟨y1, y2, rfl⟩, e, h0⟩ := p
      obtain ⟨T, x1, x2, rfl, nT, rfl, f1, f2⟩ := y
      obtain rfl := Option.some.inj f1
      obtain ⟨n2, g2, rfl⟩ := map_get f2
      have gi : Lin.g r i = n2 := by
        have := Lin.g_get? (v := r) (i := i) (by rw [List.length_map] at hi; exact hi)
        exact Option.some.inj (this.symm.trans g2)
      have e2 : Ex H (upd H1 T (.tup [.int (i : Nat), .int n2])) := e.trans (_root_.Evl.Ex.new nT)
      refine ⟨T, _, rfl, SqT.of upd_same, rfl, _, _, rfl, _, _, rfl, rfl, _, rfl, rfl, _, rfl, ite2 (fun c => ?_) (fun c => ?_)⟩
      · have hne : n2 ≠ 0 := fun z => by subst z; simp at c
        refine ⟨_, rfl, ?_⟩
        have el : Lin.lead r = i := Lin.lead_is h0 (by rw [gi]; exact hne)
        exact q _ _ e2 (by rw [el]; rfl)
      · have h0' : n2 = 0 := by
          rcases Classical.em (n2 = 0) with z | z
          · exact z
          · exact absurd (by simp [z]) c
        refine ⟨⟨_, _, rfl⟩, e2, fun j hj => ?_⟩
        rcases Nat.lt_or_ge j i with z | z
        · exact h0 j z
        · have : j = i := by omega
          rw [this, gi, h0']
    · obtain ⟨⟨y1, y2, rfl⟩, e, h0⟩ := p
      rw [List.length_map] at h0
      have el : Lin.lead r = r.length := by
        have := Lin.lead_le r
        rcases Nat.lt_or_ge (Lin.lead r) r.length with z | z
        · exact absurd (h0 _ z) (Lin.lead_ne z)
        · omega
      refine ⟨_, rfl, a, _, rfl, .inr (_root_.Evl.ex_t e hq), ?_⟩
      exact q _ _ e (by rw [el, List.length_map]; rfl)
theorem lead_filter {r : Row} (h : Lin.lead r < r.length) : ((List.range r.length).filter fun i => decide (Lin.g r i ≠ 0))[0]? = some (Lin.lead r) := by
  have e : List.range r.length = List.range (Lin.lead r) ++ (List.range (r.length - Lin.lead r)).map (Lin.lead r + ·) := by
    rw [← List.range_add]
    congr 1
    omega
  rw [e, List.filter_append]
  have e1 : (List.range (Lin.lead r)).filter (fun i => decide (Lin.g r i ≠ 0)) = [] := List.filter_eq_nil_iff.mpr fun i hi z => of_decide_eq_true z (Lin.lead_lt (List.mem_range.mp hi))
  rw [e1, List.nil_append]
  obtain ⟨m, em⟩ : ∃ m, r.length - Lin.lead r = m + 1 := ⟨r.length - Lin.lead r - 1, by omega⟩
  rw [em, List.range_succ_eq_map, List.map_cons, List.filter_cons, if_pos (decide_eq_true (by show Lin.g r (Lin.lead r + 0) ≠ 0; exact Lin.lead_ne h))]
  rfl
def spLead (K : PySem.W.Frag) : Sp := fun vs H Q _ => ∃ (v : V) (r : Row), vs = [v] ∧ RowT K r v H ∧ Lin.lead r < r.length ∧ r.length ≤ 1000 ∧ Ret (IsV (.int (Lin.lead r : Nat))) H Q
def spInverse : Sp := fun vs H Q _ => ∃ (p x : Int), vs = [.int p, .int x] ∧ 1 < p ∧ p ≤ 100 ∧ (0 < x ∧ x < p) ∧ (∃ k, 1 ≤ k ∧ k < p ∧ k * x % p = 1) ∧ ∀ k : Int, 1 ≤ k → k < p → k * x % p = 1 → Ret (IsV (.int k)) H Q
theorem ok_inverse {f : Addr} {fd : FuncData} (F : Fun K "inverse" "inverse" s_inverse f fd) : FnOk P w K mg base CX0 1 f fd p_inverse spInverse := by
  refine F.ok sc_inverse (fun vs H Q E h => ?_) (fun cdv A outer s H vs Q E hr h => ?_)
  · obtain ⟨p, x, rfl, _⟩ := h
    rfl
  · obtain ⟨p, x, rfl, hp, hp2, hx, ⟨k0, hk1, hk2, hk3⟩, q⟩ := h
    refine ⟨_, pss_cons (ps_set (i := 2) sc_inverse.nd rfl (Or.inl rfl) pe_int) (pss_cons (ps_while PassesOwn.never (pt_cmpR op_ne (pe_op op_modN (pe_op op_mul (pv 2) (pv 1)) (pv 0)) pe_int (nomark _)) (pss_one (ps_aug (i := 2) sc_inverse.nd rfl (Or.inl rfl) pe_int ip_add)))
      (pss_one (ps_ret (pv 2)))), ?_⟩
    refine while_by (fun σ' H' => H' = H ∧ ∃ f : Int, σ' = [some (.int p), some (.int x), some (.int f)] ∧ 1 ≤ f ∧ f ≤ k0) (fun σ' _ => match σ' with | [_, _, some (.int f)] => (k0 - f).toNat | _ => 0) ⟨rfl, 1, rfl, by omega, hk1⟩ (fun σ' H' p' => ?_) ?_
    · obtain ⟨rfl, f, rfl, h1, h2⟩ := p'
      refine ⟨_, rfl, _, rfl, _, _, rfl, rfl, .inl ⟨by omega, by omega⟩, _, rfl, _, _, rfl, rfl, by omega, rfl, _, rfl, ite2 (fun c => ?_) (fun c => ?_)⟩
      · have ne : f ≠ k0 := fun z => by
          have c' : (f * x).fmod p ≠ 1 := dne c
          rw [Int.fmod_eq_emod_of_nonneg _ (by omega), z, hk3] at c'
          exact c' rfl
        refine ⟨_, rfl, _, _, rfl, rfl, ⟨rfl, f + 1, rfl, by omega, by omega⟩, ?_⟩
        show (k0 - (f + 1)).toNat < (k0 - f).toNat
        omega
      · have e : f * x % p = 1 := by
          have c' : (f * x).fmod p = 1 := deq c
          rw [Int.fmod_eq_emod_of_nonneg _ (by omega)] at c'
          exact c'
        exact ⟨_, rfl, q f h1 (by omega) e _ _ (_root_.Evl.Ex.refl _) rfl⟩
    · intro σ' H' Q1 Q2 i h
      obtain ⟨v1, z1, v2, z2, i1, j1, r1, r2, r3, v3, z3, i2, j2, r4, r5, r6, r7, b, r8, r9⟩ := h
      exact ⟨v1, z1, v2, z2, i1, j1, r1, r2, r3, v3, z3, i2, j2, r4, r5, r6, r7, b, r8, i _ _ r9⟩
end
end K01


set_option Elab.async false
set_option linter.all false
set_option maxRecDepth 100000
set_option maxHeartbeats 4000000
namespace K01
open PySem PySem.Spec PyProof.Rows L2
/-- over a list or a tuple -/
def iSeq (K : PySem.W.Frag) (tl : TE) : TI := fun σ H R => iList K tl σ H R ∨ iTup K tl σ H R
theorem pi_seq {X : Cx} {tg l : Expr} {tl : TE} (hl : PE X l tl) : PI X tg l (iSeq X.K tl) :=
  ⟨fun pins s σ H R I h => h.elim ((pi_list hl).run pins s σ H R I) ((pi_tup hl).run pins s σ H R I)⟩
def PrmI (p : Int) : Prop := ∀ x : Int, 0 < x → x < p → ∃ k, 1 ≤ k ∧ k < p ∧ k * x % p = 1
theorem ixN_of {n j : Nat} {z : Int} (e : z = (j : Int)) (hj : j < n) : ixN n z = some j := by
  rw [e]
  unfold ixN
  rw [if_pos (by omega), if_pos (by omega)]
  simp
section
variable {P : Program} {w : World} {K : PySem.W.Frag} {mg : Str → Option Value} {base : Heap}
theorem row_at {r : Row} {i : Nat} (h : i < r.length) : atI (r.map V.int) (i : Int) = some (.int (Lin.g r i)) := at_of rfl (by rw [List.getElem?_map, Lin.g_get? h]; rfl)
def spRem (K : PySem.W.Frag) : Sp := fun vs H Q _ => ∃ (p : Int) (n : Nat) (v u : V) (S : List Row) (r : Row), vs = [.int p, v, u] ∧ RowsT K S v H ∧ RowT K r u H ∧ 1 < p ∧ p ≤ 100 ∧ n ≤ 100 ∧ Lin.Rref p n S ∧ Lin.OkR p n r ∧ Ret (RowT K (Lin.remS p S r)) H Q
theorem ok_rem {f : Addr} {fd : FuncData} (F : Fun K "remainder" "remainder" s_remainder f fd) (Gl_ : Got P w K mg base CX0 1 "less" p_less (spLess K)) (Gf : Got P w K mg base CX0 1 "first_place" p_first_place (spFirst K)) :
    FnOk P w K mg base CX0 2 f fd p_remainder (spRem K) := by
  refine F.ok sc_remainder (fun vs H Q E h => ?_) (fun cdv A outer s H vs Q E hr h => ?_)
  · obtain ⟨p, n, v, u, S, r, rfl, _⟩ := h
    rfl
  · obtain ⟨p, n, v, u, S, r, rfl, ⟨a, us, rfl, hq, hp⟩, hu, h1, h2, hn, hS, hR, q⟩ := h
    refine ⟨_, pss_cons (ps_for PassesOwn.never rfl (pi_tup (pv 1)) (pg_name (i := 3) sc_remainder.nd rfl (Or.inl rfl)) (pss_one (ps_set (i := 2) sc_remainder.nd rfl (Or.inl rfl)
        (pe_got Gl_ hr pass0 (pa_cons (pv 0) (pa_cons (pv 2) (pa_cons (pe_ix ix_tup (pv 2) (pe_got Gf hr pass0 (pa_cons (pv 3) pa_nil)) (fun _ _ => rfl)) (pa_cons (pv 3) pa_nil))))))))
      (pss_one (ps_ret (pv 2))), ?_⟩
    refine ⟨_, rfl, a, rfl, ⟨_, hq⟩, ?_⟩
    have hlen := pr_len hp
    refine for_tup (K := K) (a := a) (xs := us) (fun i σ' H' => ∃ u' y3, σ' = [some (.int p), some (.ref a), some u', y3] ∧ Ex H H' ∧ RowT K (Lin.remS p (S.take i) r) u' H') ⟨u, none, rfl, _root_.Evl.Ex.refl H, by rw [List.take_zero]; exact hu⟩
      (fun i σ' H' _ ⟨_, _, _, e, _⟩ => _root_.Evl.ex_t e hq) (fun i x σ' H1 hx p' => ?_) (fun σ' H' p' => ?_)
    · obtain ⟨u', y3, rfl, e, hu'⟩ := p'
      obtain ⟨s, hs, rs⟩ := pr_get hp hx
      have sm : s ∈ S := List.mem_of_getElem? hs
      have os := hS.ok s sm
      have oR := (Lin.remS_inv (by omega) hS (S.take i) (fun t ht => List.mem_of_mem_take ht) r hR).1
      have hl := hS.lt sm
      obtain ⟨b, rfl, hb⟩ := id hu'
      have gb := Lin.g_bd (show 0 < p by omega) oR (Lin.lead s)
      refine ⟨_, rfl, _, rfl, _, rfl, _, rfl, x, s, rfl, rs.ex e, fun z H2 e2 ez => ?_⟩
      cases (show z = _ from ez)
      refine ⟨b, _, _, _, rfl, rfl, _root_.Evl.ex_t e2 hb, row_at (by rw [oR.1]; exact hl), _, rfl, ?_⟩
      refine ⟨p, _, .ref b, x, _, s, rfl, hu'.ex e2, (rs.ex e).ex e2, by rw [oR.1, os.1], by omega, ⟨by omega, by omega⟩, by rw [oR.1]; omega, fun z H3 e3 hz => ?_⟩
      refine ⟨z, _, rfl, e.trans (e2.trans e3), ?_⟩
      rw [Lin.remS_take hs]
      exact hz
    · obtain ⟨u', y3, rfl, e, hu'⟩ := p'
      rw [hlen, List.take_length] at hu'
      exact ⟨_, rfl, q _ _ e hu'⟩
def Stair (K : PySem.W.Frag) (p : Int) (n : Nat) (R : List Row) (v : V) (H : Hp) : Prop := ∃ S, RowsT K S v H ∧ Lin.Rref p n S ∧ Lin.Same p n S R
theorem Stair.ex {p : Int} {n : Nat} {R : List Row} {v : V} {H H' : Hp} (e : Ex H H') (h : Stair K p n R v H) : Stair K p n R v H' := by
  obtain ⟨S, a, b, c⟩ := h
  exact ⟨S, a.ex e, b, c⟩
def spWith (K : PySem.W.Frag) : Sp := fun vs H Q _ => ∃ (p : Int) (n : Nat) (v u : V) (S : List Row) (r : Row), vs = [.int p, v, u] ∧ RowsT K S v H ∧ RowT K r u H ∧ 1 < p ∧ p ≤ 100 ∧ n ≤ 100 ∧ PrmI p ∧ Lin.Rref p n S ∧ Lin.OkR p n r ∧ Ret (Stair K p n (r :: S)) H Q
theorem ok_with {f : Addr} {fd : FuncData} (B : Bare mg) (F : Fun K "with_row" "with_row" s_with_row f fd) (Gl_ : Got P w K mg base CX0 1 "less" p_less (spLess K)) (Gf : Got P w K mg base CX0 1 "first_place" p_first_place (spFirst K))
    (Gr : Got P w K mg base CX0 2 "remainder" p_remainder (spRem K)) (Gt : Got P w K mg base CX0 1 "times" p_times (spTimes K)) (Gi : Got P w K mg base CX0 1 "inverse" p_inverse spInverse) : FnOk P w K mg base CX0 4 f fd p_with_row (spWith K) := by
  refine F.ok sc_with_row (fun vs H Q E h => ?_) (fun cdv A outer s H vs Q E hr h => ?_)
  · obtain ⟨p, n, v, u, S, r, rfl, _⟩ := h
    rfl
  · obtain ⟨p, n, v, u, S, r, rfl, hv, hu, h1, h2, hn, P_, hS, hR, q⟩ := h
    obtain ⟨fF, fdF, m1, m2, m3, m4⟩ := Gf.ex
    have hr1 : Room 1 _ := hr.mono (by decide)
    have hr2 : Room 2 _ := hr.mono (by decide)
    refine ⟨_, pss_cons (ps_set (i := 3) sc_with_row.nd rfl (Or.inl rfl) (pe_got Gr hr2 pass0 (pa_cons (pv 0) (pa_cons (pv 1) (pa_cons (pv 2) pa_nil)))))
      (pss_cons (ps_set (i := 4) sc_with_row.nd rfl (Or.inr rfl) (pe_got Gf hr1 pass0 (pa_cons (pv 3) pa_nil)))
      (pss_cons (ps_if (pt_cmpR op_eq (pv 4) (pe_callB call_len_seq (by rfl) B.len PySem.boot_len (pa_cons (pv 3) pa_nil)) (nomark _)) (pss_one (ps_ret (pv 1))) pss_nil)
      (pss_cons (ps_set (i := 5) sc_with_row.nd rfl (Or.inr rfl) (pe_got Gt hr1 pass0 (pa_cons (pv 0) (pa_cons (pe_got Gi hr1 pass0 (pa_cons (pv 0) (pa_cons (pe_ix ix_tup (pv 3) (pv 4) (fun _ _ => rfl)) pa_nil))) (pa_cons (pv 3) pa_nil)))))
      (pss_cons (ps_set (i := 6) sc_with_row.nd rfl (Or.inl rfl) (pe_callTy call_tuple_of (by rfl) B.tuple (by decide +kernel) (pa_cons (pe_lc (own := [("old", 7)]) (g := gName 7) (tt := tYes) rfl sc_with_row.nd (pi_tup (pv 1)) (blkOk_by (N := n_with_row) (sc := defScope s_with_row) (by decide +kernel))
        (fun _ _ _ _ _ => pg_name (i := 7) sc_with_row.nd rfl (Or.inl rfl)) (fun _ _ _ _ _ => pts_nil) (fun _ _ _ _ _ => pe_got Gl_ hr1 pass0 (pa_cons (pv 0) (pa_cons (pv 7) (pa_cons (pe_ix (show IxR _ (rIxT K) from ix_tup) (pv 7) (pv 4) (fun _ _ => rfl)) (pa_cons (pv 5) pa_nil)))))) pa_nil)))
      (pss_one (ps_ret (pe_callTy call_tuple_of (by rfl) B.tuple (by decide +kernel) (pa_cons (pe_callBK (cr_sortK m4 hr m3) (by rfl) B.sorted (by decide +kernel) (pa_cons (pe_op op_catA (pv 6) (pe_tup (pa_cons (pv 5) pa_nil))) pa_nil) (pk_cons (pe_glob (by rfl) m1 (v := .ref fF) rfl) pk_nil)) pa_nil)))))))), ?_⟩
    have hp0 : 0 < p := by omega
    have rem := Lin.remS_is hp0 hS hR
    generalize eo : Lin.remS p S r = out at rem
    refine ⟨_, rfl, _, rfl, _, rfl, p, n, v, u, S, r, rfl, hv, hu, h1, h2, hn, hS, hR, fun z H1 e1 hz => ?_⟩
    rw [eo] at hz
    refine ⟨_, rfl, z, out, rfl, hz, fun z2 H2 e2 ez2 => ?_⟩
    cases (show z2 = _ from ez2)
    obtain ⟨b, rfl, hb⟩ := id hz
    have hb2 := _root_.Evl.ex_t e2 hb
    refine ⟨_, rfl, _, rfl, b, _, rfl, .inr hb2, rfl, _, rfl, ite2 (fun c => ?_) (fun c => ?_)⟩
    · have c' : ((Lin.lead out : Nat) : Int) = ((out.map V.int).length : Nat) := yeq c
      rw [List.length_map] at c'
      exact ⟨_, rfl, q _ _ (e1.trans e2) ⟨S, hv.ex (e1.trans e2), hS, Lin.withRow_in hp0 hS hR rem (by omega)⟩⟩
    · have c' : ((Lin.lead out : Nat) : Int) ≠ ((out.map V.int).length : Nat) := yne c
      rw [List.length_map] at c'
      have hl : Lin.lead out ≠ out.length := by omega
      have hlt : Lin.lead out < out.length := by have := Lin.lead_le out; omega
      have gb := Lin.g_bd hp0 rem.ok (Lin.lead out)
      have gn := Lin.lead_ne hlt
      refine ⟨_, rfl, _, rfl, _, rfl, _, rfl, b, _, _, _, rfl, rfl, hb2, row_at hlt, ?_⟩
      refine ⟨p, _, rfl, h1, h2, ⟨by omega, by omega⟩, P_ _ (by omega) (by omega), fun k k1 k2 k3 z3 H3 e3 ez3 => ?_⟩
      cases (show z3 = _ from ez3)
      refine ⟨_, rfl, p, k, .ref b, out, rfl, (hz.ex e2).ex e3, hp0, ⟨by omega, by omega⟩, by rw [rem.ok.1]; omega, fun z4 H4 e4 hz4 => ?_⟩
      generalize es : Lin.times p k out = st at hz4
      have ost : Lin.OkR p n st := by rw [← es]; exact Lin.ok_times hp0 rem.ok.1
      have e04 : Ex H H4 := e1.trans (e2.trans (e3.trans e4))
      obtain ⟨a, us, rfl, hq, hp⟩ := hv
      have hq4 := _root_.Evl.ex_t e04 hq
      have hlS := hS.len_le
      have hus := pr_len hp
      refine ⟨_, rfl, a, rfl, ⟨_, hq4⟩, ?_⟩
      refine lc_go (walk_tup (xs := us)) (by omega) (fun H' e => _root_.Evl.ex_t e hq4) S hus.symm (fun _ => true) (fun s => RowT K (Lin.add p s (-(Lin.g s (Lin.lead out))) st)) (fun _ => RowT.stb) (fun i s x H5 H6 hn5 e5 y C N hC hN => ?_) fun D ys H7 nD e7 hD hy => ?_
      · obtain ⟨rfl, hx⟩ := y
        obtain ⟨s', hs', rs⟩ := pr_get hp hx
        cases (show s = s' from Option.some.inj (hn5.symm.trans hs'))
        have sm : s ∈ S := List.mem_of_getElem? hs'
        have os := hS.ok s sm
        have gs := Lin.g_bd hp0 os (Lin.lead out)
        have rs5 := rs.ex (e04.trans e5)
        obtain ⟨c5, rfl, hc5⟩ := id rs5
        refine ⟨rfl, yes_go ⟨_, rfl, _, rfl, _, rfl, _, rfl, c5, _, _, _, rfl, rfl, hc5, row_at (by rw [os.1, ← rem.ok.1]; exact hlt), _, rfl, ?_⟩⟩
        exact ⟨p, _, .ref c5, _, s, st, rfl, rs5, hz4.ex e5, by rw [os.1, ost.1], hp0, ⟨by omega, by omega⟩, by rw [os.1]; omega, fun z8 H8 e8 hz8 => hC rfl z8 H8 e8 hz8⟩
      · rw [filter_yes] at hy
        have hlc := pr_len hy
        refine ⟨D, ys, rfl, .inl ⟨SqL.of hD, fun l hl7 => ?_⟩⟩
        have e8 : Ex H7 (upd H7 l (.tup ys)) := _root_.Evl.Ex.new hl7
        have hz8 := hz4.ex (e7.trans e8)
        obtain ⟨ts, rfl, hts⟩ := id hz8
        -- cleared + (step,)
        refine ⟨_, rfl, _, rfl, (by show 1 ≤ sizeLine; decide), fun t1 ht1 => ?_⟩
        have e9 : Ex (upd H7 l (.tup ys)) (upd (upd H7 l (.tup ys)) t1 (.tup [V.ref ts])) := _root_.Evl.Ex.new ht1
        have fin : ∀ (c : Addr) (H9 : Hp), Ex H H9 → SqT K H9 c (ys ++ [V.ref ts]) → Paired (fun y s => RowT K s y H9) (ys ++ [V.ref ts]) ((S.map fun s => Lin.add p s (-(Lin.g s (Lin.lead out))) st) ++ [st]) →
            ∀ Q' : Addr → Hp → Prop, (∀ p2 H10 xs, Ex H9 H10 → H10 p2 = some (.lst xs) → (∃ S', Paired (fun y s => RowT K s y H10) xs S' ∧ S'.Perm ((S.map fun s => Lin.add p s (-(Lin.g s (Lin.lead out))) st) ++ [st]) ∧ S'.Pairwise fun s t => Lin.lead s ≤ Lin.lead t) → Q' p2 H10) →
            ∃ (a : Addr) (α : Type) (bs : List α) (val : α → V) (key : α → Int), [V.ref c] = [V.ref a] ∧ [V.ref fF] = [V.ref fF] ∧ SqT K H9 a (bs.map val) ∧ (∀ b ∈ bs, ∀ H', Ex H9 H' → ∀ Q2 : VK, (∀ H2, Ex H' H2 → Q2 (.int (key b)) H2) → spFirst K [val b] H' Q2 E0) ∧
              ∀ p2 H', H9 p2 = none → Ex H9 H' → H' p2 = some (.lst ((bs.mergeSort fun x y => decide (key x ≤ key y)).map val)) → Q' p2 H' := by
          intro c H9 e09 hc9 hpr Q' hQ'
          generalize ((S.map fun s => Lin.add p s (-(Lin.g s (Lin.lead out))) st) ++ [st]) = rows at hpr hQ'
          have hl := pr_len hpr
          refine ⟨c, V × Row, (ys ++ [V.ref ts]).zip rows, Prod.fst, fun z => ((Lin.lead z.2 : Nat) : Int), rfl, rfl, by rw [List.map_fst_zip (by omega)]; exact hc9, fun b hb H' e' Q2 q2 => ?_, fun p2 H10 n2 e10 h10 => ?_⟩
          · obtain ⟨i, hi⟩ := List.getElem?_of_mem hb
            have hz := List.getElem?_zip_eq_some.mp hi
            obtain ⟨y, hy1, ry⟩ := pr_get hpr hz.1
            have eb : y = b.2 := Option.some.inj (hy1.symm.trans hz.2)
            subst eb
            exact ⟨b.1, b.2, rfl, ry.ex e', fun z H2 e2 ez => by rw [show z = _ from ez]; exact q2 H2 e2⟩
          · refine hQ' p2 H10 _ e10 h10 ⟨(((ys ++ [V.ref ts]).zip rows).mergeSort fun x y => decide (((Lin.lead x.2 : Nat) : Int) ≤ ((Lin.lead y.2 : Nat) : Int))).map Prod.snd, ?_, ?_, ?_⟩
            · have hall : ∀ z ∈ (((ys ++ [V.ref ts]).zip rows).mergeSort fun x y => decide (((Lin.lead x.2 : Nat) : Int) ≤ ((Lin.lead y.2 : Nat) : Int))), RowT K z.2 z.1 H10 := fun z hz => by
                have hz2 := (List.mergeSort_perm _ _).mem_iff.mp hz
                obtain ⟨i, hi⟩ := List.getElem?_of_mem hz2
                have hz3 := List.getElem?_zip_eq_some.mp hi
                obtain ⟨y, hy1, ry⟩ := pr_get hpr hz3.1
                have eb : y = z.2 := Option.some.inj (hy1.symm.trans hz3.2)
                subst eb
                exact ry.ex e10
              generalize (((ys ++ [V.ref ts]).zip rows).mergeSort fun x y => decide (((Lin.lead x.2 : Nat) : Int) ≤ ((Lin.lead y.2 : Nat) : Int))) = L at hall
              induction L with
              | nil => exact .nil
              | cons z l ih => exact .cons (hall z List.mem_cons_self) (ih fun y hy => hall y (List.mem_cons_of_mem _ hy))
            · have := (List.mergeSort_perm ((ys ++ [V.ref ts]).zip rows) fun x y => decide (((Lin.lead x.2 : Nat) : Int) ≤ ((Lin.lead y.2 : Nat) : Int))).map Prod.snd
              rw [List.map_snd_zip (by omega)] at this
              exact this
            · rw [List.pairwise_map]
              refine (List.pairwise_mergeSort (le := fun x y : V × Row => decide (((Lin.lead x.2 : Nat) : Int) ≤ ((Lin.lead y.2 : Nat) : Int))) (fun a b c h1 h2 => ?_) (fun a b => ?_) _).imp fun {a b} h => ?_
              · simp only [decide_eq_true_eq] at h1 h2 ⊢; omega
              · simp only [Bool.or_eq_true, decide_eq_true_eq]; omega
              · have := of_decide_eq_true h; omega
        have last : ∀ (p2 : Addr) (H10 : Hp) (xs : List V), Ex H H10 → H10 p2 = some (.lst xs) → (∃ S', Paired (fun y s => RowT K s y H10) xs S' ∧ S'.Perm ((S.map fun s => Lin.add p s (-(Lin.g s (Lin.lead out))) st) ++ [st]) ∧ S'.Pairwise fun s t => Lin.lead s ≤ Lin.lead t) →
            ∀ l, H10 l = none → Q (.ref l) (upd H10 l (.tup xs)) := by
          rintro p2 H10 xs e10 h10 ⟨S', hp', perm, srt⟩ l nl
          have ee : Ex H10 (upd H10 l (.tup xs)) := _root_.Evl.Ex.new nl
          have key := Lin.withRow_new h1 hS hR rem hl (inv := k) k3 (S' := S') (by rw [es]; exact perm) srt
          exact q _ _ (e10.trans ee) ⟨S', ⟨l, xs, rfl, SqT.of upd_same, pr_mono hp' fun _ _ z => z.ex ee⟩, key.1, key.2.1⟩
        have e07 : Ex H (upd H7 l (.tup ys)) := e04.trans (e7.trans e8)
        refine ⟨l, t1, ys, [V.ref ts], rfl, rfl, SqT.of (e9 _ _ upd_same), SqT.of upd_same, Nat.le_trans (show ys.length + 1 ≤ 1000 by omega) (by decide), fun ez => ?_, (fun _ ez => (by cases ez)), fun _ _ c9 hc9 => ?_⟩
        · subst ez
          refine fin t1 _ (e07.trans e9) (SqT.of upd_same) ?_ _ fun p2 H10 xs e10 h10 hh => ⟨p2, xs, rfl, .inl ⟨SqL.of h10, last p2 H10 xs ((e07.trans e9).trans e10) h10 hh⟩⟩
          exact pr_app (pr_map (G := fun y s => RowT K s y _) (f := fun s => Lin.add p s (-(Lin.g s (Lin.lead out))) st) hy fun _ _ z => (z.ex e8).ex e9) (.cons (hz8.ex e9) .nil)
        · have e10 : Ex (upd (upd H7 l (.tup ys)) t1 (.tup [V.ref ts])) (upd (upd (upd H7 l (.tup ys)) t1 (.tup [V.ref ts])) c9 (.tup (ys ++ [V.ref ts]))) := _root_.Evl.Ex.new hc9
          refine fin c9 _ ((e07.trans e9).trans e10) (SqT.of upd_same) ?_ _ fun p2 H10 xs e11 h10 hh => ⟨p2, xs, rfl, .inl ⟨SqL.of h10, last p2 H10 xs (((e07.trans e9).trans e10).trans e11) h10 hh⟩⟩
          exact pr_app (pr_map (G := fun y s => RowT K s y _) (f := fun s => Lin.add p s (-(Lin.g s (Lin.lead out))) st) hy fun _ _ z => ((z.ex e8).ex e9).ex e10) (.cons ((hz8.ex e9).ex e10) .nil)
end
end K01


set_option Elab.async false
set_option linter.all false
set_option maxRecDepth 100000
set_option maxHeartbeats 4000000
namespace K01
open PySem PySem.Spec PyProof.Rows L2
section
variable {P : Program} {w : World} {K : PySem.W.Frag} {mg : Str → Option Value} {base : Heap}
/-- rows in a tuple or a list -/
def RowsA (K : PySem.W.Frag) (rs : List Row) (v : V) (H : Hp) : Prop := RowsL K rs v H ∨ RowsT K rs v H
def spStair (K : PySem.W.Frag) : Sp := fun vs H Q _ => ∃ (p : Int) (n : Nat) (v : V) (R : List Row), vs = [.int p, v] ∧ RowsA K R v H ∧ 1 < p ∧ p ≤ 100 ∧ n ≤ 100 ∧ PrmI p ∧ Lin.Oks p n R ∧ Ret (Stair K p n R) H Q
theorem ok_stair {f : Addr} {fd : FuncData} (F : Fun K "staircase" "staircase" s_staircase f fd) (Gw : Got P w K mg base CX0 4 "with_row" p_with_row (spWith K)) : FnOk P w K mg base CX0 5 f fd p_staircase (spStair K) := by
  refine F.ok sc_staircase (fun vs H Q E h => ?_) (fun cdv A outer s H vs Q E hr h => ?_)
  · obtain ⟨p, n, v, R, rfl, _⟩ := h
    rfl
  · obtain ⟨p, n, v, R, rfl, hv, h1, h2, hn, P_, hR, q⟩ := h
    refine ⟨_, pss_cons (ps_set (i := 2) sc_staircase.nd rfl (Or.inl rfl) (pe_tup pa_nil)) (pss_cons (ps_for PassesOwn.never rfl (pi_seq (pv 1)) (pg_name (i := 3) sc_staircase.nd rfl (Or.inl rfl)) (pss_one (ps_set (i := 2) sc_staircase.nd rfl (Or.inl rfl)
        (pe_got Gw hr pass0 (pa_cons (pv 0) (pa_cons (pv 2) (pa_cons (pv 3) pa_nil)))))))
      (pss_one (ps_ret (pv 2)))), ?_⟩
    have hp0 : 0 < p := by omega
    refine ⟨Nat.zero_le _, fun t0 nt => ?_⟩
    have e0 : Ex H (upd H t0 (.tup [])) := _root_.Evl.Ex.new nt
    have start : Stair K p n (R.take 0) (.ref t0) (upd H t0 (.tup [])) := ⟨[], ⟨t0, [], rfl, SqT.of upd_same, .nil⟩, Lin.Rref.nil, by rw [List.take_zero]; exact Lin.Same.refl⟩
    have turn : ∀ (i : Nat) (x u' : V) (y3 : Option V) (r : Row) (H1 : Hp) (D : Ends), R[i]? = some r → RowT K r x H1 → Ex H H1 → Stair K p n (R.take i) u' H1 → (∀ z H2, Ex H1 H2 → Stair K p n (R.take (i + 1)) z H2 → D.nx [some (.int p), some v, some z, some x] H2) →
        (tAsg (tCall (spWith K) [] E0 (tCons (tVar 0) (tCons (tVar 2) (tCons (tVar 3) tNil)))) (gName 2)) D [some (.int p), some v, some u', some x] H1 := by
      intro i x u' y3 r H1 D hr1 hx e1 hS k
      obtain ⟨S, a1, a2, a3⟩ := hS
      have oR := hR r (List.mem_of_getElem? hr1)
      refine ⟨_, rfl, _, rfl, _, rfl, p, n, u', x, S, r, rfl, a1, hx, h1, h2, hn, P_, a2, oR, fun z H2 e2 hz => ?_⟩
      obtain ⟨S', b1, b2, b3⟩ := hz
      refine k z H2 e2 ⟨S', b1, b2, b3.trans ?_⟩
      rw [List.take_add_one, hr1]
      exact Lin.same_snoc hp0 a2.ok (Lin.oks_take hR i) oR a3
    rcases hv with ⟨a, us, rfl, hq, hp⟩ | ⟨a, us, rfl, hq, hp⟩
    · have hlen := pr_len hp
      refine .inl ⟨_, rfl, a, rfl, ⟨_, _root_.Evl.ex_l e0 hq⟩, ?_⟩
      refine for_list (K := K) (a := a) (xs := us) (fun i σ' H' => ∃ u' y3, σ' = [some (.int p), some (.ref a), some u', y3] ∧ Ex H H' ∧ Stair K p n (R.take i) u' H') ⟨_, none, rfl, e0, start⟩ (fun i σ' H' _ ⟨_, _, _, e, _⟩ => _root_.Evl.ex_l e hq) (fun i x σ' H1 hx p' => ?_) (fun σ' H' p' => ?_)
      · obtain ⟨u', y3, rfl, e, hu'⟩ := p'
        obtain ⟨r, hr1, rr⟩ := pr_get hp hx
        exact turn i x u' y3 r H1 _ hr1 (rr.ex e) e hu' fun z H2 e2 hz => ⟨z, _, rfl, e.trans e2, hz⟩
      · obtain ⟨u', y3, rfl, e, hu'⟩ := p'
        rw [hlen, List.take_length] at hu'
        exact ⟨_, rfl, q _ _ e hu'⟩
    · have hlen := pr_len hp
      refine .inr ⟨_, rfl, a, rfl, ⟨_, _root_.Evl.ex_t e0 hq⟩, ?_⟩
      refine for_tup (K := K) (a := a) (xs := us) (fun i σ' H' => ∃ u' y3, σ' = [some (.int p), some (.ref a), some u', y3] ∧ Ex H H' ∧ Stair K p n (R.take i) u' H') ⟨_, none, rfl, e0, start⟩ (fun i σ' H' _ ⟨_, _, _, e, _⟩ => _root_.Evl.ex_t e hq) (fun i x σ' H1 hx p' => ?_) (fun σ' H' p' => ?_)
      · obtain ⟨u', y3, rfl, e, hu'⟩ := p'
        obtain ⟨r, hr1, rr⟩ := pr_get hp hx
        exact turn i x u' y3 r H1 _ hr1 (rr.ex e) e hu' fun z H2 e2 hz => ⟨z, _, rfl, e.trans e2, hz⟩
      · obtain ⟨u', y3, rfl, e, hu'⟩ := p'
        rw [hlen, List.take_length] at hu'
        exact ⟨_, rfl, q _ _ e hu'⟩
def spFRow (K : PySem.W.Frag) : Sp := fun vs H Q _ => ∃ (p : Int) (n j : Nat) (v : V) (S : List Row), vs = [.int p, v, .int (n : Nat), .int (j : Nat)] ∧ RowsT K S v H ∧ 1 < p ∧ p ≤ 100 ∧ n ≤ 100 ∧ j < n ∧ Lin.Rref p n S ∧ Ret (RowT K (Lin.facingRow p n S j)) H Q
theorem set_map {xs : Row} {i : Nat} {x : Int} : (xs.map V.int).set i (.int x) = (xs.set i x).map V.int := by
  rw [List.map_set]
/-- the staircase of all rows that meet each of R with 0 -/
def Face (K : PySem.W.Frag) (p : Int) (n : Nat) (R : List Row) (v : V) (H : Hp) : Prop := ∃ F S, RowsT K F v H ∧ Lin.Rref p n F ∧ Lin.Rref p n S ∧ Lin.Same p n S R ∧ Lin.Same p n F (Lin.facings p n S)
def spFacing (K : PySem.W.Frag) : Sp := fun vs H Q _ => ∃ (p : Int) (n : Nat) (v : V) (R : List Row), vs = [.int p, v, .int (n : Nat)] ∧ RowsA K R v H ∧ 1 < p ∧ p ≤ 100 ∧ n ≤ 100 ∧ PrmI p ∧ Lin.Oks p n R ∧ Ret (Face K p n R) H Q
theorem inV_ints (i : Int) (ns : List Int) : inV (.int i) (ns.map V.int) = ns.contains i := by
  unfold inV
  rw [List.any_map, List.contains_eq_any_beq]
  congr 1
  funext n
  show eqV (.int n) (.int i) = (i == n)
  by_cases z : n = i
  · subst z; simp [eqV]
  · have z' : (i == n) = false := by simp; exact fun q => z q.symm
    rw [z']
    simp [eqV, z]
end
end K01


set_option Elab.async false
set_option linter.all false
set_option maxRecDepth 100000
set_option maxHeartbeats 4000000
namespace K01
open PySem PySem.Spec PyProof.Rows L2
theorem tyx_t {K : PySem.W.Frag} {H : Hp} {a : Addr} {xs : List V} (h : SqT K H a xs) : TyX K H (.ref a) (.type "tuple") := by
  rcases h with (h | ⟨o, h⟩) | ⟨o, its, n, h, c, _⟩
  · exact .base (.tup h)
  · exact .fTuple h
  · exact .kTuple h c
theorem tyx_l {K : PySem.W.Frag} {H : Hp} {a : Addr} {xs : List V} (h : SqL K H a xs) : TyX K H (.ref a) (.type "list") := by
  rcases h with (h | ⟨o, h⟩) | ⟨o, its, n, h, c, _⟩
  · exact .base (.lst h)
  · exact .base (.frz h)
  · exact .kList h c
/-- a whole number from lo to hi, by its value -/
def isNum (lo hi : Int) : V → Bool
  | .int i => decide (lo ≤ i) && decide (i ≤ hi)
  | _ => false
inductive Flt : V → Prop
  | non : Flt .non
  | bl (b : Bool) : Flt (.bl b)
  | int (i : Int) : Flt (.int i)
/-- an own error without fields: its class at C -/
structure ErrC (K : PySem.W.Frag) (mg : Str → Option Value) (x : Str) (C : Addr) : Prop where
  gC : mg x = some (.ref C)
  xC : PySem.W.excIn K C [.type "ValueError", .type "Exception", .type "BaseException", .type "object"] "ValueError.__new__" = true
  kC : PySem.W.keepIn K (.ref C) = true
  bC : PySem.W.subIn K (.ref C) (.type "BaseException") = some true
  tC : PySem.W.typeIn K (.ref C) = some (.type "type")
theorem pmk_own0 {X : Cx} {C : Addr} {bmB : List Value} {B newId initId : String} {x : Str} {p pos : Pos} (F : ExcBaseFacts B newId initId bmB) (q : PySem.W.excIn X.K C bmB newId = true) (gC : X.mg x = some (.ref C)) (kC : PySem.W.keepIn X.K (.ref C) = true) (r : Raises X (.ref C)) (hg : Gl X x)
    (hdb : (x == ("__debug__" : Str)) = false := by decide) : PMk X (.Call (.Name x p) [] [] pos) (fun _ H Q => Q (.ref C) none H) := by
  intro pins s σ H Q I h
  refine wpAny_Call_Name_kw (ld_glob I hg gC ?_ hdb)
  refine PySem.W.callWith_K0 I.kIn kC ?_
  show wpAny _ _ (call (.ref C) []) _ _ _
  obtain ⟨bm, N, nm, qn, bs, hdct, sn, sub, ab, col, dd, k0, k1, k2, k3, k5, mN, hC, hN, hni, T⟩ := exc_obj I.kIn q
  exact wpAny_call_exc_subT F T hC hN hni (fun h' e hm => mk_of I hm r h (I.hok.gone hm.new)) (Nat.zero_le _)
section
variable {P : Program} {w : World} {K : PySem.W.Frag} {mg : Str → Option Value} {base : Heap}
def spNumber : Sp := fun vs H Q _ => ∃ (x : V) (lo hi : Int), vs = [x, .int lo, .int hi] ∧ Flt x ∧ Ret (IsV (.bl (isNum lo hi x))) H Q
theorem ok_number {f : Addr} {fd : FuncData} (B : Bare mg) (F : Fun K "is_number" "is_number" s_is_number f fd) : FnOk P w K mg base CX0 1 f fd p_is_number spNumber := by
  refine F.ok sc_is_number (fun vs H Q E h => ?_) (fun cdv A outer s H vs Q E hr h => ?_)
  · obtain ⟨x, lo, hi, rfl, _⟩ := h
    rfl
  · obtain ⟨x, lo, hi, rfl, hx, q⟩ := h
    refine ⟨_, pss_cons (ps_if (PW.pt (pw_or (pt_val (pe_callB call_isi (by rfl) B.isinstance (by decide +kernel) (pa_cons (pv 0) (pa_cons (pe_bltn (v := .ty "bool") (by rfl) B.bool (by decide +kernel) rfl) pa_nil))))
        (pw_or1 (pt_not (pt_val (pe_callB call_isi (by rfl) B.isinstance (by decide +kernel) (pa_cons (pv 0) (pa_cons (pe_bltn (v := .ty "int") (by rfl) B.int (by decide +kernel) rfl) pa_nil)))))))) (pss_one (ps_ret pe_bl)) pss_nil)
      (pss_one (ps_ret (pe_chain op_le op_le (pv 1) (pv 0) (pv 2)))), ?_⟩
    cases hx with
    | non =>
      refine ⟨_, rfl, .non, .ty "bool", .type "NoneType", .type "bool", false, rfl, .ty _, .base .non, kit_ty (by decide +kernel), false, rfl, iteF ?_⟩
      refine ⟨_, rfl, .non, .ty "int", .type "NoneType", .type "int", false, rfl, .ty _, .base .non, kit_ty (by decide +kernel), false, rfl, iteT ?_⟩
      exact q _ _ (_root_.Evl.Ex.refl _) rfl
    | bl b =>
      refine ⟨_, rfl, .bl b, .ty "bool", .type "bool", .type "bool", true, rfl, .ty _, .base (.bl b), kit_ty (by decide +kernel), true, rfl, iteT (iteT ?_)⟩
      exact q _ _ (_root_.Evl.Ex.refl _) rfl
    | int i =>
      refine ⟨_, rfl, .int i, .ty "bool", .type "int", .type "bool", false, rfl, .ty _, .base (.int i), kit_ty (by decide +kernel), false, rfl, iteF ?_⟩
      refine ⟨_, rfl, .int i, .ty "int", .type "int", .type "int", true, rfl, .ty _, .base (.int i), kit_ty (by decide +kernel), true, rfl, iteF ?_⟩
      refine ⟨_, rfl, _, rfl, _, _, rfl, rfl, _, rfl, ite2 (fun c => ?_) (fun c => ?_)⟩
      · have c' := of_decide_eq_true c
        refine ⟨_, rfl, _, _, rfl, rfl, ?_⟩
        exact q _ _ (_root_.Evl.Ex.refl _) (by show V.bl _ = V.bl _; simp [isNum, c'])
      · have c' : ¬ lo ≤ i := fun z => c (decide_eq_true z)
        exact q _ _ (_root_.Evl.Ex.refl _) (by show V.bl _ = V.bl _; simp [isNum, c'])
def isPrm : V → Bool
  | .int i => decide (i = 2) || decide (i = 3) || decide (i = 5) || decide (i = 7)
  | _ => false
def spPrime : Sp := fun vs H Q _ => ∃ (x : V), vs = [x] ∧ Flt x ∧ Ret (IsV (.bl (isPrm x))) H Q
theorem ok_prime {f aP : Addr} {fd : FuncData} (F : Fun K "is_prime" "is_prime" s_is_prime f fd) (Gn : Got P w K mg base CX0 1 "is_number" p_is_number spNumber) (gP : mg "PRIMES" = some (.ref aP)) (hP : ∀ H : Hp, SqT K H aP [.int 2, .int 3, .int 5, .int 7]) :
    FnOk P w K mg base CX0 2 f fd p_is_prime spPrime := by
  refine F.ok sc_is_prime (fun vs H Q E h => ?_) (fun cdv A outer s H vs Q E hr h => ?_)
  · obtain ⟨x, rfl, _⟩ := h
    rfl
  · obtain ⟨x, rfl, hx, q⟩ := h
    refine ⟨_, pss_one (ps_ret (pe_and (pe_got Gn hr pass0 (pa_cons (pv 0) (pa_cons pe_int (pa_cons pe_int pa_nil)))) (pe_one (pe_cmpR (show OpR _ _ (rIn K false) from op_in_seq) (pv 0) (pe_glob (by rfl) gP (v := .ref aP) rfl) rfl)))), ?_⟩
    refine ⟨_, rfl, x, 2, 7, rfl, hx, fun z H1 e1 ez => ?_⟩
    cases (show z = _ from ez)
    refine ⟨_, rfl, ite2 (fun c => ?_) (fun c => ?_)⟩
    · cases hx with
      | non => cases c
      | bl b => cases c
      | int i =>
        refine ⟨_, rfl, aP, _, rfl, .inr (hP _), rfl, by decide, ?_⟩
        refine q _ _ e1 ?_
        show V.bl _ = V.bl _
        have c' : 2 ≤ i ∧ i ≤ 7 := by simpa [isNum] using c
        congr 1
        show (inV (.int i) [.int 2, .int 3, .int 5, .int 7]) = isPrm (.int i)
        have e := inV_ints i [2, 3, 5, 7]
        rw [show ([2, 3, 5, 7] : List Int).map V.int = [.int 2, .int 3, .int 5, .int 7] from rfl] at e
        rw [e]
        simp [isPrm, Bool.or_assoc]
    · refine q _ _ e1 ?_
      show V.bl _ = V.bl _
      congr 1
      cases hx with
      | non => rfl
      | bl b => rfl
      | int i =>
        have c' : ¬ (2 ≤ i ∧ i ≤ 7) := by simpa [isNum] using c
        have : isPrm (.int i) = false := by
          simp only [isPrm, Bool.or_eq_false_iff, decide_eq_false_iff_not]
          omega
        rw [this]
def spCheckP (C : Addr) : Sp := fun vs H Q E => ∃ (x : V), vs = [x] ∧ Flt x ∧ (isPrm x = true → Ret (IsV .non) H Q) ∧ (isPrm x = false → ∀ H', Ex H H' → E (.ref C) none H')
theorem ok_checkP {f C : Addr} {fd : FuncData} (F : Fun K "check_prime" "check_prime" s_check_prime f fd) (Gp : Got P w K mg base CX0 2 "is_prime" p_is_prime spPrime) (Ec : ErrC K mg "BadNumber" C) : FnOk P w K mg base (L2.CX P w) 3 f fd p_check_prime (spCheckP C) := by
  refine F.okX sc_check_prime (fun vs H Q E h => ?_) (fun cdv A outer s H vs Q E hr h => ?_)
  · obtain ⟨x, rfl, _⟩ := h
    rfl
  · obtain ⟨x, rfl, hx, q1, q2⟩ := h
    refine ⟨_, pss_one (ps_if (pt_not (pt_val (pe_got Gp hr pass0 (pa_cons (pv 0) pa_nil)))) (pss_one (ps_raise rfl (takes_of rfl rfl rfl rfl) (pmk_own0 PySem.F.excBase_ValueError Ec.xC Ec.gC Ec.kC (raises_own Ec.bC Ec.tC) rfl))) pss_nil), ?_⟩
    refine ⟨_, rfl, x, rfl, hx, fun z H1 e1 ez => ?_⟩
    cases (show z = _ from ez)
    refine ⟨_, rfl, ite2 (fun c => ?_) (fun c => ?_)⟩
    · exact q2 (by simpa using c) _ e1
    · exact q1 (by simpa using c) _ _ e1 rfl
def TupF (K : PySem.W.Frag) (fs : List V) (v : V) (H : Hp) : Prop := ∃ b, v = .ref b ∧ SqT K H b fs
theorem TupF.ex {fs : List V} {v : V} {H H' : Hp} (e : Ex H H') (h : TupF K fs v H) : TupF K fs v H' := by
  obtain ⟨b, z, q⟩ := h
  exact ⟨b, z, _root_.Evl.ex_t e q⟩
def isRowB (p : Int) (width : Int) (fs : List V) : Bool := decide ((fs.length : Int) = width) && fs.all (isNum 0 (p - 1))
def spIsRow (K : PySem.W.Frag) : Sp := fun vs H Q _ => ∃ (p : Int) (v : V) (fs : List V) (wd : Int), vs = [.int p, v, .int wd] ∧ TupF K fs v H ∧ (∀ f ∈ fs, Flt f) ∧ fs.length ≤ 1000 ∧ Ret (IsV (.bl (isRowB p wd fs))) H Q
theorem ok_isrow {f : Addr} {fd : FuncData} (B : Bare mg) (F : Fun K "is_row" "is_row" s_is_row f fd) (Gn : Got P w K mg base CX0 1 "is_number" p_is_number spNumber) : FnOk P w K mg base CX0 2 f fd p_is_row (spIsRow K) := by
  refine F.ok sc_is_row (fun vs H Q E h => ?_) (fun cdv A outer s H vs Q E hr h => ?_)
  · obtain ⟨p, v, fs, wd, rfl, _⟩ := h
    rfl
  · obtain ⟨p, v, fs, wd, rfl, ⟨b, rfl, hb⟩, hf, hz, q⟩ := h
    refine ⟨_, pss_cons (ps_if (PW.pt (pw_or (pt_not (pt_val (pe_callB call_isi (by rfl) B.isinstance (by decide +kernel) (pa_cons (pv 1) (pa_cons (pe_bltn (v := .ty "tuple") (by rfl) B.tuple (by decide +kernel) rfl) pa_nil)))))
        (pw_or1 (pt_cmpR op_ne (pe_callB call_len_seq (by rfl) B.len PySem.boot_len (pa_cons (pv 1) pa_nil)) (pv 2) (nomark _))))) (pss_one (ps_ret pe_bl)) pss_nil)
      (pss_one (ps_ret (pe_callB (cr_all rfl) (by rfl) B.all (by decide +kernel) (pa_cons (pe_lc (own := [("number", 3)]) (g := gName 3) (tt := tYes) rfl sc_is_row.nd (pi_tup (pv 1)) (blkOk_by (N := n_is_row) (sc := defScope s_is_row) (by decide +kernel)) (fun _ _ _ _ _ => pg_name (i := 3) sc_is_row.nd rfl (Or.inl rfl)) (fun _ _ _ _ _ => pts_nil)
        (fun _ _ _ _ _ => pe_got Gn hr pass0 (pa_cons (pv 3) (pa_cons pe_int (pa_cons (pe_op op_sub (pv 0) pe_int) pa_nil))))) pa_nil)))), ?_⟩
    refine ⟨_, rfl, .ref b, .ty "tuple", .type "tuple", .type "tuple", true, rfl, .ty _, tyx_t hb, kit_ty (by decide +kernel), true, rfl, iteF ?_⟩
    refine ⟨_, rfl, b, fs, rfl, .inr hb, _, rfl, rfl, _, rfl, ite2 (fun c => ?_) (fun c => ?_)⟩
    · have c' := dne c
      exact q _ _ (_root_.Evl.Ex.refl _) (by show V.bl _ = V.bl _; simp [isRowB, c'])
    · have c' := deq c
      refine ⟨_, rfl, b, rfl, ⟨_, hb⟩, ?_⟩
      refine lc_go (walk_tup (xs := fs)) (by omega) (fun H' e => _root_.Evl.ex_t e hb) fs rfl (fun _ => true) (fun x => IsV (.bl (isNum 0 (p - 1) x))) (fun _ _ _ _ _ h => h) (fun i d x H1 H2 hn e y C N hC hN => ?_) fun D ys H' nD e hD hy => ?_
      · obtain ⟨rfl, hx⟩ := y
        cases (show d = x from Option.some.inj (hn.symm.trans hx))
        exact ⟨rfl, yes_go ⟨_, rfl, _, rfl, _, _, rfl, rfl, d, 0, p - 1, rfl, hf d (List.mem_of_getElem? hn), fun z H3 e3 ez => hC rfl z H3 e3 ez⟩⟩
      · rw [filter_yes] at hy
        have ey : ys = (fs.map (isNum 0 (p - 1))).map V.bl := by
          rw [List.map_map]
          exact pr_fun hy
        subst ey
        refine ⟨D, _, rfl, SqL.of hD, q _ _ e ?_⟩
        show V.bl _ = V.bl _
        simp [isRowB, c', List.all_map]
def RowsF (K : PySem.W.Frag) (fss : List (List V)) (v : V) (H : Hp) : Prop := ∃ a vs, v = .ref a ∧ SqT K H a vs ∧ Paired (fun x fs => TupF K fs x H) vs fss
theorem RowsF.ex {fss : List (List V)} {v : V} {H H' : Hp} (e : Ex H H') (h : RowsF K fss v H) : RowsF K fss v H' := by
  obtain ⟨a, vs, z, q, p⟩ := h
  exact ⟨a, vs, z, _root_.Evl.ex_t e q, pr_mono p fun _ _ x => x.ex e⟩
def OkF (fss : List (List V)) : Prop := fss.length ≤ 1000 ∧ ∀ fs ∈ fss, fs.length ≤ 1000 ∧ ∀ f ∈ fs, Flt f
def isRowsB (p most width : Int) (fss : List (List V)) : Bool := decide (1 ≤ (fss.length : Int)) && decide ((fss.length : Int) ≤ most) && fss.all (isRowB p width)
def spIsRows (K : PySem.W.Frag) : Sp := fun vs H Q _ => ∃ (p : Int) (v : V) (fss : List (List V)) (most wd : Int), vs = [.int p, v, .int most, .int wd] ∧ RowsF K fss v H ∧ OkF fss ∧ Ret (IsV (.bl (isRowsB p most wd fss))) H Q
theorem ok_isrows {f : Addr} {fd : FuncData} (B : Bare mg) (F : Fun K "is_rows" "is_rows" s_is_rows f fd) (Gr : Got P w K mg base CX0 2 "is_row" p_is_row (spIsRow K)) : FnOk P w K mg base CX0 3 f fd p_is_rows (spIsRows K) := by
  refine F.ok sc_is_rows (fun vs H Q E h => ?_) (fun cdv A outer s H vs Q E hr h => ?_)
  · obtain ⟨p, v, fss, most, wd, rfl, _⟩ := h
    rfl
  · obtain ⟨p, v, fss, most, wd, rfl, ⟨b, us, rfl, hb, hp⟩, ⟨hz, hf⟩, q⟩ := h
    have hlen := pr_len hp
    refine ⟨_, pss_cons (ps_if (PW.pt (pw_or (pt_not (pt_val (pe_callB call_isi (by rfl) B.isinstance (by decide +kernel) (pa_cons (pv 1) (pa_cons (pe_bltn (v := .ty "tuple") (by rfl) B.tuple (by decide +kernel) rfl) pa_nil)))))
        (pw_or1 (pt_not (pt_chain op_le op_le pe_int (pe_callB call_len_seq (by rfl) B.len PySem.boot_len (pa_cons (pv 1) pa_nil)) (pv 2)))))) (pss_one (ps_ret pe_bl)) pss_nil)
      (pss_one (ps_ret (pe_callB (cr_all rfl) (by rfl) B.all (by decide +kernel) (pa_cons (pe_lc (own := [("row", 4)]) (g := gName 4) (tt := tYes) rfl sc_is_rows.nd (pi_tup (pv 1)) (blkOk_by (N := n_is_rows) (sc := defScope s_is_rows) (by decide +kernel)) (fun _ _ _ _ _ => pg_name (i := 4) sc_is_rows.nd rfl (Or.inl rfl)) (fun _ _ _ _ _ => pts_nil)
        (fun _ _ _ _ _ => pe_got Gr hr pass0 (pa_cons (pv 0) (pa_cons (pv 4) (pa_cons (pv 3) pa_nil))))) pa_nil)))), ?_⟩
    refine ⟨_, rfl, .ref b, .ty "tuple", .type "tuple", .type "tuple", true, rfl, .ty _, tyx_t hb, kit_ty (by decide +kernel), true, rfl, iteF ?_⟩
    refine ⟨_, rfl, b, us, rfl, .inr hb, _, _, rfl, rfl, _, rfl, ite2 (fun c => ?_) (fun c => ?_)⟩
    · have c1 := of_decide_eq_true c
      refine ⟨_, rfl, _, _, rfl, rfl, _, rfl, ite2 (fun c2 => ?_) (fun c2 => ?_)⟩
      · have c3 : ¬ ((us.length : Int) ≤ most) := by simpa using c2
        refine q _ _ (_root_.Evl.Ex.refl _) ?_
        show V.bl _ = V.bl _
        rw [hlen] at c3
        simp [isRowsB, c3]
      · have c3 : (us.length : Int) ≤ most := by simpa using c2
        refine ⟨_, rfl, b, rfl, ⟨_, hb⟩, ?_⟩
        refine lc_go (walk_tup (xs := us)) (by omega) (fun H' e => _root_.Evl.ex_t e hb) fss hlen.symm (fun _ => true) (fun fs => IsV (.bl (isRowB p wd fs))) (fun _ _ _ _ _ h => h) (fun i d x H1 H2 hn e y C N hC hN => ?_) fun D ys H' nD e hD hy => ?_
        · obtain ⟨rfl, hx⟩ := y
          obtain ⟨d', hd', td⟩ := pr_get hp hx
          cases (show d = d' from Option.some.inj (hn.symm.trans hd'))
          have hd := hf d (List.mem_of_getElem? hn)
          exact ⟨rfl, yes_go ⟨_, rfl, _, rfl, _, rfl, p, x, d, wd, rfl, td.ex e, hd.2, hd.1, fun z H3 e3 ez => hC rfl z H3 e3 ez⟩⟩
        · rw [filter_yes] at hy
          have ey : ys = (fss.map (isRowB p wd)).map V.bl := by
            rw [List.map_map]
            exact pr_fun hy
          subst ey
          refine ⟨D, _, rfl, SqL.of hD, q _ _ e ?_⟩
          show V.bl _ = V.bl _
          rw [hlen] at c1 c3
          simp only [isRowsB, decide_eq_true c1, decide_eq_true c3, Bool.true_and, List.all_map]
          rfl
    · have c1 : ¬ (1 ≤ (us.length : Int)) := fun z => c (decide_eq_true z)
      refine ⟨_, rfl, iteT ?_⟩
      refine q _ _ (_root_.Evl.Ex.refl _) ?_
      show V.bl _ = V.bl _
      rw [hlen] at c1
      simp [isRowsB, c1]
end
end K01


set_option Elab.async false
set_option linter.all false
set_option maxRecDepth 100000
set_option maxHeartbeats 4000000
namespace K01
open PySem PySem.Spec PyProof.Rows L2
theorem prmI_of {p : Int} (h : isPrm (.int p) = true) : (p = 2 ∨ p = 3 ∨ p = 5 ∨ p = 7) := by
  simp only [isPrm, Bool.or_eq_true, decide_eq_true_eq] at h
  omega
theorem prmI {p : Int} (h : isPrm (.int p) = true) : PrmI p := by
  intro x h1 h2
  rcases prmI_of h with rfl | rfl | rfl | rfl
  · have : x = 1 := by omega
    subst this; exact ⟨1, by decide⟩
  · have : x = 1 ∨ x = 2 := by omega
    rcases this with rfl | rfl
    · exact ⟨1, by decide⟩
    · exact ⟨2, by decide⟩
  · have : x = 1 ∨ x = 2 ∨ x = 3 ∨ x = 4 := by omega
    rcases this with rfl | rfl | rfl | rfl
    · exact ⟨1, by decide⟩
    · exact ⟨3, by decide⟩
    · exact ⟨2, by decide⟩
    · exact ⟨4, by decide⟩
  · have : x = 1 ∨ x = 2 ∨ x = 3 ∨ x = 4 ∨ x = 5 ∨ x = 6 := by omega
    rcases this with rfl | rfl | rfl | rfl | rfl | rfl
    · exact ⟨1, by decide⟩
    · exact ⟨4, by decide⟩
    · exact ⟨5, by decide⟩
    · exact ⟨2, by decide⟩
    · exact ⟨3, by decide⟩
    · exact ⟨6, by decide⟩
def NotTup (K : PySem.W.Frag) (v : V) (H : Hp) : Prop := ∃ T, TyX K H v (.type T) ∧ kitB T "tuple" = some false
def goodF (p : Int) : List (List V) → Bool
  | [] => false
  | f0 :: r => decide (1 ≤ (f0.length : Int)) && decide ((f0.length : Int) ≤ 12) && isRowsB p 12 f0.length (f0 :: r)
def BadR (K : PySem.W.Frag) (p : Int) (v : V) (H : Hp) : Prop := (∀ H', Ex H H' → NotTup K v H') ∨ ∃ fss, RowsF K fss v H ∧ OkF fss ∧ goodF p fss = false
theorem BadR.ex {K : PySem.W.Frag} {p : Int} {v : V} {H H' : Hp} (e : Ex H H') (h : BadR K p v H) : BadR K p v H' := by
  rcases h with h | ⟨fss, a, b, c⟩
  · exact .inl fun H2 e2 => h H2 (e.trans e2)
  · exact .inr ⟨fss, a.ex e, b, c⟩
theorem rowsF_of {K : PySem.W.Frag} {R : List Row} {v : V} {H : Hp} (h : RowsT K R v H) : RowsF K (R.map fun r => r.map V.int) v H := by
  obtain ⟨a, vs, z, q, p⟩ := h
  exact ⟨a, vs, z, q, pr_map p fun _ _ x => x⟩
theorem okF_of {p : Int} {n : Nat} {R : List Row} (o : Lin.Oks p n R) (hn : n ≤ 1000) (hl : R.length ≤ 1000) : OkF (R.map fun r => r.map V.int) := by
  refine ⟨by rw [List.length_map]; exact hl, fun fs hfs => ?_⟩
  obtain ⟨r, hr, rfl⟩ := List.mem_map.mp hfs
  refine ⟨by rw [List.length_map, (o r hr).1]; exact hn, fun f hf => ?_⟩
  obtain ⟨i, _, rfl⟩ := List.mem_map.mp hf
  exact .int i
theorem goodF_of {p : Int} {n : Nat} {R : List Row} (o : Lin.Oks p n R) (h1 : 1 ≤ n) (hn : n ≤ 12) (hl : R.length ≤ 12) (ne : R ≠ []) : goodF p (R.map fun r => r.map V.int) = true := by
  cases R with
  | nil => exact absurd rfl ne
  | cons r0 l =>
    have l0 : ((r0.map V.int).length : Int) = n := by rw [List.length_map, (o r0 List.mem_cons_self).1]
    have hall : (((r0 :: l).map fun r => r.map V.int).all (isRowB p (r0.map V.int).length)) = true := by
      rw [List.all_eq_true]
      intro fs hfs
      obtain ⟨r, hr, rfl⟩ := List.mem_map.mp hfs
      have orr := o r hr
      simp only [isRowB, Bool.and_eq_true, decide_eq_true_eq, List.all_eq_true]
      refine ⟨by rw [l0, List.length_map, orr.1], fun f hf => ?_⟩
      obtain ⟨i, hi, rfl⟩ := List.mem_map.mp hf
      have := orr.2 i hi
      simp only [isNum, Bool.and_eq_true, decide_eq_true_eq]
      omega
    show (decide (1 ≤ ((r0.map V.int).length : Int)) && decide (((r0.map V.int).length : Int) ≤ 12) && isRowsB p 12 (r0.map V.int).length ((r0 :: l).map fun r => r.map V.int)) = true
    have hb : isRowsB p 12 (r0.map V.int).length ((r0 :: l).map fun r => r.map V.int) = true := by
      unfold isRowsB
      rw [hall, List.length_map]
      have hl2 : l.length + 1 ≤ 12 := hl
      simp only [Bool.and_eq_true, decide_eq_true_eq, List.length_cons, and_true]
      omega
    rw [hb, l0]
    simp only [Bool.and_eq_true, decide_eq_true_eq, and_true]
    omega
section
variable {P : Program} {w : World} {K : PySem.W.Frag} {mg : Str → Option Value} {base : Heap}
/-- the two limits of the text -/
structure Lims (mg : Str → Option Value) : Prop where
  rows : ∃ t, mg "MOST_ROWS" = some (.int 12 t)
  width : ∃ t, mg "MOST_WIDTH" = some (.int 12 t)
def spCheckR (K : PySem.W.Frag) (C : Addr) : Sp := fun vs H Q E => ∃ (p : Int) (v : V), vs = [.int p, v] ∧ ((BadR K p v H ∧ ∀ H', Ex H H' → E (.ref C) none H') ∨ ∃ fss, RowsF K fss v H ∧ OkF fss ∧ goodF p fss = true ∧ Ret (IsV .non) H Q)
/-- what stairs, rank, against are called with, and how they end -/
def Asked (K : PySem.W.Frag) (CN CR : Addr) (R' : Int → Nat → List Row → V → Hp → Prop) : Sp := fun vs H Q E => ∃ x v, vs = [x, v] ∧ Flt x ∧ ((isPrm x = false ∧ ∀ H', Ex H H' → E (.ref CN) none H') ∨ (∃ p, x = .int p ∧ isPrm x = true ∧ BadR K p v H ∧ ∀ H', Ex H H' → E (.ref CR) none H') ∨
  ∃ p n R, x = .int p ∧ isPrm x = true ∧ RowsT K R v H ∧ Lin.Oks p n R ∧ R ≠ [] ∧ R.length ≤ 12 ∧ 1 ≤ n ∧ n ≤ 12 ∧ Ret (R' p n R) H Q)
theorem asked_go {CN CR : Addr} {R' : Int → Nat → List Row → V → Hp → Prop} {vs : List V} {H : Hp} {Q : VK} {E : XK} {x v : V} (h : Asked K CN CR R' [x, v] H Q E) (t : TS) (D : Ends)
    (k : ∀ p n R H', x = .int p → 1 < p → p ≤ 100 → PrmI p → Ex H H' → RowsT K R v H' → Lin.Oks p n R → n ≤ 12 → R.length ≤ 12 → R ≠ [] → Ret (R' p n R) H' Q → t D [some x, some v] H') :
    tSeq (tDrop (tCall (spCheckP CN) [] E (tCons (tVar 0) tNil))) (tSeq (tDrop (tCall (spCheckR K CR) [] E (tCons (tVar 0) (tCons (tVar 1) tNil)))) t) D [some x, some v] H := by
  obtain ⟨x', v', ev, hx, h⟩ := h
  have e1 : x = x' := by injection ev
  have e2 : v = v' := by injection ev with _ e; injection e
  subst e1; subst e2
  refine ⟨_, rfl, x, rfl, hx, fun hp => ?_, fun hp => ?_⟩
  · intro z H1 ex1 _
    rcases h with ⟨h0, _⟩ | ⟨p, rfl, _, hb, q⟩ | ⟨p, n, R, rfl, h0, hR, o, ne, hl, h1, hn, q⟩
    · rw [h0] at hp; cases hp
    · exact ⟨_, rfl, _, rfl, p, v, rfl, .inl ⟨hb.ex ex1, fun H2 e2 => q H2 (ex1.trans e2)⟩⟩
    · have pp := prmI_of h0
      refine ⟨_, rfl, _, rfl, p, v, rfl, .inr ⟨_, rowsF_of (hR.ex ex1), okF_of o (by omega) (by omega), goodF_of o h1 hn hl ne, fun z2 H2 e2 _ => ?_⟩⟩
      exact k p n R H2 rfl (by omega) (by omega) (prmI h0) (ex1.trans e2) ((hR.ex ex1).ex e2) o hn hl ne (q.go (ex1.trans e2))
  · intro H1 ex1
    rcases h with ⟨_, q⟩ | ⟨p, rfl, h0, _⟩ | ⟨p, n, R, rfl, h0, _⟩
    · exact q _ ex1
    · rw [h0] at hp; cases hp
    · rw [h0] at hp; cases hp
theorem Asked.len {CN CR : Addr} {R' : Int → Nat → List Row → V → Hp → Prop} {vs : List V} {H : Hp} {Q : VK} {E : XK} (h : Asked K CN CR R' vs H Q E) : ∃ x v, vs = [x, v] := by
  obtain ⟨x, v, e, _⟩ := h
  exact ⟨x, v, e⟩
def Rank (p : Int) (n : Nat) (R : List Row) (v : V) (H : Hp) : Prop := ∃ S, v = .int (S.length : Nat) ∧ Lin.Rref p n S ∧ Lin.Same p n S R
end
end K01


set_option Elab.async false
set_option linter.all false
set_option maxRecDepth 100000
set_option maxHeartbeats 4000000
/-! set(a list of whole numbers), and it sorted -/
namespace K01
open PySem PySem.Spec PyProof.Rows L2
open Sem (wp)
abbrev bareSet (b : Bool) : Obj := { cls := .type "set", dict := none, data := .set #[] 0 (.fresh 0 0 b) }
abbrev lstIt (l : Addr) : Obj := { cls := .type "list_iterator", data := .fields #[.ref l, .int 0 0] }
section
variable {P : Program} {w : World} {A : Around} {E : Value → Shared → Prop} {s : Shared}
abbrev ledB (w : World) : Bool := !w.params.followText "set-order"
def SetEnd (w : World) (s : Shared) (ns : List Int) (r : Value) (s2 : Shared) : Prop := r = .none ∧ ∃ h' tk c, s2 = { s with heap := h', toks := tk } ∧ SetR w h' s.heap.objs.size (fun j => decide (j ∈ ns)) c ∧ c ≤ ns.length ∧ ∀ b o, s.heap.get? b = some o → h'.get? b = some o
theorem call_set_ls {l : Addr} {its : Array Value} (ns : List Int) {Q : Value → Shared → Prop} (hd0 : A.handled = none) (hL : s.heap.IsList l its) (hI : IntsAre its.toList ns) (room : ns.length + 1 < scanBound)
    (k : ∀ (h' : Heap) (tk c : Nat), SetR w h' s.heap.objs.size (fun j => decide (j ∈ ns)) c → c ≤ ns.length → (∀ b o, s.heap.get? b = some o → h'.get? b = some o) → Q (.ref s.heap.objs.size) { s with heap := h', toks := tk }) :
    wpAny (model P w) A (call (.type "set") [.ref l]) Q E s := by
  have szE : its.size = ns.length := by
    have zz := IntsAre.length hI
    rwa [Array.length_toList] at zz
  obtain ⟨c0, tl0, hmro⟩ := F.called_set.mro
  have f1 := F.called_set.made
  have f2 := F.called_set.sub
  have f3 := F.called_set.notType
  have f4 := F.called_set.canCreate
  have f5 := F.typeCall_set_1 (.ref l)
  refine wpAny_call (codeAny_of_tree ?_)
  show wpAny _ _ (callAny (.type "set") _) _ _ _
  refine wpAny_pure ⟨Code.quiet_builtin _ (by decide +kernel), codeAny_builtin F.entry_type_call ?_⟩
  rw [Around.under_plain (weight_type_call_type "set" [.ref l] []) rfl]
  repeat (any_goals (first | assumption | wp_step))
  refine codeAny_mono (code_set_led1 (.ref l) (E := E) (Q₁ := fun ob s1 => ob = .ref s.heap.objs.size ∧ s1 = { s with heap := s.heap.push (bareSet (ledB w)) }) ⟨rfl, rfl⟩) fun rr s1 hrr => ?_
  cases rr with
  | error z => exact hrr
  | ok fl =>
    cases fl with
    | ret ob =>
      obtain ⟨rfl, rfl⟩ := hrr
      have gS : (s.heap.push (bareSet (ledB w))).get? s.heap.objs.size = some (bareSet (ledB w)) := Heap.get?_push_size _ rfl
      have gT : Shared.TypeIs { s with heap := s.heap.push (bareSet (ledB w)) } (.ref s.heap.objs.size) "set" := ⟨_, gS, rfl⟩
      have f6 := F.called_set.init.lookup
      have f7 := F.called_set.init.bind (.ref s.heap.objs.size)
      repeat (any_goals (first | assumption | wp_step))
      refine codeAny_mono (codeAny_call_builtin (R := wants (SetEnd w s ns) E) F.called_set.init.plain F.entry_set_init (check_set_init_1 gT ?_)) fun r2 s2 hr2 => ?_
      · obtain ⟨ol, hol, hcl, nl, hdl⟩ := hL
        obtain ⟨ocls, odict, odata, oslots⟩ := ol
        simp only at hcl hdl
        subst hcl
        subst hdl
        have hol2 := Heap.get?_push_of_some (bareSet (ledB w)) hol
        have g1 := F.sub_list_set
        have g2 := F.sub_list_frozenset
        have g3 : (Value.type "list" == Value.type "dict") = false := by decide
        have hL1 : (s.heap.push (bareSet (ledB w))).IsList l its := ⟨_, hol2, rfl, nl, rfl⟩
        unfold Builtin.«set.__init__» noKeywords Builtin.Frozenset.updateFrom
        generalize hPI : pyIter = PI
        wp_walk
        subst hPI
        refine wpAny_pyIter_list hL1 ?_
        refine wpAny_bind (wpAny_runValue ?_)
        have lS : l < s.heap.objs.size := Heap.lt_size hol
        have hd3 : A.in1.in1.in1.handled = none := by simp [hd0]
        have sz1 : (s.heap.push (bareSet (ledB w))).objs.size = s.heap.objs.size + 1 := Heap.size_push ..
        have neI : l ≠ (s.heap.push (bareSet (ledB w))).objs.size := by
          rw [sz1]
          exact Nat.ne_of_lt (Nat.lt_succ_of_lt lS)
        have neS : s.heap.objs.size ∉ [(s.heap.push (bareSet (ledB w))).objs.size] := by
          rw [sz1]
          simp
        have vals : ∀ (i : Nat) (v : Value), its[i]? = some v → ∃ k t, ns[i]? = some k ∧ v = .int k t := fun i v hv => by
          have hi : i < ns.length := by
            rw [← szE]
            exact (Array.getElem?_eq_some_iff.mp hv).1
          obtain ⟨t, e⟩ := PyProof.Rows.IntsAre.int_at hI i v (by rw [Array.getElem?_toList]; exact hv)
          refine ⟨ns[i], t, List.getElem?_eq_getElem hi, ?_⟩
          rw [e, List.getD_eq_getElem?_getD, List.getElem?_eq_getElem hi]
          rfl
        have gS2 : ((s.heap.push (bareSet (ledB w))).push (lstIt l)).get? s.heap.objs.size = some (bareSet (ledB w)) := Heap.get?_push_of_some _ gS
        have neF : s.heap.objs.size ∉ [(s.heap.push (bareSet (ledB w))).objs.size, l] := by
          rw [sz1]
          simp only [List.mem_cons, List.not_mem_nil, or_false, not_or]
          exact ⟨Nat.ne_of_lt (Nat.lt_succ_self _), Nat.ne_of_gt lS⟩
        refine set_update_ints ((Walks.list hd3 _ l neI its).toS) s.heap.objs.size neF ns szE room vals (its.size - 0) 0 _ (by omega) (Nat.zero_le _) ⟨⟨_, Heap.get?_push_size _ rfl, rfl, rfl⟩, hL1.push _⟩ ⟨0, Nat.le_refl 0, setR_new_at gS2⟩ ?_
        intro s' c' hm hc' hS'
        obtain ⟨h', gg, dd, tk', oo⟩ := s'
        obtain rfl : gg = s.gens := hm.gens
        obtain rfl : dd = s.drawn := hm.drawn
        obtain rfl : oo = s.os := hm.os
        show wpAny _ _ _ _ _ _
        refine wpAny_pure ?_
        show wpAny _ _ (ret Value.none) _ _ _
        rw [szE] at hc'
        refine wpAny_pure ⟨rfl, h', tk', c', rfl, hS', hc', fun b o e => ?_⟩
        have lb : b < s.heap.objs.size := Heap.lt_size e
        refine hm.heap b o ?_ (Heap.get?_push_of_some _ (Heap.get?_push_of_some _ e))
        rw [sz1]
        simp only [List.mem_cons, List.not_mem_nil, or_false, not_or]
        exact ⟨Nat.ne_of_lt lb, Nat.ne_of_lt (Nat.lt_succ_of_lt lb)⟩
      · cases r2 with
        | error z => exact hr2
        | ok fl2 =>
          cases fl2 with
          | ret r =>
            obtain ⟨rfl, h', tk, c', rfl, hS', hc', hk'⟩ := hr2
            repeat (any_goals (first | assumption | wp_step))
            exact k _ _ _ hS' hc' hk'
          | _ => exact hr2.elim
    | _ => exact hrr.elim
end
def rSetL (K : PySem.W.Frag) (w : World) : List V → Hp → VK → Prop := fun xs H Q => ∃ (l : Addr) (ns : List Int), xs = [.ref l] ∧ SqL K H l (ns.map V.int) ∧ ns.length ≤ 1000 ∧ ∀ p c, H p = none → c ≤ ns.length → Q (.ref p) (upd H p (SetO w p (fun j => decide (j ∈ ns)) c))
theorem cr_setL {X : Cx} (hc : X.calm = true) : CallR X (.type "set") (rSetL X.K X.w) := by
  intro pins s σ H xs us Q I r hh
  obtain ⟨l, ns, rfl, hq, hz, q⟩ := hh
  obtain ⟨its, rv, hL, _⟩ := I.list hq
  obtain rfl := Vals.ref1 r
  refine call_set_ls ns (I.ok.hd hc) hL.isList (ints_of_vals rv) (by unfold scanBound; omega) fun h' tk c hS hc' hk => ?_
  exact ⟨.ref _, upd H s.heap.objs.size (SetO X.w s.heap.objs.size (fun j => decide (j ∈ ns)) c), I.laid (t' := tk) hk (Nat.le_refl _) (setO_new hS), rfl, q _ c (I.hok.fresh (Nat.le_refl _)) hc'⟩
end K01


set_option Elab.async false
set_option linter.all false
set_option maxRecDepth 100000
set_option maxHeartbeats 4000000
namespace K01
open PySem PySem.Spec PyProof.Rows L2
section
variable {P : Program} {w : World} {K : PySem.W.Frag} {mg : Str → Option Value} {base : Heap}
/-- all but what stands at a is as it was -/
def ExB (a : Addr) (H H' : Hp) : Prop := ∀ b o, b ≠ a → H b = some o → H' b = some o
theorem ExB.refl (a : Addr) (H : Hp) : ExB a H H := fun _ _ _ e => e
theorem ExB.trans {a : Addr} {H H1 H2 : Hp} (e : ExB a H H1) (e' : ExB a H1 H2) : ExB a H H2 := fun b o n h => e' b o n (e b o n h)
theorem ExB.of {a : Addr} {H H1 : Hp} (e : Ex H H1) : ExB a H H1 := fun b o _ h => e b o h
theorem ExB.new {a p : Addr} {H H1 : Hp} {o : HO} (e : ExB a H H1) (h : H p = none) : ExB a H (upd H1 p o) := fun b u n q => by
  rw [upd_ne (ne_of_none q h)]
  exact e b u n q
theorem ExB.lay {a p : Addr} {H H1 : Hp} {o : HO} (e : ExB a H H1) (h : H1 p = none) : ExB a H (upd H1 p o) := fun b u n q => by
  have q1 := e b u n q
  rw [upd_ne (ne_of_none q1 h)]
  exact q1
theorem ExB.at {a : Addr} {H H1 : Hp} {o : HO} (e : ExB a H H1) : ExB a H (upd H1 a o) := fun b u n q => by
  rw [upd_ne n]
  exact e b u n q
/-- the drawer's row at a: the script, how many of its cells are taken, the mixed number, the rest of a great cell -/
def Off (K : PySem.W.Frag) (a sc : Addr) (ns : List Int) : Prop := a ≠ sc ∨ SqL K (fun _ => none) sc (ns.map V.int)
def Row0 (K : PySem.W.Frag) (a sc : Addr) (ns : List Int) (H : Hp) : Prop := ∃ (i sd gr : Int), H a = some (.lst [.ref sc, .int i, .int sd, .int gr]) ∧ Off K a sc ns ∧ SqL K H sc (ns.map V.int) ∧ 0 ≤ i ∧ 0 ≤ sd ∧ sd < 2147483647
theorem sql_b {a b : Addr} {H H' : Hp} {xs : List V} (e : ExB a H H') (n : b ≠ a) (h : SqL K H b xs) : SqL K H' b xs := by
  rcases h with (h | ⟨o, h⟩) | h
  · exact .inl (.inl (e _ _ n h))
  · exact .inl (.inr ⟨o, e _ _ n h⟩)
  · exact .inr h
theorem sql_o {a sc : Addr} {H H' : Hp} {ns : List Int} (e : ExB a H H') (n : Off K a sc ns) (h : SqL K H sc (ns.map V.int)) : SqL K H' sc (ns.map V.int) := by
  rcases n with n | (z | ⟨o, z⟩) | z
  · exact sql_b e n.symm h
  · cases z
  · cases z
  · exact .inr z
theorem off_of {a sc : Addr} {H : Hp} {ns : List Int} (n : H a = none) (h : SqL K H sc (ns.map V.int)) : Off K a sc ns := by
  rcases h with (h | ⟨o, h⟩) | h
  · exact .inl fun z => by rw [z, h] at n; cases n
  · exact .inl fun z => by rw [z, h] at n; cases n
  · exact .inr (.inr h)
theorem Row0.ex {a sc : Addr} {ns : List Int} {H H' : Hp} (e : Ex H H') (h : Row0 K a sc ns H) : Row0 K a sc ns H' := by
  obtain ⟨i, sd, gr, h1, h2, h3, h4⟩ := h
  exact ⟨i, sd, gr, e _ _ h1, h2, _root_.Evl.ex_l e h3, h4⟩
theorem Row0.n {a sc : Addr} {ns : List Int} {H H' : Hp} (h : Row0 K a sc ns H) (e : ExB a H H') : ExN H H' := by
  obtain ⟨i, sd, gr, h1, _⟩ := h
  intro b o hb nl
  exact e b o (fun z => by rw [z, h1] at hb; exact nl _ (Option.some.inj hb).symm) hb
theorem row0_new {a sc : Addr} {H : Hp} {ns : List Int} {i sd gr : Int} (n : Off K a sc ns) (h : SqL K H sc (ns.map V.int)) (h1 : 0 ≤ i) (h2 : 0 ≤ sd) (h3 : sd < 2147483647) : Row0 K a sc ns (upd H a (.lst [.ref sc, .int i, .int sd, .int gr])) :=
  ⟨i, sd, gr, upd_same, n, sql_o (ExB.at (ExB.refl a H)) n h, h1, h2, h3⟩
def spTaken (K : PySem.W.Frag) : Sp := fun vs H Q _ => ∃ (a sc : Addr) (ns : List Int) (many : Int), vs = [.ref a, .int many] ∧ Row0 K a sc ns H ∧ 1 ≤ many ∧ many ≤ 1000 ∧ ∀ (r : Int) H', 0 ≤ r → r < many → ExB a H H' → Row0 K a sc ns H' → Q (.int r) H'
theorem fmod_nn {a b : Int} (h : 0 < b) : a.fmod b = a % b := Int.fmod_eq_emod_of_nonneg _ (by omega)
theorem ok_taken {f : Addr} {fd : FuncData} (B : Bare mg) (F : Fun K "_law_taken" "_law_taken" s_law_taken f fd) : FnOk P w K mg base CX0 1 f fd p_law_taken (spTaken K) := by
  refine F.ok sc_law_taken (fun vs H Q E h => ?_) (fun cdv A outer s H vs Q E hr h => ?_)
  · obtain ⟨a, sc, ns, many, rfl, _⟩ := h
    rfl
  · obtain ⟨a, sc, ns, many, rfl, ⟨i, sd, gr, ha, na, hs, hi, hs0, hs1⟩, h1, h2, q⟩ := h
    have r0 : ∀ (H' : Hp) (xs : List V) (j : Nat) (v : V), H' a = some (.lst xs) → xs[j]? = some v → ∃ p ys z y, V.ref a = .ref p ∧ V.int (j : Int) = .int z ∧ SqL K H' p ys ∧ atI ys z = some y ∧ y = v := fun H' xs j v e1 e2 => ⟨a, xs, j, v, rfl, rfl, SqL.of e1, at_of rfl e2, rfl⟩
    refine ⟨_, pss_cons (ps_if (pt_cmpR op_gt (pe_ix ix_list (pv 0) pe_int (fun _ _ => rfl)) pe_int (nomark _))
        (pss_cons (ps_set (i := 2) sc_law_taken.nd rfl (Or.inl rfl) (pe_op op_modN (pe_callTy call_int1 (by rfl) B.int (by decide +kernel) (pa_cons (pe_ix ix_list (pv 0) pe_int (fun _ _ => rfl)) pa_nil)) (pv 1)))
        (pss_cons (ps_asg (pe_op op_fdivN (pe_ix ix_list (pv 0) pe_int (fun _ _ => rfl)) (pv 1)) (pg_sub (pv 0) pe_int set_list))
        (pss_one (ps_ret (pv 2))))) pss_nil)
      (pss_cons (ps_asg (pe_op op_add (pe_ix ix_list (pv 0) pe_int (fun _ _ => rfl)) pe_int) (pg_sub (pv 0) pe_int set_list))
      (pss_cons (ps_if (pt_cmpR op_gt (pe_ix ix_list (pv 0) pe_int (fun _ _ => rfl)) (pe_callB call_len_seq (by rfl) B.len PySem.boot_len (pa_cons (pe_ix ix_list (pv 0) pe_int (fun _ _ => rfl)) pa_nil)) (nomark _))
        (pss_cons (ps_asg (pe_op op_modN (pe_callTy call_int1 (by rfl) B.int (by decide +kernel) (pa_cons (pe_op op_add (pe_op op_mul (pe_ix ix_list (pv 0) pe_int (fun _ _ => rfl)) pe_int) pe_int) pa_nil)) pe_int) (pg_sub (pv 0) pe_int set_list))
        (pss_one (ps_ret (pe_op op_modN (pe_callTy call_int1 (by rfl) B.int (by decide +kernel) (pa_cons (pe_op op_fdivN (pe_ix ix_list (pv 0) pe_int (fun _ _ => rfl)) pe_int) pa_nil)) (pv 1))))) pss_nil)
      (pss_cons (ps_set (i := 3) sc_law_taken.nd rfl (Or.inl rfl) (pe_ix ix_list (pe_ix ix_list (pv 0) pe_int (fun _ _ => rfl)) (pe_op op_sub (pe_ix ix_list (pv 0) pe_int (fun _ _ => rfl)) pe_int) (fun _ _ => rfl)))
      (pss_cons (ps_asg (pe_op op_modN (pe_callTy call_int1 (by rfl) B.int (by decide +kernel) (pa_cons (pe_op op_add (pe_op op_add (pe_op op_mul (pe_ix ix_list (pv 0) pe_int (fun _ _ => rfl)) pe_int) (pv 3)) pe_int) pa_nil)) pe_int) (pg_sub (pv 0) pe_int set_list))
      (pss_cons (ps_if (pt_cmpR op_ge (pv 3) (pe_op op_pow pe_int pe_int) (nomark _)) (pss_one (ps_asg (pe_op op_fdivN (pv 3) (pv 1)) (pg_sub (pv 0) pe_int set_list))) pss_nil)
      (pss_one (ps_ret (pe_op op_modN (pe_callTy call_int1 (by rfl) B.int (by decide +kernel) (pa_cons (pv 3) pa_nil)) (pv 1))))))))), ?_⟩
    have S0 : ∀ {H' : Hp} {xs : List V}, H' a = some (.lst xs) → SqL K H' a xs := fun e => SqL.of e
    refine ⟨_, rfl, a, _, _, _, rfl, rfl, S0 ha, at_of (j := 3) rfl rfl, _, _, rfl, rfl, _, rfl, ite2 (fun c => ?_) (fun c => ?_)⟩
    · -- a great cell's rest
      refine ⟨_, rfl, a, _, _, _, rfl, rfl, S0 ha, at_of (j := 3) rfl rfl, .inl ⟨_, rfl, _, rfl, _, _, rfl, rfl, by omega, ?_⟩⟩
      refine ⟨_, rfl, a, _, _, _, rfl, rfl, S0 ha, at_of (j := 3) rfl rfl, _, rfl, _, _, rfl, rfl, ⟨by omega, by omega⟩, ?_⟩
      refine ⟨_, rfl, a, _, _, 3, rfl, rfl, ha, ixN_of (j := 3) rfl (by show 3 < 4; decide), _, rfl, ?_⟩
      have e1 : gr.fmod many = gr % many := fmod_nn (by omega)
      exact q _ _ (by rw [e1]; exact Int.emod_nonneg _ (by omega)) (by rw [e1]; exact Int.emod_lt_of_pos _ (by omega)) (ExB.at (ExB.refl a H)) (row0_new na hs hi hs0 hs1)
    · refine ⟨_, rfl, a, _, _, _, rfl, rfl, S0 ha, at_of (j := 1) rfl rfl, _, _, rfl, rfl, ?_⟩
      refine ⟨_, rfl, a, _, _, 1, rfl, rfl, ha, ixN_of (j := 1) rfl (by show 1 < 4; decide), ?_⟩
      have hb : ExB a H (upd H a (.lst [.ref sc, .int (i + 1), .int sd, .int gr])) := ExB.at (ExB.refl a H)
      have hs2 := sql_o hb na hs
      refine ⟨_, rfl, a, _, _, _, rfl, rfl, S0 upd_same, at_of (j := 1) rfl rfl, ?_⟩
      refine ⟨_, rfl, a, _, _, _, rfl, rfl, S0 upd_same, at_of (j := 0) rfl rfl, sc, _, rfl, .inl hs2, _, _, rfl, rfl, _, rfl, ite2 (fun d => ?_) (fun d => ?_)⟩
      · refine ⟨_, rfl, a, _, _, _, rfl, rfl, S0 upd_same, at_of (j := 2) rfl rfl, _, _, rfl, rfl, .inr ⟨by decide, by decide⟩, _, _, rfl, rfl, .inl ⟨_, rfl, _, _, rfl, rfl, (by show (2147483647 : Int) ≠ 0; decide), ?_⟩⟩
        refine ⟨_, rfl, a, _, _, 2, rfl, rfl, upd_same, ixN_of (j := 2) rfl (by show 2 < 4; decide), ?_⟩
        rw [upd_upd]
        refine ⟨_, rfl, a, _, _, _, rfl, rfl, S0 upd_same, at_of (j := 2) rfl rfl, _, _, rfl, rfl, ⟨by decide, by decide⟩, .inl ⟨_, rfl, _, rfl, _, _, rfl, rfl, by omega, ?_⟩⟩
        have e1 : ((sd * 48271 + 11).fmod 2147483647) = (sd * 48271 + 11) % 2147483647 := fmod_nn (by decide)
        have e2 : (((sd * 48271 + 11).fmod 2147483647).fdiv 7).fmod many = (((sd * 48271 + 11).fmod 2147483647).fdiv 7) % many := fmod_nn (by omega)
        have m0 := Int.emod_nonneg (sd * 48271 + 11) (show (2147483647 : Int) ≠ 0 by decide)
        have m1 := Int.emod_lt_of_pos (sd * 48271 + 11) (show (0 : Int) < 2147483647 by decide)
        exact q _ _ (by rw [e2]; exact Int.emod_nonneg _ (by omega)) (by rw [e2]; exact Int.emod_lt_of_pos _ (by omega)) (ExB.at (ExB.refl a H)) (row0_new na hs (by omega) (by rw [e1]; exact m0) (by rw [e1]; exact m1))
      · have d' : ¬ (((ns.map V.int).length : Int) < i + 1) := fun z => d (decide_eq_true z)
        rw [List.length_map] at d'
        have hj : i.toNat < ns.length := by omega
        have ej : i + 1 - 1 = ((i.toNat : Nat) : Int) := by omega
        refine ⟨_, rfl, a, _, _, _, rfl, rfl, S0 upd_same, at_of (j := 0) rfl rfl, _, rfl, a, _, _, _, rfl, rfl, S0 upd_same, at_of (j := 1) rfl rfl, _, _, rfl, rfl, sc, _, _, .int ns[i.toNat], rfl, rfl, hs2, at_of ej (by rw [List.getElem?_map, List.getElem?_eq_getElem hj]; rfl), ?_⟩
        generalize ns[i.toNat] = cell
        refine ⟨_, rfl, a, _, _, _, rfl, rfl, S0 upd_same, at_of (j := 2) rfl rfl, _, _, rfl, rfl, .inr ⟨by decide, by decide⟩, _, rfl, _, _, rfl, rfl, _, _, rfl, rfl, .inl ⟨_, rfl, _, _, rfl, rfl, (by show (2147483647 : Int) ≠ 0; decide), ?_⟩⟩
        refine ⟨_, rfl, a, _, _, 2, rfl, rfl, upd_same, ixN_of (j := 2) rfl (by show 2 < 4; decide), ?_⟩
        rw [upd_upd]
        have e1 : ((sd * 48271 + cell + 11).fmod 2147483647) = (sd * 48271 + cell + 11) % 2147483647 := fmod_nn (by decide)
        have m0 := Int.emod_nonneg (sd * 48271 + cell + 11) (show (2147483647 : Int) ≠ 0 by decide)
        have m1 := Int.emod_lt_of_pos (sd * 48271 + cell + 11) (show (0 : Int) < 2147483647 by decide)
        have e2 : cell.fmod many = cell % many := fmod_nn (by omega)
        have c0 := Int.emod_nonneg cell (show many ≠ 0 by omega)
        have c1 := Int.emod_lt_of_pos cell (show 0 < many by omega)
        refine ⟨_, rfl, _, _, rfl, rfl, ⟨by decide, by decide, by decide⟩, _, _, rfl, rfl, _, rfl, ite2 (fun k => ?_) (fun k => ?_)⟩
        · refine ⟨_, rfl, _, rfl, _, _, rfl, rfl, ⟨by omega, by omega⟩, ?_⟩
          refine ⟨_, rfl, a, _, _, 3, rfl, rfl, upd_same, ixN_of (j := 3) rfl (by show 3 < 4; decide), ?_⟩
          rw [upd_upd]
          refine ⟨_, rfl, .inl ⟨_, rfl, _, rfl, _, _, rfl, rfl, by omega, ?_⟩⟩
          exact q _ _ (by rw [e2]; exact c0) (by rw [e2]; exact c1) (ExB.at (ExB.refl a H)) (row0_new na hs (by omega) (by rw [e1]; exact m0) (by rw [e1]; exact m1))
        · refine ⟨_, rfl, .inl ⟨_, rfl, _, rfl, _, _, rfl, rfl, by omega, ?_⟩⟩
          exact q _ _ (by rw [e2]; exact c0) (by rw [e2]; exact c1) (ExB.at (ExB.refl a H)) (row0_new na hs (by omega) (by rw [e1]; exact m0) (by rw [e1]; exact m1))
def spPick (K : PySem.W.Frag) : Sp := fun vs H Q _ => ∃ (a t sc : Addr) (ns : List Int) (xs : List V), vs = [.ref a, .ref t] ∧ Row0 K a sc ns H ∧ t ≠ a ∧ SqL K H t xs ∧ 1 ≤ xs.length ∧ xs.length ≤ 1000 ∧ ∀ (j : Nat) (v : V) H', xs[j]? = some v → ExB a H H' → Row0 K a sc ns H' → Q v H'
theorem ok_pick {f : Addr} {fd : FuncData} (B : Bare mg) (F : Fun K "_law_pick" "_law_pick" s_law_pick f fd) (Gt : Got P w K mg base CX0 1 "_law_taken" p_law_taken (spTaken K)) : FnOk P w K mg base CX0 2 f fd p_law_pick (spPick K) := by
  refine F.ok sc_law_pick (fun vs H Q E h => ?_) (fun cdv A outer s H vs Q E hr h => ?_)
  · obtain ⟨a, t, sc, ns, xs, rfl, _⟩ := h
    rfl
  · obtain ⟨a, t, sc, ns, xs, rfl, ha, nt, ht, h1, h2, q⟩ := h
    refine ⟨_, pss_one (ps_ret (pe_ix ix_list (pv 1) (pe_got Gt hr pass0 (pa_cons (pv 0) (pa_cons (pe_callB call_len_seq (by rfl) B.len PySem.boot_len (pa_cons (pv 1) pa_nil)) pa_nil))) (fun _ _ => rfl))), ?_⟩
    refine ⟨_, rfl, _, rfl, _, rfl, t, xs, rfl, .inl ht, a, sc, ns, _, rfl, ha, by omega, by omega, fun r H' r0 r1 e hr' => ?_⟩
    have hj : r.toNat < xs.length := by omega
    exact ⟨t, xs, r, xs[r.toNat], rfl, rfl, sql_b e nt ht, at_of (j := r.toNat) (by omega) (List.getElem?_eq_getElem hj), q _ _ _ (List.getElem?_eq_getElem hj) e hr'⟩
/-- a comprehension over a range in which the drawer's row turns -/
theorem lc_row {a sc : Addr} {ns : List Int} {n : Nat} {g : TG} {tt : TT} {te : TE} {vs : List Nat} {σ : L2.St} {H : Hp} {Qd : Addr → Hp → Prop} (hn : n ≤ 40000) (h0 : Row0 K a sc ns H) (R : V → Hp → Prop) (stb : Stb R)
    (turn : ∀ i x H1, i < n → x = .int (0 + (i : Int)) → ExB a H H1 → Row0 K a sc ns H1 → ∀ (C : V → Hp → Prop) (N : Hp → Prop), (∀ y H3, ExB a H1 H3 → Row0 K a sc ns H3 → R y H3 → C y H3) →
      g x (wipe σ vs) H1 fun σ2 H2' => wipe σ2 vs = wipe σ vs ∧ tt σ2 H2' fun b H3 => if b = true then te σ2 H3 C else N H3)
    (q : ∀ D ys H', H D = none → ExB a H H' → Row0 K a sc ns H' → H' D = some (.lst ys) → ys.length = n → (∀ y ∈ ys, R y H') → Qd D H') :
    ∀ D, H D = none → ∃ W : Nat → Nat → Hp → Prop, (∃ m, W 0 m (upd H D (.lst []))) ∧ ∀ i m H, W i m H →
      ((Itr 0 n).stop i H ∧ Qd D H) ∨ ((Itr 0 n).go i H ∧ ∃ Nx : Hp → Prop, (∀ H', Nx H' → ∃ m', m' < m ∧ W (i + 1) m' H') ∧ ∀ x H', (Itr 0 n).yld i H x H' → g x (wipe σ vs) H' fun σ2 H2 => wipe σ2 vs = wipe σ vs ∧ tt σ2 H2 fun b H3 =>
        if b = true then te σ2 H3 fun y H4 => ∃ acc, H4 D = some (.lst acc) ∧ acc.length < sizeLine ∧ Nx (upd H4 D (.lst (acc ++ [y]))) else Nx H3) := by
  intro D hD
  have haD : D ≠ a := fun z => by
    obtain ⟨i, sd, gr, h1, _⟩ := h0
    rw [z, h1] at hD
    cases hD
  have keep : ∀ {H1 : Hp} {o : HO}, ExB a H H1 → Row0 K a sc ns H1 → Row0 K a sc ns (upd H1 D o) := fun {H1 o} e hr => by
    obtain ⟨i, sd, gr, h1, h2, h3, h4⟩ := hr
    obtain ⟨_, _, _, _, n0, s0, _⟩ := h0
    exact ⟨i, sd, gr, by rw [upd_ne haD.symm]; exact h1, h2, sql_o (ExB.new e hD) n0 s0, h4⟩
  refine lc_it (walk_range (lo := 0) (n := n)) (Qd := Qd D) (fun i H' => ExB a H H' ∧ Row0 K a sc ns H' ∧ ∃ ys, H' D = some (.lst ys) ∧ ys.length = i ∧ ∀ y ∈ ys, R y H') ⟨ExB.new (ExB.refl a H) hD, keep (ExB.refl a H) h0, [], upd_same, rfl, by simp⟩
    (fun _ _ _ _ => trivial) (fun i x H1 H2 hi p y => ?_) fun H' p => ?_
  · obtain ⟨e1, hr1, ys, hy, hl, hR⟩ := p
    obtain ⟨rfl, ex⟩ := y
    refine turn i x H2 hi ex e1 hr1 _ _ fun y H3 e3 hr3 r => ?_
    have h3 := e3 D _ haD hy
    have up : ExN H3 (upd H3 D (.lst (ys ++ [y]))) := fun b o h nl => by
      rw [upd_ne (fun z => by rw [z, h3] at h; exact nl ys (Option.some.inj h).symm)]
      exact h
    refine ⟨ys, h3, _root_.Evl.sz_lt (by omega), ExB.new (e1.trans e3) hD, keep (e1.trans e3) hr3, ys ++ [y], upd_same, by rw [List.length_append, List.length_singleton, hl], fun z hz => ?_⟩
    rcases List.mem_append.mp hz with hz | hz
    · exact stb _ _ _ up (stb _ _ _ (Row0.n hr1 e3) (hR z hz))
    · rw [List.mem_singleton.mp hz]
      exact stb _ _ _ up r
  · obtain ⟨e1, hr1, ys, hy, hl, hR⟩ := p
    exact q D ys H' hD e1 hr1 hy hl hR
end
end K01


set_option Elab.async false
set_option linter.all false
set_option maxRecDepth 100000
set_option maxHeartbeats 4000000
/-! a tuple times 1 is itself -/
namespace K01
open PySem PySem.Spec PyProof.Rows L2
theorem tup_mul1 (l : Addr) (items : Array Value) (n : Nat) (dd : Option Addr) (sl : Array (Option Value)) (u : Tok) :
    Meets (Builtin.«tuple.__mul__» ⟨[.ref l, .int 1 u], []⟩) (fun _ R s => s.heap.get? l = some { cls := .type "tuple", dict := dd, data := .seq items n, slots := sl } ∧ R (.ok (.ret (Value.ref l))) s) :=
  .of_wp fun prog w A R s hh => by
    obtain ⟨hp, gg, dd0, tt, oo⟩ := s
    obtain ⟨hl, hR⟩ := hh
    have ff := AutoSeq1.idx_int
    wp_walk using wpAny_loadPart' hl
    all_goals first | exact ⟨_, rfl, hR⟩ | skip
/-- a tuple times 1 up to 1000 -/
def rRepA (K : PySem.W.Frag) : R2 := fun x y H Q => ∃ l k xs, x = .ref l ∧ y = .int k ∧ SqT K H l xs ∧ xs ≠ [] ∧ 1 ≤ k ∧ k ≤ 1000 ∧ xs.length ≤ 1000 ∧ ∀ p H', Ex H H' → SqT K H' p (List.replicate k.toNat xs).flatten → Q (.ref p) H'
theorem op_repA {X : Cx} : OpR X (binaryOp .Mult) (rRepA X.K) := by
  intro pins s σ H x y v u Q I rx ry hh
  obtain ⟨l, k, xs, rfl, rfl, hT, hne, h1, h2, hz, q⟩ := hh
  by_cases hk : 2 ≤ k
  · exact op_repT pins s σ H _ _ v u Q I rx ry ⟨l, k, xs, rfl, rfl, hT, hne, hk, h2, hz, fun p hp => q p _ (_root_.Evl.Ex.new hp) (SqT.of upd_same)⟩
  · have e : k = 1 := by omega
    subst e
    cases rx
    obtain ⟨t, rfl⟩ := ry
    obtain ⟨its, r, ⟨⟨cls, dd, data, sl⟩, ho, hc, n, hd⟩, hs⟩ := I.tuple hT
    simp only at hc hd
    subst hc hd
    refine wpAny_binaryOp_repeat_ref (T := "tuple") (U := "int") (by decide) ⟨_, ho, rfl⟩ (fun s' => typeIs_int s' 1 t) noFill_tuple_mul F.fills_int_mul F.slot_int_rmul repeat_tuple F.slot_int_index.lookup
      (call_meets F.slot_int_rmul (typeIs_int s 1 t) F.entry_int_rmul (F.args_int_rmul_2 _ _) (int_rmul_tuple 1 t l its.toArray n dd sl)
        ⟨ho, rfl, ⟨_, ho, rfl⟩, call_meets F.slot_tuple_mul ⟨_, ho, rfl⟩ F.entry_tuple_mul (F.args_tuple_mul_2 _ _) (tup_mul1 l its.toArray n dd sl t) ⟨ho, ?_⟩⟩)
    refine ⟨.ref l, H, I, rfl, q l H (_root_.Evl.Ex.refl H) ?_⟩
    have : (List.replicate (1 : Int).toNat xs).flatten = xs := by simp
    rw [this]
    exact hT
end K01


set_option Elab.async false
set_option linter.all false
set_option maxRecDepth 100000
set_option maxHeartbeats 4000000
namespace K01
open PySem PySem.Spec PyProof.Rows L2
theorem ints_of_all {p : Int} : ∀ {ys : List V}, (∀ y ∈ ys, ∃ x : Int, y = .int x ∧ 0 ≤ x ∧ x < p) → ∃ r : Row, ys = r.map V.int ∧ ∀ x ∈ r, 0 ≤ x ∧ x < p
  | [], _ => ⟨[], rfl, by simp⟩
  | y :: l, h => by
    obtain ⟨x, rfl, hx⟩ := h y List.mem_cons_self
    obtain ⟨r, e, hr⟩ := ints_of_all fun z hz => h z (List.mem_cons_of_mem _ hz)
    exact ⟨x :: r, by rw [e]; rfl, fun z hz => by
      rcases List.mem_cons.mp hz with q | q
      · rw [q]; exact hx
      · exact hr z q⟩
section
variable {P : Program} {w : World} {K : PySem.W.Frag} {mg : Str → Option Value} {base : Heap}
def spRow (K : PySem.W.Frag) : Sp := fun vs H Q _ => ∃ (a sc : Addr) (ns : List Int) (p : Int) (n : Nat), vs = [.ref a, .int p, .int (n : Nat)] ∧ Row0 K a sc ns H ∧ 1 < p ∧ p ≤ 100 ∧ n ≤ 100 ∧ ∀ v H', ExB a H H' → Row0 K a sc ns H' → (∃ r, RowT K r v H' ∧ Lin.OkR p n r) → Q v H'
theorem ok_row {f : Addr} {fd : FuncData} (B : Bare mg) (F : Fun K "_law_row" "_law_row" s_law_row f fd) (Gt : Got P w K mg base CX0 1 "_law_taken" p_law_taken (spTaken K)) : FnOk P w K mg base CX0 2 f fd p_law_row (spRow K) := by
  refine F.ok sc_law_row (fun vs H Q E h => ?_) (fun cdv A outer s H vs Q E hr h => ?_)
  · obtain ⟨a, sc, ns, p, n, rfl, _⟩ := h
    rfl
  · obtain ⟨a, sc, ns, p, n, rfl, ha, h1, h2, hn, q⟩ := h
    refine ⟨_, pss_one (ps_ret (pe_callTy call_tuple_of (by rfl) B.tuple (by decide +kernel) (pa_cons (pe_lc (own := [("place", 3)]) (g := gName 3) (tt := tYes) rfl sc_law_row.nd (pi_range1 rfl B.range (pa_cons (pv 2) pa_nil)) (blkOk_by (N := n_law_row) (sc := defScope s_law_row) (by decide +kernel))
      (fun _ _ _ _ _ => pg_name (i := 3) sc_law_row.nd rfl (Or.inl rfl)) (fun _ _ _ _ _ => pts_nil)
      (fun _ _ _ _ _ => pe_ifExp (pt_cmpR op_gt (pe_got Gt hr pass0 (pa_cons (pv 0) (pa_cons pe_int pa_nil))) pe_int (nomark _)) (pe_got Gt hr pass0 (pa_cons (pv 0) (pa_cons (pv 1) pa_nil))) pe_int)) pa_nil))), ?_⟩
    refine ⟨_, rfl, _, rfl, by omega, by omega, ?_⟩
    refine lc_row (a := a) (n := (n : Int).toNat) (by omega) ha (fun y _ => ∃ x : Int, y = .int x ∧ 0 ≤ x ∧ x < p) (fun _ _ _ _ h => h) (fun i x H1 hi ex e1 hr1 C N hC => ?_) fun D ys H' nD e hr' hD hl hy => ?_
    · subst ex
      refine ⟨rfl, yes_go ⟨_, rfl, a, sc, ns, 3, rfl, hr1, by decide, by decide, fun z H2 z0 z1 e2 hr2 => ?_⟩⟩
      refine ⟨_, _, rfl, rfl, _, rfl, ite2 (fun c => ?_) (fun c => ?_)⟩
      · refine ⟨_, rfl, _, rfl, a, sc, ns, p, rfl, hr2, by omega, by omega, fun z2 H3 y0 y1 e3 hr3 => hC _ _ (e2.trans e3) hr3 ⟨z2, rfl, y0, y1⟩⟩
      · exact hC _ _ e2 hr2 ⟨0, rfl, by omega, by omega⟩
    · obtain ⟨r, er, hr⟩ := ints_of_all hy
      subst er
      refine ⟨D, _, rfl, .inl ⟨SqL.of hD, fun l nl => ?_⟩⟩
      refine q _ _ (ExB.lay e nl) (hr'.ex (_root_.Evl.Ex.new nl)) ⟨r, RowT.new upd_same, ?_, hr⟩
      rw [List.length_map] at hl
      omega
def spSize : Sp := fun vs H Q _ => ∃ (p : Int) (k : Nat), vs = [.int p, .int ((p.toNat ^ k : Nat) : Int)] ∧ 1 < p ∧ p ≤ 100 ∧ k ≤ 20 ∧ Ret (IsV (.int (k : Nat))) H Q
/-- rows in a list of the heap -/
def RowsH (K : PySem.W.Frag) (rs : List Row) (v : V) (H : Hp) : Prop := ∃ l xs, v = .ref l ∧ H l = some (.lst xs) ∧ Paired (fun x r => RowT K r x H) xs rs
theorem RowsH.ex {rs : List Row} {v : V} {H H' : Hp} (e : Ex H H') (h : RowsH K rs v H) : RowsH K rs v H' := by
  obtain ⟨l, xs, z, h1, p⟩ := h
  exact ⟨l, xs, z, e _ _ h1, pr_mono p fun _ _ x => x.ex e⟩
theorem RowsH.l {rs : List Row} {v : V} {H : Hp} (h : RowsH K rs v H) : RowsL K rs v H := by
  obtain ⟨l, xs, z, h1, p⟩ := h
  exact ⟨l, xs, z, SqL.of h1, p⟩
theorem rowsH_cat {rs rs' : List Row} {v v' : V} {H : Hp} {Q : VK} (h : RowsH K rs v H) (h' : RowsH K rs' v' H) (hz : rs.length + rs'.length ≤ 10000) (k : ∀ z H', Ex H H' → RowsH K (rs ++ rs') z H' → Q z H') : rCat v v' H Q := by
  obtain ⟨l, xs, rfl, h1, p⟩ := h
  obtain ⟨l', xs', rfl, h1', p'⟩ := h'
  refine ⟨l, l', xs, xs', rfl, rfl, h1, h1', ?_, fun t nt => ?_⟩
  · rw [pr_len p, pr_len p']
    exact Nat.le_trans hz (by decide)
  · have e : Ex H (upd H t (.lst (xs ++ xs'))) := _root_.Evl.Ex.new nt
    exact k _ _ e ⟨t, _, rfl, upd_same, pr_app (pr_mono p fun _ _ x => x.ex e) (pr_mono p' fun _ _ x => x.ex e)⟩
theorem rowsH_new {ys : List V} {rs : List Row} {D : Addr} {H : Hp} (hD : H D = some (.lst ys)) (hy : Paired (fun y r => RowT K r y H) ys rs) : RowsH K rs (.ref D) H := ⟨D, ys, rfl, hD, hy⟩
def spRows (K : PySem.W.Frag) : Sp := fun vs H Q _ => ∃ (p : Int) (n : Nat), vs = [.int p, .int (n : Nat)] ∧ 1 < p ∧ p ≤ 100 ∧ n ≤ 100 ∧ p.toNat ^ n ≤ 1000 ∧ Ret (RowsL K (Lin.allRows p n)) H Q
theorem take_flat {α β : Type} {xs : List α} {f : α → List β} {i : Nat} {x : α} (h : xs[i]? = some x) : (xs.take (i + 1)).flatMap f = (xs.take i).flatMap f ++ f x := by
  rw [List.take_add_one, h, List.flatMap_append]
  simp
theorem flat_take_len {α β : Type} (xs : List α) (f : α → List β) (i : Nat) : ((xs.take i).flatMap f).length ≤ (xs.flatMap f).length := by
  have e : xs = xs.take i ++ xs.drop i := (List.take_append_drop i xs).symm
  conv => rhs; rw [e, List.flatMap_append, List.length_append]
  omega
end
end K01


set_option Elab.async false
set_option linter.all false
set_option maxRecDepth 100000
set_option maxHeartbeats 4000000
namespace K01
open PySem PySem.Spec PyProof.Rows L2
def rowD (r : Row) : PyData := .tuple (r.map PyData.int)
theorem rowD_shaped (r : Row) : SeqAt.shaped (rowD r) = true := by
  simp [rowD, SeqAt.shaped, PyData.canLay0, PyData.depth, PySem.W.ke_canLayAll0, PySem.W.ke_depthAll]
theorem rowsD_lay : ∀ rs : List Row, PyData.canLayAll0 (rs.map rowD) = true
  | [] => rfl
  | r :: l => by simp [PyData.canLayAll0, rowD, PyData.canLay0, PySem.W.ke_canLayAll0, rowsD_lay l]
theorem rowsD_depth : ∀ rs : List Row, PyData.depthAll (rs.map rowD) ≤ 1
  | [] => by simp [PyData.depthAll]
  | r :: l => by
    have := rowsD_depth l
    simp only [List.map_cons, PyData.depthAll, rowD, PyData.depth, PySem.W.ke_depthAll]
    omega
theorem rowsD_shaped (rs : List Row) : SeqAt.shaped (.list (rs.map rowD)) = true := by
  have := rowsD_depth rs
  unfold SeqAt.shaped
  rw [PyData.canLay0, PyData.depth, rowsD_lay, Bool.true_and, decide_eq_true_eq]
  omega
theorem rowsD_any (one : Row) : ∀ rs : List Row, (rs.map rowD).any (fun z => PyData.eqv z (rowD one)) = decide (one ∈ rs)
  | [] => by simp
  | r :: l => by
    have e : PyData.eqv (rowD r) (rowD one) = decide (r = one) := by
      unfold rowD
      rw [PyData.eqv, PySem.W.ked_eqvAll]
    rw [List.map_cons, List.any_cons, rowsD_any one l, e]
    by_cases h : r = one <;> by_cases h2 : one ∈ l <;> simp [h, h2]
    exact fun z => h z.symm
theorem pr_perm {α β : Type} {F : α → β → Prop} {xs : List α} {rs : List β} (h : Paired F xs rs) {ys : List α} (p : ys.Perm xs) : ∃ ss : List β, Paired F ys ss ∧ ss.Perm rs := by
  induction p generalizing rs with
  | nil => cases h; exact ⟨[], .nil, .nil⟩
  | cons a _ ih =>
    cases h with
    | cons r t =>
      obtain ⟨ss, h1, h2⟩ := ih t
      exact ⟨_, .cons r h1, h2.cons _⟩
  | swap a b l =>
    cases h with
    | cons r t =>
      cases t with
      | cons r2 t2 => exact ⟨_, .cons r2 (.cons r t2), .swap _ _ _⟩
  | trans p1 p2 ih1 ih2 =>
    obtain ⟨s2, h1, h2⟩ := ih2 h
    obtain ⟨s1, h3, h4⟩ := ih1 h1
    exact ⟨s1, h3, h4.trans h2⟩
section
variable {P : Program} {w : World} {K : PySem.W.Frag} {mg : Str → Option Value} {base : Heap}
theorem dpAll_ints {H : Hp} : ∀ ns : List Int, DpAll K H (ns.map V.int) (ns.map PyData.int)
  | [] => .nil
  | n :: l => .cons (.int _) (dpAll_ints l)
theorem rowD_dp {r : Row} {v : V} {H : Hp} (h : RowT K r v H) : Dp K H v (rowD r) := by
  obtain ⟨a, rfl, hq⟩ := h
  exact .tup hq (dpAll_ints r)
theorem rowsD_dp {rs : List Row} {xs : List V} {H : Hp} (h : Paired (fun x r => RowT K r x H) xs rs) : DpAll K H xs (rs.map rowD) := by
  induction h with
  | nil => exact .nil
  | cons r _ ih => exact .cons (rowD_dp r) ih
theorem flat_one (n : Nat) : (List.replicate n [V.int 0]).flatten = (Lin.zero n).map V.int := by
  unfold Lin.zero
  induction n with
  | zero => rfl
  | succ n ih => rw [List.replicate_succ, List.flatten_cons, ih, List.replicate_succ, List.map_cons]; rfl
def LotL (K : PySem.W.Frag) (p : Int) (n : Nat) (R : List Row) (v : V) (H : Hp) : Prop := ∃ L, RowsL K L v H ∧ Lin.Lot p n R L
def spSpan (K : PySem.W.Frag) : Sp := fun vs H Q _ => ∃ (p : Int) (n : Nat) (v : V) (R : List Row), vs = [.int p, v, .int (n : Nat)] ∧ RowsT K R v H ∧ 1 < p ∧ p ≤ 100 ∧ 1 ≤ n ∧ n ≤ 100 ∧ p.toNat ^ n < 64 ∧ Lin.Prm p ∧ Lin.Oks p n R ∧ Ret (LotL K p n R) H Q
theorem lot_small {p : Int} {n : Nat} {R L : List Row} (hp : 1 < p) (hn : p.toNat ^ n < 64) (o : Lin.Oks p n R) (l : Lin.Lot p n R L) : L.length < 64 ∧ ∀ r ∈ L, Lin.OkR p n r := by
  have ok : ∀ r ∈ L, Lin.OkR p n r := fun r hr => ((l.mem r).1 hr).ok (by omega) o
  refine ⟨?_, ok⟩
  have := Lin.nd_len (ys := Lin.allRows p n) l.nd fun r hr => (Lin.mem_all (by omega)).2 (ok r hr)
  rw [Lin.all_len] at this
  omega
theorem un65 {k : Nat} {A : Around} (r : Room k A) : A.units + 65 < cLine := by have := r.un; omega
end
end K01


set_option Elab.async false
set_option linter.all false
set_option maxRecDepth 100000
set_option maxHeartbeats 4000000
namespace K01
open PySem PySem.Spec PyProof.Rows L2
theorem ones_eq (xs : List V) (n : Nat) (h : xs = List.replicate n (V.int 1)) : xs = (List.replicate n (1 : Int)).map V.int := by
  rw [h, List.map_replicate]
theorem eqv_nil (ns : List Int) : PyData.eqv (.list (ns.map PyData.int)) (.list []) = decide (ns = []) := by
  rw [PyData.eqv]
  exact PySem.W.ked_eqvAll ns []
theorem pr_const {α β : Type} {F : α → β → Prop} {c : α} {xs : List α} {ys : List β} (h : Paired F xs ys) (i : ∀ a b, F a b → a = c) : xs = List.replicate ys.length c := by
  induction h with
  | nil => rfl
  | cons r _ ih => rw [i _ _ r, ih]; rfl
theorem flat_le {α β : Type} {xs : List α} {f : α → List β} {k : Nat} (h : ∀ x ∈ xs, (f x).length ≤ k) : (xs.flatMap f).length ≤ xs.length * k := by
  induction xs with
  | nil => simp
  | cons a l ih =>
    have h1 := h a List.mem_cons_self
    have h2 := ih fun x hx => h x (List.mem_cons_of_mem _ hx)
    rw [List.flatMap_cons, List.length_append, List.length_cons, Nat.succ_mul]
    omega
section
variable {P : Program} {w : World} {K : PySem.W.Frag} {mg : Str → Option Value} {base : Heap}
def LawStair (K : PySem.W.Frag) (L : List Row) (v : V) (H : Hp) : Prop := ∃ leads : List Nat, leads.Pairwise (· < ·) ∧ (∀ a, a ∈ leads ↔ a ∈ (Lin.lawRows L).map Lin.lead) ∧ RowsT K (Lin.lawStairs leads L) v H
def spLStairs (K : PySem.W.Frag) : Sp := fun vs H Q _ => ∃ (p : Int) (n : Nat) (v : V) (L : List Row), vs = [.int p, v] ∧ RowsL K L v H ∧ 1 < p ∧ p ≤ 100 ∧ 1 ≤ n ∧ n ≤ 100 ∧ L.length < 64 ∧ (∀ r ∈ L, Lin.OkR p n r) ∧ Ret (LawStair K L) H Q
end
end K01


set_option Elab.async false
set_option linter.all false
set_option maxRecDepth 100000
set_option maxHeartbeats 4000000
namespace K01
open PySem PySem.Spec PyProof.Rows L2
/-- data of one shape and one content: whole numbers, tuples of such -/
def AlikeV (K : PySem.W.Frag) : Nat → V → V → Hp → Prop
  | 0, x, y, _ => ∃ i : Int, x = .int i ∧ y = .int i
  | k + 1, x, y, H => (∃ i : Int, x = .int i ∧ y = .int i) ∨ ∃ a b xs ys, x = .ref a ∧ y = .ref b ∧ SqT K H a xs ∧ SqT K H b ys ∧ xs.length = ys.length ∧ ys.length ≤ 1000 ∧ ∀ (i : Nat) (u v : V), xs[i]? = some u → ys[i]? = some v → AlikeV K k u v H
theorem AlikeV.ex {K : PySem.W.Frag} {H H' : Hp} (e : Ex H H') : ∀ {k : Nat} {x y : V}, AlikeV K k x y H → AlikeV K k x y H'
  | 0, _, _, h => h
  | k + 1, _, _, h => by
    rcases h with h | ⟨a, b, xs, ys, h1, h2, h3, h4, h5, h6, h7⟩
    · exact .inl h
    · exact .inr ⟨a, b, xs, ys, h1, h2, _root_.Evl.ex_t e h3, _root_.Evl.ex_t e h4, h5, h6, fun i u v e1 e2 => AlikeV.ex e (h7 i u v e1 e2)⟩
def spAlike (K : PySem.W.Frag) (k : Nat) : Sp := fun vs H Q _ => ∃ x y, vs = [x, y] ∧ AlikeV K k x y H ∧ Ret (IsV (.bl true)) H Q
def spA (K : PySem.W.Frag) : Nat → Sp
  | 0 => fun _ _ _ _ => False
  | k + 1 => spAlike K k
section
variable {P : Program} {w : World} {K : PySem.W.Frag} {mg : Str → Option Value} {base : Heap}
theorem any_int : PySem.W.kitAny K (.type "int") [.type "tuple", .type "list"] = some false := kitAny_cons (b := false) (kit_ty (by decide +kernel)) (fun _ => kitAny_cons (b := false) (kit_ty (by decide +kernel)) (fun _ => kitAny_nil) (fun z => nomatch z)) (fun z => nomatch z)
theorem any_tup : PySem.W.kitAny K (.type "tuple") [.type "tuple", .type "list"] = some true := kitAny_cons (b := true) (kit_ty (by decide +kernel)) (fun z => nomatch z) (fun _ => rfl)
theorem ok_alike0 {f : Addr} {fd : FuncData} : FnOk P w K mg base CX0 0 f fd p_law_alike (spA K 0) := ⟨fun _ _ _ _ h => h.elim, fun _ _ _ _ _ _ _ _ _ _ _ _ _ h => h.elim⟩
theorem ok_alike {f : Addr} {fd : FuncData} (B : Bare mg) (F : Fun K "_law_alike" "_law_alike" s_law_alike f fd) (k : Nat) (Gs : Got P w K mg base CX0 k "_law_alike" p_law_alike (spA K k)) : FnOk P w K mg base CX0 (k + 1) f fd p_law_alike (spAlike K k) := by
  refine F.ok sc_law_alike (fun vs H Q E h => ?_) (fun cdv A outer s H vs Q E hr h => ?_)
  · obtain ⟨x, y, rfl, _⟩ := h
    rfl
  · obtain ⟨x, y, rfl, hal, q⟩ := h
    have hr1 : Room k _ := hr
    refine ⟨_, pss_cons (ps_if (pt_val (pe_callB call_isiT (by rfl) B.isinstance (by decide +kernel) (pa_cons (pv 1) (pa_cons (pe_tup (pa_cons (pe_bltn (v := .ty "tuple") (by rfl) B.tuple (by decide +kernel) rfl) (pa_cons (pe_bltn (v := .ty "list") (by rfl) B.list (by decide +kernel) rfl) pa_nil))) pa_nil))))
        (pss_cons (ps_if (PW.pt (pw_or (pt_not (pt_val (pe_callB call_isiT (by rfl) B.isinstance (by decide +kernel) (pa_cons (pv 0) (pa_cons (pe_tup (pa_cons (pe_bltn (v := .ty "tuple") (by rfl) B.tuple (by decide +kernel) rfl) (pa_cons (pe_bltn (v := .ty "list") (by rfl) B.list (by decide +kernel) rfl) pa_nil))) pa_nil)))))
            (pw_or1 (pt_cmpR op_ne (pe_callB call_isi (by rfl) B.isinstance (by decide +kernel) (pa_cons (pv 0) (pa_cons (pe_bltn (v := .ty "list") (by rfl) B.list (by decide +kernel) rfl) pa_nil))) (pe_callB call_isi (by rfl) B.isinstance (by decide +kernel) (pa_cons (pv 1) (pa_cons (pe_bltn (v := .ty "list") (by rfl) B.list (by decide +kernel) rfl) pa_nil))) rfl))))
            (pss_one (ps_ret pe_bl)) pss_nil)
        (pss_cons (ps_if (pt_cmpR op_ne (pe_callB call_len_seq (by rfl) B.len PySem.boot_len (pa_cons (pv 0) pa_nil)) (pe_callB call_len_seq (by rfl) B.len PySem.boot_len (pa_cons (pv 1) pa_nil)) rfl) (pss_one (ps_ret pe_bl)) pss_nil)
        (pss_one (ps_ret (pe_cmpR (op_eqD hr.units) (pe_lc (own := [("k", 2)]) (g := gName 2) rfl sc_law_alike.nd (pi_range1 rfl B.range (pa_cons (pe_callB call_len_seq (by rfl) B.len PySem.boot_len (pa_cons (pv 1) pa_nil)) pa_nil)) (blkOk_by (N := n_law_alike) (sc := defScope s_law_alike) (by decide +kernel)) (fun _ _ _ _ _ => pg_name (i := 2) sc_law_alike.nd rfl (Or.inl rfl))
          (fun _ _ _ _ _ => pts_one (pt_not (pt_val (pe_got Gs hr1 pass0 (pa_cons (pe_ix (show IxR _ (rIxT K) from ix_tup) (pv 0) (pv 2) (fun _ _ => rfl)) (pa_cons (pe_ix (show IxR _ (rIxT K) from ix_tup) (pv 1) (pv 2) (fun _ _ => rfl)) pa_nil)))))) (fun _ _ _ _ _ => pv 2)) (pe_lst pa_nil) (nomark _)))))) pss_nil)
      (pss_cons (ps_if (PW.pt (pw_or (pt_cmp (pc_isN (pv 1))) (pw_or1 (pt_val (pe_callB call_isi (by rfl) B.isinstance (by decide +kernel) (pa_cons (pv 1) (pa_cons (pe_bltn (v := .ty "str") (by rfl) B.str (by decide +kernel) rfl) pa_nil)))))))
        (pss_one (ps_ret (pe_and (pe_cmpR op_eq (pv 0) (pv 1) rfl) (pe_one (pe_cmpR op_eq (pe_callB call_isi (by rfl) B.isinstance (by decide +kernel) (pa_cons (pv 0) (pa_cons (pe_bltn (v := .ty "str") (by rfl) B.str (by decide +kernel) rfl) pa_nil))) (pe_callB call_isi (by rfl) B.isinstance (by decide +kernel) (pa_cons (pv 1) (pa_cons (pe_bltn (v := .ty "str") (by rfl) B.str (by decide +kernel) rfl) pa_nil))) rfl))))) pss_nil)
      (pss_one (ps_ret (pe_and (pe_callB call_isi (by rfl) B.isinstance (by decide +kernel) (pa_cons (pv 0) (pa_cons (pe_bltn (v := .ty "int") (by rfl) B.int (by decide +kernel) rfl) pa_nil)))
        (pe_and (pe_cmpR op_eq (pe_callB call_isi (by rfl) B.isinstance (by decide +kernel) (pa_cons (pv 0) (pa_cons (pe_bltn (v := .ty "bool") (by rfl) B.bool (by decide +kernel) rfl) pa_nil))) (pe_callB call_isi (by rfl) B.isinstance (by decide +kernel) (pa_cons (pv 1) (pa_cons (pe_bltn (v := .ty "bool") (by rfl) B.bool (by decide +kernel) rfl) pa_nil))) rfl)
          (pe_one (pe_cmpR op_eq (pv 0) (pv 1) rfl))))))), ?_⟩
    have hh : (∃ i : Int, x = .int i ∧ y = .int i) ∨ ∃ j a b xs ys, k = j + 1 ∧ x = .ref a ∧ y = .ref b ∧ SqT K H a xs ∧ SqT K H b ys ∧ xs.length = ys.length ∧ ys.length ≤ 1000 ∧ ∀ (i : Nat) (u v : V), xs[i]? = some u → ys[i]? = some v → AlikeV K j u v H := by
      cases k with
      | zero => exact .inl hal
      | succ j =>
        rcases hal with h | ⟨a, b, xs, ys, h⟩
        · exact .inl h
        · exact .inr ⟨j, a, b, xs, ys, rfl, h⟩
    have two : Paired ClsV [V.ty "tuple", V.ty "list"] [.type "tuple", .type "list"] := .cons (.ty _) (.cons (.ty _) .nil)
    rcases hh with ⟨i, rfl, rfl⟩ | ⟨j, a, b, xs, ys, rfl, rfl, rfl, ha, hb, hl, hz, hi⟩
    · refine ⟨_, rfl, (by show 2 ≤ sizeLine; decide), fun tp np => ?_⟩
      refine ⟨.int i, tp, _, .type "int", _, false, rfl, upd_same, two, .base (.int i), any_int, false, rfl, iteF ?_⟩
      refine ⟨_, rfl, _, rfl, iteF ?_⟩
      refine ⟨_, rfl, .int i, .ty "str", .type "int", .type "str", false, rfl, .ty _, .base (.int i), kit_ty (by decide +kernel), false, rfl, iteF ?_⟩
      refine ⟨_, rfl, .int i, .ty "int", .type "int", .type "int", true, rfl, .ty _, .base (.int i), kit_ty (by decide +kernel), _, rfl, iteT ?_⟩
      refine ⟨_, rfl, .int i, .ty "bool", .type "int", .type "bool", false, rfl, .ty _, .base (.int i), kit_ty (by decide +kernel), ?_⟩
      refine ⟨_, rfl, .int i, .ty "bool", .type "int", .type "bool", false, rfl, .ty _, .base (.int i), kit_ty (by decide +kernel), rfl, ?_⟩
      refine ⟨_, rfl, iteT ?_⟩
      refine ⟨_, rfl, _, rfl, rfl, ?_⟩
      exact q _ _ (_root_.Evl.Ex.new np) (by show V.bl _ = V.bl _; simp)
    · refine ⟨_, rfl, (by show 2 ≤ sizeLine; decide), fun tp np => ?_⟩
      have e1 : Ex H (upd H tp (.tup [.ty "tuple", .ty "list"])) := _root_.Evl.Ex.new np
      refine ⟨.ref b, tp, _, .type "tuple", _, true, rfl, upd_same, two, tyx_t (_root_.Evl.ex_t e1 hb), any_tup, true, rfl, iteT ?_⟩
      refine ⟨_, rfl, (by show 2 ≤ sizeLine; decide), fun tp2 np2 => ?_⟩
      have e2 : Ex (upd H tp (.tup [.ty "tuple", .ty "list"])) (upd (upd H tp (.tup [.ty "tuple", .ty "list"])) tp2 (.tup [.ty "tuple", .ty "list"])) := _root_.Evl.Ex.new np2
      have e12 := e1.trans e2
      refine ⟨.ref a, tp2, _, .type "tuple", _, true, rfl, upd_same, two, tyx_t (_root_.Evl.ex_t e12 ha), any_tup, true, rfl, iteF ?_⟩
      refine ⟨_, rfl, .ref a, .ty "list", .type "tuple", .type "list", false, rfl, .ty _, tyx_t (_root_.Evl.ex_t e12 ha), kit_ty (by decide +kernel), ?_⟩
      refine ⟨_, rfl, .ref b, .ty "list", .type "tuple", .type "list", false, rfl, .ty _, tyx_t (_root_.Evl.ex_t e12 hb), kit_ty (by decide +kernel), rfl, ?_⟩
      refine ⟨_, rfl, iteF ?_⟩
      refine ⟨_, rfl, a, xs, rfl, .inr (_root_.Evl.ex_t e12 ha), _, rfl, b, ys, rfl, .inr (_root_.Evl.ex_t e12 hb), rfl, _, rfl, ?_⟩
      refine ite2 (fun c => absurd (by rw [hl]) (dne c)) (fun _ => ?_)
      refine ⟨_, rfl, b, ys, rfl, .inr (_root_.Evl.ex_t e12 hb), _, rfl, by omega, by omega, ?_⟩
      refine lc_go (walk_range (lo := 0) (n := ((ys.length : Nat) : Int).toNat)) (by omega) (fun _ _ => trivial) (List.range ys.length) (by rw [List.length_range, Int.toNat_natCast]) (fun _ => false) (fun _ _ _ => True) (fun _ _ _ _ _ h => h) (fun i m x H3 H4 hn3 e3 yy C N hC hN => ?_) fun D zs H3 nD e3 hD hz0 => ?_
      · obtain ⟨rfl, ex⟩ := yy
        have ex' : x = V.int ((i : Nat) : Int) := ex.trans (by show V.int _ = V.int _; rw [Int.zero_add])
        subst ex'
        have hi0 : i < ys.length := by
          have := (List.getElem?_eq_some_iff.mp hn3).1
          rwa [List.length_range] at this
        have hi1 : i < xs.length := by omega
        refine ⟨rfl, _, rfl, _, rfl, a, xs, _, xs[i], rfl, rfl, _root_.Evl.ex_t (e12.trans e3) ha, at_of rfl (List.getElem?_eq_getElem hi1), _, rfl, _, rfl, b, ys, _, ys[i], rfl, rfl, _root_.Evl.ex_t (e12.trans e3) hb, at_of rfl (List.getElem?_eq_getElem hi0), xs[i], ys[i], rfl, (hi i _ _ (List.getElem?_eq_getElem hi1) (List.getElem?_eq_getElem hi0)).ex (e12.trans e3), fun z H5 e5 ez => ?_⟩
        cases (show z = _ from ez)
        exact ⟨_, rfl, hN rfl _ e5⟩
      · have hz1 : Paired (fun y d => True) zs ((List.range ys.length).filter fun _ => false) := hz0
        have l0 : zs.length = 0 := by
          rw [pr_len hz1]
          simp
        have : zs = [] := List.length_eq_zero_iff.mp l0
        subst this
        refine ⟨Nat.zero_le _, fun g1 ng1 => ?_⟩
        have e4 : Ex H3 (upd H3 g1 (.lst [])) := _root_.Evl.Ex.new ng1
        refine ⟨.list [], .list [], .lst (SqL.of (e4 _ _ hD)) .nil, .lst (SqL.of upd_same) .nil, rfl, rfl, ?_⟩
        exact q _ _ ((e12.trans e3).trans e4) rfl
end
end K01


set_option Elab.async false
set_option linter.all false
set_option maxRecDepth 100000
set_option maxHeartbeats 4000000
/-! try with several clauses 'except C as e', the one name e in all of them -/
namespace K01
open PySem PySem.Spec PyProof.Rows L2
/-- behind a suite the name at slot i stands no more -/
def offE (i : Nat) (D : Ends) : Ends := { nx := fun t G => D.nx (t.set i none) G, rt := D.rt, bk := fun t G => D.bk (t.set i none) G, ct := fun t G => D.ct (t.set i none) G }
abbrev Sui := Addr → Value → Option Addr → TS
def wEach (K : PySem.W.Frag) (i : Nat) (Wo : WX) (D : Ends) : List (Value × Sui) → WX
  | [] => Wo
  | (c, ts) :: r => fun cls d t G => ∃ b, PySem.W.exmOne K cls c = some b ∧ (b = true → ∀ a, G a = none → ts a cls d (offE i D) (t.set i (some (.ref a))) G) ∧ (b = false → wEach K i Wo D r cls d t G)
inductive EachOk (X : Cx) (n : Str) : List ExceptHandler → List (Value × Sui) → Prop
  | nil : EachOk X n [] []
  | cons {x : Str} {c : Value} {ts : Sui} {st0 : Stmt} {sts : List Stmt} {q1 q2 : Pos} {hs : List ExceptHandler} {l : List (Value × Sui)} (hc : Names X x c)
      (su : ∀ (a : Addr) (o : Obj) (cls : Value) (d : Option Addr) (pn : List (Addr × Obj)), Zc cls d o → (∃ vs, o.data = .fields vs) → PSs (X.suite a ((a, o) :: pn)) (st0 :: sts) (ts a cls d)) (r : EachOk X n hs l) :
      EachOk X n (.ExceptHandler (some (.Name x q1)) (some n) (st0 :: sts) q2 :: hs) ((c, ts) :: l)
section
variable {X : Cx} {bd : List Stmt} {hd0 : ExceptHandler} {hs : List ExceptHandler} {l : List (Value × Sui)} {pos : Pos} {tb : WX → TS} {Wo : WX} {i : Nat} {n : Str}
theorem ps_try_each (stk : X.stack = X.env :: X.outer) (frm : X.env.frame = some X.env.locals) (ndN : X.N.Nodup) (atI : X.N[i]? = some n) (lcl : X.env.kindOf n = some .local) (tk : Takes X Wo)
    (run : ∀ (W : WX) (pn : List (Addr × Obj)) (xe : Value → Shared → Prop), Takes (X.tr pn xe) W → PassesOwn (model X.prog X.w) X.A X.env xe → PSs (X.tr pn xe) bd (tb W)) (all : EachOk X n (hd0 :: hs) l) :
    PS X (.Try bd (hd0 :: hs) [] [] pos) (fun D t G => tb (wEach X.K i Wo D l) D t G) := by
  refine ⟨fun pins s t G D I hh => ?_⟩
  have okX := I.ok
  have frA : X.A.frames = some (X.env :: X.outer) := by rw [okX.frames, stk]
  refine wpAny_Try_except ?_
  refine wpAny_mono ((run (wEach X.K i Wo D l) (X.pn ++ pins) (fun e z₁ => wpAny (model X.prog X.w) X.A (noteFrame e X.env) (fun _ z₂ => wpAny (model X.prog X.w) X.A (setFlight e none) (fun _ z₃ =>
    wpAny (model X.prog X.w) X.A (handleBy e X.env (hd0 :: hs)) (SP X pins D) X.xe z₃) X.xe z₂) X.xe z₁) (fun u z xx => ?_) PassesOwn.looking).run [] s t G D (I.toTry _) hh) (fun fl z hsp => ?_) (fun e z he => he)
  · obtain ⟨a, B, sI, pins1, t1, G1, cls, d, rfl, J1, nb, up, sk, na, os, ag, ww⟩ := xx
    have J : Inv X pins t1 G1 sI := J1.ofTry okX
    have sk2 : Sky B (X.env :: X.outer) a (Zc cls d) X.env.locals z.heap := by rw [← stk]; exact sk
    show wpAny (model X.prog X.w) X.A (noteFrame (.ref a) X.env) _ _ _
    refine Sky.land Zc.steady frA frm sk2 fun k3 land3 up3 => ?_
    have K3 : Inv X pins t1 G1 { z with heap := k3 } := J.landed nb land3.1 (up.trans up3) os ag
    obtain ⟨o3, v3, g3, z3, d3⟩ := land3.there
    have out : ∀ {k : Heap} {o : Obj} {vs : Array Value}, k.FunFrames B (X.env :: X.outer) → k.get? a = some o → o.data = .fields vs → a ∉ frs (X.env :: X.outer) := fun {k o vs} ff e dd hm => by
      obtain ⟨_, o', e', bad⟩ := ff.mem hm
      rw [e] at e'
      cases e'
      exact bad _ dd
    have nfr := out land3.2.2.1 g3 d3
    have nLoc : a ≠ X.env.locals := fun q => nfr (List.mem_filterMap.mpr ⟨X.env, List.mem_cons_self, by rw [frm, q]⟩)
    have nFs : a ∉ X.fs := fun hm => by
      obtain ⟨e, he, q⟩ := List.mem_filterMap.mp hm
      exact nfr (List.mem_filterMap.mpr ⟨e, List.mem_cons_of_mem _ he, q⟩)
    have Su3 := K3.suite g3 d3 na nLoc nFs
    have each : ∀ {hs' : List ExceptHandler} {l' : List (Value × Sui)}, EachOk X n hs' l' → wEach X.K i Wo D l' cls d t1 G1 → wpAny (model X.prog X.w) X.A (handleBy (.ref a) X.env hs') (SP X pins D) X.xe { z with heap := k3 } := by
      intro hs' l' ok
      induction ok with
      | nil =>
        intro w0
        refine wpAny_handleBy_nil ?_
        obtain ⟨_, _, _, oe, vs, T, oT, ts', he, hz, dd, h1, hr⟩ := id land3
        unfold PySem.passOn
        refine wpAny_bind (wpAny_field he dd h1 ?_)
        rw [if_neg (show ¬ ((Value.ref T == Value.none) = true) by simp)]
        have away : wpAny (model X.prog X.w) X.A (setFlight (.ref a) X.env.frame) (fun _ y => wpAny (model X.prog X.w) X.A (throw (.ref a) : Sem Flow) (SP X pins D) X.xe y) X.xe { z with heap := k3 } := by
          rw [frm]
          refine HandSPX.setFlight_upZ land3 fun k4 sk4 up4 => wpAny_throw (tk _ _ ?_)
          exact ⟨a, B, sI, pins, t1, G1, cls, d, rfl, J, nb, (up.trans up3).trans up4, .inr (.inr (by rw [stk]; exact sk4)), na, os, ag, w0⟩
        first
          | exact wpAny_bind (wpAny_pure (wpAny_bind away))
          | exact wpAny_bind away
      | @cons x c ts st0 sts q1 q2 hs2 l2 hc su r ih =>
        intro w0
        obtain ⟨b, hb, yes, no⟩ := w0
        refine wpAny_handleBy_cons (codeAny_handlers_test ?_) (by intro q; cases q)
        have ty : PySem.W.Looks (model X.prog X.w) k3 (typeOf (.ref a)) cls := fun A Q E y k q => wpAny_typeOf_ref (k _ _ g3) (by rw [z3.1]; exact q)
        have met := PySem.W.exm_one (M := model X.prog X.w) (K3.kIn) ty hb
        have named : ∀ {Q : Value → Shared → Prop} {E : Value → Shared → Prop}, Q c { z with heap := k3 } → wpAny (model X.prog X.w) (X.A.mark (some (.ref a))) (eval (.Name x q1) X.env) Q E { z with heap := k3 } := fun {Q E} q => by
          obtain ⟨hg, hdb, hm | ⟨hm, hv, hn⟩⟩ := hc
          · exact ld_glob (X := X.suite a ((a, o3) :: (X.pn ++ pins))) Su3 hg hm q hdb
          · exact ld_blt (X := X.suite a ((a, o3) :: (X.pn ++ pins))) Su3 hg hm hv q hn hdb
        refine named (met.here ?_)
        cases b with
        | true =>
          refine codeAny_handlers_suite_as ?_
          refine HandSPX.lands_againZ land3 fun k4 land4 up4 => ?_
          have K4 : Inv X pins t1 G1 { z with heap := k4 } := J.landed nb land4.1 ((up.trans up3).trans up4) os ag
          obtain ⟨o4, v4, g4, z4, d4⟩ := land4.there
          have Su4 := K4.suite g4 d4 na nLoc nFs
          refine store_ok (X := X.suite a ((a, o4) :: (X.pn ++ pins))) (v := .ref a) Su4 ndN atI (.inl lcl) rfl (fun y5 Su5 => ?_) (.inr lcl)
          refine wpAny_mono ((su a o4 cls d (X.pn ++ pins) z4 ⟨_, d4⟩).run [] y5 _ G1 _ Su5 (yes rfl a na)) (fun f y6 hsp => ?_) (fun _ _ q => False.elim q)
          have drop : ∀ {t6 : L2.St} {G6 : Hp} {Q : Shared → Prop}, Inv (X.suite a ((a, o4) :: (X.pn ++ pins))) [] t6 G6 y6 → (∀ y7, Inv X pins (t6.set i none) G6 y7 → Q y7) → wpAny (model X.prog X.w) X.A (do bindName X.env n .none; unbindBehindTheSuite X.env n q2) (fun _ y7 => Q y7) X.xe y6 := fun {t6 G6 Q} S6 hq => gone_ok (S6.unsuite okX) ndN atI lcl hq
          cases f with
          | next =>
            obtain ⟨t6, G6, S6, q⟩ := hsp
            exact drop S6 fun y7 J7 => ⟨_, _, J7, q⟩
          | brk =>
            obtain ⟨t6, G6, S6, q⟩ := hsp
            exact drop S6 fun y7 J7 => ⟨_, _, J7, q⟩
          | cont =>
            obtain ⟨t6, G6, S6, q⟩ := hsp
            exact drop S6 fun y7 J7 => ⟨_, _, J7, q⟩
          | ret u =>
            obtain ⟨v6, t6, G6, S6, rel, q⟩ := hsp
            exact drop S6 fun y7 J7 => ⟨_, _, _, J7, rel, q⟩
        | false =>
          show wpAny _ X.A (handleBy (.ref a) X.env hs2) _ _ _
          exact ih (no rfl)
    exact each all ww
  · cases fl with
    | next =>
      obtain ⟨t1, G1, J1, q⟩ := hsp
      exact wpAny_execs_nil ⟨t1, G1, J1.ofTry okX, q⟩
    | brk =>
      obtain ⟨t1, G1, J1, q⟩ := hsp
      exact ⟨t1, G1, J1.ofTry okX, q⟩
    | cont =>
      obtain ⟨t1, G1, J1, q⟩ := hsp
      exact ⟨t1, G1, J1.ofTry okX, q⟩
    | ret u =>
      obtain ⟨v1, t1, G1, J1, rel, q⟩ := hsp
      exact ⟨v1, t1, G1, J1.ofTry okX, rel, q⟩
end
end K01


set_option Elab.async false
set_option linter.all false
set_option maxRecDepth 100000
set_option maxHeartbeats 4000000
/-! lambdas that are kept as values: made in a body, called by the same body -/
namespace K01
open PySem PySem.Spec PyProof.Rows L2 LamX
open PySem.W (CodeHd envX)
abbrev LFd (q : Str) (ps : Arguments) (b : Expr) (sc : Scope) (cl : List (Str × Addr)) (dV pm cd ct : Value) : FuncData := { PySem.W.kla_fn "<lambda>" q ps b sc cl pm cd ct with defaults := dV }
abbrev LOb (q : Str) (ps : Arguments) (b : Expr) (sc : Scope) (cl : List (Str × Addr)) (dV pm cd ct : Value) : Obj := { cls := .type "function", data := .func (LFd q ps b sc cl dV pm cd ct) }
section
variable {M : Model} {A : Around} {E : Value → Shared → Prop} {s : Shared} {q : Str} {ps : Arguments} {b : Expr} {sc : Scope} {env : Env} {c Pt : Addr} {tb : Array Value} {pos : Pos} {ln : Nat} {mg : Str → Option Value} {cl : List (Str × Addr)} {dV : Value} {Q : Value → Shared → Prop}
theorem lamMiss (ecl : closureFor sc env = pure cl) (eg : env.globals = mainGlobals) (ns : s.heap.Ns mainGlobals mg) (ec : env.code = .ref c) (C : CodeHd s.heap c Pt) (gT : s.heap.get? Pt = some { cls := .none, data := .fields tb }) (tr : TriplesOk tb.toList) (no : codeAmong pos tb.toList = none)
    (gP : mainGlobals ≠ Pt) (bm : s.heap.BuiltinsAt mg Pt)
    (h : ∀ c' ct g tk, Heap.ExtBut Pt s.heap g → s.heap.objs.size ≤ c' → c' < g.objs.size → g.CodeRec (.ref c') q → g.get? Pt = some { cls := .none, data := .fields (tb ++ #[rawInt pos.line, rawInt pos.col, .ref c']) } →
      Q (.ref g.objs.size) { s with heap := g.push (LOb q ps b sc cl dV ((mg "__name__").getD .none) (.ref c') ct), toks := tk }) :
    wpAny M A (makeTail "<lambda>" q ps (.expr b) sc env dV .none none pos ln) Q E s := by
  obtain ⟨bo, oB, e1, ne0, _, neP, gB, kB, dB, pB⟩ := bm
  unfold makeTail
  rw [ecl, eg]
  refine wpAny_bind (wpAny_pure ?_)
  cases cl with
  | nil =>
    simp only [List.isEmpty_nil, if_true]
    refine wpAny_bind (wpAny_pure ?_)
    refine wpAny_bind (wpAny_functionCodeX ec (C.code gT tr) (C.tab gT) no fun c' g tk xB lo hi _ rec at_ _ => ?_)
    have ns2 := ns.extBut xB gP
    refine wpAny_bind (wpAny_builtinsFor ns2 e1 ne0 (xB _ _ neP gB) kB dB pB ?_)
    refine wpAny_bind (wpAny_nsGet ns2 ?_)
    exact wpAny_bind (wpAny_pure (wpAny_newObj_type (h c' .none g tk xB lo hi rec at_.2) (by size_fits)))
  | cons y r =>
    simp only [List.isEmpty_cons, Bool.false_eq_true, if_false]
    refine wpAny_bind (wpAny_newTextTuple ?_)
    have C2 := C.keeps (fun b o e => Heap.get?_push_of_some { cls := .type "tuple", data := .seq (((y :: r).mergeSort fun a b => a.1.cps.toList ≤ b.1.cps.toList).map (.ref ·.2)).toArray } e)
    have gT2 := Heap.get?_push_of_some { cls := .type "tuple", data := .seq (((y :: r).mergeSort fun a b => a.1.cps.toList ≤ b.1.cps.toList).map (.ref ·.2)).toArray } gT
    refine wpAny_bind (wpAny_functionCodeX ec (C2.code gT2 tr) (C2.tab gT2) no fun c' g tk xB lo hi _ rec at_ _ => ?_)
    have ns2 := (ns.push _).extBut xB gP
    have xB2 : Heap.ExtBut Pt s.heap g := fun b o n e => xB b o n (Heap.get?_push_of_some _ e)
    have lo2 : s.heap.objs.size ≤ c' := Nat.le_trans (by rw [Heap.size_push]; omega) lo
    refine wpAny_bind (wpAny_builtinsFor ns2 e1 ne0 (xB2 _ _ neP gB) kB dB pB ?_)
    refine wpAny_bind (wpAny_nsGet ns2 ?_)
    exact wpAny_bind (wpAny_pure (wpAny_newObj_type (h c' _ g tk xB2 lo2 hi rec at_.2) (by size_fits)))
theorem lamHit {cv : Value} (ecl : closureFor sc env = pure cl) (eg : env.globals = mainGlobals) (ns : s.heap.Ns mainGlobals mg) (ec : env.code = .ref c) (C : CodeHd s.heap c Pt) (gT : s.heap.get? Pt = some { cls := .none, data := .fields tb }) (tr : TriplesOk tb.toList) (yes : codeAmong pos tb.toList = some cv)
    (bm : s.heap.BuiltinsAt mg Pt)
    (h : ∀ (ct : Value) (g : Heap) (tk : Tok), (∀ b o, s.heap.get? b = some o → g.get? b = some o) → s.heap.objs.size ≤ g.objs.size → Q (.ref g.objs.size) { s with heap := g.push (LOb q ps b sc cl dV ((mg "__name__").getD .none) cv ct), toks := tk }) :
    wpAny M A (makeTail "<lambda>" q ps (.expr b) sc env dV .none none pos ln) Q E s := by
  obtain ⟨bo, oB, e1, ne0, _, neP, gB, kB, dB, pB⟩ := bm
  unfold makeTail
  rw [ecl, eg]
  refine wpAny_bind (wpAny_pure ?_)
  cases cl with
  | nil =>
    simp only [List.isEmpty_nil, if_true]
    refine wpAny_bind (wpAny_pure ?_)
    refine wpAny_bind (wpAny_functionCode_hit ec (C.code gT tr) yes ?_)
    refine wpAny_bind (wpAny_builtinsFor ns e1 ne0 gB kB dB pB ?_)
    refine wpAny_bind (wpAny_nsGet ns ?_)
    exact wpAny_bind (wpAny_pure (wpAny_newObj_type (h .none s.heap s.toks (fun _ _ e => e) (Nat.le_refl _)) (by size_fits)))
  | cons y r =>
    simp only [List.isEmpty_cons, Bool.false_eq_true, if_false]
    refine wpAny_bind (wpAny_newTextTuple ?_)
    have C2 := C.keeps (fun b o e => Heap.get?_push_of_some { cls := .type "tuple", data := .seq (((y :: r).mergeSort fun a b => a.1.cps.toList ≤ b.1.cps.toList).map (.ref ·.2)).toArray } e)
    have gT2 := Heap.get?_push_of_some { cls := .type "tuple", data := .seq (((y :: r).mergeSort fun a b => a.1.cps.toList ≤ b.1.cps.toList).map (.ref ·.2)).toArray } gT
    refine wpAny_bind (wpAny_functionCode_hit ec (C2.code gT2 tr) yes ?_)
    refine wpAny_bind (wpAny_builtinsFor (ns.push _) e1 ne0 (Heap.get?_push_of_some _ gB) kB dB pB ?_)
    refine wpAny_bind (wpAny_nsGet (ns.push _) ?_)
    exact wpAny_bind (wpAny_pure (wpAny_newObj_type (h _ _ s.toks (fun b o e => Heap.get?_push_of_some _ e) (by rw [Heap.size_push]; omega)) (by size_fits)))
end

/-- the object at f, whole -/
def FunO (f : Addr) (ob : Obj) : HO := .ext fun h => h.get? f = some ob
theorem funO_ne {f : Addr} {ob : Obj} (ps : Array Value) : FunO f ob ≠ .tbl ps := fun z => by
  unfold FunO at z
  cases z
/-- f is the lambda of this body, its code object known, its default standing -/
def IsLam (env : Env) (ps : Arguments) (b : Expr) (sc : Scope) (dd : Option Int) (f : Addr) (H : Hp) : Prop :=
  ∃ (c' : Addr) (dV pm ct : Value), H f = some (FunO f (LOb (env.qual ++ "<lambda>") ps b sc (cloFrom env.cells sc.names []) dV pm (.ref c') ct)) ∧ H c' = some (CodeO c' (env.qual ++ "<lambda>")) ∧
    match dd with
    | none => dV = .none
    | some i => ∃ t, dV = .ref t ∧ H t = some (.tup [.int i])
theorem IsLam.ex {env : Env} {ps : Arguments} {b : Expr} {sc : Scope} {dd : Option Int} {f : Addr} {H H' : Hp} (e : ExtN H H') (h : IsLam env ps b sc dd f H) : IsLam env ps b sc dd f H' := by
  obtain ⟨c', dV, pm, ct, h1, h2, h3⟩ := h
  refine ⟨c', dV, pm, ct, e _ _ h1 funO_ne, e _ _ h2 codeO_ne, ?_⟩
  cases dd with
  | none => exact h3
  | some i =>
    obtain ⟨t, h4, h5⟩ := h3
    exact ⟨t, h4, e _ _ h5 fun _ z => by cases z⟩
section
variable {X : Cx} {pins : List (Addr × Obj)} {σ : L2.St} {H : Hp} {s : Shared}
theorem extN_new {H : Hp} {a : Addr} {o : HO} (n : H a = none) : ExtN H (upd H a o) := fun b u e _ => by rw [upd_ne (ne_of_none e n)]; exact e
/-- the lambda laid, all tracked -/
theorem lam_laid {T : List (Addr × Str)} {c Pt : Addr} {ps : Arguments} {b : Expr} {sc : Scope} {pos : Pos} {ln : Nat} {dV : Value} {E Q : Value → Shared → Prop} (I : Inv X pins σ H s) (TB : TabB X.base X.mg c Pt) (ec : X.env.code = .ref c)
    (mT : (Pt, X.env.qual ++ "<lambda>") ∈ T) (only : ∀ p ∈ T, p.1 = Pt → p.2 = X.env.qual ++ "<lambda>") (hT : Tabs T H) (fr : ∀ y ∈ sc.names, y.2 = .free → ∃ c, X.env.cells.lookup y.1 = some c)
    (h : ∀ (f c' : Addr) (pm ct : Value) (H1 : Hp) (s1 : Shared), ExtN H H1 → Tabs T H1 → H1 f = some (FunO f (LOb (X.env.qual ++ "<lambda>") ps b sc (cloFrom X.env.cells sc.names []) dV pm (.ref c') ct)) → H1 c' = some (CodeO c' (X.env.qual ++ "<lambda>")) → Inv X pins σ H1 s1 → Q (.ref f) s1) :
    wpAny (model X.prog X.w) X.A (makeTail "<lambda>" (X.env.qual ++ "<lambda>") ps (.expr b) sc X.env dV .none none pos ln) Q E s := by
  obtain ⟨tb, hP, tr, al⟩ := hT _ mT
  have bP : s.heap.BuiltinsAt X.mg Pt := TB.bm.keeps I.bk
  have gP : s.heap.get? Pt = some { cls := .none, data := .fields tb } := I.hok Pt _ hP
  cases hc : codeAmong pos tb.toList with
  | none =>
    refine lamMiss (mg := X.mg) (c := c) (Pt := Pt) (tb := tb) (closure_ok fr) I.ok.glob (I.mod.glob.keeps I.bk) ec (TB.code.keeps I.bk) gP tr hc TB.gP bP fun c' ct g tk xB lo hi rec at_ => ?_
    obtain ⟨c2, oc, vs, t, e2, hoc, hd, hv⟩ := rec
    cases e2
    have nC : H c' = none := I.hok.fresh lo
    have I1 := inv_table (t' := tk) (more := #[rawInt pos.line, rawInt pos.col, .ref c']) (h' := g) I hP xB at_ lo ⟨oc, vs, t, hoc, hd, hv⟩
    have eN : ExtN H (upd (upd H Pt (.tbl (tb ++ #[rawInt pos.line, rawInt pos.col, .ref c']))) c' (CodeO c' (X.env.qual ++ "<lambda>"))) := fun b o e n => by
      rw [upd_ne (ne_of_none e nC), upd_ne (fun z => n tb (Option.some.inj (e.symm.trans (by rw [z]; exact hP))))]
      exact e
    have eL : (tb ++ #[rawInt pos.line, rawInt pos.col, .ref c']).toList = tb.toList ++ [rawInt pos.line, rawInt pos.col, .ref c'] := by simp
    have T1 : Tabs T (upd (upd H Pt (.tbl (tb ++ #[rawInt pos.line, rawInt pos.col, .ref c']))) c' (CodeO c' (X.env.qual ++ "<lambda>"))) := fun p hp => by
      by_cases hb : p.1 = Pt
      · rw [only p hp hb, hb]
        refine ⟨_, by rw [upd_ne (ne_of_none hP nC), upd_same], by rw [eL]; exact PySem.TriplesOk_snoc _ _ _ _ tr, fun p1 cv hcv => ?_⟩
        rw [eL] at hcv
        rcases among_app _ tr hcv with z | z
        · obtain ⟨c0, e1, e2⟩ := al p1 cv z
          exact ⟨c0, e1, eN _ _ e2 codeO_ne⟩
        · exact ⟨c', z, upd_same⟩
      · obtain ⟨tb1, a1, a2, a3⟩ := hT p hp
        refine ⟨tb1, by rw [upd_ne (ne_of_none a1 nC), upd_ne hb]; exact a1, a2, fun p1 cv hcv => ?_⟩
        obtain ⟨c0, e1, e2⟩ := a3 p1 cv hcv
        exact ⟨c0, e1, eN _ _ e2 codeO_ne⟩
    have gN := I1.hok.fresh (Nat.le_refl g.objs.size)
    have I2 := I1.laid (a := g.objs.size) (o := FunO g.objs.size (LOb (X.env.qual ++ "<lambda>") ps b sc (cloFrom X.env.cells sc.names []) dV ((X.mg "__name__").getD .none) (.ref c') ct)) (t' := tk) (fun y u e => Heap.get?_push_of_some (LOb (X.env.qual ++ "<lambda>") ps b sc (cloFrom X.env.cells sc.names []) dV ((X.mg "__name__").getD .none) (.ref c') ct) e) (Nat.le_refl _)
      ⟨Heap.get?_push_size _ rfl, ⟨_, Heap.get?_push_size _ rfl⟩, fun h1 h2 a st => st _ a⟩
    have e3 := extN_new (o := FunO g.objs.size (LOb (X.env.qual ++ "<lambda>") ps b sc (cloFrom X.env.cells sc.names []) dV ((X.mg "__name__").getD .none) (.ref c') ct)) gN
    exact h g.objs.size c' _ ct _ _ (eN.trans e3) (T1.ext fun b o e => by rw [upd_ne (ne_of_none e gN)]; exact e) upd_same (e3 _ _ upd_same codeO_ne) I2
  | some cv =>
    obtain ⟨c', e, hco⟩ := al pos cv hc
    subst e
    refine lamHit (mg := X.mg) (c := c) (Pt := Pt) (tb := tb) (closure_ok fr) I.ok.glob (I.mod.glob.keeps I.bk) ec (TB.code.keeps I.bk) gP tr hc bP fun ct g tk kp sz => ?_
    have gN := I.hok.fresh sz
    have I2 := I.laid (a := g.objs.size) (o := FunO g.objs.size (LOb (X.env.qual ++ "<lambda>") ps b sc (cloFrom X.env.cells sc.names []) dV ((X.mg "__name__").getD .none) (.ref c') ct)) (t' := tk) (fun y u e => Heap.get?_push_of_some (LOb (X.env.qual ++ "<lambda>") ps b sc (cloFrom X.env.cells sc.names []) dV ((X.mg "__name__").getD .none) (.ref c') ct) (kp y u e)) sz
      ⟨Heap.get?_push_size _ rfl, ⟨_, Heap.get?_push_size _ rfl⟩, fun h1 h2 a st => st _ a⟩
    have e3 := extN_new (o := FunO g.objs.size (LOb (X.env.qual ++ "<lambda>") ps b sc (cloFrom X.env.cells sc.names []) dV ((X.mg "__name__").getD .none) (.ref c') ct)) gN
    exact h g.objs.size c' _ ct _ _ e3 (hT.ext fun b o e => by rw [upd_ne (ne_of_none e gN)]; exact e) upd_same (e3 _ _ hco codeO_ne) I2
/-- what is read of a lambda's making -/
def tLamb (T : List (Addr × Str)) (env : Env) (ps : Arguments) (b : Expr) (sc : Scope) (dd : Option Int) : TE := fun _ H Q => Tabs T H ∧ ∀ f H1, ExtN H H1 → Tabs T H1 → IsLam env ps b sc dd f H1 → Q (.ref f) H1
theorem pe_lamb0 {T : List (Addr × Str)} {c Pt : Addr} {ps : Arguments} {b : Expr} {sc : Scope} {pos : Pos} (TB : TabB X.base X.mg c Pt) (ec : X.env.code = .ref c) (mT : (Pt, X.env.qual ++ "<lambda>") ∈ T) (only : ∀ p ∈ T, p.1 = Pt → p.2 = X.env.qual ++ "<lambda>")
    (fr : ∀ y ∈ sc.names, y.2 = .free → X.env.scope.names.lookup y.1 = some .cell ∨ X.env.scope.names.lookup y.1 = some .free) (hdef : defaultsOf ps X.env = ([], [])) : PE X (.Lambda ps b sc pos) (tLamb T X.env ps b sc none) := by
  refine ⟨fun pins s σ H Q I h => ?_⟩
  obtain ⟨hT, h⟩ := h
  refine PySem.W.kla_eval hdef ?_
  rw [makeFunction_eq]
  simp only [List.zip_nil_right, List.filterMap_nil, List.isEmpty_nil, if_true, pure_bind]
  refine lam_laid I TB ec mT only hT (fun y hy e => I.ok.has _ (fr y hy e)) fun f c' pm ct H1 s1 e1 T1 h1 h2 I1 => ?_
  exact ⟨.ref f, H1, I1, rfl, h f H1 e1 T1 ⟨c', _, pm, ct, h1, h2, rfl⟩⟩
theorem pe_lamb1 {T : List (Addr × Str)} {c Pt : Addr} {ps : Arguments} {b : Expr} {sc : Scope} {pos p1 : Pos} {j : Nat} {i : Int} (TB : TabB X.base X.mg c Pt) (ec : X.env.code = .ref c) (mT : (Pt, X.env.qual ++ "<lambda>") ∈ T) (only : ∀ p ∈ T, p.1 = Pt → p.2 = X.env.qual ++ "<lambda>")
    (fr : ∀ y ∈ sc.names, y.2 = .free → X.env.scope.names.lookup y.1 = some .cell ∨ X.env.scope.names.lookup y.1 = some .free) (hdef : defaultsOf ps X.env = ([eval (.Constant (.int i) j p1) X.env], [])) (hkw : ps.kwonlyargs = []) : PE X (.Lambda ps b sc pos) (tLamb T X.env ps b sc (some i)) := by
  refine ⟨fun pins s σ H Q I h => ?_⟩
  obtain ⟨hT, h⟩ := h
  rw [arm_eval_Lambda, hdef]
  show wpAny _ _ (do let dv ← evalAll [eval (.Constant (.int i) j p1) X.env]; let kdv ← holding dv (evalAllOpt []); makeFunction "<lambda>" (X.env.qual ++ "<lambda>") ps (.expr b) sc X.env dv kdv [] pos pos.line) _ _ s
  refine wpAny_bind (wpAny_evalAll_cons ?_)
  refine thn ((pe_int (X := X) (pos := p1)).run pins s σ H (fun v H1 => v = .int i ∧ H1 = H) I ⟨rfl, rfl⟩) fun v s1 ⟨x, H1, I1, rv, ex, eH⟩ => ?_
  subst ex
  rw [eH] at I1
  refine wpAny_evalAll_nil (wpAny_bind (wpAny_holding (wpAny_pure ?_)))
  rw [makeFunction_eq, hkw]
  simp only [List.zip_nil_left, List.filterMap_nil, List.isEmpty_nil, List.isEmpty_cons, if_true, if_false, pure_bind, Bool.false_eq_true]
  refine wpAny_bind (wpAny_newTextTuple ?_)
  have nT := I1.hok.fresh (Nat.le_refl s1.heap.objs.size)
  have I2 := I1.laid (a := s1.heap.objs.size) (o := .tup [.int i]) (t' := s1.toks) (fun b u q => Heap.get?_push_of_some { cls := .type "tuple", data := .seq [v].toArray } q) (Nat.le_refl _) ⟨(by show 1 ≤ sizeLine; decide), [v], .cons rv .nil, IsTup.new _ _⟩
  have e2 := extN_new (o := .tup [.int i]) nT
  have T2 : Tabs T (upd H s1.heap.objs.size (.tup [.int i])) := hT.ext fun b o e => by rw [upd_ne (ne_of_none e nT)]; exact e
  refine lam_laid I2 TB ec mT only T2 (fun y hy e => I.ok.has _ (fr y hy e)) fun f c' pm ct H1 s1 e1 T1 h1 h2 I1 => ?_
  exact ⟨.ref f, H1, I1, rfl, h f H1 (e2.trans e1) T1 ⟨c', _, pm, ct, h1, h2, _, rfl, e1 _ _ upd_same fun _ z => by cases z⟩⟩
end
end K01


set_option Elab.async false
set_option linter.all false
set_option maxRecDepth 100000
set_option maxHeartbeats 4000000
/-! a lambda that is kept, called by the body that made it -/
namespace K01
open PySem PySem.Spec PyProof.Rows L2 LamX
/-- captured names, globals, and own parameters that bear no name of the maker's -/
structure LamW (out sc : Scope) (N : List Str) : Prop where
  kind : sc.kind = .function
  co : sc.isCoroutine = false
  gen : sc.isGenerator = false
  own : ∀ y ∈ sc.names, y.2 ≠ .cell ∧ (y.2 = .local → y.1 ∉ N)
  free : ∀ y ∈ sc.names, y.2 = .free → out.names.lookup y.1 = some .cell ∨ out.names.lookup y.1 = some .free
def BindW (ps : Arguments) (b : Expr) (sc : Scope) : Option Int → Prop
  | none => ∀ (q : Str) (cl : List (Str × Addr)) (pm cd ct : Value), bindArgs (LFd q ps b sc cl .none pm cd ct) ⟨[], []⟩ = pure []
  | some _ => ∃ y, sc.names.lookup y = some .local ∧ ∀ (q : Str) (cl : List (Str × Addr)) (t : Addr) (pm cd ct v : Value), ∃ k, bindArgs (LFd q ps b sc cl (.ref t) pm cd ct) ⟨[], []⟩ = seqItems? (.ref t) >>= k ∧ k (some #[v]) = pure [(y, v)]
section
variable {X : Cx} {pins : List (Addr × Obj)} {σ : L2.St} {H : Hp} {s : Shared}
theorem lam_in {E : XK} {sc : Scope} {f c' : Addr} {g : Heap} {tk : Nat} {m : Str → Option Value} (I : Inv X pins σ H s) (L : LamW X.env.scope sc X.N) (nh : X.A.handled = none) (hns : g.Ns s.heap.objs.size m) (kp : ∀ b o, s.heap.get? b = some o → g.get? b = some o) :
    Inv (lamCx X X.A X.stack s H E sc f c') [] σ H { s with heap := g, toks := tk } := by
  have e0 := I.env0
  have cap : ∀ {y c}, (cloFrom X.env.cells sc.names []).lookup y = some c → X.env.cells.lookup y = some c := fun {y c} e => by
    rcases cloFrom_mem (PySem.mem_of_lookup e) with z | ⟨z1, z2⟩
    · cases z
    · obtain ⟨c1, h1⟩ := I.ok.has _ (L.free _ z1 rfl)
      have h1 : X.env.cells.lookup y = some c1 := h1
      have e2 : c = c1 := by rw [z2, h1] <;> rfl
      rw [e2]; exact h1
  have cel : ∀ {y}, sc.names.lookup y = some .free → ∃ c, (cloFrom X.env.cells sc.names []).lookup y = some c := fun {y} z => mem_lookup (cloFrom_has (cells := X.env.cells) (acc := []) (PySem.mem_of_lookup z))
  have up : ∀ {c : Addr} {v : Option Value}, s.heap.IsCell c v → g.IsCell c v := fun {c v} ⟨o, z1, z2⟩ => ⟨o, kp _ _ z1, z2⟩
  have nil : ∀ b : Addr, b ∉ (lamCx X X.A X.stack s H E sc f c').ex := fun b z => absurd (show b ∈ ([] : List Addr) from z) (by simp)
  have ok : (lamCx X X.A X.stack s H E sc f c').Ok := {
    mod := e0.mod
    kind := L.kind
    glob := rfl
    blt := rfl
    above := Nat.le_refl _
    inj := fun y z c e1 e2 => I.ok.inj y z c (cap e1) (cap e2)
    has := fun y hy => by
      have hy : sc.names.lookup y = some .cell ∨ sc.names.lookup y = some .free := hy
      rcases hy with hy | hy
      · exact absurd rfl (L.own _ (PySem.mem_of_lookup hy)).1
      · exact cel hy
    cab := fun y c z _ => Bool.noConfusion (show false = true from z)
    hd := fun _ => nh
    frames := Around.frames_deeper e0.frames
    stk := .inr ⟨rfl, rfl⟩
    exf := fun b z => absurd z (nil b)
    bs := e0.bs
    bsz := e0.bsz
    noex := fun b _ _ => nil b
    exfs := fun b z => absurd z (nil b)
    funs := e0.funs
    frf := e0.frf }
  refine ⟨ok, rfl, e0.bare, Un.kept kp, ⟨_, hns, fun i y v e1 e2 e3 => ?_⟩, fun y c e => ?_, e0.hok.fresh (Nat.le_refl _), fun y c e => I.freeC y c (cap e), fun q hq => absurd (show q ∈ ([] : List (Addr × Obj)) ++ [] from hq) (by simp), e0.hok.kept kp, I.len⟩
  · have e3 : Vis sc y := e3
    have e1 : X.N[i]? = some y := e1
    rcases e3 with k | k | k
    · exact absurd (List.mem_of_getElem? e1) ((L.own _ (PySem.mem_of_lookup k)).2 rfl)
    · exact absurd rfl (L.own _ (PySem.mem_of_lookup k)).1
    · obtain ⟨m2, _, lk⟩ := I.loc
      have fr := L.free _ (PySem.mem_of_lookup k) rfl
      obtain ⟨u, rel, w0⟩ := lk i y v e1 e2 (fr.elim (fun k => .inr (.inl k)) fun k => .inr (.inr k))
      obtain ⟨c2, h2⟩ := cel k
      refine ⟨u, rel, .inr ⟨.inr k, c2, h2, ?_⟩⟩
      have c1 := cap h2
      rcases w0 with ⟨k1, _⟩ | ⟨_, c3, e', z⟩
      · have k1 : X.env.scope.names.lookup y = some .local := k1
        rcases fr with k2 | k2 <;> rw [show X.env.scope.names.lookup y = _ from k2] at k1 <;> cases k1
      · rw [c1] at e'
        cases e'
        exact up z
  · obtain ⟨u, z⟩ := I.cell y c (cap e)
    exact ⟨u, up z⟩
def tWork (env : Env) (ps : Arguments) (b : Expr) (sc : Scope) (dd : Option Int) (i : Nat) (tb : XK → TE) (W : WX) : TE := fun t G Q => ∃ (f : Addr) (E : XK), t[i]? = some (some (.ref f)) ∧ IsLam env ps b sc dd f G ∧ (∀ cls d G', E cls d G' → W cls d t G') ∧ tb E t G Q
/-- x(), x a name that holds such a lambda -/
theorem pe_work {ps : Arguments} {b : Expr} {sc : Scope} {dd : Option Int} {k i : Nat} {a : Str} {W : WX} {tb : XK → TE} {p1 p2 : Pos} (L : LamW X.env.scope sc X.N) (bw : BindW ps b sc dd) (tk : Takes X W) (hr : Room (k + 1) X.A)
    (body : ∀ (E : XK) (f c' : Addr) (s : Shared) (H : Hp), Room k (X.A.deeper (lamEnv X sc s.heap.objs.size f c')) → PE (lamCx X X.A X.stack s H E sc f c') b (tb E))
    (hN : X.N[i]? = some a) (hv : Vis X.env.scope a) (hd : (a == ("__debug__" : Str)) = false := by decide) (hcd : (a == ("__classdict__" : Str)) = false := by decide) :
    PE X (.Call (.Name a p1) [] [] p2) (tWork X.env ps b sc dd i tb W) := by
  refine ⟨fun pins s t G Q I0 h => ?_⟩
  obtain ⟨f, E, ht, lam, hW, hq⟩ := h
  refine wpAny_Call_Name_kw (thn ((pe_var (pos := p1) (i := i) hN hv hd hcd).run pins s t G (fun v G1 => v = .ref f ∧ G1 = G) I0 ⟨.ref f, ht, rfl, rfl⟩) fun u s1 ⟨v, G1, I1, rv, ev, eG⟩ => ?_)
  subst ev
  rw [eG] at I1
  obtain rfl : u = Value.ref f := rv
  obtain ⟨c', dV, pm, ct, l1, l2, l3⟩ := lam
  have of1 : s1.heap.get? f = some (LOb (X.env.qual ++ "<lambda>") ps b sc (cloFrom X.env.cells sc.names []) dV pm (.ref c') ct) := (I1.hok f _ l1).1
  obtain ⟨⟨oc, vs, tq, g1, g2, g3⟩, _, _⟩ := I1.hok c' _ l2
  refine PySem.W.callWith_F0 ⟨_, _, _, _, of1⟩ ?_
  have bnd : ∃ binds, BindsTo s1 (LFd (X.env.qual ++ "<lambda>") ps b sc (cloFrom X.env.cells sc.names []) dV pm (.ref c') ct) ⟨[], []⟩ binds ∧ ∀ y ∈ binds, sc.names.lookup y.1 = some .local := by
    cases dd with
    | none =>
      have e : dV = .none := l3
      subst e
      exact ⟨[], .of_eq (bw _ _ _ _ _), fun y hy => by cases hy⟩
    | some i0 =>
      obtain ⟨T, e, hT⟩ := l3
      subst e
      obtain ⟨y, hy, bb⟩ := bw
      obtain ⟨_, its, rvs, o, o1, o2, n, o3⟩ := (show ObjOk X.prog X.w G s1.heap T (.tup [.int i0]) from I1.hok T _ hT)
      cases rvs with
      | @cons _ v0 _ _ rv0 rest =>
        cases rest
        obtain ⟨k0, e1, e2⟩ := bb (X.env.qual ++ "<lambda>") (cloFrom X.env.cells sc.names []) T pm (.ref c') ct v0
        refine ⟨[(y, v0)], fun M A E Q q0 => ?_, fun z hz => by rw [List.mem_singleton.mp hz]; exact hy⟩
        rw [e1]
        refine wpAny_bind (wpAny_seqItems o1 o3 ?_)
        rw [show ([v0] : List Value).toArray = #[v0] from rfl, e2]
        exact wpAny_pure q0
  obtain ⟨binds, hb, hl⟩ := bnd
  have rc : codeAny (model X.prog X.w) X.A (.call (.ref f) ⟨[], []⟩) (CR (L2.CX X.prog X.w) X.stack X.prog X.w G s1 Q E) s1 := by
    refine PySem.W.kla_callFunE hr.depth of1 rfl L.co L.gen rfl ⟨c', oc, vs, tq, rfl, g1, g2, g3⟩ ?_
    refine hb _ _ _ _ ?_
    refine wpAny_newFunctionEnv (fun y hy => (L.own y hy).1) hl (fun h₁ hns hsb => ⟨I1.nolimit.fresh _ hsb, ?_⟩) L.kind
    show codeAny _ _ (.expr b (lamEnv X sc s1.heap.objs.size f c')) _ _
    have kp : ∀ b o, s1.heap.get? b = some o → h₁.get? b = some o := fun b o e => hsb.extBut b o (Nat.ne_of_lt (Heap.lt_size e)) (Heap.get?_push_of_some _ e)
    have J := lam_in (E := E) (sc := sc) (f := f) (c' := c') (tk := s1.toks + binds.length) I1 L hr.hd hns kp
    refine PySem.W.kla_codeExpr (wpAny_mono ((body E f c' s1 G (hr.deeper _)).run [] _ _ G Q J hq) (fun v s2 z => ?_) fun e s2 z => z)
    obtain ⟨w0, G2, J2, rel, q2⟩ := z
    exact ⟨w0, G2, J2.os, J2.bare, J2.base, J2.hok, rel, q2⟩
  refine wpAny_call (codeAny_mono rc fun r s2 z => ?_)
  cases r with
  | error e => exact tk e s2 (XE.of_call I1 (fun cls d G2 h => hW cls d G2 h) z)
  | ok fl =>
    cases fl with
    | ret u => exact I1.after z
    | next => exact False.elim z
    | brk => exact False.elim z
    | cont => exact False.elim z
theorem pe_either {e : Expr} {t1 t2 : TE} (h1 : PE X e t1) (h2 : PE X e t2) : PE X e (fun t G Q => t1 t G Q ∨ t2 t G Q) :=
  ⟨fun pins s t G Q I h => h.elim (h1.run pins s t G Q I) (h2.run pins s t G Q I)⟩
end
end K01


set_option Elab.async false
set_option linter.all false
set_option maxRecDepth 100000
set_option maxHeartbeats 4000000
/-! sorted(a list of tuples of whole numbers), however many -/
namespace K01
open PySem PySem.Spec PyProof.Rows L2 PySem.W
theorem alike_ints : ∀ a b : List Int, PySem.W.alikeAll (a.map PyData.int) (b.map PyData.int) = true
  | [], _ => by simp [PySem.W.alikeAll]
  | _ :: _, [] => by simp [PySem.W.alikeAll]
  | x :: a, y :: b => by
    simp only [List.map_cons, PySem.W.alikeAll, PySem.W.alike, alike_ints a b, Bool.and_self]
theorem alike_rowD (a b : Row) : PySem.W.alike (rowD a) (rowD b) = true := by
  unfold rowD
  rw [PySem.W.alike]
  exact alike_ints a b
theorem rowD_depth (r : Row) : (rowD r).depth ≤ 2 := by
  unfold rowD
  rw [PyData.depth, PySem.W.ke_depthAll]
  decide
def rSortD (K : PySem.W.Frag) : List V → Hp → VK → Prop := fun vs H Q => ∃ (a : Addr) (xs : List V) (rs : List Row), vs = [.ref a] ∧ SqL K H a xs ∧ Paired (fun x r => RowT K r x H) xs rs ∧ xs.length ≤ 10000 ∧ (∀ r ∈ rs, r ≠ []) ∧ ∀ (ys : List V) (p : Addr), ys.Perm xs → H p = none → Q (.ref p) (upd H p (.lst ys))
theorem each_two {α β γ : Type} {R : α → β → Prop} {F : β → γ → Prop} : ∀ {us : List α} {xs : List β} {rs : List γ}, EachIs R us xs → Paired F xs rs → EachIs (fun u (b : β × γ) => R u b.1 ∧ F b.1 b.2) us (xs.zip rs)
  | _, _, _, .nil, .nil => .nil
  | _, _, _, .cons r t, .cons f q => .cons ⟨r, f⟩ (each_two t q)
theorem each_fst {α β γ : Type} {R : α → β → Prop} {F : β → γ → Prop} : ∀ {us : List α} {bs : List (β × γ)}, EachIs (fun u (b : β × γ) => R u b.1 ∧ F b.1 b.2) us bs → EachIs R us (bs.map Prod.fst)
  | _, _, .nil => .nil
  | _, _, .cons r t => .cons r.1 (each_fst t)
theorem zip_fst {α β : Type} : ∀ {xs : List α} {rs : List β}, xs.length = rs.length → (xs.zip rs).map Prod.fst = xs
  | [], [], _ => rfl
  | x :: xs, r :: rs, h => by rw [List.zip_cons_cons, List.map_cons, zip_fst (by simpa using h)]
  | [], _ :: _, h => by simp at h
  | _ :: _, [], h => by simp at h
theorem cr_sortD {X : Cx} (hu : X.A.units + 65 < cLine) : CallR X (.builtin "sorted") (rSortD X.K) := by
  intro pins s σ H vs us Q I r hh
  obtain ⟨a, xs, rs, rfl, hq, hp, hz, hne, q⟩ := hh
  obtain rfl := Vals.ref1 r
  obtain ⟨its, rv, hL, hzL⟩ := I.list hq
  have lx := pr_len hp
  have lv := rv.length
  have each := each_two (vals_each rv) hp
  refine PySem.W.sorted_data (enc := fun b : V × Row => rowD b.2) (R := fun u b => RelV b.1 u ∧ RowT X.K b.2 b.1 H) hL.isList each (each.mono fun u b hb => ?_) (PySem.W.AllAlike.of fun b b' => alike_rowD b.2 b'.2) (.inl fun d hd => ?_) (Nat.le_trans (show _ ≤ 10000 by rw [List.length_zip]; omega) (by decide)) (fun b _ => by have := rowD_depth b.2; omega) fun out ho eo => ?_
  · exact Dp.reads I (rowD b.2) b.1 u (rowD_dp hb.2) hb.1
  · obtain ⟨b, hb, rfl⟩ := List.mem_map.mp hd
    have hr : b.2 ∈ rs := (List.of_mem_zip hb).2
    cases e : b.2 with
    | nil => exact absurd e (hne _ hr)
    | cons x t => exact ⟨PyData.int x, t.map PyData.int, rfl⟩
  · have ev := each_vals (each_fst (R := fun (u : Value) (x : V) => RelV x u) (F := fun x r => RowT X.K r x H) eo)
    have pm := List.mergeSort_perm (xs.zip rs) (PySem.W.dataLe false fun b : V × Row => rowD b.2)
    have pv : (((xs.zip rs).mergeSort (PySem.W.dataLe false fun b : V × Row => rowD b.2)).map Prod.fst).Perm xs := by
      have := pm.map Prod.fst
      rw [zip_fst lx] at this
      exact this
    obtain ⟨ep, he'⟩ := PyProof.Rows.sortedAll_at s.heap its out.toArray
    refine ⟨.ref _, upd H (s.heap.objs.size + 1) (.lst (((xs.zip rs).mergeSort (PySem.W.dataLe false fun b : V × Row => rowD b.2)).map Prod.fst)), I.laid (t' := s.toks) (fun _ _ => PyProof.Rows.sortedAll_old) (Nat.le_succ _) ⟨by rw [pv.length_eq]; exact Nat.le_trans hz (by decide), out, ep, ev, he'⟩, rfl, q _ _ pv (I.hok.fresh (Nat.le_succ _))⟩
end K01


set_option Elab.async false
set_option linter.all false
set_option maxRecDepth 100000
set_option maxHeartbeats 4000000
/-! set(a list of whole numbers): how many it has at most, by any list that has them all -/
namespace K01
open PySem PySem.Spec PyProof.Rows L2
theorem setR_few {w : World} {h : Heap} {a : Addr} {ns : List Int} {c : Nat} (R : SetR w h a (fun j => decide (j ∈ ns)) c) (L : List Int) (hL : ∀ k ∈ ns, k ∈ L) : c ≤ L.length := by
  obtain ⟨o, es, ep, t, _, _, _, _, nd, mem, _, _, sz, _⟩ := R
  have := Lin.nd_len nd (ys := L) fun k hk => hL k (of_decide_eq_true ((mem k).2 hk))
  rw [List.length_map, Array.length_toList, sz] at this
  exact this
def rSetF (K : PySem.W.Frag) (w : World) : List V → Hp → VK → Prop := fun xs H Q => ∃ (l : Addr) (ns : List Int), xs = [.ref l] ∧ SqL K H l (ns.map V.int) ∧ ns.length ≤ 4000 ∧ ∀ p c, H p = none → (∀ L : List Int, (∀ k ∈ ns, k ∈ L) → c ≤ L.length) → Q (.ref p) (upd H p (SetO w p (fun j => decide (j ∈ ns)) c))
theorem cr_setF {X : Cx} (hc : X.calm = true) : CallR X (.type "set") (rSetF X.K X.w) := by
  intro pins s σ H xs us Q I r hh
  obtain ⟨l, ns, rfl, hq, hz, q⟩ := hh
  obtain ⟨its, rv, hL, _⟩ := I.list hq
  obtain rfl := Vals.ref1 r
  refine call_set_ls ns (I.ok.hd hc) hL.isList (ints_of_vals rv) (by unfold scanBound; omega) fun h' tk c hS hc' hk => ?_
  exact ⟨.ref _, upd H s.heap.objs.size (SetO X.w s.heap.objs.size (fun j => decide (j ∈ ns)) c), I.laid (t' := tk) hk (Nat.le_refl _) (setO_new hS), rfl, q _ c (I.hok.fresh (Nat.le_refl _)) fun L h => setR_few hS L h⟩
end K01


set_option maxRecDepth 100000
set_option linter.unusedVariables false
/-! tables that act on rows; what is come to by them; staircases for all rows -/
namespace Lin
section
variable {p : Int} {n : Nat} {S T R : List Row} {A : List Row} {v w r u : Row}
theorem exists_rref (hp : 1 < p) (P : Prm p) : ∀ {R : List Row}, Oks p n R → ∃ S, Rref p n S ∧ Same p n S R
  | [], _ => ⟨[], Rref.nil, Same.refl⟩
  | r :: R, hR => by
    have hp0 : 0 < p := by omega
    have o := hR r List.mem_cons_self
    have oR : Oks p n R := fun x hx => hR x (List.mem_cons_of_mem _ hx)
    obtain ⟨S, rS, sS⟩ := exists_rref hp P oR
    have m := remS_is hp0 rS o
    have two : Same p n (r :: S) (r :: R) := same_of hp0 (oks_cons o rS.ok) (oks_cons o oR) (fun x hx => by
      rcases List.mem_cons.mp hx with e | e
      · rw [e]; exact Sp.gen hp0 o List.mem_cons_self
      · exact ((sS x).1 (Sp.gen hp0 (rS.ok x e) e)).sub fun y hy => List.mem_cons_of_mem _ hy) (fun x hx => by
      rcases List.mem_cons.mp hx with e | e
      · rw [e]; exact Sp.gen hp0 o List.mem_cons_self
      · exact ((sS x).2 (Sp.gen hp0 (oR x e) e)).sub fun y hy => List.mem_cons_of_mem _ hy)
    rcases Nat.lt_or_ge (lead (remS p S r)) (remS p S r).length with h | h
    · have nz := lead_ne h
      have bd := g_bd hp0 m.ok (lead (remS p S r))
      obtain ⟨k, hk⟩ := P _ (by omega) bd.2
      have pm := List.mergeSort_perm ((S.map fun old => add p old (-(g old (lead (remS p S r)))) (times p k (remS p S r))) ++ [times p k (remS p S r)]) (fun a b => decide (lead a ≤ lead b))
      have so := List.pairwise_mergeSort (le := fun a b : Row => decide (lead a ≤ lead b)) (fun a b c h1 h2 => by simp only [decide_eq_true_eq] at *; omega) (fun a b => by simp only [Bool.or_eq_true, decide_eq_true_eq]; omega)
        ((S.map fun old => add p old (-(g old (lead (remS p S r)))) (times p k (remS p S r))) ++ [times p k (remS p S r)])
      obtain ⟨rN, sN, _⟩ := withRow_new hp rS o m (by omega) hk pm (so.imp fun {a b} z => of_decide_eq_true z)
      exact ⟨_, rN, sN.trans two⟩
    · have e : lead (remS p S r) = (remS p S r).length := by have := lead_le (remS p S r); omega
      exact ⟨S, rS, (withRow_in hp0 rS o m e).trans two⟩
/-- more is spanned by more -/
theorem len_mono (hp : 1 < p) (hS : Rref p n S) (hT : Rref p n T) (h : ∀ v, Sp p n S v → Sp p n T v) : S.length ≤ T.length := by
  have hp0 : 0 < p := by omega
  have := nd_len (combos_nd hp0 hS.ind) (ys := combos p n T) fun x hx => (mem_combos hp0 hT.ok).2 (h x ((mem_combos hp0 hS.ok).1 hx))
  rw [combos_len, combos_len] at this
  exact (Nat.pow_le_pow_iff_right (a := p.toNat) (by omega)).1 this
theorem len_less (hp : 1 < p) (hS : Rref p n S) (hT : Rref p n T) (h : ∀ v, Sp p n S v → Sp p n T v) (hv : Sp p n T v) (no : ¬ Sp p n S v) : S.length < T.length := by
  have hp0 : 0 < p := by omega
  have nd : (v :: combos p n S).Nodup := List.nodup_cons.mpr ⟨fun z => no ((mem_combos hp0 hS.ok).1 z), combos_nd hp0 hS.ind⟩
  have := nd_len nd (ys := combos p n T) fun x hx => (mem_combos hp0 hT.ok).2 (by
    rcases List.mem_cons.mp hx with e | e
    · rw [e]; exact hv
    · exact h x ((mem_combos hp0 hS.ok).1 e))
  rw [List.length_cons, combos_len, combos_len] at this
  exact (Nat.pow_lt_pow_iff_right (a := p.toNat) (by omega)).1 (by omega)
/-! ### a table acts -/
def app (p : Int) (A : List Row) (v : Row) : Row := A.map fun r => dot p r v
theorem dot_bd (hp : 0 < p) : 0 ≤ dot p u w ∧ dot p u w < p := ⟨Int.emod_nonneg _ (by omega), Int.emod_lt_of_pos _ hp⟩
theorem app_ok (hp : 0 < p) (hl : A.length = n) : OkR p n (app p A v) := by
  refine ⟨by unfold app; rw [List.length_map]; exact hl, fun x hx => ?_⟩
  obtain ⟨r, _, e⟩ := List.mem_map.mp hx
  rw [← e]
  exact dot_bd hp
theorem g_app {i : Nat} (hi : i < A.length) : g (app p A v) i = dot p A[i] v := by
  unfold app
  rw [g_lt (by rw [List.length_map]; exact hi), List.getElem_map]
theorem dot_add2 (h1 : u.length = n) (hx : v.length = n) (h2 : w.length = n) (c : Int) : dot p w (add p u c v) = (dot p w u + c * dot p w v) % p := by
  rw [dot_comm h2 (len_add h1 hx), dot_add h1 hx h2, dot_comm h1 h2, dot_comm hx h2]
theorem app_add (hp : 0 < p) (hA : Oks p n A) (hl : A.length = n) (hu : u.length = n) (hv : v.length = n) (c : Int) : app p A (add p u c v) = add p (app p A u) c (app p A v) := by
  have l1 : (app p A u).length = n := by unfold app; rw [List.length_map]; exact hl
  have l2 : (app p A v).length = n := by unfold app; rw [List.length_map]; exact hl
  refine ext (n := n) (by unfold app; rw [List.length_map]; exact hl) (len_add l1 l2) fun i hi => ?_
  have hi2 : i < A.length := by omega
  rw [g_add (by rw [l1, l2]), g_app hi2, g_app hi2, g_app hi2, dot_add2 hu hv (hA _ (List.getElem_mem hi2)).1]
theorem app_zero (hA : Oks p n A) (hl : A.length = n) : app p A (zero n) = zero n := by
  refine ext (n := n) (by unfold app; rw [List.length_map]; exact hl) List.length_replicate fun i hi => ?_
  have hi2 : i < A.length := by omega
  rw [g_app hi2, g_zero, dot_comm (w := zero n) (hA _ (List.getElem_mem hi2)).1 (show (List.replicate n (0 : Int)).length = n from List.length_replicate), dot_zero (hA _ (List.getElem_mem hi2)).1]
theorem app_sp (hp : 0 < p) (hA : Oks p n A) (hl : A.length = n) (hR : Oks p n R) (h : Sp p n R v) : Sp p n (R.map (app p A)) (app p A v) := by
  induction h with
  | zero => rw [app_zero hA hl]; exact .zero
  | @step u r c hu hr ih =>
    rw [app_add hp hA hl (hu.ok hp hR).1 (hR r hr).1]
    exact ih.step c (List.mem_map.mpr ⟨r, hr, rfl⟩)
/-! ### what is come to -/
def it (p : Int) (A : List Row) : Nat → Row → Row
  | 0, v => v
  | t + 1, v => app p A (it p A t v)
def kry (p : Int) (A : List Row) (ws : List Row) (k : Nat) : List Row := (List.range k).flatMap fun t => ws.map (it p A t)
theorem it_ok (hp : 0 < p) (hl : A.length = n) (hv : OkR p n v) : ∀ t, OkR p n (it p A t v)
  | 0 => hv
  | t + 1 => app_ok hp hl
theorem mem_kry {ws : List Row} {k : Nat} : r ∈ kry p A ws k ↔ ∃ t, t < k ∧ ∃ w ∈ ws, it p A t w = r := by
  unfold kry
  simp only [List.mem_flatMap, List.mem_range, List.mem_map]
theorem kry_ok {ws : List Row} {k : Nat} (hp : 0 < p) (hl : A.length = n) (hw : Oks p n ws) : Oks p n (kry p A ws k) := fun x hx => by
  obtain ⟨t, _, w, hw2, e⟩ := mem_kry.1 hx
  rw [← e]
  exact it_ok hp hl (hw w hw2) t
theorem kry_up {ws : List Row} {j k : Nat} (h : j ≤ k) (hv : Sp p n (kry p A ws j) v) : Sp p n (kry p A ws k) v :=
  hv.sub fun x hx => by
    obtain ⟨t, h1, w, hw2, e⟩ := mem_kry.1 hx
    exact mem_kry.2 ⟨t, by omega, w, hw2, e⟩
theorem kry_closed {ws : List Row} {k : Nat} (hp : 0 < p) (hA : Oks p n A) (hl : A.length = n) (hw : Oks p n ws) (stop : ∀ w ∈ ws, Sp p n (kry p A ws k) (it p A k w)) (hv : Sp p n (kry p A ws k) v) : Sp p n (kry p A ws k) (app p A v) := by
  have ok := kry_ok (k := k) hp hl hw
  refine (app_sp hp hA hl ok hv).mono hp ok fun x hx => ?_
  obtain ⟨y, hy, e⟩ := List.mem_map.mp hx
  obtain ⟨t, h1, w, hw2, e2⟩ := mem_kry.1 hy
  rw [← e, ← e2]
  rcases Nat.lt_or_ge (t + 1) k with z | z
  · exact Sp.gen hp (it_ok hp hl (hw w hw2) (t + 1)) (mem_kry.2 ⟨t + 1, z, w, hw2, rfl⟩)
  · have : k = t + 1 := by omega
    have q := stop w hw2
    rw [this] at q ⊢
    exact q
theorem kry_all {ws : List Row} {k : Nat} (hp : 0 < p) (hA : Oks p n A) (hl : A.length = n) (hw : Oks p n ws) (stop : ∀ w ∈ ws, Sp p n (kry p A ws k) (it p A k w)) (hw2 : w ∈ ws) : ∀ t, Sp p n (kry p A ws k) (it p A t w)
  | 0 => by
    rcases Nat.eq_zero_or_pos k with z | z
    · have q := stop w hw2
      rw [z] at q ⊢
      exact q
    · exact Sp.gen hp (hw w hw2) (mem_kry.2 ⟨0, z, w, hw2, rfl⟩)
  | t + 1 => kry_closed hp hA hl hw stop (kry_all hp hA hl hw stop hw2 t)
/-- so many steps as there are places are enough -/
theorem kry_stop {ws : List Row} (hp : 1 < p) (P : Prm p) (hA : Oks p n A) (hl : A.length = n) (hw : Oks p n ws) : ∃ k, k ≤ n ∧ ∀ w ∈ ws, Sp p n (kry p A ws k) (it p A k w) := by
  have hp0 : 0 < p := by omega
  refine Classical.byContradiction fun no => ?_
  have grow : ∀ k, k ≤ n + 1 → ∀ S, Rref p n S → Same p n S (kry p A ws k) → k ≤ S.length := by
    intro k
    induction k with
    | zero => intro _ S _ _; omega
    | succ k ih =>
      intro hk S hS sS
      obtain ⟨S0, r0, s0⟩ := exists_rref (n := n) hp P (kry_ok (A := A) (k := k) hp0 hl hw)
      have l0 := ih (by omega) S0 r0 s0
      obtain ⟨w, hw2, nw⟩ : ∃ w ∈ ws, ¬ Sp p n (kry p A ws k) (it p A k w) := Classical.byContradiction fun z => no ⟨k, by omega, fun w hw2 => Classical.byContradiction fun q => z ⟨w, hw2, q⟩⟩
      have := len_less hp r0 hS (fun v hv => (sS v).2 (kry_up (by omega) ((s0 v).1 hv))) (v := it p A k w) ((sS _).2 (Sp.gen hp0 (it_ok hp0 hl (hw w hw2) k) (mem_kry.2 ⟨k, by omega, w, hw2, rfl⟩))) fun q => nw ((s0 _).1 q)
      omega
  obtain ⟨S, rS, sS⟩ := exists_rref (n := n) hp P (kry_ok (A := A) (k := n + 1) hp0 hl hw)
  have h1 := grow (n + 1) (Nat.le_refl _) S rS sS
  have h2 := rS.len_le
  omega
theorem kry_n {ws : List Row} (hp : 1 < p) (P : Prm p) (hA : Oks p n A) (hl : A.length = n) (hw : Oks p n ws) {k : Nat} (hk : n ≤ k) (hw2 : w ∈ ws) (t : Nat) : Sp p n (kry p A ws k) (it p A t w) := by
  obtain ⟨k0, h0, stop⟩ := kry_stop hp P hA hl hw
  exact kry_up (by omega) (kry_all (by omega) hA hl hw stop hw2 t)
theorem kry_same {ws : List Row} (hp : 1 < p) (P : Prm p) (hA : Oks p n A) (hl : A.length = n) (hw : Oks p n ws) {j k : Nat} (hj : n ≤ j) (hk : n ≤ k) : Same p n (kry p A ws j) (kry p A ws k) :=
  same_of (by omega) (kry_ok (by omega) hl hw) (kry_ok (by omega) hl hw) (fun x hx => by
    obtain ⟨t, _, w, hw2, e⟩ := mem_kry.1 hx
    rw [← e]
    exact kry_n hp P hA hl hw hk hw2 t) fun x hx => by
    obtain ⟨t, _, w, hw2, e⟩ := mem_kry.1 hx
    rw [← e]
    exact kry_n hp P hA hl hw hj hw2 t
theorem kry_stable {ws : List Row} (hp : 1 < p) (P : Prm p) (hA : Oks p n A) (hl : A.length = n) (hw : Oks p n ws) {k : Nat} (hk : n ≤ k) (hv : Sp p n (kry p A ws k) v) : Sp p n (kry p A ws k) (app p A v) :=
  kry_closed (by omega) hA hl hw (fun w hw2 => kry_n hp P hA hl hw hk hw2 k) hv
/-! ### the table turned over -/
def tr (n : Nat) (A : List Row) : List Row := (List.range n).map fun j => A.map fun r => g r j
theorem tr_len : (tr n A).length = n := by unfold tr; rw [List.length_map, List.length_range]
theorem tr_ok (hp : 0 < p) (hA : Oks p n A) (hl : A.length = n) : Oks p n (tr n A) := fun x hx => by
  obtain ⟨j, _, e⟩ := List.mem_map.mp hx
  rw [← e]
  refine ⟨by rw [List.length_map]; exact hl, fun y hy => ?_⟩
  obtain ⟨r, hr, e2⟩ := List.mem_map.mp hy
  rw [← e2]
  exact g_bd hp (hA r hr) j
theorem tr_row {j : Nat} (hj : j < n) : (tr n A)[j]'(by rw [tr_len]; exact hj) = A.map fun r => g r j := by
  unfold tr
  rw [List.getElem_map, List.getElem_range]
theorem g_col {j i : Nat} (hi : i < A.length) : g (A.map fun r => g r j) i = g A[i] j := by
  rw [g_lt (by rw [List.length_map]; exact hi), List.getElem_map]
theorem sum_mod {α : Type} {l : List α} {f h : α → Int} (e : ∀ x ∈ l, f x % p = h x % p) : (l.map f).sum % p = (l.map h).sum % p := by
  induction l with
  | nil => rfl
  | cons a t ih =>
    rw [List.map_cons, List.sum_cons, List.map_cons, List.sum_cons]
    exact mod_add_cong (e a List.mem_cons_self) (ih fun x hx => e x (List.mem_cons_of_mem _ hx))
theorem sum_scale {α : Type} {l : List α} {f : α → Int} {c : Int} : c * (l.map f).sum = (l.map fun x => c * f x).sum := by
  induction l with
  | nil => simp
  | cons a t ih => rw [List.map_cons, List.sum_cons, Int.mul_add, ih, List.map_cons, List.sum_cons]
theorem sum_plus {α : Type} {l : List α} {f h : α → Int} : (l.map f).sum + (l.map h).sum = (l.map fun x => f x + h x).sum := by
  induction l with
  | nil => rfl
  | cons a t ih =>
    simp only [List.map_cons, List.sum_cons]
    omega
theorem sum_swap {α β : Type} {l : List α} {m : List β} {f : α → β → Int} : (l.map fun a => (m.map fun b => f a b).sum).sum = (m.map fun b => (l.map fun a => f a b).sum).sum := by
  induction l with
  | nil => simp [sum_none]
  | cons a t ih =>
    rw [List.map_cons, List.sum_cons, ih, sum_plus]
    rfl
theorem dot_app (hp : 0 < p) (hA : Oks p n A) (hl : A.length = n) (hs : u.length = n) (hv : v.length = n) : dot p u (app p A v) = dot p (app p (tr n A) u) v := by
  have la : (app p A v).length = n := (app_ok hp hl).1
  have lb : (app p (tr n A) u).length = n := (app_ok hp tr_len).1
  have e1 : dot p u (app p A v) = ((List.range n).map fun i => ((List.range n).map fun j => g u i * (g (A.getD i []) j * g v j)).sum).sum % p := by
    rw [dot_eq hs la]
    refine sum_mod fun i hi => ?_
    have hi2 : i < A.length := by rw [hl]; exact List.mem_range.mp hi
    have ea : A.getD i [] = A[i] := by rw [List.getD_eq_getElem?_getD, List.getElem?_eq_getElem hi2]; rfl
    rw [g_app hi2, dot_eq (hA _ (List.getElem_mem hi2)).1 hv, ← sum_scale, ea]
    exact mod_mul_cong rfl (mm _ _)
  have e2 : dot p (app p (tr n A) u) v = ((List.range n).map fun j => ((List.range n).map fun i => g u i * (g (A.getD i []) j * g v j)).sum).sum % p := by
    rw [dot_eq lb hv]
    refine sum_mod fun j hj => ?_
    have hj2 : j < n := List.mem_range.mp hj
    have ht : j < (tr n A).length := by rw [tr_len]; exact hj2
    rw [g_app ht, tr_row hj2, dot_eq (by rw [List.length_map]; exact hl) hs]
    have e3 : ((List.range n).map fun i => g u i * (g (A.getD i []) j * g v j)).sum = g v j * ((List.range n).map fun i => g (A.map fun r => g r j) i * g u i).sum := by
      rw [sum_scale]
      refine congrArg List.sum (List.map_congr_left fun i hi => ?_)
      have hi2 : i < A.length := by rw [hl]; exact List.mem_range.mp hi
      have ea : A.getD i [] = A[i] := by rw [List.getD_eq_getElem?_getD, List.getElem?_eq_getElem hi2]; rfl
      rw [g_col hi2, ea]
      grind
    rw [e3, Int.mul_comm]
    exact mod_mul_cong rfl (mm _ _)
  rw [e1, e2, sum_swap]
theorem dot_it (hp : 0 < p) (hA : Oks p n A) (hl : A.length = n) (hu : OkR p n u) (hv : OkR p n v) : ∀ t, dot p u (it p A t v) = dot p (it p (tr n A) t u) v := by
  have two : ∀ t (u : Row), it p (tr n A) t (app p (tr n A) u) = app p (tr n A) (it p (tr n A) t u) := fun t => by
    induction t with
    | zero => intro u; rfl
    | succ t ih => intro u; show app p _ (it p _ t _) = app p _ (app p _ (it p _ t u)); rw [ih]
  intro t
  induction t generalizing u with
  | zero => rfl
  | succ t ih =>
    show dot p u (app p A (it p A t v)) = _
    rw [dot_app hp hA hl hu.1 (it_ok hp hl hv t).1, ih (app_ok hp tr_len), two]
    rfl
/-- what is never seen is what is not seen in so many ticks as there are cells -/
theorem unseen_n {ss : List Row} (hp : 1 < p) (P : Prm p) (hA : Oks p n A) (hl : A.length = n) (hs : Oks p n ss) {k : Nat} (hk : n ≤ k) (hv : OkR p n v) (h : ∀ t, t < k → ∀ s ∈ ss, dot p s (it p A t v) = 0) : ∀ t, ∀ s ∈ ss, dot p s (it p A t v) = 0 := fun t s hs2 => by
  have hp0 : 0 < p := by omega
  rw [dot_it hp0 hA hl (hs s hs2) hv]
  refine perp_sp hp0 (kry_ok (k := k) hp0 tr_len hs) hv.1 (fun x hx => ?_) (kry_n hp P (tr_ok hp0 hA hl) tr_len hs hk hs2 t)
  obtain ⟨j, hj, w, hw, e⟩ := mem_kry.1 hx
  rw [← e, ← dot_it hp0 hA hl (hs w hw) hv]
  exact h j hj w hw
end
end Lin


set_option maxRecDepth 100000
set_option linter.unusedVariables false
/-! a table that can be undone: it comes round -/
namespace Lin
section
variable {p : Int} {n : Nat} {S T R : List Row} {A : List Row} {v w r u : Row}
def unit (n j : Nat) : Row := (zero n).set j 1
theorem unit_len {j : Nat} : (unit n j).length = n := by unfold unit zero; rw [List.length_set, List.length_replicate]
theorem g_unit {j i : Nat} (hj : j < n) : g (unit n j) i = if i = j then 1 else 0 := by
  unfold unit
  rw [g_set (by unfold zero; rw [List.length_replicate]; exact hj), g_zero]
theorem unit_ok (hp : 1 < p) {j : Nat} (hj : j < n) : OkR p n (unit n j) := by
  refine ⟨unit_len, fun x hx => ?_⟩
  obtain ⟨i, hi, e⟩ := List.mem_iff_getElem.mp hx
  have q := g_unit (n := n) (i := i) hj
  rw [g_lt hi, e] at q
  rw [q]
  split <;> omega
theorem dot_unit (hp : 0 < p) {j : Nat} (hj : j < n) (hv : OkR p n v) : dot p (unit n j) v = g v j := by
  rw [dot_eq unit_len hv.1]
  have e : ((List.range n).map fun i => g (unit n j) i * g v i).sum = g (unit n j) j * g v j :=
    sum_one (f := fun i => g (unit n j) i * g v i) List.nodup_range (List.mem_range.mpr hj) fun i _ d => by rw [g_unit hj, if_neg d, Int.zero_mul]
  rw [e, g_unit hj, if_pos rfl, Int.one_mul, g_mod hp hv]
/-- as many steps as places: all rows are spanned -/
theorem span_all (hp : 1 < p) (hS : Rref p n S) (hl : S.length = n) (hv : OkR p n v) : Sp p n S v := by
  have hp0 : 0 < p := by omega
  refine Classical.byContradiction fun no => ?_
  have nd : (v :: combos p n S).Nodup := List.nodup_cons.mpr ⟨fun z => no ((mem_combos hp0 hS.ok).1 z), combos_nd hp0 hS.ind⟩
  have := nd_len nd (ys := allRows p n) fun x hx => (mem_all hp0).2 (by
    rcases List.mem_cons.mp hx with e | e
    · rw [e]; exact hv
    · exact ((mem_combos hp0 hS.ok).1 e).ok hp0 hS.ok)
  rw [List.length_cons, combos_len, all_len, hl] at this
  omega
theorem app_inj (hp : 1 < p) (hA : Oks p n A) (hl : A.length = n) (hS : Rref p n S) (hn : S.length = n) (sS : Same p n S A) (hu : OkR p n u) (hv : OkR p n v) (e : app p A u = app p A v) : u = v := by
  have hp0 : 0 < p := by omega
  refine ext hu.1 hv.1 fun j hj => ?_
  have od := ok_add (p := p) (c := -1) hp0 hu.1 hv.1
  have z : ∀ r ∈ A, dot p r (add p u (-1) v) = 0 := fun r hr => by
    obtain ⟨i, hi, ei⟩ := List.mem_iff_getElem.mp hr
    have q := congrArg (fun x => g x i) e
    simp only [g_app hi, ei] at q
    rw [dot_add2 hu.1 hv.1 (hA r hr).1, q]
    have : dot p r v + -1 * dot p r v = 0 := by omega
    rw [this]; rfl
  have q := perp_sp hp0 hA od.1 z ((sS _).1 (span_all hp hS hn (unit_ok hp hj)))
  rw [dot_unit hp0 hj od, g_add (by rw [hu.1, hv.1])] at q
  have b1 := g_bd hp0 hu j
  have b2 := g_bd hp0 hv j
  have := small_dvd (x := g u j + -1 * g v j) hp0 (by omega) (by omega) q
  omega
theorem it_add (s t : Nat) (v : Row) : it p A (s + t) v = it p A s (it p A t v) := by
  induction s with
  | zero => rw [Nat.zero_add]; rfl
  | succ s ih => rw [Nat.succ_add]; show app p A (it p A (s + t) v) = _; rw [ih]; rfl
theorem it_inj (hp : 1 < p) (hA : Oks p n A) (hl : A.length = n) (hS : Rref p n S) (hn : S.length = n) (sS : Same p n S A) : ∀ (t : Nat) {u v : Row}, OkR p n u → OkR p n v → it p A t u = it p A t v → u = v
  | 0, _, _, _, _, e => e
  | t + 1, u, v, hu, hv, e => it_inj hp hA hl hS hn sS t hu hv (app_inj hp hA hl hS hn sS (it_ok (by omega) hl hu t) (it_ok (by omega) hl hv t) e)
theorem comes_round (hp : 1 < p) (hA : Oks p n A) (hl : A.length = n) (hS : Rref p n S) (hn : S.length = n) (sS : Same p n S A) (hv : OkR p n v) : ∃ t, 1 ≤ t ∧ it p A t v = v := by
  have hp0 : 0 < p := by omega
  refine Classical.byContradiction fun no => ?_
  have ne : ∀ i j, i < j → it p A i v ≠ it p A j v := fun i j hij e => by
    refine no ⟨j - i, by omega, ?_⟩
    have e2 : j = i + (j - i) := by omega
    rw [e2, it_add] at e
    exact (it_inj hp hA hl hS hn sS i hv (it_ok hp0 hl hv _) e).symm
  have nd : ((List.range (p.toNat ^ n + 1)).map fun t => it p A t v).Nodup := List.pairwise_map.mpr (List.pairwise_lt_range.imp fun {a b} h => ne a b h)
  have := nd_len nd (ys := allRows p n) fun x hx => (mem_all hp0).2 (by
    obtain ⟨t, _, e⟩ := List.mem_map.mp hx
    rw [← e]
    exact it_ok hp0 hl hv t)
  rw [List.length_map, List.length_range, all_len] at this
  omega
theorem it_mul {t : Nat} (h : it p A t v = v) : ∀ k, it p A (t * k) v = v
  | 0 => rfl
  | k + 1 => by rw [Nat.mul_succ, it_add, h]; exact it_mul h k
/-- all of some rows come round together -/
theorem all_round (hp : 1 < p) (hA : Oks p n A) (hl : A.length = n) (hS : Rref p n S) (hn : S.length = n) (sS : Same p n S A) : ∀ {vs : List Row}, Oks p n vs → ∃ t, 1 ≤ t ∧ ∀ v ∈ vs, it p A t v = v
  | [], _ => ⟨1, Nat.le_refl 1, fun _ z => by cases z⟩
  | v :: l, h => by
    obtain ⟨t, h1, h2⟩ := all_round hp hA hl hS hn sS (vs := l) fun x hx => h x (List.mem_cons_of_mem _ hx)
    obtain ⟨k, k1, k2⟩ := comes_round hp hA hl hS hn sS (h v List.mem_cons_self)
    refine ⟨t * k, Nat.mul_pos h1 k1, fun x hx => ?_⟩
    rcases List.mem_cons.mp hx with e | e
    · rw [e, Nat.mul_comm]; exact it_mul k2 t
    · exact it_mul (h2 x e) k
/-- the round: the least such number -/
theorem least_round {Q : Nat → Prop} (h : ∃ t, 1 ≤ t ∧ Q t) : ∃ t, 1 ≤ t ∧ Q t ∧ ∀ s, 1 ≤ s → s < t → ¬ Q s := by
  obtain ⟨t, h1, h2⟩ := h
  induction t using Nat.strongRecOn with
  | _ t ih =>
    rcases Classical.em (∃ s, 1 ≤ s ∧ s < t ∧ Q s) with ⟨s, s1, s2, s3⟩ | no
    · exact ih s s2 s1 s3
    · exact ⟨t, h1, h2, fun s s1 s2 s3 => no ⟨s, s1, s2, s3⟩⟩
/-! ### tables one behind the other -/
/-- what one table makes of the columns of another one -/
def behind (p : Int) (n : Nat) (A C : List Row) : List Row := tr n ((tr n C).map (app p A))
theorem g_tr {i j : Nat} (hA : A.length = n) (hi : i < n) (hj : j < n) : g ((tr n A).getD j []) i = g (A.getD i []) j := by
  have ht : j < (tr n A).length := by rw [tr_len]; exact hj
  have hi2 : i < A.length := by omega
  have e1 : (tr n A).getD j [] = A.map fun r => g r j := by
    rw [List.getD_eq_getElem?_getD, List.getElem?_eq_getElem ht]
    exact tr_row hj
  have e2 : A.getD i [] = A[i] := by rw [List.getD_eq_getElem?_getD, List.getElem?_eq_getElem hi2]; rfl
  rw [e1, e2, g_col hi2]
theorem tr_tr (hA : A.length = n) (hr : ∀ r ∈ A, r.length = n) : tr n (tr n A) = A := by
  refine List.ext_getElem (by rw [tr_len, hA]) fun i h1 h2 => ?_
  have hi : i < n := by omega
  rw [tr_row hi]
  refine ext (n := n) (by rw [List.length_map, tr_len]) (hr _ (List.getElem_mem h2)) fun j hj => ?_
  have ht : j < (tr n A).length := by rw [tr_len]; exact hj
  rw [g_col ht]
  have := g_tr hA hi hj
  rw [List.getD_eq_getElem?_getD, List.getElem?_eq_getElem ht, List.getD_eq_getElem?_getD, List.getElem?_eq_getElem h2] at this
  exact this
end
end Lin


set_option maxRecDepth 100000
set_option linter.unusedVariables false
/-! powers of a table -/
namespace Lin
section
variable {p : Int} {n : Nat} {S T R : List Row} {A C : List Row} {v w r u : Row}
theorem behind_row {i : Nat} (hi : i < n) (h : i < (behind p n A C).length) : (behind p n A C)[i] = ((tr n C).map (app p A)).map fun r => g r i := tr_row (A := (tr n C).map (app p A)) hi
theorem units_row {i : Nat} (h : i < ((List.range n).map (unit n)).length) : ((List.range n).map (unit n))[i] = unit n i := by rw [List.getElem_map, List.getElem_range]
theorem behind_is (hp : 0 < p) (hA : Oks p n A) (hl : A.length = n) (hC : Oks p n C) (hlC : C.length = n) : behind p n A C = A.map fun r => app p (tr n C) r := by
  have lt : ((tr n C).map (app p A)).length = n := by rw [List.length_map, tr_len]
  refine List.ext_getElem (by unfold behind; rw [tr_len, List.length_map, hl]) fun i h1 h2 => ?_
  have hi : i < n := by unfold behind at h1; rw [tr_len] at h1; exact h1
  have hi2 : i < A.length := by omega
  rw [behind_row hi h1, List.getElem_map]
  refine ext (n := n) (by rw [List.length_map, lt]) (app_ok hp tr_len).1 fun j hj => ?_
  have ht : j < (tr n C).length := by rw [tr_len]; exact hj
  rw [g_col (by rw [lt]; exact hj), List.getElem_map, g_app hi2, g_app ht]
  exact dot_comm (hA _ (List.getElem_mem hi2)).1 (tr_ok hp hC hlC _ (List.getElem_mem ht)).1
theorem behind_ok (hp : 0 < p) (hl : A.length = n) : Oks p n (behind p n A C) := by
  unfold behind
  refine tr_ok hp (fun x hx => ?_) (by rw [List.length_map, tr_len])
  obtain ⟨y, _, e⟩ := List.mem_map.mp hx
  rw [← e]
  exact app_ok hp hl
theorem behind_len : (behind p n A C).length = n := tr_len
theorem app_behind (hp : 0 < p) (hA : Oks p n A) (hl : A.length = n) (hC : Oks p n C) (hlC : C.length = n) (hv : OkR p n v) : app p (behind p n A C) v = app p A (app p C v) := by
  rw [behind_is hp hA hl hC hlC]
  unfold app
  rw [List.map_map]
  refine List.map_congr_left fun r hr => ?_
  exact (dot_app hp hC hlC (hA r hr).1 hv.1).symm
def units (n : Nat) : List Row := (List.range n).map (unit n)
theorem units_len : (units n).length = n := by unfold units; rw [List.length_map, List.length_range]
theorem units_ok (hp : 1 < p) : Oks p n (units n) := fun x hx => by
  obtain ⟨j, hj, e⟩ := List.mem_map.mp hx
  rw [← e]
  exact unit_ok hp (List.mem_range.mp hj)
theorem app_units (hp : 1 < p) (hv : OkR p n v) : app p (units n) v = v := by
  refine ext (app_ok (by omega) units_len).1 hv.1 fun i hi => ?_
  have hi2 : i < (units n).length := by rw [units_len]; exact hi
  have e : (units n)[i] = unit n i := units_row hi2
  rw [g_app hi2, e, dot_unit (by omega) hi hv]
/-- a table is told by what it makes of the unit rows -/
theorem table_ext (hp : 1 < p) (hA : Oks p n A) (hl : A.length = n) (hC : Oks p n C) (hlC : C.length = n) (h : ∀ j, j < n → app p A (unit n j) = app p C (unit n j)) : A = C := by
  refine List.ext_getElem (by omega) fun i h1 h2 => ?_
  have oA := hA _ (List.getElem_mem h1)
  have oC := hC _ (List.getElem_mem h2)
  refine ext oA.1 oC.1 fun j hj => ?_
  have q := congrArg (fun x => g x i) (h j hj)
  simp only [g_app h1, g_app h2] at q
  rw [dot_comm oA.1 unit_len, dot_comm oC.1 unit_len, dot_unit (by omega) hj oA, dot_unit (by omega) hj oC] at q
  exact q
/-- the table that acts as A does t times -/
def pw (p : Int) (n : Nat) (A : List Row) : Nat → List Row
  | 0 => units n
  | t + 1 => behind p n A (pw p n A t)
theorem pw_ok (hp : 1 < p) (hl : A.length = n) : ∀ t, Oks p n (pw p n A t) ∧ (pw p n A t).length = n
  | 0 => ⟨units_ok hp, units_len⟩
  | t + 1 => ⟨behind_ok (by omega) hl, behind_len⟩
theorem app_pw (hp : 1 < p) (hA : Oks p n A) (hl : A.length = n) (hv : OkR p n v) : ∀ t, app p (pw p n A t) v = it p A t v
  | 0 => app_units hp hv
  | t + 1 => by
    show app p (behind p n A (pw p n A t)) v = app p A (it p A t v)
    rw [app_behind (by omega) hA hl (pw_ok hp hl t).1 (pw_ok hp hl t).2 hv, app_pw hp hA hl hv t]
theorem pw_one (hp : 1 < p) (hA : Oks p n A) (hl : A.length = n) : pw p n A 1 = A :=
  table_ext hp (pw_ok hp hl 1).1 (pw_ok hp hl 1).2 hA hl fun j hj => by rw [app_pw hp hA hl (unit_ok hp hj)]; rfl
theorem pw_add (hp : 1 < p) (hA : Oks p n A) (hl : A.length = n) (s t : Nat) : behind p n (pw p n A s) (pw p n A t) = pw p n A (s + t) :=
  table_ext hp (behind_ok (by omega) (pw_ok hp hl s).2) behind_len (pw_ok hp hl _).1 (pw_ok hp hl _).2 fun j hj => by
    have o := unit_ok (n := n) hp hj
    rw [app_behind (by omega) (pw_ok hp hl s).1 (pw_ok hp hl s).2 (pw_ok hp hl t).1 (pw_ok hp hl t).2 o, app_pw hp hA hl o, app_pw hp hA hl (it_ok (by omega) hl o t), app_pw hp hA hl o, it_add]
theorem pw_still (hp : 1 < p) (hA : Oks p n A) (hl : A.length = n) (t : Nat) : pw p n A t = units n ↔ ∀ v ∈ units n, it p A t v = v := by
  constructor
  · intro e v hv
    have o := units_ok hp v hv
    rw [← app_pw hp hA hl o, e, app_units hp o]
  · intro h
    refine table_ext hp (pw_ok hp hl t).1 (pw_ok hp hl t).2 (units_ok hp) units_len fun j hj => ?_
    have o := unit_ok (n := n) hp hj
    rw [app_pw hp hA hl o, app_units hp o]
    exact h _ (List.mem_map.mpr ⟨j, List.mem_range.mpr hj, rfl⟩)
/-- the round of a table that can be undone -/
theorem round (hp : 1 < p) (hA : Oks p n A) (hl : A.length = n) (hS : Rref p n S) (hn : S.length = n) (sS : Same p n S A) : ∃ t, 1 ≤ t ∧ pw p n A t = units n ∧ ∀ s, 1 ≤ s → s < t → pw p n A s ≠ units n := by
  obtain ⟨t, h1, h2⟩ := all_round hp hA hl hS hn sS (units_ok (n := n) hp)
  exact least_round ⟨t, h1, (pw_still hp hA hl t).2 h2⟩
end
end Lin


set_option maxRecDepth 100000
set_option linter.unusedVariables false
/-! tables that can be undone: how they are drawn, how they are told -/
namespace Lin
section
variable {p : Int} {n : Nat} {S T R : List Row} {A C : List Row} {v w r u : Row}
/-- all rows are sums of multiples -/
def Full (p : Int) (n : Nat) (A : List Row) : Prop := ∀ v, OkR p n v → Sp p n A v
theorem full_rank (hp : 1 < p) (hS : Rref p n S) (sS : Same p n S A) : Full p n A ↔ S.length = n := by
  have hp0 : 0 < p := by omega
  constructor
  · intro h
    have := nd_len (all_nd (p := p) n) (ys := combos p n S) fun x hx => (mem_combos hp0 hS.ok).2 ((sS x).2 (h x ((mem_all hp0).1 hx)))
    rw [all_len, combos_len] at this
    have := (Nat.pow_le_pow_iff_right (a := p.toNat) (by omega)).1 this
    have := hS.len_le
    omega
  · intro h v hv
    exact (sS v).1 (span_all hp hS h hv)
theorem full_units (hp : 1 < p) : Full p n (units n) := fun v hv => by
  have hp0 : 0 < p := by omega
  -- the first k places of v
  have part : ∀ k, k ≤ n → ∃ u, Sp p n (units n) u ∧ ∀ i, i < n → g u i = if i < k then g v i else 0 := by
    intro k
    induction k with
    | zero => intro _; exact ⟨zero n, .zero, fun i _ => by rw [g_zero, if_neg (by omega)]⟩
    | succ k ih =>
      intro hk
      obtain ⟨u, h1, h2⟩ := ih (by omega)
      have ou := h1.ok hp0 (units_ok hp)
      refine ⟨add p u (g v k) (unit n k), h1.step _ (List.mem_map.mpr ⟨k, List.mem_range.mpr (by omega), rfl⟩), fun i hi => ?_⟩
      rw [g_add (by rw [ou.1, unit_len]), h2 i hi, g_unit (by omega)]
      by_cases e : i = k
      · subst e
        rw [if_neg (by omega), if_pos rfl, if_pos (by omega), Int.zero_add, Int.mul_one, g_mod hp0 hv]
      · rw [if_neg e, Int.mul_zero, Int.add_zero]
        by_cases l : i < k
        · rw [if_pos l, if_pos (by omega), g_mod hp0 hv]
        · rw [if_neg l, if_neg (by omega)]; rfl
  obtain ⟨u, h1, h2⟩ := part n (Nat.le_refl n)
  have e : u = v := ext (h1.ok hp0 (units_ok hp)).1 hv.1 fun i hi => by rw [h2 i hi, if_pos hi]
  rw [← e]
  exact h1
theorem full_of (hp : 0 < p) (hA : Oks p n A) (hC : Oks p n C) (h : ∀ r ∈ A, Sp p n C r) (f : Full p n A) : Full p n C := fun v hv => (f v hv).mono hp hC h
/-- another row's multiple added to a row -/
theorem full_step (hp : 0 < p) (hA : Oks p n A) {i j : Nat} (hi : i < A.length) (hj : j < A.length) (ne : i ≠ j) (c : Int) (f : Full p n A) : Oks p n (A.set i (add p A[i] c A[j])) ∧ Full p n (A.set i (add p A[i] c A[j])) := by
  have oi := hA _ (List.getElem_mem hi)
  have oj := hA _ (List.getElem_mem hj)
  have on : OkR p n (add p A[i] c A[j]) := ok_add hp oi.1 oj.1
  have oC : Oks p n (A.set i (add p A[i] c A[j])) := fun x hx => by
    rcases List.mem_or_eq_of_mem_set hx with e | e
    · exact hA x e
    · rw [e]; exact on
  have mj : A[j] ∈ A.set i (add p A[i] c A[j]) := by
    refine List.mem_iff_getElem.mpr ⟨j, by rw [List.length_set]; exact hj, ?_⟩
    rw [List.getElem_set_ne ne]
  have mi : add p A[i] c A[j] ∈ A.set i (add p A[i] c A[j]) := List.mem_iff_getElem.mpr ⟨i, by rw [List.length_set]; exact hi, by rw [List.getElem_set_self]⟩
  refine ⟨oC, full_of hp hA oC (fun r hr => ?_) f⟩
  obtain ⟨k, hk, e⟩ := List.mem_iff_getElem.mp hr
  by_cases ek : k = i
  · subst ek
    have back : add p (add p A[k] c A[j]) (-c) A[j] = r := by
      rw [← e]
      refine ext (len_add on.1 oj.1) oi.1 fun i _ => ?_
      rw [g_add (by rw [on.1, oj.1]), g_add (by rw [oi.1, oj.1]), md (g A[k] i + c * g A[j] i) p]
      have q := g_mod hp oi i
      conv => rhs; rw [← q]
      refine modEq (-((g A[k] i + c * g A[j] i) / p)) ?_
      grind
    rw [← back]
    exact (Sp.gen hp on mi).add hp oC (Sp.gen hp oj mj) (-c)
  · refine Sp.gen hp (hA r hr) ?_
    rw [← e]
    exact List.mem_iff_getElem.mpr ⟨k, by rw [List.length_set]; exact hk, by rw [List.getElem_set_ne (fun z => ek z.symm)]⟩
/-- two rows change places -/
theorem full_swap (hp : 0 < p) (hA : Oks p n A) {i j : Nat} (hi : i < A.length) (hj : j < A.length) (f : Full p n A) : Oks p n ((A.set i A[j]).set j A[i]) ∧ Full p n ((A.set i A[j]).set j A[i]) := by
  have oC : Oks p n ((A.set i A[j]).set j A[i]) := fun x hx => by
    rcases List.mem_or_eq_of_mem_set hx with e | e
    · rcases List.mem_or_eq_of_mem_set e with e | e
      · exact hA x e
      · rw [e]; exact hA _ (List.getElem_mem hj)
    · rw [e]; exact hA _ (List.getElem_mem hi)
  refine ⟨oC, full_of hp hA oC (fun r hr => ?_) f⟩
  refine Sp.gen hp (hA r hr) ?_
  obtain ⟨k, hk, e⟩ := List.mem_iff_getElem.mp hr
  have lz : ((A.set i A[j]).set j A[i]).length = A.length := by rw [List.length_set, List.length_set]
  by_cases e1 : k = j
  · subst e1
    by_cases e2 : k = i
    · subst e2
      refine List.mem_iff_getElem.mpr ⟨k, by omega, ?_⟩
      rw [List.getElem_set_self]
      exact e
    · refine List.mem_iff_getElem.mpr ⟨i, by omega, ?_⟩
      rw [List.getElem_set_ne e2, List.getElem_set_self]
      exact e
  · by_cases e2 : k = i
    · subst e2
      refine List.mem_iff_getElem.mpr ⟨j, by omega, ?_⟩
      rw [List.getElem_set_self]
      exact e
    · refine List.mem_iff_getElem.mpr ⟨k, by omega, ?_⟩
      rw [List.getElem_set_ne (fun z => e1 z.symm), List.getElem_set_ne (fun z => e2 z.symm)]
      exact e
/-! ### spaces told by a property -/
structure Space (p : Int) (n : Nat) (V : Row → Prop) : Prop where
  ok : ∀ v, V v → OkR p n v
  zero : V (zero n)
  add : ∀ u w c, V u → V w → V (add p u c w)
theorem Space.sp {V : Row → Prop} (h : Space p n V) (hR : ∀ r ∈ R, V r) (hv : Sp p n R v) : V v := by
  induction hv with
  | zero => exact h.zero
  | step c _ hr ih => exact h.add _ _ c ih (hR _ hr)
/-- a space has a staircase -/
theorem Space.rref {V : Row → Prop} (hp : 1 < p) (P : Prm p) (h : Space p n V) : ∃ S, Rref p n S ∧ ∀ v, Sp p n S v ↔ V v := by
  classical
  have hp0 : 0 < p := by omega
  have ok : Oks p n ((allRows p n).filter fun v => decide (V v)) := fun x hx => (mem_all hp0).1 (List.mem_filter.mp hx).1
  obtain ⟨S, rS, sS⟩ := exists_rref hp P ok
  refine ⟨S, rS, fun v => (sS v).trans ⟨fun q => h.sp (fun r hr => of_decide_eq_true (List.mem_filter.mp hr).2) q, fun q => ?_⟩⟩
  exact Sp.gen hp0 (h.ok v q) (List.mem_filter.mpr ⟨(mem_all hp0).2 (h.ok v q), decide_eq_true q⟩)
theorem sp_space (hp : 0 < p) (hR : Oks p n R) : Space p n (Sp p n R) := ⟨fun v h => h.ok hp hR, .zero, fun u w c h1 h2 => h1.add hp hR h2 c⟩
theorem Space.and {V W : Row → Prop} (h : Space p n V) (h' : Space p n W) : Space p n fun v => V v ∧ W v :=
  ⟨fun v q => h.ok v q.1, ⟨h.zero, h'.zero⟩, fun u w c q1 q2 => ⟨h.add u w c q1.1 q2.1, h'.add u w c q1.2 q2.2⟩⟩
/-- the rows that meet told rows with 0, told ticks later -/
theorem unseen_space {ss : List Row} {I : Nat → Prop} (hp : 0 < p) (hA : Oks p n A) (hl : A.length = n) (hs : Oks p n ss) : Space p n fun v => OkR p n v ∧ ∀ t, I t → ∀ s ∈ ss, dot p s (it p A t v) = 0 := by
  have lin : ∀ (t : Nat) (u w : Row) (c : Int), OkR p n u → OkR p n w → it p A t (add p u c w) = add p (it p A t u) c (it p A t w) := fun t u w c hu hw => by
    induction t with
    | zero => rfl
    | succ t ih =>
      show app p A (it p A t (add p u c w)) = _
      rw [ih, app_add hp hA hl (it_ok hp hl hu t).1 (it_ok hp hl hw t).1]
      rfl
  have zero_it : ∀ t, it p A t (Lin.zero n) = Lin.zero n := fun t => by
    induction t with
    | zero => rfl
    | succ t ih => show app p A (it p A t (Lin.zero n)) = _; rw [ih, app_zero hA hl]
  refine ⟨fun v q => q.1, ⟨ok_zero n hp, fun t _ s hs2 => ?_⟩, fun u w c q1 q2 => ⟨ok_add hp q1.1.1 q2.1.1, fun t ht s hs2 => ?_⟩⟩
  · rw [zero_it, dot_comm (w := Lin.zero n) (hs s hs2).1 (show (List.replicate n (0 : Int)).length = n from List.length_replicate), dot_zero (hs s hs2).1]
  · rw [lin t u w c q1.1 q2.1, dot_add2 (it_ok hp hl q1.1 t).1 (it_ok hp hl q2.1 t).1 (hs s hs2).1, q1.2 t ht s hs2, q2.2 t ht s hs2]
    simp
/-- two spaces: what both span, and what they share (the sum's and the meeting's lengths) -/
theorem Space.count {V : Row → Prop} (hp : 1 < p) (hS : Rref p n S) (h : ∀ v, Sp p n S v ↔ V v) {L : List Row} (nd : L.Nodup) (hL : ∀ v, v ∈ L ↔ V v) : L.length = p.toNat ^ S.length :=
  hS.ind.count (by omega) nd fun v => (hL v).trans (h v).symm
end
end Lin


set_option Elab.async false
set_option linter.all false
set_option maxRecDepth 100000
set_option maxHeartbeats 4000000
namespace K01
open PySem PySem.Spec PyProof.Rows L2
/-- a machine: its prime, its table, its writes, its sights -/
def MachT (K : PySem.W.Frag) (p : Int) (A W S : List Row) (v : V) (H : Hp) : Prop := ∃ m a w s, v = .ref m ∧ SqT K H m [.int p, a, w, s] ∧ RowsT K A a H ∧ RowsT K W w H ∧ RowsT K S s H
theorem MachT.n {K : PySem.W.Frag} {p : Int} {A W S : List Row} {v : V} {H H' : Hp} (e : ExN H H') (h : MachT K p A W S v H) : MachT K p A W S v H' := by
  obtain ⟨m, a, w, s, h1, h2, h3, h4, h5⟩ := h
  exact ⟨m, a, w, s, h1, sqt_n e h2, h3.n e, h4.n e, h5.n e⟩
theorem MachT.ex {K : PySem.W.Frag} {p : Int} {A W S : List Row} {v : V} {H H' : Hp} (e : Ex H H') (h : MachT K p A W S v H) : MachT K p A W S v H' := h.n (Evl.Ex.n e)
section
variable {P : Program} {w : World} {K : PySem.W.Frag} {mg : Str → Option Value} {base : Heap}
def spStirred (K : PySem.W.Frag) : Sp := fun vs H Q _ => ∃ (p : Int) (n : Nat) (v u : V) (A W S : List Row) (r : Row), vs = [v, u] ∧ MachT K p A W S v H ∧ RowT K r u H ∧ 1 < p ∧ p ≤ 100 ∧ n ≤ 100 ∧ Lin.Oks p n A ∧ A.length = n ∧ Lin.OkR p n r ∧ Ret (RowT K (Lin.app p A r)) H Q
theorem ok_stirred {f : Addr} {fd : FuncData} (B : Bare mg) (F : Fun K "_law_stirred" "_law_stirred" s_law_stirred f fd) (Gm : Got P w K mg base CX0 1 "_law_met" p_law_met (spMet K)) : FnOk P w K mg base CX0 2 f fd p_law_stirred (spStirred K) := by
  refine F.ok sc_law_stirred (fun vs H Q E h => ?_) (fun cdv A outer s H vs Q E hr h => ?_)
  · obtain ⟨p, n, v, u, A, W, S, r, rfl, _⟩ := h
    rfl
  · obtain ⟨p, n, v, u, A, W, S, r, rfl, hM, hr0, h1, h2, hn, oA, lA, oR, q⟩ := h
    have hr1 : Room 1 _ := hr.mono (by decide)
    refine ⟨_, pss_one (ps_ret (pe_callTy call_tuple_of (by rfl) B.tuple (by decide +kernel) (pa_cons (pe_lc (own := [("line", 2)]) (g := gName 2) (tt := tYes) rfl sc_law_stirred.nd (pi_tup (pe_ix ix_tup (pv 0) pe_int (fun _ _ => rfl))) (blkOk_by (N := n_law_stirred) (sc := defScope s_law_stirred) (by decide +kernel))
      (fun _ _ _ _ _ => pg_name (i := 2) sc_law_stirred.nd rfl (Or.inl rfl)) (fun _ _ _ _ _ => pts_nil) (fun _ _ _ _ _ => pe_got Gm hr1 pass0 (pa_cons (pe_ix (show IxR _ (rIxT K) from ix_tup) (pv 0) pe_int (fun _ _ => rfl)) (pa_cons (pv 2) (pa_cons (pv 1) pa_nil))))) pa_nil))), ?_⟩
    obtain ⟨m, a, w', s', rfl, hm, hA, hW, hS⟩ := hM
    obtain ⟨b, us, rfl, hb, pb⟩ := hA
    have lu := pr_len pb
    refine ⟨_, rfl, m, _, _, _, rfl, rfl, hm, at_of (j := 1) rfl rfl, b, rfl, ⟨_, hb⟩, ?_⟩
    refine lc_go (walk_tup (xs := us)) (by omega) (fun H' e => _root_.Evl.ex_t e hb) A lu.symm (fun _ => true) (fun line => IsV (.int (Lin.dot p line r))) (fun _ _ _ _ _ h => h) (fun i d x H1 H2 hn1 e y C N hC hN => ?_) fun D ys H' nD e hD hy => ?_
    · obtain ⟨rfl, ex'⟩ := y
      obtain ⟨d', hd', rd⟩ := pr_get pb ex'
      obtain rfl : d' = d := Option.some.inj (hd'.symm.trans hn1)
      have od := oA d' (List.mem_of_getElem? hd')
      refine ⟨rfl, yes_go ⟨_, rfl, m, _, _, _, rfl, rfl, _root_.Evl.ex_t e hm, at_of (j := 0) rfl rfl, _, rfl, _, rfl, p, x, u, d', r, rfl, rd.ex e, hr0.ex e, by rw [od.1, oR.1], by omega, fun z hz => (by have := od.2 z hz; omega), by rw [od.1]; omega, fun z H3 e3 ez => hC rfl z H3 e3 ez⟩⟩
    · rw [filter_yes] at hy
      have ey : ys = (Lin.app p A r).map V.int := by
        rw [pr_fun hy]
        unfold Lin.app
        rw [List.map_map]
        rfl
      subst ey
      exact ⟨D, _, rfl, .inl ⟨SqL.of hD, fun l hl => q _ _ (e.trans (_root_.Evl.Ex.new hl)) (RowT.new upd_same)⟩⟩
end
end K01


set_option Elab.async false
set_option linter.all false
set_option maxRecDepth 100000
set_option maxHeartbeats 4000000
namespace K01
open PySem PySem.Spec PyProof.Rows L2
section
variable {P : Program} {w : World} {K : PySem.W.Frag} {mg : Str → Option Value} {base : Heap}
def spSpanB (K : PySem.W.Frag) : Sp := fun vs H Q _ => ∃ (p : Int) (n : Nat) (v : V) (R : List Row), vs = [.int p, v, .int (n : Nat)] ∧ RowsT K R v H ∧ 1 < p ∧ p ≤ 100 ∧ 1 ≤ n ∧ n ≤ 100 ∧ p.toNat ^ n ≤ 200 ∧ Lin.Prm p ∧ Lin.Oks p n R ∧ Ret (LotL K p n R) H Q
theorem lot_smallB {p : Int} {n : Nat} {R L : List Row} (hp : 1 < p) (hn : p.toNat ^ n ≤ 200) (o : Lin.Oks p n R) (l : Lin.Lot p n R L) : L.length ≤ 200 ∧ ∀ r ∈ L, Lin.OkR p n r := by
  have ok : ∀ r ∈ L, Lin.OkR p n r := fun r hr => ((l.mem r).1 hr).ok (by omega) o
  refine ⟨?_, ok⟩
  have := Lin.nd_len (ys := Lin.allRows p n) l.nd fun r hr => (Lin.mem_all (by omega)).2 (ok r hr)
  rw [Lin.all_len] at this
  omega
def spLStairsB (K : PySem.W.Frag) : Sp := fun vs H Q _ => ∃ (p : Int) (n : Nat) (v : V) (L : List Row), vs = [.int p, v] ∧ RowsL K L v H ∧ 1 < p ∧ p ≤ 100 ∧ 1 ≤ n ∧ n ≤ 12 ∧ L.length ≤ 200 ∧ (∀ r ∈ L, Lin.OkR p n r) ∧ Ret (LawStair K L) H Q
end
end K01


set_option Elab.async false
set_option linter.all false
set_option maxRecDepth 100000
set_option maxHeartbeats 4000000
namespace K01
open PySem PySem.Spec PyProof.Rows L2
/-- a comprehension whose items may be lists: what is known of an item stays where all but the comprehension's own list stays -/
theorem lc_goD {J : It} {n : Nat} {G : Hp → Prop} {Y : Nat → Hp → V → Hp → Prop} (w : Walk J n G Y) {g : TG} {tt : TT} {te : TE} {vs : List Nat} {σ : L2.St} {H : Hp} {Qd : Addr → Hp → Prop} (hn : n ≤ 40000) (hG : ∀ H', Ex H H' → G H')
    {α : Type} (ds : List α) (hds : ds.length = n) (R : Addr → α → V → Hp → Prop) (stb : ∀ D d v H1 H2, ExB D H1 H2 → R D d v H1 → R D d v H2)
    (turn : ∀ D acc i d x H1 H2, ds[i]? = some d → Ex H H1 → H1 D = some (.lst acc) → Y i H1 x H2 → ∀ (C : V → Hp → Prop) (N : Hp → Prop), (∀ y H3, Ex H1 H3 → R D d y H3 → C y H3) →
      g x (wipe σ vs) H2 fun σ2 H2' => wipe σ2 vs = wipe σ vs ∧ tt σ2 H2' fun b H3 => if b = true then te σ2 H3 C else N H3)
    (q : ∀ D ys H', H D = none → Ex H H' → H' D = some (.lst ys) → Paired (fun y d => R D d y H') ys ds → Qd D H') :
    ∀ D, H D = none → ∃ W : Nat → Nat → Hp → Prop, (∃ m, W 0 m (upd H D (.lst []))) ∧ ∀ i m H, W i m H →
      (J.stop i H ∧ Qd D H) ∨ (J.go i H ∧ ∃ Nx : Hp → Prop, (∀ H', Nx H' → ∃ m', m' < m ∧ W (i + 1) m' H') ∧ ∀ x H', J.yld i H x H' → g x (wipe σ vs) H' fun σ2 H2 => wipe σ2 vs = wipe σ vs ∧ tt σ2 H2 fun b H3 =>
        if b = true then te σ2 H3 fun y H4 => ∃ acc, H4 D = some (.lst acc) ∧ acc.length < sizeLine ∧ Nx (upd H4 D (.lst (acc ++ [y]))) else Nx H3) := by
  intro D hD
  refine lc_it w (Qd := Qd D) (fun i H' => Ex H H' ∧ ∃ ys, H' D = some (.lst ys) ∧ ys.length = i ∧ Paired (fun y d => R D d y H') ys (ds.take i)) ⟨_root_.Evl.Ex.new hD, [], upd_same, rfl, by rw [List.take_zero]; exact .nil⟩
    (fun i H' _ p => hG H' p.1) (fun i x H1 H2 hi p y => ?_) fun H' p => ?_
  · obtain ⟨e1, ys, hy, hl, hp⟩ := p
    have ed : ds[i]? = some (ds[i]'(by omega)) := List.getElem?_eq_getElem (by omega)
    refine turn D ys i _ x H1 H2 ed e1 hy y _ _ fun y H3 e3 r => ?_
    have h3 := e3 D _ hy
    have up : ExB D H3 (upd H3 D (.lst (ys ++ [y]))) := ExB.at (ExB.refl D H3)
    refine ⟨ys, h3, _root_.Evl.sz_lt (by omega), _root_.Evl.Ex.mut (e1.trans e3) hD, ys ++ [y], upd_same, by rw [List.length_append, List.length_singleton]; omega, ?_⟩
    rw [List.take_add_one, ed]
    exact pr_snoc (pr_mono hp fun a b z => stb D b _ _ _ up (stb D b _ _ _ (ExB.of e3) z)) (stb D _ _ _ _ up r)
  · obtain ⟨e1, ys, hy, hl, hp⟩ := p
    rw [List.take_of_length_le (by omega)] at hp
    exact q D ys H' hD e1 hy hp
def rTupK (K : PySem.W.Frag) : List V → Hp → VK → Prop := fun xs H Q => ∃ p ys, xs = [.ref p] ∧ ((SqL K H p ys ∧ ∀ l, H l = none → Q (.ref l) (upd H l (.tup ys))) ∨ (SqT K H p ys ∧ Q (.ref p) H))
/-- a list of lists of whole numbers, none of them at a -/
def TabL (a : Addr) (rs : List Row) (l : Addr) (H : Hp) : Prop := l ≠ a ∧ ∃ ls, H l = some (.lst ls) ∧ Paired (fun x r => ∃ b, x = .ref b ∧ b ≠ a ∧ b ≠ l ∧ H b = some (.lst (r.map V.int))) ls rs
theorem TabL.b {a l : Addr} {rs : List Row} {H H' : Hp} (e : ExB a H H') (h : TabL a rs l H) : TabL a rs l H' := by
  obtain ⟨nl, ls, h1, h2⟩ := h
  refine ⟨nl, ls, e _ _ nl h1, pr_mono h2 fun x r z => ?_⟩
  obtain ⟨b, z1, z2, z3, z4⟩ := z
  exact ⟨b, z1, z2, z3, e _ _ z2 z4⟩
theorem unit_is {n j : Nat} (hj : j < n) : (List.range n).map (fun (i : Nat) => if i = j then (1 : Int) else 0) = Lin.unit n j := by
  refine Lin.ext (n := n) (by rw [List.length_map, List.length_range]) Lin.unit_len fun i hi => ?_
  rw [Lin.g_unit hj, Lin.g_lt (by rw [List.length_map, List.length_range]; exact hi), List.getElem_map, List.getElem_range]
theorem pr_set {α β : Type} {F : α → β → Prop} {xs : List α} {ys : List β} {a : α} {b : β} (h : Paired F xs ys) (r : F a b) : ∀ i, Paired F (xs.set i a) (ys.set i b) := by
  induction h with
  | nil => intro i; exact .nil
  | cons r0 t ih =>
    intro i
    cases i with
    | zero => exact .cons r t
    | succ i => exact .cons r0 (ih i)
/-- all but what stands at a and at D is as it was -/
def ExC (a D : Addr) (H H' : Hp) : Prop := ∀ b o, b ≠ a → b ≠ D → H b = some o → H' b = some o
theorem ExC.of {a D : Addr} {H H' : Hp} (e : ExB a H H') : ExC a D H H' := fun b o n _ h => e b o n h
theorem ExC.trans {a D : Addr} {H H1 H2 : Hp} (e : ExC a D H H1) (e' : ExC a D H1 H2) : ExC a D H H2 := fun b o n m h => e' b o n m (e b o n m h)
theorem ExC.mk {a D : Addr} {H H1 : Hp} {o : HO} (e : Ex H H1) : ExC a D H (upd H1 D o) := fun b u _ m h => by rw [upd_ne m]; exact e _ _ h
theorem Row0.up {a b sc : Addr} {K : PySem.W.Frag} {ns : List Int} {G : Hp} {ys : List V} (nb : b ≠ a) (o : Off K b sc ns) (h : Row0 K a sc ns G) : Row0 K a sc ns (upd G b (.lst ys)) := by
  obtain ⟨i, sd, gr, h1, h2, h3, h4⟩ := h
  exact ⟨i, sd, gr, by rw [upd_ne nb.symm]; exact h1, h2, sql_o (ExB.at (ExB.refl b G)) o h3, h4⟩
theorem Row0.sql {a sc : Addr} {K : PySem.W.Frag} {ns : List Int} {G : Hp} (h : Row0 K a sc ns G) : SqL K G sc (ns.map V.int) := by
  obtain ⟨_, _, _, _, _, h3, _⟩ := h
  exact h3
def spStir (K : PySem.W.Frag) : Sp := fun vs H Q _ => ∃ (a sc : Addr) (ns : List Int) (p : Int) (n : Nat), vs = [.ref a, .int p, .int (n : Nat)] ∧ Row0 K a sc ns H ∧ 1 < p ∧ p ≤ 100 ∧ 1 ≤ n ∧ n ≤ 100 ∧ ∀ v H', ExB a H H' → Row0 K a sc ns H' → (∃ A, RowsT K A v H' ∧ Lin.Oks p n A ∧ A.length = n ∧ Lin.Full p n A) → Q v H'
section
variable {P : Program} {w : World} {K : PySem.W.Frag} {mg : Str → Option Value} {base : Heap}
theorem ok_stirL {f : Addr} {fd : FuncData} (B : Bare mg) (F : Fun K "_law_stir" "_law_stir" s_law_stir f fd) (Gt : Got P w K mg base CX0 1 "_law_taken" p_law_taken (spTaken K)) : FnOk P w K mg base CX0 2 f fd p_law_stir (spStir K) := by
  refine F.ok sc_law_stir (fun vs H Q E h => by obtain ⟨a, sc, ns, p, n, rfl, _⟩ := h; rfl) (fun cdv A outer s H vs Q E hr h => ?_)
  obtain ⟨a, sc, ns, p, n, rfl, hr0, h1, h2, hn1, hn, q⟩ := h
  refine ⟨_, pss_cons (ps_setLc (i := 3) (own := [("other", 5)]) (g := gName 5) (tt := tYes) rfl sc_law_stir.nd rfl rfl (sw_true rfl rfl rfl (by decide +kernel)) (pi_range1 rfl B.range (pa_cons (pv 2) pa_nil)) (blkOk_by (N := n_law_stir) (sc := defScope s_law_stir) (by decide +kernel)) (fun _ _ _ _ _ => pg_name (i := 5) sc_law_stir.nd rfl (Or.inr rfl)) (fun _ _ _ _ _ => pts_nil)
      (fun _ _ _ _ _ => pe_lc (own := [("one", 4)]) (g := gName 4) (tt := tYes) rfl sc_law_stir.nd (pi_range1 rfl B.range (pa_cons (pv 2) pa_nil)) (blkOk_by (by rfl)) (fun _ _ _ _ _ => pg_name (i := 4) sc_law_stir.nd rfl (Or.inl rfl)) (fun _ _ _ _ _ => pts_nil)
        (fun _ _ _ _ _ => pe_callTy call_int1 (by rfl) B.int (by decide +kernel) (pa_cons (pe_cmpR op_eq (pv 4) (pv 5) (nomark _)) pa_nil))))
    (pss_cons (ps_for PassesOwn.never rfl (pi_range1 rfl B.range (pa_cons (pe_got Gt hr pass0 (pa_cons (pv 0) (pa_cons pe_int pa_nil))) pa_nil)) (pg_name (i := 6) sc_law_stir.nd rfl (Or.inl rfl))
      (pss_cons (ps_asg (pe_tup (pa_cons (pe_got Gt hr pass0 (pa_cons (pv 0) (pa_cons (pv 2) pa_nil))) (pa_cons (pe_got Gt hr pass0 (pa_cons (pv 0) (pa_cons (pv 2) pa_nil))) (pa_cons (pe_op op_add pe_int (pe_got Gt hr pass0 (pa_cons (pv 0) (pa_cons (pe_op op_sub (pv 1) pe_int) pa_nil)))) pa_nil))))
          (pg_tup rfl (pgs_cons (pg_name (i := 4) sc_law_stir.nd rfl (Or.inl rfl)) (pgs_cons (pg_name (i := 5) sc_law_stir.nd rfl (Or.inl rfl)) (pgs_cons (pg_name (i := 7) sc_law_stir.nd rfl (Or.inr rfl)) pgs_nil)))))
      (pss_cons (ps_if (pt_cmpR op_ne (pv 4) (pv 5) (nomark _)) (pss_one (ps_asg (pe_lc (own := [("left", 8), ("right", 9)]) (g := gTup K 2 (gCons (gName 8) (gCons (gName 9) gNil))) (tt := tYes) rfl sc_law_stir.nd (RZ.pi_zipA (by rfl) B.zip (pa_cons (pe_ix ix_list (pv 3) (pv 4) (fun _ _ => rfl)) (pa_cons (pe_ix ix_list (pv 3) (pv 5) (fun _ _ => rfl)) pa_nil))) (blkOk_by (N := n_law_stir) (sc := defScope s_law_stir) (by decide +kernel))
            (fun _ _ _ _ _ => pg_tup rfl (pgs_cons (pg_name (i := 8) sc_law_stir.nd rfl (Or.inl rfl)) (pgs_cons (pg_name (i := 9) sc_law_stir.nd rfl (Or.inl rfl)) pgs_nil))) (fun _ _ _ _ _ => pts_nil) (fun _ _ _ _ _ => pe_op op_modN (pe_op op_add (pv 8) (pe_op op_mul (pv 7) (pv 9))) (pv 1)))
          (pg_sub (pv 3) (pv 4) set_list))) pss_nil)
      (pss_one (ps_asg (pe_tup (pa_cons (pe_ix ix_list (pv 3) (pv 5) (fun _ _ => rfl)) (pa_cons (pe_ix ix_list (pv 3) (pv 4) (fun _ _ => rfl)) pa_nil))) (pg_tup rfl (pgs_cons (pg_sub (pv 3) (pv 4) set_list) (pgs_cons (pg_sub (pv 3) (pv 5) set_list) pgs_nil))))))))
    (pss_one (ps_ret (pe_callTy call_tuple_of (by rfl) B.tuple (by decide +kernel) (pa_cons (pe_lc (own := [("line", 10)]) (g := gName 10) (tt := tYes) rfl sc_law_stir.nd (pi_list (pv 3)) (blkOk_by (N := n_law_stir) (sc := defScope s_law_stir) (by decide +kernel)) (fun _ _ _ _ _ => pg_name (i := 10) sc_law_stir.nd rfl (Or.inl rfl)) (fun _ _ _ _ _ => pts_nil)
        (fun _ _ _ _ _ => pe_callTy (show CallR _ (.type "tuple") (rTupK K) from call_tuple_of) (by rfl) B.tuple (by decide +kernel) (pa_cons (pv 10) pa_nil))) pa_nil))))), ?_⟩
  have hp0 : 0 < p := by omega
  -- the unit rows
  refine ⟨_, rfl, _, rfl, by omega, by omega, ?_⟩
  refine lc_goD (walk_range (lo := 0) (n := ((n : Nat) : Int).toNat)) (by omega) (fun _ _ => trivial) (List.range n) (by rw [List.length_range, Int.toNat_natCast]) (fun D j y H' => ∃ b, y = .ref b ∧ b ≠ a ∧ b ≠ D ∧ H' b = some (.lst ((Lin.unit n j).map V.int)))
    (fun D d v H1 H2 e ⟨b, z1, z2, z3, z4⟩ => ⟨b, z1, z2, z3, e _ _ z3 z4⟩) (fun D acc i j x H1 H2 hj e1 hD yy C N hC => ?_) fun D ls H1 nD e1 hD hls => ?_
  · obtain ⟨rfl, ex⟩ := yy
    have ex' : x = V.int ((i : Nat) : Int) := ex.trans (by show V.int _ = V.int _; rw [Int.zero_add])
    subst ex'
    have hi : i < n := by
      have := (List.getElem?_eq_some_iff.mp hj).1
      rwa [List.length_range] at this
    have ej : j = i := by
      rw [List.getElem?_range hi] at hj
      exact (Option.some.inj hj).symm
    subst ej
    refine ⟨rfl, yes_go ⟨_, rfl, _, rfl, by omega, by omega, ?_⟩⟩
    refine lc_go (walk_range (lo := 0) (n := ((n : Nat) : Int).toNat)) (by omega) (fun _ _ => trivial) (List.range n) (by rw [List.length_range, Int.toNat_natCast]) (fun _ => true) (fun m => IsV (.int (if m = j then 1 else 0))) (fun _ _ _ _ _ h => h) (fun m k y H3 H4 hm e3 yy2 C2 N2 hC2 hN2 => ?_) fun D2 ys H3 nD2 e3 hD2 hy => ?_
    · obtain ⟨rfl, ey⟩ := yy2
      have ey' : y = V.int ((m : Nat) : Int) := ey.trans (by show V.int _ = V.int _; rw [Int.zero_add])
      subst ey'
      have hm2 : m < n := by
        have := (List.getElem?_eq_some_iff.mp hm).1
        rwa [List.length_range] at this
      have em : k = m := by
        rw [List.getElem?_range hm2] at hm
        exact (Option.some.inj hm).symm
      subst em
      refine ⟨rfl, yes_go ⟨_, rfl, _, rfl, rfl, .inr ⟨_, rfl, ?_⟩⟩⟩
      refine hC2 rfl _ _ (_root_.Evl.Ex.refl _) ?_
      show V.int _ = V.int _
      by_cases e : k = j
      · subst e; simp
      · have : ¬ (k : Int) = (j : Int) := by omega
        simp [e, this]
    · rw [filter_yes] at hy
      have ey : ys = (Lin.unit n j).map V.int := by
        rw [pr_fun hy, ← unit_is hi, List.map_map]
        rfl
      subst ey
      have na : D2 ≠ a := fun z => by
        obtain ⟨_, _, _, ha, _⟩ := hr0.ex e1
        rw [z, ha] at nD2
        cases nD2
      exact hC _ _ e3 ⟨D2, rfl, na, fun z => (by rw [z, hD] at nD2; cases nD2), hD2⟩
  · have nDa : D ≠ a := fun z => by
      obtain ⟨_, _, _, ha, _⟩ := hr0
      rw [z, ha] at nD
      cases nD
    have t0 : TabL a (Lin.units n) D H1 := ⟨nDa, ls, hD, by
      have := pr_map (f := Lin.unit n) hls (G := fun x r => ∃ b, x = .ref b ∧ b ≠ a ∧ b ≠ D ∧ H1 b = some (.lst (r.map V.int))) fun _ _ z => z
      exact this⟩
    have r1 := hr0.ex e1
    refine ⟨_, rfl, a, sc, ns, 5, rfl, r1, by decide, by decide, fun k H2 k0 k1 eB2 r2 => ⟨_, rfl, by omega, by omega, ?_⟩⟩
    have offW : Off K D sc ns := off_of nD hr0.sql
    refine for_range (n := k.toNat) (fun i t G => ∃ y4 y5 y6 y7 y8 y9 y10 A, t = [some (.ref a), some (.int p), some (.int (n : Nat)), some (.ref D), y4, y5, y6, y7, y8, y9, y10] ∧ ExC a D H1 G ∧ Row0 K a sc ns G ∧ TabL a A D G ∧ Lin.Oks p n A ∧ A.length = n ∧ Lin.Full p n A)
      ⟨_, _, _, _, _, _, _, _, rfl, ExC.of eB2, r2, t0.b eB2, Lin.units_ok h1, Lin.units_len, Lin.full_units h1⟩ (fun i t G hi p' => ?_) (fun t G p' => ?_)
    · obtain ⟨y4, y5, y6, y7, y8, y9, y10, A0, rfl, bG, rG, tG, oG, lG, fG⟩ := p'
      refine ⟨_, rfl, _, rfl, a, sc, ns, (n : Nat), rfl, rG, by omega, by omega, fun o1 Ga o10 o11 eBa ra => ?_⟩
      refine ⟨_, rfl, _, rfl, a, sc, ns, (n : Nat), rfl, ra, by omega, by omega, fun o2 Gb o20 o21 eBb rb => ?_⟩
      refine ⟨_, rfl, _, rfl, _, _, rfl, rfl, a, sc, ns, p - 1, rfl, rb, by omega, by omega, fun fc Gc f0 f1 eBc rc => ?_⟩
      refine ⟨_, _, rfl, rfl, (by show 3 ≤ sizeLine; decide), fun t3 nt3 => ?_⟩
      refine ⟨t3, _, rfl, SqT.of upd_same, rfl, _, _, rfl, _, _, rfl, _, _, rfl, rfl, ?_⟩
      have e3 : Ex Gc (upd Gc t3 (.tup [.int o1, .int o2, .int (1 + fc)])) := _root_.Evl.Ex.new nt3
      have bC : ExC a D H1 (upd Gc t3 (.tup [.int o1, .int o2, .int (1 + fc)])) := bG.trans (ExC.of (((eBa.trans eBb).trans eBc).trans (ExB.of e3)))
      have rC := rc.ex e3
      have tC := (((tG.b eBa).b eBb).b eBc).b (ExB.of e3)
      generalize upd Gc t3 (.tup [.int o1, .int o2, .int (1 + fc)]) = GC at bC rC tC ⊢
      refine ⟨_, rfl, _, rfl, rfl, _, rfl, ite2 (fun c => ?_) (fun c => ?_)⟩
      · have ne : o1 ≠ o2 := dne c
        obtain ⟨_, lsC, hCl, pC⟩ := id tC
        have lC := pr_len pC
        have j1 : o1.toNat < A0.length := by omega
        have j2 : o2.toNat < A0.length := by omega
        have g1' : lsC[o1.toNat]? = some (lsC[o1.toNat]'(by omega)) := List.getElem?_eq_getElem (by omega)
        have g2' : lsC[o2.toNat]? = some (lsC[o2.toNat]'(by omega)) := List.getElem?_eq_getElem (by omega)
        obtain ⟨ra1, qa1, b1, eb1, nb1, _, hb1⟩ := pr_get pC g1'
        obtain ⟨ra2, qa2, b2, eb2, nb2, _, hb2⟩ := pr_get pC g2'
        have ea1 : ra1 = A0[o1.toNat] := Option.some.inj (qa1.symm.trans (List.getElem?_eq_getElem j1))
        have ea2 : ra2 = A0[o2.toNat] := Option.some.inj (qa2.symm.trans (List.getElem?_eq_getElem j2))
        rw [ea1] at hb1
        rw [ea2] at hb2
        rw [eb1] at g1'
        rw [eb2] at g2'
        have oa1 := oG _ (List.getElem_mem j1)
        have oa2 := oG _ (List.getElem_mem j2)
        refine ⟨_, rfl, _, rfl, D, lsC, o1, _, rfl, rfl, SqL.of hCl, at_of (by omega) g1', _, rfl, _, rfl, D, lsC, o2, _, rfl, rfl, SqL.of hCl, at_of (by omega) g2', b1, b2, _, _, rfl, .inl ⟨SqL.of hb1, SqL.of hb2, ?_⟩⟩
        refine lc_go (walk_zip (xs := A0[o1.toNat].map V.int) (ys := A0[o2.toNat].map V.int) (n := n) (by rw [List.length_map, List.length_map, oa1.1, oa2.1]; omega)) (by omega) (fun H' e => ⟨SqL.of (e _ _ hb1), SqL.of (e _ _ hb2)⟩) (A0[o1.toNat].zip A0[o2.toNat]) (by rw [List.length_zip, oa1.1, oa2.1]; omega) (fun _ => true)
          (fun z => IsV (.int ((z.1 + (1 + fc) * z.2) % p))) (fun _ _ _ _ _ h => h) (fun m z x G1 G2 hm e yy C N hC hN => ?_) fun D3 ys G3 nD3 e hD3 hy => ?_
        · obtain ⟨T, x1, x2, rfl, nT, rfl, f1, f2⟩ := yy
          obtain ⟨n1, gg1, rfl⟩ := map_get f1
          obtain ⟨n2, gg2, rfl⟩ := map_get f2
          have ez : z = (n1, n2) := by
            rw [zip_at gg1 gg2] at hm
            exact (Option.some.inj hm).symm
          subst ez
          refine ⟨T, _, rfl, SqT.of upd_same, rfl, _, _, rfl, _, _, rfl, rfl, rfl, yes_go ⟨_, rfl, _, rfl, _, rfl, _, _, rfl, rfl, .inl ⟨by omega, by omega⟩, _, _, rfl, rfl, _, rfl, _, _, rfl, rfl, by omega, hC rfl _ _ (_root_.Evl.Ex.new nT) ?_⟩⟩
          show V.int _ = V.int _
          rw [Int.fmod_eq_emod_of_nonneg _ (by omega)]
        · rw [filter_yes] at hy
          have ey : ys = (Lin.add p A0[o1.toNat] (1 + fc) A0[o2.toNat]).map V.int := by
            rw [pr_fun hy]
            unfold Lin.add
            rw [zip_map, List.map_map]
            rfl
          subst ey
          have st := Lin.full_step hp0 oG j1 j2 (by omega) (1 + fc) fG
          refine ⟨_, rfl, _, rfl, D, lsC, o1, o1.toNat, rfl, rfl, e _ _ hCl, ixN_of (by omega) (by omega), ?_⟩
          have n3a : D3 ≠ a := fun z => by
            obtain ⟨_, _, _, ha, _⟩ := rC
            rw [z, ha] at nD3
            cases nD3
          have n3D : D3 ≠ D := fun z => by rw [z, hCl] at nD3; cases nD3
          have tX : TabL a (A0.set o1.toNat (Lin.add p A0[o1.toNat] (1 + fc) A0[o2.toNat])) D (upd G3 D (.lst (lsC.set o1.toNat (.ref D3)))) := ⟨nDa, _, upd_same, pr_set (pr_mono pC fun x r z => by
            obtain ⟨b, w1, w2, w3, w4⟩ := z
            exact ⟨b, w1, w2, w3, by rw [upd_ne w3]; exact e _ _ w4⟩) ⟨D3, rfl, n3a, n3D, by rw [upd_ne n3D]; exact hD3⟩ _⟩
          have rX : Row0 K a sc ns (upd G3 D (.lst (lsC.set o1.toNat (.ref D3)))) := (rC.ex e).up nDa offW
          have bX : ExC a D H1 (upd G3 D (.lst (lsC.set o1.toNat (.ref D3)))) := bC.trans (ExC.mk e)
          have lAX : (A0.set o1.toNat (Lin.add p A0[o1.toNat] (1 + fc) A0[o2.toNat])).length = n := by rw [List.length_set]; exact lG
          have oX := st.1
          have fX := st.2
          generalize A0.set o1.toNat (Lin.add p A0[o1.toNat] (1 + fc) A0[o2.toNat]) = AX at tX lAX oX fX
          generalize upd G3 D (.lst (lsC.set o1.toNat (.ref D3))) = GX at tX rX bX ⊢
          -- two rows change places
          obtain ⟨_, lsX, hX, pX⟩ := id tX
          have lX := pr_len pX
          have i1 : o1.toNat < AX.length := by omega
          have i2 : o2.toNat < AX.length := by omega
          have g1 : lsX[o1.toNat]? = some (lsX[o1.toNat]'(by omega)) := List.getElem?_eq_getElem (by omega)
          have g2 : lsX[o2.toNat]? = some (lsX[o2.toNat]'(by omega)) := List.getElem?_eq_getElem (by omega)
          refine ⟨_, rfl, _, rfl, D, lsX, o2, _, rfl, rfl, SqL.of hX, at_of (by omega) g2, _, rfl, _, rfl, D, lsX, o1, _, rfl, rfl, SqL.of hX, at_of (by omega) g1, (by show 2 ≤ sizeLine; decide), fun tp np => ?_⟩
          have eT : Ex GX (upd GX tp (.tup [lsX[o2.toNat]'(by omega), lsX[o1.toNat]'(by omega)])) := _root_.Evl.Ex.new np
          refine ⟨tp, _, rfl, SqT.of upd_same, rfl, _, _, rfl, _, rfl, _, rfl, D, lsX, o1, o1.toNat, rfl, rfl, eT _ _ hX, ixN_of (by omega) (by omega), _, _, rfl, _, rfl, _, rfl, D, _, o2, o2.toNat, rfl, rfl, upd_same, ixN_of (by omega) (by rw [List.length_set]; omega), rfl, ?_⟩
          rw [upd_upd]
          have sw := Lin.full_swap hp0 oX i1 i2 fX
          have ntD : tp ≠ D := fun z => by rw [z, hX] at np; cases np
          have eU : ExB D GX (upd (upd GX tp (.tup [lsX[o2.toNat]'(by omega), lsX[o1.toNat]'(by omega)])) D (.lst ((lsX.set o1.toNat (lsX[o2.toNat]'(by omega))).set o2.toNat (lsX[o1.toNat]'(by omega))))) := (ExB.of eT).trans (ExB.at (ExB.refl D _))
          obtain ⟨r1', q1, z1⟩ := pr_get pX g1
          obtain ⟨r2', q2, z2⟩ := pr_get pX g2
          have ra : r1' = AX[o1.toNat] := Option.some.inj (q1.symm.trans (List.getElem?_eq_getElem i1))
          have rb : r2' = AX[o2.toNat] := Option.some.inj (q2.symm.trans (List.getElem?_eq_getElem i2))
          rw [ra] at z1
          rw [rb] at z2
          have offD : Off K D sc ns := offW
          refine ⟨_, _, _, _, _, _, _, _, rfl, bX.trans (ExC.mk eT), ?_, ⟨nDa, _, upd_same, pr_mono (pr_set (pr_set pX z2 _) z1 _) fun x r z => ?_⟩, sw.1, by rw [List.length_set, List.length_set]; exact lAX, sw.2⟩
          · exact (rX.ex eT).up nDa offD
          · obtain ⟨b, w1, w2, w3, w4⟩ := z
            exact ⟨b, w1, w2, w3, by rw [upd_ne w3]; exact eT _ _ w4⟩
      · have mk : ∃ AX GX, AX = A0 ∧ GX = GC := ⟨_, _, rfl, rfl⟩
        obtain ⟨AX, GX, eA, eG⟩ := mk
        rw [← eG] at bC rC tC ⊢
        rw [← eA] at tC oG lG fG
        have tX := tC; have rX := rC; have bX := bC; have oX := oG; have lAX := lG; have fX := fG
        -- two rows change places
        obtain ⟨_, lsX, hX, pX⟩ := id tX
        have lX := pr_len pX
        have i1 : o1.toNat < AX.length := by omega
        have i2 : o2.toNat < AX.length := by omega
        have g1 : lsX[o1.toNat]? = some (lsX[o1.toNat]'(by omega)) := List.getElem?_eq_getElem (by omega)
        have g2 : lsX[o2.toNat]? = some (lsX[o2.toNat]'(by omega)) := List.getElem?_eq_getElem (by omega)
        refine ⟨_, rfl, _, rfl, D, lsX, o2, _, rfl, rfl, SqL.of hX, at_of (by omega) g2, _, rfl, _, rfl, D, lsX, o1, _, rfl, rfl, SqL.of hX, at_of (by omega) g1, (by show 2 ≤ sizeLine; decide), fun tp np => ?_⟩
        have eT : Ex GX (upd GX tp (.tup [lsX[o2.toNat]'(by omega), lsX[o1.toNat]'(by omega)])) := _root_.Evl.Ex.new np
        refine ⟨tp, _, rfl, SqT.of upd_same, rfl, _, _, rfl, _, rfl, _, rfl, D, lsX, o1, o1.toNat, rfl, rfl, eT _ _ hX, ixN_of (by omega) (by omega), _, _, rfl, _, rfl, _, rfl, D, _, o2, o2.toNat, rfl, rfl, upd_same, ixN_of (by omega) (by rw [List.length_set]; omega), rfl, ?_⟩
        rw [upd_upd]
        have sw := Lin.full_swap hp0 oX i1 i2 fX
        have ntD : tp ≠ D := fun z => by rw [z, hX] at np; cases np
        have eU : ExB D GX (upd (upd GX tp (.tup [lsX[o2.toNat]'(by omega), lsX[o1.toNat]'(by omega)])) D (.lst ((lsX.set o1.toNat (lsX[o2.toNat]'(by omega))).set o2.toNat (lsX[o1.toNat]'(by omega))))) := (ExB.of eT).trans (ExB.at (ExB.refl D _))
        obtain ⟨r1', q1, z1⟩ := pr_get pX g1
        obtain ⟨r2', q2, z2⟩ := pr_get pX g2
        have ra : r1' = AX[o1.toNat] := Option.some.inj (q1.symm.trans (List.getElem?_eq_getElem i1))
        have rb : r2' = AX[o2.toNat] := Option.some.inj (q2.symm.trans (List.getElem?_eq_getElem i2))
        rw [ra] at z1
        rw [rb] at z2
        have offD : Off K D sc ns := offW
        refine ⟨_, _, _, _, _, _, _, _, rfl, bX.trans (ExC.mk eT), ?_, ⟨nDa, _, upd_same, pr_mono (pr_set (pr_set pX z2 _) z1 _) fun x r z => ?_⟩, sw.1, by rw [List.length_set, List.length_set]; exact lAX, sw.2⟩
        · exact (rX.ex eT).up nDa offD
        · obtain ⟨b, w1, w2, w3, w4⟩ := z
          exact ⟨b, w1, w2, w3, by rw [upd_ne w3]; exact eT _ _ w4⟩
    · obtain ⟨y4, y5, y6, y7, y8, y9, y10, A0, rfl, bG, rG, tG, oG, lG, fG⟩ := p'
      obtain ⟨_, lsG, hG, pG⟩ := id tG
      have lsL := pr_len pG
      refine ⟨_, rfl, D, rfl, ⟨_, SqL.of hG⟩, ?_⟩
      refine lc_go (walk_list (xs := lsG)) (by omega) (fun H' e => SqL.of (e _ _ hG)) A0 lsL.symm (fun _ => true) (fun r => RowT K r) (fun _ => RowT.stb) (fun m r x G1 G2 hm e yy C N hC hN => ?_) fun D3 ys G3 nD3 e hD3 hy => ?_
      · obtain ⟨rfl, ex'⟩ := yy
        obtain ⟨r', hr', b, rfl, _, _, hb⟩ := pr_get pG ex'
        obtain rfl : r' = r := Option.some.inj (hr'.symm.trans hm)
        exact ⟨rfl, yes_go ⟨_, rfl, b, _, rfl, .inl ⟨SqL.of (e _ _ hb), fun l nl => hC rfl _ _ (_root_.Evl.Ex.new nl) (RowT.new upd_same)⟩⟩⟩
      · rw [filter_yes] at hy
        refine ⟨D3, ys, rfl, .inl ⟨SqL.of hD3, fun l nl => ?_⟩⟩
        have e9 := e.trans (_root_.Evl.Ex.new (o := .tup ys) nl)
        refine q _ _ (fun b o nb hb => ?_) (rG.ex e9) ⟨A0, ⟨l, ys, rfl, SqT.of upd_same, pr_mono hy fun _ _ z => z.ex (_root_.Evl.Ex.new nl)⟩, oG, lG, fG⟩
        have nbD : b ≠ D := fun z => by rw [z, nD] at hb; cases hb
        exact e9 _ _ (bG b o nb nbD (e1 _ _ hb))
end
end K01


set_option Elab.async false
set_option linter.all false
set_option maxRecDepth 100000
set_option maxHeartbeats 4000000
namespace K01
open PySem PySem.Spec PyProof.Rows L2
theorem rows_ofB {K : PySem.W.Frag} {ys : List V} {p : Int} {n : Nat} {H : Hp} (h : ∀ y ∈ ys, ∃ r, RowT K r y H ∧ Lin.OkR p n r) : ∃ R, Paired (fun y r => RowT K r y H) ys R ∧ Lin.Oks p n R := by
  induction ys with
  | nil => exact ⟨[], .nil, fun _ z => by cases z⟩
  | cons y l ih =>
    obtain ⟨r, h1, h2⟩ := h y List.mem_cons_self
    obtain ⟨R, h3, h4⟩ := ih fun z hz => h z (List.mem_cons_of_mem _ hz)
    refine ⟨r :: R, .cons h1 h3, fun z hz => ?_⟩
    rcases List.mem_cons.mp hz with e | e
    · rw [e]; exact h2
    · exact h4 z e
/-- a drawn machine -/
def Drawn (K : PySem.W.Frag) (Ps : List Int) (c d : Int) (v : V) (H : Hp) : Prop := ∃ (p : Int) (n : Nat) (A W S : List Row), p ∈ Ps ∧ 1 ≤ n ∧ (n : Int) ≤ c ∧ MachT K p A W S v H ∧ Lin.Oks p n A ∧ A.length = n ∧ Lin.Full p n A ∧ Lin.Oks p n W ∧ Lin.Oks p n S ∧ W ≠ [] ∧ (W.length : Int) ≤ d ∧ S ≠ [] ∧ (S.length : Int) ≤ d
def spMachine (K : PySem.W.Frag) : Sp := fun vs H Q _ => ∃ (a t sc : Addr) (ns Ps : List Int) (c d : Int), vs = [.ref a, .ref t, .int c, .int d] ∧ Row0 K a sc ns H ∧ t ≠ a ∧ SqL K H t (Ps.map V.int) ∧ (∀ p ∈ Ps, 1 < p ∧ p ≤ 100) ∧ 1 ≤ Ps.length ∧ Ps.length ≤ 1000 ∧ 1 ≤ c ∧ c ≤ 99 ∧ 1 ≤ d ∧ d ≤ 1000 ∧
  ∀ v H', ExB a H H' → Row0 K a sc ns H' → Drawn K Ps c d v H' → Q v H'
section
variable {P : Program} {w : World} {K : PySem.W.Frag} {mg : Str → Option Value} {base : Heap}
theorem ok_machine {f : Addr} {fd : FuncData} (B : Bare mg) (F : Fun K "_law_machine" "_law_machine" s_law_machine f fd) (Gt : Got P w K mg base CX0 1 "_law_taken" p_law_taken (spTaken K)) (Gp : Got P w K mg base CX0 2 "_law_pick" p_law_pick (spPick K))
    (Gr : Got P w K mg base CX0 2 "_law_row" p_law_row (spRow K)) (Gs : Got P w K mg base CX0 2 "_law_stir" p_law_stir (spStir K)) : FnOk P w K mg base CX0 3 f fd p_law_machine (spMachine K) := by
  refine F.ok sc_law_machine (fun vs H Q E h => ?_) (fun cdv A outer s H vs Q E hr h => ?_)
  · obtain ⟨a, t, sc, ns, Ps, c, d, rfl, _⟩ := h
    rfl
  · obtain ⟨a, t, sc, ns, Ps, c, d, rfl, hr0, hta, ht, hPs, hP1, hP2, c1, c2, d1, d2, q⟩ := h
    have hr1 : Room 1 _ := hr.mono (by decide)
    refine ⟨_, pss_cons (ps_asg (pe_tup (pa_cons (pe_got Gp hr pass0 (pa_cons (pv 0) (pa_cons (pv 1) pa_nil))) (pa_cons (pe_op op_add pe_int (pe_got Gt hr1 pass0 (pa_cons (pv 0) (pa_cons (pv 2) pa_nil)))) pa_nil)))
        (pg_tup rfl (pgs_cons (pg_name (i := 4) sc_law_machine.nd rfl (Or.inr rfl)) (pgs_cons (pg_name (i := 5) sc_law_machine.nd rfl (Or.inr rfl)) pgs_nil))))
      (pss_cons (ps_setLc (i := 6) (own := [("turn", 7)]) (g := gName 7) (tt := tYes) rfl sc_law_machine.nd rfl rfl (sw_true rfl rfl rfl (by decide +kernel)) (pi_range1 rfl B.range (pa_cons (pe_op op_add pe_int (pe_got Gt hr1 pass0 (pa_cons (pv 0) (pa_cons (pv 3) pa_nil)))) pa_nil)) (blkOk_by (N := n_law_machine) (sc := defScope s_law_machine) (by decide +kernel))
          (fun _ _ _ _ _ => pg_name (i := 7) sc_law_machine.nd rfl (Or.inl rfl)) (fun _ _ _ _ _ => pts_nil) (fun _ _ _ _ _ => pe_got Gr hr pass0 (pa_cons (pv 0) (pa_cons (pv 4) (pa_cons (pv 5) pa_nil)))))
      (pss_cons (ps_setLc (i := 8) (own := [("turn", 7)]) (g := gName 7) (tt := tYes) rfl sc_law_machine.nd rfl rfl (sw_true rfl rfl rfl (by decide +kernel)) (pi_range1 rfl B.range (pa_cons (pe_op op_add pe_int (pe_got Gt hr1 pass0 (pa_cons (pv 0) (pa_cons (pv 3) pa_nil)))) pa_nil)) (blkOk_by (N := n_law_machine) (sc := defScope s_law_machine) (by decide +kernel))
          (fun _ _ _ _ _ => pg_name (i := 7) sc_law_machine.nd rfl (Or.inl rfl)) (fun _ _ _ _ _ => pts_nil) (fun _ _ _ _ _ => pe_got Gr hr pass0 (pa_cons (pv 0) (pa_cons (pv 4) (pa_cons (pv 5) pa_nil)))))
      (pss_one (ps_ret (pe_tup (pa_cons (pv 4) (pa_cons (pe_got Gs hr pass0 (pa_cons (pv 0) (pa_cons (pv 4) (pa_cons (pv 5) pa_nil)))) (pa_cons (pe_callTy call_tuple_of (by rfl) B.tuple (by decide +kernel) (pa_cons (pv 6) pa_nil)) (pa_cons (pe_callTy call_tuple_of (by rfl) B.tuple (by decide +kernel) (pa_cons (pv 8) pa_nil)) pa_nil))))))))), ?_⟩
    refine ⟨_, rfl, _, rfl, a, t, sc, ns, _, rfl, hr0, hta, ht, by rw [List.length_map]; exact hP1, by rw [List.length_map]; exact hP2, fun j x H1 hj e1 r1 => ?_⟩
    obtain ⟨p, hp, rfl⟩ := map_get hj
    have pm := List.mem_of_getElem? hp
    have hpb := hPs p pm
    refine ⟨_, rfl, _, rfl, a, sc, ns, c, rfl, r1, c1, by omega, fun k H2 k0 k1 e2 r2 => ⟨_, _, rfl, rfl, ?_⟩⟩
    obtain ⟨n, en⟩ : ∃ n : Nat, 1 + k = (n : Int) := ⟨(1 + k).toNat, by omega⟩
    refine ⟨(by show 2 ≤ sizeLine; decide), fun t2 nt2 => ?_⟩
    refine ⟨t2, _, rfl, SqT.of upd_same, rfl, _, _, rfl, _, _, rfl, rfl, ?_⟩
    have e3 : Ex H2 (upd H2 t2 (.tup [.int p, .int (1 + k)])) := _root_.Evl.Ex.new nt2
    have r3 := r2.ex e3
    have b3 : ExB a H (upd H2 t2 (.tup [.int p, .int (1 + k)])) := (e1.trans e2).trans (ExB.of e3)
    generalize upd H2 t2 (.tup [.int p, .int (1 + k)]) = H3 at r3 b3 ⊢
    have hn1 : 1 ≤ n := by omega
    have hnc : (n : Int) ≤ c := by omega
    refine ⟨_, rfl, _, rfl, a, sc, ns, d, rfl, r3, d1, d2, fun m H4 m0 m1 e4 r4 => ⟨_, _, rfl, rfl, _, rfl, by omega, by omega, ?_⟩⟩
    refine lc_row (a := a) (n := (1 + m).toNat) (by omega) r4 (fun y H' => ∃ r, RowT K r y H' ∧ Lin.OkR p n r) (fun y G G' e ⟨r, z, o⟩ => ⟨r, z.n e, o⟩) (fun i x G hi ex eG rG C N hC => ?_) fun D ys H5 nD e5 r5 hD hl hy => ?_
    · exact ⟨rfl, yes_go ⟨_, rfl, _, rfl, _, rfl, a, sc, ns, p, n, (by rw [← en]; rfl), rG, hpb.1, hpb.2, by omega, fun y G' e' rG' hh => hC y G' e' rG' hh⟩⟩
    · obtain ⟨W, pW, oW⟩ := rows_ofB hy
      have lW := pr_len pW
      have nDa : D ≠ a := fun z => by
        obtain ⟨_, _, _, ha, _⟩ := r4
        rw [z, ha] at nD
        cases nD
      refine ⟨_, rfl, _, rfl, a, sc, ns, d, rfl, r5, d1, d2, fun m' H6 m0' m1' e6 r6 => ⟨_, _, rfl, rfl, _, rfl, by omega, by omega, ?_⟩⟩
      refine lc_row (a := a) (n := (1 + m').toNat) (by omega) r6 (fun y H' => ∃ r, RowT K r y H' ∧ Lin.OkR p n r) (fun y G G' e ⟨r, z, o⟩ => ⟨r, z.n e, o⟩) (fun i x G hi ex eG rG C N hC => ?_) fun D' ys' H7 nD' e7 r7 hD' hl' hy' => ?_
      · exact ⟨rfl, yes_go ⟨_, rfl, _, rfl, _, rfl, a, sc, ns, p, n, (by rw [← en]; rfl), rG, hpb.1, hpb.2, by omega, fun y G' e' rG' hh => hC y G' e' rG' hh⟩⟩
      · obtain ⟨S, pS, oS⟩ := rows_ofB hy'
        have lS := pr_len pS
        have nDa' : D' ≠ a := fun z => by
          obtain ⟨_, _, _, ha, _⟩ := r6
          rw [z, ha] at nD'
          cases nD'
        refine ⟨_, rfl, _, rfl, _, rfl, _, rfl, a, sc, ns, p, n, (by rw [← en]; rfl), r7, hpb.1, hpb.2, hn1, by omega, fun v8 H8 e8 r8 hA => ?_⟩
        obtain ⟨A, hA8, oA, lA, fA⟩ := hA
        have b58 := (e6.trans e7).trans e8
        have hD8 := b58 D _ nDa hD
        have hD8' := e8 D' _ nDa' hD'
        have pW8 := pr_mono pW fun x r z => RowT.n (r5.n b58) z
        have pS8 := pr_mono pS fun x r z => RowT.n (r7.n e8) z
        refine ⟨_, rfl, D, ys, rfl, .inl ⟨SqL.of hD8, fun l nl => ?_⟩⟩
        have e9 : Ex H8 (upd H8 l (.tup ys)) := _root_.Evl.Ex.new nl
        refine ⟨_, rfl, D', ys', rfl, .inl ⟨SqL.of (e9 _ _ hD8'), fun l' nl' => ?_⟩⟩
        have e10 : Ex (upd H8 l (.tup ys)) (upd (upd H8 l (.tup ys)) l' (.tup ys')) := _root_.Evl.Ex.new nl'
        refine ⟨(by show 4 ≤ sizeLine; decide), fun l4 nl4 => ?_⟩
        have e11 := _root_.Evl.Ex.new (o := .tup [.int p, v8, .ref l, .ref l']) nl4
        have eF := (e9.trans e10).trans e11
        refine q _ _ (((((b3.trans e4).trans e5).trans b58).trans (ExB.of eF))) (r8.ex eF) ⟨p, n, A, W, S, pm, hn1, hnc, ⟨l4, _, _, _, rfl, SqT.of upd_same, hA8.ex eF, ?_, ?_⟩, oA, lA, fA, oW, oS, fun z => ?_, by omega, fun z => ?_, by omega⟩
        · exact RowsT.ex (e10.trans e11) ⟨l, ys, rfl, SqT.of upd_same, pr_mono pW8 fun _ _ z => z.ex e9⟩
        · exact RowsT.ex e11 ⟨l', ys', rfl, SqT.of upd_same, pr_mono pS8 fun _ _ z => z.ex (e9.trans e10)⟩
        · rw [z, List.length_nil] at lW; omega
        · rw [z, List.length_nil] at lS; omega
end
end K01


set_option Elab.async false
set_option linter.all false
set_option maxRecDepth 100000
set_option maxHeartbeats 4000000
namespace K01
open PySem PySem.Spec PyProof.Rows L2
section
variable {P : Program} {w : World} {K : PySem.W.Frag} {mg : Str → Option Value} {base : Heap}
def spSpanBL (K : PySem.W.Frag) : Sp := fun vs H Q _ => ∃ (p : Int) (n : Nat) (v : V) (R : List Row), vs = [.int p, v, .int (n : Nat)] ∧ RowsL K R v H ∧ 1 < p ∧ p ≤ 100 ∧ 1 ≤ n ∧ n ≤ 100 ∧ p.toNat ^ n ≤ 200 ∧ Lin.Prm p ∧ Lin.Oks p n R ∧ Ret (LotL K p n R) H Q
/-- what the writes come to in four ticks, write by write -/
def goes (p : Int) (A W : List Row) : List Row := W.flatMap fun w => (List.range 4).map fun t => Lin.it p A t w
theorem exN_of {l : Addr} {xs : List V} {H H' : Hp} (h : H l = some (.lst xs)) (e : ExB l H H') : ExN H H' := fun b o hb nl => e b o (fun z => by rw [z, h] at hb; exact nl _ (Option.some.inj hb).symm) hb
theorem ExN.trans {H H1 H2 : Hp} (e : ExN H H1) (e' : ExN H1 H2) : ExN H H2 := fun b o h n => e' b o (e b o h n) n
theorem goes_len {p : Int} {A : List Row} : ∀ {W : List Row}, (goes p A W).length = W.length * 4
  | [] => rfl
  | w :: l => by
    have := goes_len (p := p) (A := A) (W := l)
    unfold goes at this ⊢
    rw [List.flatMap_cons, List.length_append, this, List.length_map, List.length_range, List.length_cons]
    omega
theorem Lot.sub {p : Int} {n : Nat} {R R' L : List Row} (h : ∀ r, r ∈ R ↔ r ∈ R') (l : Lin.Lot p n R L) : Lin.Lot p n R' L := ⟨l.nd, fun v => (l.mem v).trans ⟨fun q => q.sub fun r hr => (h r).1 hr, fun q => q.sub fun r hr => (h r).2 hr⟩⟩
theorem mem_goes {p : Int} {A W : List Row} {r : Row} : r ∈ goes p A W ↔ r ∈ Lin.kry p A W 4 := by
  unfold goes
  rw [Lin.mem_kry]
  simp only [List.mem_flatMap, List.mem_map, List.mem_range]
  exact ⟨fun ⟨w, hw, t, ht, e⟩ => ⟨t, ht, w, hw, e⟩, fun ⟨t, ht, w, hw, e⟩ => ⟨w, hw, t, ht, e⟩⟩
def spReached (K : PySem.W.Frag) : Sp := fun vs H Q _ => ∃ (p : Int) (n : Nat) (v : V) (A W S : List Row), vs = [v] ∧ MachT K p A W S v H ∧ 1 < p ∧ p ≤ 100 ∧ 1 ≤ n ∧ n ≤ 100 ∧ p.toNat ^ n ≤ 200 ∧ Lin.Prm p ∧ Lin.Oks p n A ∧ A.length = n ∧ Lin.Oks p n W ∧ W.length ≤ 100 ∧ ∀ z H', Ex H H' → LotL K p n (Lin.kry p A W 4) z H' → Q z H'
end
end K01


set_option Elab.async false
set_option linter.all false
set_option maxRecDepth 100000
set_option maxHeartbeats 4000000
namespace K01
open PySem PySem.Spec PyProof.Rows L2
/-- what nobody sees in four ticks -/
def dark (p : Int) (n : Nat) (A S : List Row) : List Row := (Lin.allRows p n).filter fun v => (List.range 4).all fun t => S.all fun s => decide (Lin.dot p s (Lin.it p A t v) = 0)
theorem mem_dark {p : Int} {n : Nat} {A S : List Row} {v : Row} (hp : 0 < p) : v ∈ dark p n A S ↔ Lin.OkR p n v ∧ ∀ t, t < 4 → ∀ s ∈ S, Lin.dot p s (Lin.it p A t v) = 0 := by
  unfold dark
  rw [List.mem_filter, Lin.mem_all hp, List.all_eq_true]
  simp only [List.mem_range, List.all_eq_true, decide_eq_true_eq]
section
variable {P : Program} {w : World} {K : PySem.W.Frag} {mg : Str → Option Value} {base : Heap}
def spUnseen (K : PySem.W.Frag) : Sp := fun vs H Q _ => ∃ (p : Int) (n : Nat) (v : V) (A W S : List Row), vs = [v] ∧ MachT K p A W S v H ∧ 1 < p ∧ p ≤ 100 ∧ 1 ≤ n ∧ n ≤ 100 ∧ p.toNat ^ n ≤ 200 ∧ Lin.Oks p n A ∧ A.length = n ∧ Lin.Oks p n S ∧ S ≠ [] ∧ S.length ≤ 100 ∧ ∀ z H', Ex H H' → RowsL K (dark p n A S) z H' → Q z H'
end
end K01


set_option Elab.async false
set_option linter.all false
set_option maxRecDepth 100000
set_option maxHeartbeats 4000000
namespace K01
open PySem PySem.Spec PyProof.Rows L2
theorem prm_of {p : Int} (h : PrmI p) : Lin.Prm p := fun x z1 z2 => by
  obtain ⟨k, _, _, z⟩ := h x z1 z2
  exact ⟨k, z⟩
theorem isRowsB_of {p : Int} {n : Nat} {R : List Row} {most : Int} (o : Lin.Oks p n R) (h1 : 1 ≤ R.length) (h2 : (R.length : Int) ≤ most) : isRowsB p most (n : Nat) (R.map fun r => r.map V.int) = true := by
  unfold isRowsB
  have hall : (R.map fun r => r.map V.int).all (isRowB p (n : Nat)) = true := by
    rw [List.all_map, List.all_eq_true]
    intro r hr
    have orr := o r hr
    show isRowB p (n : Nat) (r.map V.int) = true
    unfold isRowB
    rw [List.length_map, orr.1, List.all_map, Bool.and_eq_true, List.all_eq_true]
    refine ⟨decide_eq_true rfl, fun i hi => ?_⟩
    have := orr.2 i hi
    show isNum 0 (p - 1) (.int i) = true
    simp only [isNum, Bool.and_eq_true, decide_eq_true_eq]
    omega
  rw [hall, List.length_map]
  simp only [Bool.and_eq_true, decide_eq_true_eq, and_true]
  omega
section
variable {P : Program} {w : World} {K : PySem.W.Frag} {mg : Str → Option Value} {base : Heap}
/-- a table that is one, or tuples of which one is none -/
def spIsStir (K : PySem.W.Frag) : Sp := fun vs H Q _ => ∃ (p : Int) (v : V), vs = [.int p, v] ∧ 1 < p ∧ p ≤ 100 ∧ PrmI p ∧ ((∃ (n : Nat) (A : List Row), RowsT K A v H ∧ Lin.Oks p n A ∧ A.length = n ∧ 1 ≤ n ∧ n ≤ 4 ∧ ∀ b H', Ex H H' → (b = true ↔ Lin.Full p n A) → Q (.bl b) H') ∨
  (∃ fss, RowsF K fss v H ∧ OkF fss ∧ isRowsB p 4 (fss.length : Nat) fss = false ∧ Ret (IsV (.bl false)) H Q) ∨ ((∀ H', Ex H H' → NotTup K v H') ∧ Ret (IsV (.bl false)) H Q))
theorem ok_isstir {f : Addr} {fd : FuncData} (B : Bare mg) (F : Fun K "is_stir" "is_stir" s_is_stir f fd) (Gr : Got P w K mg base CX0 3 "is_rows" p_is_rows (spIsRows K)) (Gs : Got P w K mg base CX0 5 "staircase" p_staircase (spStair K)) {t4 : Tok} (g4 : mg "MOST_CELLS" = some (.int 4 t4)) :
    FnOk P w K mg base CX0 6 f fd p_is_stir (spIsStir K) := by
  refine F.ok sc_is_stir (fun vs H Q E h => ?_) (fun cdv Ar outer s H vs Q E hr h => ?_)
  · obtain ⟨p, v, rfl, _⟩ := h
    rfl
  · obtain ⟨p, v, rfl, h1, h2, P_, h⟩ := h
    have hr3 : Room 3 _ := hr.mono (by decide)
    refine ⟨_, pss_cons (ps_if (PW.pt (pw_or (pt_not (pt_val (pe_callB call_isi (by rfl) B.isinstance (by decide +kernel) (pa_cons (pv 1) (pa_cons (pe_bltn (v := .ty "tuple") (by rfl) B.tuple (by decide +kernel) rfl) pa_nil)))))
        (pw_or1 (pt_not (pt_val (pe_got Gr hr3 pass0 (pa_cons (pv 0) (pa_cons (pv 1) (pa_cons (pe_glob (by rfl) g4 (v := .int 4) ⟨_, rfl⟩) (pa_cons (pe_callB call_len_seq (by rfl) B.len PySem.boot_len (pa_cons (pv 1) pa_nil)) pa_nil)))))))))) (pss_one (ps_ret pe_bl)) pss_nil)
      (pss_one (ps_ret (pe_cmpR op_eq (pe_callB call_len_seq (by rfl) B.len PySem.boot_len (pa_cons (pe_got Gs hr pass0 (pa_cons (pv 0) (pa_cons (pv 1) pa_nil))) pa_nil)) (pe_callB call_len_seq (by rfl) B.len PySem.boot_len (pa_cons (pv 1) pa_nil)) rfl))), ?_⟩
    rcases h with ⟨n, A, hA, oA, lA, n1, n4, q⟩ | ⟨fss, hR, hO, hg, q⟩ | ⟨hk, q⟩
    · obtain ⟨b, us, rfl, hb, pb⟩ := id hA
      have lu := pr_len pb
      refine ⟨_, rfl, .ref b, .ty "tuple", .type "tuple", .type "tuple", true, rfl, .ty _, tyx_t hb, kit_ty (by decide +kernel), true, rfl, iteF ?_⟩
      refine ⟨_, rfl, _, rfl, _, rfl, b, us, rfl, .inr hb, p, .ref b, _, 4, (us.length : Nat), rfl, rowsF_of hA, okF_of oA (by omega) (by omega), fun z H1 e1 ez => ?_⟩
      cases (show z = _ from ez)
      have gd : isRowsB p 4 (us.length : Nat) (A.map fun r => r.map V.int) = true := by
        rw [lu, lA]
        exact isRowsB_of oA (by omega) (by omega)
      refine ⟨_, rfl, ?_⟩
      rw [gd]
      refine iteF ?_
      refine ⟨_, rfl, _, rfl, p, n, .ref b, A, rfl, .inr (hA.ex e1), h1, h2, by omega, P_, oA, fun z H2 e2 hz => ?_⟩
      obtain ⟨S, ⟨sa, sus, rfl, hsq, hsp⟩, rS, sS⟩ := hz
      have lsu := pr_len hsp
      refine ⟨sa, sus, rfl, .inr hsq, _, rfl, b, us, rfl, .inr (_root_.Evl.ex_t (e1.trans e2) hb), rfl, ?_⟩
      refine q _ _ (e1.trans e2) ?_
      rw [decide_eq_true_eq, Lin.full_rank h1 rS sS]
      constructor
      · intro z
        have := V.int.inj z
        omega
      · intro z
        exact congrArg V.int (by omega)
    · obtain ⟨b, us, rfl, hb, pb⟩ := id hR
      have lu := pr_len pb
      refine ⟨_, rfl, .ref b, .ty "tuple", .type "tuple", .type "tuple", true, rfl, .ty _, tyx_t hb, kit_ty (by decide +kernel), true, rfl, iteF ?_⟩
      refine ⟨_, rfl, _, rfl, _, rfl, b, us, rfl, .inr hb, p, .ref b, _, 4, (us.length : Nat), rfl, hR, hO, fun z H1 e1 ez => ?_⟩
      cases (show z = _ from ez)
      refine ⟨_, rfl, ?_⟩
      rw [lu, hg]
      exact iteT (q _ _ e1 rfl)
    · obtain ⟨T, hT, hk2⟩ := hk H (_root_.Evl.Ex.refl _)
      exact ⟨_, rfl, v, .ty "tuple", .type T, .type "tuple", false, rfl, .ty _, hT, kit_ty hk2, false, rfl, iteT (iteT (q _ _ (_root_.Evl.Ex.refl _) rfl))⟩
end
end K01


set_option Elab.async false
set_option linter.all false
set_option maxRecDepth 100000
set_option maxHeartbeats 4000000
namespace K01
open PySem PySem.Spec PyProof.Rows L2
/-- a table that can be undone, by what stands -/
structure StirOk (K : PySem.W.Frag) (H : Hp) (p : Int) (n : Nat) (A : List Row) (a : V) : Prop where
  rows : RowsT K A a H
  ok : Lin.Oks p n A
  len : A.length = n
  n1 : 1 ≤ n
  n4 : n ≤ 4
  full : Lin.Full p n A
/-- what is wrong with a machine, none if nothing is -/
inductive WP (K : PySem.W.Frag) (H : Hp) : V → Option Str → Prop
  | noTup {v : V} : (∀ H', Ex H H' → NotTup K v H') → WP K H v (some "machine")
  | len {m : Addr} {us : List V} : SqT K H m us → us.length ≠ 4 → WP K H (.ref m) (some "machine")
  | prime {m : Addr} {x a w s : V} : SqT K H m [x, a, w, s] → Flt x → isPrm x = false → WP K H (.ref m) (some "prime")
  | stir {m : Addr} {p : Int} {a w s : V} {fss : List (List V)} : SqT K H m [.int p, a, w, s] → isPrm (.int p) = true → RowsF K fss a H → OkF fss → isRowsB p 4 (fss.length : Nat) fss = false → WP K H (.ref m) (some "stir")
  | flat {m : Addr} {p : Int} {n : Nat} {A : List Row} {a w s : V} : SqT K H m [.int p, a, w, s] → isPrm (.int p) = true → RowsT K A a H → Lin.Oks p n A → A.length = n → 1 ≤ n → n ≤ 4 → ¬ Lin.Full p n A → WP K H (.ref m) (some "stir")
  | writes {m : Addr} {p : Int} {n : Nat} {A : List Row} {a w s : V} {fss : List (List V)} : SqT K H m [.int p, a, w, s] → isPrm (.int p) = true → StirOk K H p n A a → RowsF K fss w H → OkF fss → isRowsB p 4 (n : Nat) fss = false → WP K H (.ref m) (some "writes")
  | sights {m : Addr} {p : Int} {n : Nat} {A W : List Row} {a w s : V} {fss : List (List V)} : SqT K H m [.int p, a, w, s] → isPrm (.int p) = true → StirOk K H p n A a → RowsT K W w H → Lin.Oks p n W → 1 ≤ W.length → W.length ≤ 4 → RowsF K fss s H → OkF fss → isRowsB p 4 (n : Nat) fss = false → WP K H (.ref m) (some "sights")
  | good {m : Addr} {p : Int} {n : Nat} {A W S : List Row} {a w s : V} : SqT K H m [.int p, a, w, s] → isPrm (.int p) = true → StirOk K H p n A a → RowsT K W w H → Lin.Oks p n W → 1 ≤ W.length → W.length ≤ 4 → RowsT K S s H → Lin.Oks p n S → 1 ≤ S.length → S.length ≤ 4 → WP K H (.ref m) none
theorem prm_bd {p : Int} (h : isPrm (.int p) = true) : 1 < p ∧ p ≤ 100 := by
  simp only [isPrm, Bool.or_eq_true, decide_eq_true_eq] at h
  omega
def partV : Option Str → V
  | none => .non
  | some z => .str z
section
variable {P : Program} {w : World} {K : PySem.W.Frag} {mg : Str → Option Value} {base : Heap}
def spWrong (K : PySem.W.Frag) : Sp := fun vs H Q _ => ∃ (v : V) (part : Option Str), vs = [v] ∧ WP K H v part ∧ Ret (IsV (partV part)) H Q
theorem ok_wrong {f : Addr} {fd : FuncData} (B : Bare mg) (F : Fun K "wrong_part" "wrong_part" s_wrong_part f fd) (Gp : Got P w K mg base CX0 2 "is_prime" p_is_prime spPrime) (Gs : Got P w K mg base CX0 6 "is_stir" p_is_stir (spIsStir K)) (Gr : Got P w K mg base CX0 3 "is_rows" p_is_rows (spIsRows K)) {t4 : Tok} (g4 : mg "MOST_PLUGS" = some (.int 4 t4)) :
    FnOk P w K mg base CX0 7 f fd p_wrong_part (spWrong K) := by
  refine F.ok sc_wrong_part (fun vs H Q E h => ?_) (fun cdv Ar outer s H vs Q E hr h => ?_)
  · obtain ⟨v, part, rfl, _⟩ := h
    rfl
  · obtain ⟨v, part, rfl, h, q⟩ := h
    have hr2 : Room 2 _ := hr.mono (by decide)
    have hr3 : Room 3 _ := hr.mono (by decide)
    refine ⟨_, pss_cons (ps_if (PW.pt (pw_or (pt_not (pt_val (pe_callB call_isi (by rfl) B.isinstance (by decide +kernel) (pa_cons (pv 0) (pa_cons (pe_bltn (v := .ty "tuple") (by rfl) B.tuple (by decide +kernel) rfl) pa_nil)))))
        (pw_or1 (pt_cmpR op_ne (pe_callB call_len_seq (by rfl) B.len PySem.boot_len (pa_cons (pv 0) pa_nil)) pe_int (nomark _))))) (pss_one (ps_ret pe_str)) pss_nil)
      (pss_cons (ps_asg (pv 0) (pg_tup rfl (pgs_cons (pg_name (i := 1) sc_wrong_part.nd rfl (Or.inl rfl)) (pgs_cons (pg_name (i := 2) sc_wrong_part.nd rfl (Or.inl rfl)) (pgs_cons (pg_name (i := 3) sc_wrong_part.nd rfl (Or.inl rfl)) (pgs_cons (pg_name (i := 4) sc_wrong_part.nd rfl (Or.inl rfl)) pgs_nil))))))
      (pss_cons (ps_if (pt_not (pt_val (pe_got Gp hr2 pass0 (pa_cons (pv 1) pa_nil)))) (pss_one (ps_ret pe_str)) pss_nil)
      (pss_cons (ps_if (pt_not (pt_val (pe_got Gs hr pass0 (pa_cons (pv 1) (pa_cons (pv 2) pa_nil))))) (pss_one (ps_ret pe_str)) pss_nil)
      (pss_cons (ps_if (pt_not (pt_val (pe_got Gr hr3 pass0 (pa_cons (pv 1) (pa_cons (pv 3) (pa_cons (pe_glob (by rfl) g4 (v := .int 4) ⟨_, rfl⟩) (pa_cons (pe_callB call_len_seq (by rfl) B.len PySem.boot_len (pa_cons (pv 2) pa_nil)) pa_nil))))))) (pss_one (ps_ret pe_str)) pss_nil)
      (pss_cons (ps_if (pt_not (pt_val (pe_got Gr hr3 pass0 (pa_cons (pv 1) (pa_cons (pv 4) (pa_cons (pe_glob (by rfl) g4 (v := .int 4) ⟨_, rfl⟩) (pa_cons (pe_callB call_len_seq (by rfl) B.len PySem.boot_len (pa_cons (pv 2) pa_nil)) pa_nil))))))) (pss_one (ps_ret pe_str)) pss_nil)
      (pss_one (ps_ret pe_non))))))), ?_⟩
    cases h with
    | noTup hk =>
      obtain ⟨T, hT, hk2⟩ := hk H (_root_.Evl.Ex.refl _)
      exact ⟨_, rfl, v, .ty "tuple", .type T, .type "tuple", false, rfl, .ty _, hT, kit_ty hk2, false, rfl, iteT (iteT (q _ _ (_root_.Evl.Ex.refl _) rfl))⟩
    | len hm hl =>
      refine ⟨_, rfl, .ref _, .ty "tuple", .type "tuple", .type "tuple", true, rfl, .ty _, tyx_t hm, kit_ty (by decide +kernel), true, rfl, iteF ?_⟩
      refine ⟨_, rfl, _, _, rfl, .inr hm, rfl, _, rfl, ite2 (fun _ => q _ _ (_root_.Evl.Ex.refl _) rfl) (fun c => absurd (deq c) (by omega))⟩
    | prime hm hf hx =>
      refine ⟨_, rfl, .ref _, .ty "tuple", .type "tuple", .type "tuple", true, rfl, .ty _, tyx_t hm, kit_ty (by decide +kernel), true, rfl, iteF ?_⟩
      refine ⟨_, rfl, _, _, rfl, .inr hm, rfl, _, rfl, ite2 (fun c => absurd rfl (dne c)) (fun _ => ?_)⟩
      refine ⟨_, rfl, _, _, rfl, hm, rfl, _, _, rfl, _, _, rfl, _, _, rfl, _, _, rfl, rfl, ?_⟩
      refine ⟨_, rfl, _, rfl, hf, fun z H1 e1 ez => ?_⟩
      cases (show z = _ from ez)
      refine ⟨_, rfl, ?_⟩
      rw [hx]
      exact iteT (q _ _ e1 rfl)
    | stir hm hx hR hO hg =>
      refine ⟨_, rfl, .ref _, .ty "tuple", .type "tuple", .type "tuple", true, rfl, .ty _, tyx_t hm, kit_ty (by decide +kernel), true, rfl, iteF ?_⟩
      refine ⟨_, rfl, _, _, rfl, .inr hm, rfl, _, rfl, ite2 (fun c => absurd rfl (dne c)) (fun _ => ?_)⟩
      refine ⟨_, rfl, _, _, rfl, hm, rfl, _, _, rfl, _, _, rfl, _, _, rfl, _, _, rfl, rfl, ?_⟩
      refine ⟨_, rfl, _, rfl, .int _, fun z H1 e1 ez => ?_⟩
      cases (show z = _ from ez)
      refine ⟨_, rfl, ?_⟩
      rw [hx]
      refine iteF ?_
      have P_ := prmI hx
      have pb := prm_bd hx
      refine ⟨_, rfl, _, rfl, _, _, rfl, pb.1, pb.2, P_, .inr (.inl ⟨_, hR.ex e1, hO, hg, fun z H2 e2 ez => ?_⟩)⟩
      cases (show z = _ from ez)
      exact ⟨false, rfl, iteT (q _ _ (e1.trans e2) rfl)⟩
    | flat hm hx hR hO hl n1 n4 nf =>
      refine ⟨_, rfl, .ref _, .ty "tuple", .type "tuple", .type "tuple", true, rfl, .ty _, tyx_t hm, kit_ty (by decide +kernel), true, rfl, iteF ?_⟩
      refine ⟨_, rfl, _, _, rfl, .inr hm, rfl, _, rfl, ite2 (fun c => absurd rfl (dne c)) (fun _ => ?_)⟩
      refine ⟨_, rfl, _, _, rfl, hm, rfl, _, _, rfl, _, _, rfl, _, _, rfl, _, _, rfl, rfl, ?_⟩
      refine ⟨_, rfl, _, rfl, .int _, fun z H1 e1 ez => ?_⟩
      cases (show z = _ from ez)
      refine ⟨_, rfl, ?_⟩
      rw [hx]
      refine iteF ?_
      have P_ := prmI hx
      have pb := prm_bd hx
      refine ⟨_, rfl, _, rfl, _, _, rfl, pb.1, pb.2, P_, .inl ⟨_, _, hR.ex e1, hO, hl, n1, n4, fun b H2 e2 hb => ?_⟩⟩
      have hb' : b = false := by
        cases b with
        | true => exact absurd (hb.1 rfl) nf
        | false => rfl
      subst hb'
      exact ⟨false, rfl, iteT (q _ _ (e1.trans e2) rfl)⟩
    | writes hm hx st hR hO hg =>
      refine ⟨_, rfl, .ref _, .ty "tuple", .type "tuple", .type "tuple", true, rfl, .ty _, tyx_t hm, kit_ty (by decide +kernel), true, rfl, iteF ?_⟩
      refine ⟨_, rfl, _, _, rfl, .inr hm, rfl, _, rfl, ite2 (fun c => absurd rfl (dne c)) (fun _ => ?_)⟩
      refine ⟨_, rfl, _, _, rfl, hm, rfl, _, _, rfl, _, _, rfl, _, _, rfl, _, _, rfl, rfl, ?_⟩
      refine ⟨_, rfl, _, rfl, .int _, fun z H1 e1 ez => ?_⟩
      cases (show z = _ from ez)
      refine ⟨_, rfl, ?_⟩
      rw [hx]
      refine iteF ?_
      have P_ := prmI hx
      have pb := prm_bd hx
      refine ⟨_, rfl, _, rfl, _, _, rfl, pb.1, pb.2, P_, .inl ⟨_, _, st.rows.ex e1, st.ok, st.len, st.n1, st.n4, fun b H2 e2 hb => ?_⟩⟩
      have hb' := hb.2 st.full
      subst hb'
      refine ⟨true, rfl, iteF ?_⟩
      obtain ⟨ab, aus, rfl, hab, pab⟩ := st.rows
      have la : aus.length = _ := (pr_len pab).trans st.len
      refine ⟨_, rfl, _, rfl, _, rfl, ab, aus, rfl, .inr (_root_.Evl.ex_t (e1.trans e2) hab), _, _, _, 4, (aus.length : Nat), rfl, hR.ex (e1.trans e2), hO, fun z H3 e3 ez => ?_⟩
      cases (show z = _ from ez)
      refine ⟨_, rfl, ?_⟩
      rw [la, hg]
      exact iteT (q _ _ ((e1.trans e2).trans e3) rfl)
    | sights hm hx st hW oW w1 w4 hR hO hg =>
      refine ⟨_, rfl, .ref _, .ty "tuple", .type "tuple", .type "tuple", true, rfl, .ty _, tyx_t hm, kit_ty (by decide +kernel), true, rfl, iteF ?_⟩
      refine ⟨_, rfl, _, _, rfl, .inr hm, rfl, _, rfl, ite2 (fun c => absurd rfl (dne c)) (fun _ => ?_)⟩
      refine ⟨_, rfl, _, _, rfl, hm, rfl, _, _, rfl, _, _, rfl, _, _, rfl, _, _, rfl, rfl, ?_⟩
      refine ⟨_, rfl, _, rfl, .int _, fun z H1 e1 ez => ?_⟩
      cases (show z = _ from ez)
      refine ⟨_, rfl, ?_⟩
      rw [hx]
      refine iteF ?_
      have P_ := prmI hx
      have pb := prm_bd hx
      refine ⟨_, rfl, _, rfl, _, _, rfl, pb.1, pb.2, P_, .inl ⟨_, _, st.rows.ex e1, st.ok, st.len, st.n1, st.n4, fun b H2 e2 hb => ?_⟩⟩
      have hb' := hb.2 st.full
      subst hb'
      refine ⟨true, rfl, iteF ?_⟩
      obtain ⟨ab, aus, rfl, hab, pab⟩ := st.rows
      have la : aus.length = _ := (pr_len pab).trans st.len
      refine ⟨_, rfl, _, rfl, _, rfl, ab, aus, rfl, .inr (_root_.Evl.ex_t (e1.trans e2) hab), _, _, _, 4, (aus.length : Nat), rfl, rowsF_of (hW.ex (e1.trans e2)), okF_of oW (by have := st.n4; omega) (by omega), fun z H3 e3 ez => ?_⟩
      cases (show z = _ from ez)
      refine ⟨_, rfl, ?_⟩
      rw [la, isRowsB_of oW w1 (by omega)]
      refine iteF ?_
      refine ⟨_, rfl, _, rfl, _, rfl, ab, aus, rfl, .inr (_root_.Evl.ex_t ((e1.trans e2).trans e3) hab), _, _, _, 4, (aus.length : Nat), rfl, hR.ex ((e1.trans e2).trans e3), hO, fun z H4 e4 ez => ?_⟩
      cases (show z = _ from ez)
      refine ⟨_, rfl, ?_⟩
      rw [la, hg]
      exact iteT (q _ _ (((e1.trans e2).trans e3).trans e4) rfl)
    | good hm hx st hW oW w1 w4 hS oS s1 s4 =>
      refine ⟨_, rfl, .ref _, .ty "tuple", .type "tuple", .type "tuple", true, rfl, .ty _, tyx_t hm, kit_ty (by decide +kernel), true, rfl, iteF ?_⟩
      refine ⟨_, rfl, _, _, rfl, .inr hm, rfl, _, rfl, ite2 (fun c => absurd rfl (dne c)) (fun _ => ?_)⟩
      refine ⟨_, rfl, _, _, rfl, hm, rfl, _, _, rfl, _, _, rfl, _, _, rfl, _, _, rfl, rfl, ?_⟩
      refine ⟨_, rfl, _, rfl, .int _, fun z H1 e1 ez => ?_⟩
      cases (show z = _ from ez)
      refine ⟨_, rfl, ?_⟩
      rw [hx]
      refine iteF ?_
      have P_ := prmI hx
      have pb := prm_bd hx
      refine ⟨_, rfl, _, rfl, _, _, rfl, pb.1, pb.2, P_, .inl ⟨_, _, st.rows.ex e1, st.ok, st.len, st.n1, st.n4, fun b H2 e2 hb => ?_⟩⟩
      have hb' := hb.2 st.full
      subst hb'
      refine ⟨true, rfl, iteF ?_⟩
      obtain ⟨ab, aus, rfl, hab, pab⟩ := st.rows
      have la : aus.length = _ := (pr_len pab).trans st.len
      refine ⟨_, rfl, _, rfl, _, rfl, ab, aus, rfl, .inr (_root_.Evl.ex_t (e1.trans e2) hab), _, _, _, 4, (aus.length : Nat), rfl, rowsF_of (hW.ex (e1.trans e2)), okF_of oW (by have := st.n4; omega) (by omega), fun z H3 e3 ez => ?_⟩
      cases (show z = _ from ez)
      refine ⟨_, rfl, ?_⟩
      rw [la, isRowsB_of oW w1 (by omega)]
      refine iteF ?_
      refine ⟨_, rfl, _, rfl, _, rfl, ab, aus, rfl, .inr (_root_.Evl.ex_t ((e1.trans e2).trans e3) hab), _, _, _, 4, (aus.length : Nat), rfl, rowsF_of (hS.ex ((e1.trans e2).trans e3)), okF_of oS (by have := st.n4; omega) (by omega), fun z H4 e4 ez => ?_⟩
      cases (show z = _ from ez)
      refine ⟨_, rfl, ?_⟩
      rw [la, isRowsB_of oS s1 (by omega)]
      refine iteF ?_
      exact q _ _ (((e1.trans e2).trans e3).trans e4) rfl
end
end K01


set_option Elab.async false
set_option linter.all false
set_option maxRecDepth 100000
set_option maxHeartbeats 4000000
namespace K01
open PySem PySem.Spec PyProof.Rows L2
/-- the making of BadMachine -/
abbrev s_badinit : Stmt := inClass (topS 2) 0
theorem sc_badinit : FnScope ["self", "part"] ["self", "part"] (defScope s_badinit) := ⟨rfl, rfl, rfl, by decide +kernel, rfl, by decide +kernel, by decide +kernel⟩
structure BadM (K : PySem.W.Frag) (mg : Str → Option Value) (C fI : Addr) : Prop where
  ex : OexC K C
  gC : mg "BadMachine" = some (.ref C)
  no : PySem.W.findIn K (.ref C) "part" = some none
  ini : PySem.W.findIn K (.ref C) "__init__" = some (some (.ref fI))
  tyI : PySem.W.typeIn K (.ref fI) = some (.type "function")
section
variable {P : Program} {w : World} {K : PySem.W.Frag} {mg : Str → Option Value} {base : Heap}
def spBadI (K : PySem.W.Frag) (C : Addr) : Sp := fun vs H Q _ => ∃ (a : Addr) (z : Str) (H0 : Hp), vs = [.ref a, .str z] ∧ H = upd H0 a (exo a C none) ∧ H0 a = none ∧ ∀ H2 d, H2 a = some (exo a C (some d)) → H2 d = some (exd d [("part", .str z)]) → (∀ b o, H0 b = some o → H2 b = some o) → H0 d = none → d ≠ a → Q .non H2
theorem ok_badinit {f C fI : Addr} {fd : FuncData} (M : BadM K mg C fI) (F : Fun K "__init__" "BadMachine.__init__" s_badinit f fd) : FnOk P w K mg base CX0 1 f fd ["self", "part"] (spBadI K C) := by
  refine F.ok sc_badinit (fun vs H Q E h => ?_) (fun cdv Ar outer s H vs Q E hr h => ?_)
  · obtain ⟨a, z, H0, rfl, _⟩ := h
    rfl
  · obtain ⟨a, z, H0, rfl, rfl, n0, q⟩ := h
    refine ⟨_, pss_one (ps_ost (pv 0) (pv 1)), ?_⟩
    refine ⟨_, rfl, _, rfl, a, C, rfl, M.ex, M.no, .inl ⟨upd_same, fun dx ndx nda => ?_⟩⟩
    have n1 : H0 dx = none := by rw [upd_ne nda] at ndx; exact ndx
    refine q _ dx upd_same (by rw [upd_ne nda]; exact upd_same) (fun b o hb => ?_) n1 nda
    rw [upd_ne (ne_of_none hb n0), upd_ne (ne_of_none hb n1), upd_ne (ne_of_none hb n0)]
    exact hb
def spCheckM (K : PySem.W.Frag) (C : Addr) : Sp := fun vs H Q E => ∃ (v : V) (part : Option Str), vs = [v] ∧ WP K H v part ∧ match part with
  | none => Ret (IsV .non) H Q
  | some z => ∀ d H', Ex H H' → H' d = some (.xd [("part", .str z)]) → E (.ref C) (some d) H'
theorem ok_checkM {f C fI : Addr} {fd fdI : FuncData} (M : BadM K mg C fI) (F : Fun K "check_machine" "check_machine" s_check_machine f fd) (FI : Fun K "__init__" "BadMachine.__init__" s_badinit fI fdI) (Gw : Got P w K mg base CX0 7 "wrong_part" p_wrong_part (spWrong K)) :
    FnOk P w K mg base (L2.CX P w) 8 f fd p_check_machine (spCheckM K C) := by
  have bI := FI.binds (ps := ["self", "part"]) fun _ _ _ _ _ _ us hl => match us, hl with | [_, _], _ => rfl
  refine F.okX sc_check_machine (fun vs H Q E h => ?_) (fun cdv Ar outer s H vs Q E hr h => ?_)
  · obtain ⟨v, part, rfl, _⟩ := h
    rfl
  · obtain ⟨v, part, rfl, hw, h⟩ := h
    refine ⟨_, pss_cons (ps_set (i := 1) sc_check_machine.nd rfl (Or.inl rfl) (pe_got Gw hr pass0 (pa_cons (pv 0) pa_nil)))
      (pss_one (ps_if (pt_cmp (pc_notN (pv 1))) (pss_one (ps_raise rfl (takes_of rfl rfl rfl rfl) (pmk_oex (CX := CX0) M.ex M.ini M.tyI (ok_badinit M FI) (hr.mono (by decide)) bI .nil pass0 rfl M.gC (pa_cons (pv 1) pa_nil)))) pss_nil)), ?_⟩
    refine ⟨_, rfl, v, part, rfl, hw, fun z H1 e1 ez => ?_⟩
    cases (show z = _ from ez)
    cases part with
    | none => exact ⟨_, rfl, false, rfl, iteF (h _ _ e1 rfl)⟩
    | some z =>
      refine ⟨_, rfl, true, rfl, iteT ?_⟩
      refine ⟨_, rfl, (by show 1 ≤ 1000; decide), fun a na => ?_⟩
      refine ⟨a, z, H1, rfl, rfl, na, fun H2 d h2 h3 h4 h5 h6 => ⟨rfl, d, _, h2, h3, h5, ?_⟩⟩
      refine h d _ (fun b o hb => ?_) upd_same
      have hb1 := e1 _ _ hb
      rw [upd_ne (ne_of_none hb1 h5), del_ne (ne_of_none hb1 na)]
      exact h4 _ _ hb1
end
end K01


set_option Elab.async false
set_option linter.all false
set_option maxRecDepth 100000
set_option maxHeartbeats 4000000
namespace K01
open PySem PySem.Spec PyProof.Rows L2
/-- a suite that is never come to -/
theorem pss_never {X : Cx} {body : List Stmt} : PSs X body (fun _ _ _ => False) := ⟨fun _ _ _ _ _ _ h => h.elim⟩
section
variable {P : Program} {w : World} {K : PySem.W.Frag} {mg : Str → Option Value} {base : Heap}
/-- add: the hand's multiple of a write is added -/
def spDeedAdd (K : PySem.W.Frag) : Sp := fun vs H Q _ => ∃ (p : Int) (n : Nat) (v u d : V) (A W S : List Row) (r : Row) (hd : Int) (j : Nat) (wr : Row), vs = [v, u, .int hd, d] ∧ MachT K p A W S v H ∧ RowT K r u H ∧ TupF K [.str "add", .int (j : Nat)] d H ∧ W[j]? = some wr ∧ 1 < p ∧ p ≤ 100 ∧ n ≤ 100 ∧ Lin.Oks p n A ∧ A.length = n ∧ Lin.Oks p n W ∧ Lin.OkR p n r ∧ 0 ≤ hd ∧ hd < p ∧
  ∀ t H', Ex H H' → (∃ b m, t = .ref b ∧ SqT K H' b [m, .int hd] ∧ RowT K (Lin.app p A (Lin.add p r hd wr)) m H') → Q t H'
theorem ok_deed {f : Addr} {fd : FuncData} (B : Bare mg) (F : Fun K "_law_deed" "_law_deed" s_law_deed f fd) (Gm : Got P w K mg base CX0 1 "_law_met" p_law_met (spMet K)) (Ga : Got P w K mg base CX0 1 "_law_added" p_law_added (spAdded K)) (Gs : Got P w K mg base CX0 2 "_law_stirred" p_law_stirred (spStirred K)) : FnOk P w K mg base CX0 3 f fd p_law_deed (spDeedAdd K) := by
  refine F.ok sc_law_deed (fun vs H Q E h => ?_) (fun cdv Ar outer s H vs Q E hr h => ?_)
  · obtain ⟨p, n, v, u, d, A, W, S, r, hd, j, wr, rfl, _⟩ := h
    rfl
  · obtain ⟨p, n, v, u, d, A, W, S, r, hd, j, wr, rfl, hM, hr0, hd0, hj, h1, h2, hn, oA, lA, oW, oR, hd1, hd2, q⟩ := h
    have hr1 : Room 1 _ := hr.mono (by decide)
    refine ⟨_, pss_cons (ps_par3 (i := 4) (j := 5) (l := 6) rfl sc_law_deed.nd rfl rfl rfl (by decide) (by decide) (by decide) rfl rfl rfl (pa_cons (pe_ix ix_tup (pv 0) pe_int (fun _ _ => rfl)) (pa_cons (pe_ix ix_tup (pv 3) pe_int (fun _ _ => rfl)) (pa_cons (pe_ix ix_tup (pv 3) (pe_un un_neg pe_int) (fun _ _ => rfl)) pa_nil))) (by rfl))
      (pss_cons (ps_if (pt_cmpR (show OpR _ _ (rIn K false) from op_in_seq) (pv 5) (pe_lst (pa_cons pe_str (pa_cons pe_str (pa_cons pe_str pa_nil)))) rfl) pss_never pss_nil)
      (pss_cons (ps_if (pt_cmpR (show OpR _ _ (rIn K false) from op_in_seq) (pv 5) (pe_lst (pa_cons pe_str (pa_cons pe_str pa_nil))) rfl) (pss_one (ps_set (i := 1) sc_law_deed.nd rfl (Or.inl rfl) (pe_got Ga hr1 pass0 (pa_cons (pv 4) (pa_cons (pv 1) (pa_cons (pe_ix ix_tup (pe_ix ix_tup (pv 0) pe_int (fun _ _ => rfl)) (pv 6) (fun _ _ => rfl)) (pa_cons (pe_ifExp (pt_cmpR op_eq (pv 5) pe_str (nomark _)) (pv 2) (pe_op op_sub pe_int (pv 2))) pa_nil))))))) pss_nil)
      (pss_cons (ps_if (pt_cmpR op_eq (pv 5) pe_str (nomark _)) (pss_one (ps_set (i := 2) sc_law_deed.nd rfl (Or.inl rfl) (pv 6))) pss_nil)
      (pss_one (ps_ret (pe_tup (pa_cons (pe_got Gs hr pass0 (pa_cons (pv 0) (pa_cons (pv 1) pa_nil))) (pa_cons (pv 2) pa_nil)))))))), ?_⟩
    obtain ⟨m, av, wv, sv, rfl, hm, hA, hW, hS⟩ := id hM
    obtain ⟨db, rfl, hdb⟩ := hd0
    obtain ⟨wb, wus, rfl, hwb, pwb⟩ := id hW
    obtain ⟨xw, hxw, rxw⟩ := pr_getR pwb hj
    refine ⟨_, rfl, m, _, _, _, rfl, rfl, hm, at_of (j := 0) rfl rfl, _, rfl, db, _, _, _, rfl, rfl, hdb, at_of (j := 0) rfl rfl, _, rfl, _, rfl, db, _, _, _, rfl, rfl, hdb, rfl, _, _, _, rfl, ?_⟩
    -- not one of get, plus, minus
    refine ⟨_, rfl, (by show 3 ≤ sizeLine; decide), fun l1 n1 => ?_⟩
    have e1 : Ex H (upd H l1 (.lst [.str "get", .str "plus", .str "minus"])) := _root_.Evl.Ex.new n1
    refine ⟨l1, _, rfl, .inl (SqL.of upd_same), rfl, rfl, _, rfl, ?_⟩
    rw [show inV (.str "add") [.str "get", .str "plus", .str "minus"] = false by decide +kernel]
    refine iteF ?_
    generalize upd H l1 (.lst [.str "get", .str "plus", .str "minus"]) = H1 at e1 ⊢
    refine ⟨_, rfl, (by show 2 ≤ sizeLine; decide), fun l2 n2 => ?_⟩
    have e2 : Ex H1 (upd H1 l2 (.lst [.str "add", .str "take"])) := _root_.Evl.Ex.new n2
    refine ⟨l2, _, rfl, .inl (SqL.of upd_same), rfl, rfl, _, rfl, ?_⟩
    rw [show inV (.str "add") [.str "add", .str "take"] = true by decide +kernel]
    refine iteT ?_
    have e12 := e1.trans e2
    generalize upd H1 l2 (.lst [.str "add", .str "take"]) = H2 at e2 e12 ⊢
    refine ⟨_, rfl, _, rfl, _, rfl, m, _, _, _, rfl, rfl, _root_.Evl.ex_t e12 hm, at_of (j := 2) rfl rfl, _, rfl, wb, wus, _, xw, rfl, rfl, _root_.Evl.ex_t e12 hwb, at_of rfl hxw, ?_⟩
    refine ⟨_, rfl, rfl, _, rfl, iteT ?_⟩
    have ow := oW wr (List.mem_of_getElem? hj)
    refine ⟨_, rfl, p, hd, u, xw, r, wr, rfl, hr0.ex e12, rxw.ex e12, by rw [oR.1, ow.1], by omega, by omega, by rw [oR.1]; omega, fun z H3 e3 hz => ?_⟩
    refine ⟨_, rfl, rfl, _, rfl, iteF ?_⟩
    have e13 := e12.trans e3
    refine ⟨_, rfl, _, rfl, p, n, .ref m, z, A, W, S, Lin.add p r hd wr, rfl, hM.ex e13, hz, h1, h2, hn, oA, lA, Lin.ok_add (by omega) oR.1 ow.1, fun z2 H4 e4 hz2 => ?_⟩
    refine ⟨_, rfl, (by show 2 ≤ sizeLine; decide), fun l3 n3 => ?_⟩
    have e5 : Ex H4 (upd H4 l3 (.tup [z2, .int hd])) := _root_.Evl.Ex.new n3
    exact q _ _ ((e13.trans e4).trans e5) ⟨l3, z2, rfl, SqT.of upd_same, hz2.ex e5⟩
end
end K01


set_option Elab.async false
set_option linter.all false
set_option maxRecDepth 100000
set_option maxHeartbeats 4000000
namespace K01
open PySem PySem.Spec PyProof.Rows L2
/-- data of one shape and one content: whole numbers, tuples and lists of such -/
def AlikeW (K : PySem.W.Frag) : Nat → V → V → Hp → Prop
  | 0, x, y, _ => ∃ i : Int, x = .int i ∧ y = .int i
  | k + 1, x, y, H => (∃ i : Int, x = .int i ∧ y = .int i) ∨ (∃ a b xs ys, x = .ref a ∧ y = .ref b ∧ SqT K H a xs ∧ SqT K H b ys ∧ xs.length = ys.length ∧ ys.length ≤ 1000 ∧ ∀ (i : Nat) (u v : V), xs[i]? = some u → ys[i]? = some v → AlikeW K k u v H) ∨
    (∃ a b xs ys, x = .ref a ∧ y = .ref b ∧ SqL K H a xs ∧ SqL K H b ys ∧ xs.length = ys.length ∧ ys.length ≤ 1000 ∧ ∀ (i : Nat) (u v : V), xs[i]? = some u → ys[i]? = some v → AlikeW K k u v H)
theorem AlikeW.ex {K : PySem.W.Frag} {H H' : Hp} (e : Ex H H') : ∀ {k : Nat} {x y : V}, AlikeW K k x y H → AlikeW K k x y H'
  | 0, _, _, h => h
  | k + 1, _, _, h => by
    rcases h with h | ⟨a, b, xs, ys, h1, h2, h3, h4, h5, h6, h7⟩ | ⟨a, b, xs, ys, h1, h2, h3, h4, h5, h6, h7⟩
    · exact .inl h
    · exact .inr (.inl ⟨a, b, xs, ys, h1, h2, _root_.Evl.ex_t e h3, _root_.Evl.ex_t e h4, h5, h6, fun i u v e1 e2 => AlikeW.ex e (h7 i u v e1 e2)⟩)
    · exact .inr (.inr ⟨a, b, xs, ys, h1, h2, _root_.Evl.ex_l e h3, _root_.Evl.ex_l e h4, h5, h6, fun i u v e1 e2 => AlikeW.ex e (h7 i u v e1 e2)⟩)
theorem AlikeV.w {K : PySem.W.Frag} {H : Hp} : ∀ {k : Nat} {x y : V}, AlikeV K k x y H → AlikeW K k x y H
  | 0, _, _, h => h
  | k + 1, _, _, h => by
    rcases h with h | ⟨a, b, xs, ys, h1, h2, h3, h4, h5, h6, h7⟩
    · exact .inl h
    · exact .inr (.inl ⟨a, b, xs, ys, h1, h2, h3, h4, h5, h6, fun i u v e1 e2 => AlikeV.w (h7 i u v e1 e2)⟩)
def spAlikeW (K : PySem.W.Frag) (k : Nat) : Sp := fun vs H Q _ => ∃ x y, vs = [x, y] ∧ AlikeW K k x y H ∧ Ret (IsV (.bl true)) H Q
def spAW (K : PySem.W.Frag) : Nat → Sp
  | 0 => fun _ _ _ _ => False
  | k + 1 => spAlikeW K k
def rIxE (K : PySem.W.Frag) : R2 := fun x y H Q => rIxT K x y H Q ∨ rIxL K x y H Q
theorem ix_either {X : Cx} : IxR X (rIxE X.K) := by
  intro value slice pins s σ H x y v u Q I rx ry h hs
  rcases h with h | h
  · exact ix_tup value slice pins s σ H x y v u Q I rx ry h hs
  · exact ix_list value slice pins s σ H x y v u Q I rx ry h hs
section
variable {P : Program} {w : World} {K : PySem.W.Frag} {mg : Str → Option Value} {base : Heap}
theorem any_lst : PySem.W.kitAny K (.type "list") [.type "tuple", .type "list"] = some true := kitAny_cons (b := false) (kit_ty (by decide +kernel)) (fun _ => kitAny_cons (b := true) (kit_ty (by decide +kernel)) (fun z => nomatch z) (fun _ => rfl)) (fun z => nomatch z)
theorem ok_alikeW0 {f : Addr} {fd : FuncData} : FnOk P w K mg base CX0 0 f fd p_law_alike (spAW K 0) := ⟨fun _ _ _ _ h => h.elim, fun _ _ _ _ _ _ _ _ _ _ _ _ _ h => h.elim⟩
theorem ok_alikeW {f : Addr} {fd : FuncData} (B : Bare mg) (F : Fun K "_law_alike" "_law_alike" s_law_alike f fd) (k : Nat) (Gs : Got P w K mg base CX0 k "_law_alike" p_law_alike (spAW K k)) : FnOk P w K mg base CX0 (k + 1) f fd p_law_alike (spAlikeW K k) := by
  refine F.ok sc_law_alike (fun vs H Q E h => ?_) (fun cdv A outer s H vs Q E hr h => ?_)
  · obtain ⟨x, y, rfl, _⟩ := h
    rfl
  · obtain ⟨x, y, rfl, hal, q⟩ := h
    have hr1 : Room k _ := hr
    refine ⟨_, pss_cons (ps_if (pt_val (pe_callB call_isiT (by rfl) B.isinstance (by decide +kernel) (pa_cons (pv 1) (pa_cons (pe_tup (pa_cons (pe_bltn (v := .ty "tuple") (by rfl) B.tuple (by decide +kernel) rfl) (pa_cons (pe_bltn (v := .ty "list") (by rfl) B.list (by decide +kernel) rfl) pa_nil))) pa_nil))))
        (pss_cons (ps_if (PW.pt (pw_or (pt_not (pt_val (pe_callB call_isiT (by rfl) B.isinstance (by decide +kernel) (pa_cons (pv 0) (pa_cons (pe_tup (pa_cons (pe_bltn (v := .ty "tuple") (by rfl) B.tuple (by decide +kernel) rfl) (pa_cons (pe_bltn (v := .ty "list") (by rfl) B.list (by decide +kernel) rfl) pa_nil))) pa_nil)))))
            (pw_or1 (pt_cmpR op_ne (pe_callB call_isi (by rfl) B.isinstance (by decide +kernel) (pa_cons (pv 0) (pa_cons (pe_bltn (v := .ty "list") (by rfl) B.list (by decide +kernel) rfl) pa_nil))) (pe_callB call_isi (by rfl) B.isinstance (by decide +kernel) (pa_cons (pv 1) (pa_cons (pe_bltn (v := .ty "list") (by rfl) B.list (by decide +kernel) rfl) pa_nil))) rfl))))
            (pss_one (ps_ret pe_bl)) pss_nil)
        (pss_cons (ps_if (pt_cmpR op_ne (pe_callB call_len_seq (by rfl) B.len PySem.boot_len (pa_cons (pv 0) pa_nil)) (pe_callB call_len_seq (by rfl) B.len PySem.boot_len (pa_cons (pv 1) pa_nil)) rfl) (pss_one (ps_ret pe_bl)) pss_nil)
        (pss_one (ps_ret (pe_cmpR (op_eqD hr.units) (pe_lc (own := [("k", 2)]) (g := gName 2) rfl sc_law_alike.nd (pi_range1 rfl B.range (pa_cons (pe_callB call_len_seq (by rfl) B.len PySem.boot_len (pa_cons (pv 1) pa_nil)) pa_nil)) (blkOk_by (N := n_law_alike) (sc := defScope s_law_alike) (by decide +kernel)) (fun _ _ _ _ _ => pg_name (i := 2) sc_law_alike.nd rfl (Or.inl rfl))
          (fun _ _ _ _ _ => pts_one (pt_not (pt_val (pe_got Gs hr1 pass0 (pa_cons (pe_ix (show IxR _ (rIxE K) from ix_either) (pv 0) (pv 2) (fun _ _ => rfl)) (pa_cons (pe_ix (show IxR _ (rIxE K) from ix_either) (pv 1) (pv 2) (fun _ _ => rfl)) pa_nil)))))) (fun _ _ _ _ _ => pv 2)) (pe_lst pa_nil) (nomark _)))))) pss_nil)
      (pss_cons (ps_if (PW.pt (pw_or (pt_cmp (pc_isN (pv 1))) (pw_or1 (pt_val (pe_callB call_isi (by rfl) B.isinstance (by decide +kernel) (pa_cons (pv 1) (pa_cons (pe_bltn (v := .ty "str") (by rfl) B.str (by decide +kernel) rfl) pa_nil)))))))
        (pss_one (ps_ret (pe_and (pe_cmpR op_eq (pv 0) (pv 1) rfl) (pe_one (pe_cmpR op_eq (pe_callB call_isi (by rfl) B.isinstance (by decide +kernel) (pa_cons (pv 0) (pa_cons (pe_bltn (v := .ty "str") (by rfl) B.str (by decide +kernel) rfl) pa_nil))) (pe_callB call_isi (by rfl) B.isinstance (by decide +kernel) (pa_cons (pv 1) (pa_cons (pe_bltn (v := .ty "str") (by rfl) B.str (by decide +kernel) rfl) pa_nil))) rfl))))) pss_nil)
      (pss_one (ps_ret (pe_and (pe_callB call_isi (by rfl) B.isinstance (by decide +kernel) (pa_cons (pv 0) (pa_cons (pe_bltn (v := .ty "int") (by rfl) B.int (by decide +kernel) rfl) pa_nil)))
        (pe_and (pe_cmpR op_eq (pe_callB call_isi (by rfl) B.isinstance (by decide +kernel) (pa_cons (pv 0) (pa_cons (pe_bltn (v := .ty "bool") (by rfl) B.bool (by decide +kernel) rfl) pa_nil))) (pe_callB call_isi (by rfl) B.isinstance (by decide +kernel) (pa_cons (pv 1) (pa_cons (pe_bltn (v := .ty "bool") (by rfl) B.bool (by decide +kernel) rfl) pa_nil))) rfl)
          (pe_one (pe_cmpR op_eq (pv 0) (pv 1) rfl))))))), ?_⟩
    have hh : (∃ i : Int, x = .int i ∧ y = .int i) ∨ (∃ j a b xs ys, k = j + 1 ∧ x = .ref a ∧ y = .ref b ∧ SqT K H a xs ∧ SqT K H b ys ∧ xs.length = ys.length ∧ ys.length ≤ 1000 ∧ ∀ (i : Nat) (u v : V), xs[i]? = some u → ys[i]? = some v → AlikeW K j u v H) ∨ (∃ j a b xs ys, k = j + 1 ∧ x = .ref a ∧ y = .ref b ∧ SqL K H a xs ∧ SqL K H b ys ∧ xs.length = ys.length ∧ ys.length ≤ 1000 ∧ ∀ (i : Nat) (u v : V), xs[i]? = some u → ys[i]? = some v → AlikeW K j u v H) := by
      cases k with
      | zero => exact .inl hal
      | succ j =>
        rcases hal with h | ⟨a, b, xs, ys, h⟩ | ⟨a, b, xs, ys, h⟩
        · exact .inl h
        · exact .inr (.inl ⟨j, a, b, xs, ys, rfl, h⟩)
        · exact .inr (.inr ⟨j, a, b, xs, ys, rfl, h⟩)
    have two : Paired ClsV [V.ty "tuple", V.ty "list"] [.type "tuple", .type "list"] := .cons (.ty _) (.cons (.ty _) .nil)
    rcases hh with ⟨i, rfl, rfl⟩ | ⟨j, a, b, xs, ys, rfl, rfl, rfl, ha, hb, hl, hz, hi⟩ | ⟨j, a, b, xs, ys, rfl, rfl, rfl, ha, hb, hl, hz, hi⟩
    · refine ⟨_, rfl, (by show 2 ≤ sizeLine; decide), fun tp np => ?_⟩
      refine ⟨.int i, tp, _, .type "int", _, false, rfl, upd_same, two, .base (.int i), any_int, false, rfl, iteF ?_⟩
      refine ⟨_, rfl, _, rfl, iteF ?_⟩
      refine ⟨_, rfl, .int i, .ty "str", .type "int", .type "str", false, rfl, .ty _, .base (.int i), kit_ty (by decide +kernel), false, rfl, iteF ?_⟩
      refine ⟨_, rfl, .int i, .ty "int", .type "int", .type "int", true, rfl, .ty _, .base (.int i), kit_ty (by decide +kernel), _, rfl, iteT ?_⟩
      refine ⟨_, rfl, .int i, .ty "bool", .type "int", .type "bool", false, rfl, .ty _, .base (.int i), kit_ty (by decide +kernel), ?_⟩
      refine ⟨_, rfl, .int i, .ty "bool", .type "int", .type "bool", false, rfl, .ty _, .base (.int i), kit_ty (by decide +kernel), rfl, ?_⟩
      refine ⟨_, rfl, iteT ?_⟩
      refine ⟨_, rfl, _, rfl, rfl, ?_⟩
      exact q _ _ (_root_.Evl.Ex.new np) (by show V.bl _ = V.bl _; simp)
    · refine ⟨_, rfl, (by show 2 ≤ sizeLine; decide), fun tp np => ?_⟩
      have e1 : Ex H (upd H tp (.tup [.ty "tuple", .ty "list"])) := _root_.Evl.Ex.new np
      refine ⟨.ref b, tp, _, .type "tuple", _, true, rfl, upd_same, two, tyx_t (_root_.Evl.ex_t e1 hb), any_tup, true, rfl, iteT ?_⟩
      refine ⟨_, rfl, (by show 2 ≤ sizeLine; decide), fun tp2 np2 => ?_⟩
      have e2 : Ex (upd H tp (.tup [.ty "tuple", .ty "list"])) (upd (upd H tp (.tup [.ty "tuple", .ty "list"])) tp2 (.tup [.ty "tuple", .ty "list"])) := _root_.Evl.Ex.new np2
      have e12 := e1.trans e2
      refine ⟨.ref a, tp2, _, .type "tuple", _, true, rfl, upd_same, two, tyx_t (_root_.Evl.ex_t e12 ha), any_tup, true, rfl, iteF ?_⟩
      refine ⟨_, rfl, .ref a, .ty "list", .type "tuple", .type "list", false, rfl, .ty _, tyx_t (_root_.Evl.ex_t e12 ha), kit_ty (by decide +kernel), ?_⟩
      refine ⟨_, rfl, .ref b, .ty "list", .type "tuple", .type "list", false, rfl, .ty _, tyx_t (_root_.Evl.ex_t e12 hb), kit_ty (by decide +kernel), rfl, ?_⟩
      refine ⟨_, rfl, iteF ?_⟩
      refine ⟨_, rfl, a, xs, rfl, .inr (_root_.Evl.ex_t e12 ha), _, rfl, b, ys, rfl, .inr (_root_.Evl.ex_t e12 hb), rfl, _, rfl, ?_⟩
      refine ite2 (fun c => absurd (by rw [hl]) (dne c)) (fun _ => ?_)
      refine ⟨_, rfl, b, ys, rfl, .inr (_root_.Evl.ex_t e12 hb), _, rfl, by omega, by omega, ?_⟩
      refine lc_go (walk_range (lo := 0) (n := ((ys.length : Nat) : Int).toNat)) (by omega) (fun _ _ => trivial) (List.range ys.length) (by rw [List.length_range, Int.toNat_natCast]) (fun _ => false) (fun _ _ _ => True) (fun _ _ _ _ _ h => h) (fun i m x H3 H4 hn3 e3 yy C N hC hN => ?_) fun D zs H3 nD e3 hD hz0 => ?_
      · obtain ⟨rfl, ex⟩ := yy
        have ex' : x = V.int ((i : Nat) : Int) := ex.trans (by show V.int _ = V.int _; rw [Int.zero_add])
        subst ex'
        have hi0 : i < ys.length := by
          have := (List.getElem?_eq_some_iff.mp hn3).1
          rwa [List.length_range] at this
        have hi1 : i < xs.length := by omega
        refine ⟨rfl, _, rfl, _, rfl, .inl ⟨a, xs, _, xs[i], rfl, rfl, _root_.Evl.ex_t (e12.trans e3) ha, at_of rfl (List.getElem?_eq_getElem hi1), _, rfl, _, rfl, .inl ⟨b, ys, _, ys[i], rfl, rfl, _root_.Evl.ex_t (e12.trans e3) hb, at_of rfl (List.getElem?_eq_getElem hi0), xs[i], ys[i], rfl, (hi i _ _ (List.getElem?_eq_getElem hi1) (List.getElem?_eq_getElem hi0)).ex (e12.trans e3), fun z H5 e5 ez => ?_⟩⟩⟩
        cases (show z = _ from ez)
        exact ⟨_, rfl, hN rfl _ e5⟩
      · have hz1 : Paired (fun y d => True) zs ((List.range ys.length).filter fun _ => false) := hz0
        have l0 : zs.length = 0 := by
          rw [pr_len hz1]
          simp
        have : zs = [] := List.length_eq_zero_iff.mp l0
        subst this
        refine ⟨Nat.zero_le _, fun g1 ng1 => ?_⟩
        have e4 : Ex H3 (upd H3 g1 (.lst [])) := _root_.Evl.Ex.new ng1
        refine ⟨.list [], .list [], .lst (SqL.of (e4 _ _ hD)) .nil, .lst (SqL.of upd_same) .nil, rfl, rfl, ?_⟩
        exact q _ _ ((e12.trans e3).trans e4) rfl
    · refine ⟨_, rfl, (by show 2 ≤ sizeLine; decide), fun tp np => ?_⟩
      have e1 : Ex H (upd H tp (.tup [.ty "tuple", .ty "list"])) := _root_.Evl.Ex.new np
      refine ⟨.ref b, tp, _, .type "list", _, true, rfl, upd_same, two, tyx_l (_root_.Evl.ex_l e1 hb), any_lst, true, rfl, iteT ?_⟩
      refine ⟨_, rfl, (by show 2 ≤ sizeLine; decide), fun tp2 np2 => ?_⟩
      have e2 : Ex (upd H tp (.tup [.ty "tuple", .ty "list"])) (upd (upd H tp (.tup [.ty "tuple", .ty "list"])) tp2 (.tup [.ty "tuple", .ty "list"])) := _root_.Evl.Ex.new np2
      have e12 := e1.trans e2
      refine ⟨.ref a, tp2, _, .type "list", _, true, rfl, upd_same, two, tyx_l (_root_.Evl.ex_l e12 ha), any_lst, true, rfl, iteF ?_⟩
      refine ⟨_, rfl, .ref a, .ty "list", .type "list", .type "list", true, rfl, .ty _, tyx_l (_root_.Evl.ex_l e12 ha), kit_ty (by decide +kernel), ?_⟩
      refine ⟨_, rfl, .ref b, .ty "list", .type "list", .type "list", true, rfl, .ty _, tyx_l (_root_.Evl.ex_l e12 hb), kit_ty (by decide +kernel), rfl, ?_⟩
      refine ⟨_, rfl, iteF ?_⟩
      refine ⟨_, rfl, a, xs, rfl, .inl (_root_.Evl.ex_l e12 ha), _, rfl, b, ys, rfl, .inl (_root_.Evl.ex_l e12 hb), rfl, _, rfl, ?_⟩
      refine ite2 (fun c => absurd (by rw [hl]) (dne c)) (fun _ => ?_)
      refine ⟨_, rfl, b, ys, rfl, .inl (_root_.Evl.ex_l e12 hb), _, rfl, by omega, by omega, ?_⟩
      refine lc_go (walk_range (lo := 0) (n := ((ys.length : Nat) : Int).toNat)) (by omega) (fun _ _ => trivial) (List.range ys.length) (by rw [List.length_range, Int.toNat_natCast]) (fun _ => false) (fun _ _ _ => True) (fun _ _ _ _ _ h => h) (fun i m x H3 H4 hn3 e3 yy C N hC hN => ?_) fun D zs H3 nD e3 hD hz0 => ?_
      · obtain ⟨rfl, ex⟩ := yy
        have ex' : x = V.int ((i : Nat) : Int) := ex.trans (by show V.int _ = V.int _; rw [Int.zero_add])
        subst ex'
        have hi0 : i < ys.length := by
          have := (List.getElem?_eq_some_iff.mp hn3).1
          rwa [List.length_range] at this
        have hi1 : i < xs.length := by omega
        refine ⟨rfl, _, rfl, _, rfl, .inr ⟨a, xs, _, xs[i], rfl, rfl, _root_.Evl.ex_l (e12.trans e3) ha, at_of rfl (List.getElem?_eq_getElem hi1), _, rfl, _, rfl, .inr ⟨b, ys, _, ys[i], rfl, rfl, _root_.Evl.ex_l (e12.trans e3) hb, at_of rfl (List.getElem?_eq_getElem hi0), xs[i], ys[i], rfl, (hi i _ _ (List.getElem?_eq_getElem hi1) (List.getElem?_eq_getElem hi0)).ex (e12.trans e3), fun z H5 e5 ez => ?_⟩⟩⟩
        cases (show z = _ from ez)
        exact ⟨_, rfl, hN rfl _ e5⟩
      · have hz1 : Paired (fun y d => True) zs ((List.range ys.length).filter fun _ => false) := hz0
        have l0 : zs.length = 0 := by
          rw [pr_len hz1]
          simp
        have : zs = [] := List.length_eq_zero_iff.mp l0
        subst this
        refine ⟨Nat.zero_le _, fun g1 ng1 => ?_⟩
        have e4 : Ex H3 (upd H3 g1 (.lst [])) := _root_.Evl.Ex.new ng1
        refine ⟨.list [], .list [], .lst (SqL.of (e4 _ _ hD)) .nil, .lst (SqL.of upd_same) .nil, rfl, rfl, ?_⟩
        exact q _ _ ((e12.trans e3).trans e4) rfl
end
end K01


set_option maxRecDepth 100000
set_option linter.unusedVariables false
/-! what the law of parts asks of rows -/
namespace Lin
section
variable {p : Int} {n : Nat} {S R L : List Row} {A W : List Row} {v w : Row} {leads : List Nat}
theorem stairs_of_space {V : Row → Prop} (hp : 1 < p) (hS : Rref p n S) (h : ∀ v, Sp p n S v ↔ V v) (nd : L.Nodup) (hL : ∀ v, v ∈ L ↔ V v) (srt : leads.Pairwise (· < ·)) (hm : ∀ a, a ∈ leads ↔ a ∈ (lawRows L).map lead) : lawStairs leads L = S :=
  lawStairs_is hp hS (fun v => (hL v).trans (h v).symm) nd srt hm
/-- a deed that adds keeps to what can be reached -/
theorem can_step (hp : 1 < p) (P : Prm p) (hA : Oks p n A) (hl : A.length = n) (hW : Oks p n W) {k : Nat} (hk : n ≤ k) (hk0 : 1 ≤ k) (lot : Lot p n (kry p A W k) L) (hv : v ∈ L) (hw : w ∈ W) (c : Int) : app p A (add p v c w) ∈ L := by
  have hp0 : 0 < p := by omega
  have ok := kry_ok (k := k) hp0 hl hW
  refine (lot.mem _).2 (kry_stable hp P hA hl hW hk (((lot.mem v).1 hv).add hp0 ok (Sp.gen hp0 (hW w hw) (mem_kry.2 ⟨0, by omega, w, hw, rfl⟩)) c))
/-- what both are: the meeting of two spaces, as a list -/
theorem both_mem {L1 L2 : List Row} {V1 V2 : Row → Prop} (h1 : ∀ v, v ∈ L1 ↔ V1 v) (h2 : ∀ v, v ∈ L2 ↔ V2 v) : ∀ v, v ∈ (L1.filter fun x => decide (x ∈ L2)) ↔ V1 v ∧ V2 v := fun v => by
  rw [List.mem_filter, decide_eq_true_eq, h1, h2]
/-- a smaller space has a shorter staircase; the law's sizes are the lengths -/
theorem keeps_le {V1 V2 : Row → Prop} {S1 S2 : List Row} (hp : 1 < p) (r1 : Rref p n S1) (r2 : Rref p n S2) (h1 : ∀ v, Sp p n S1 v ↔ V1 v) (h2 : ∀ v, Sp p n S2 v ↔ V2 v) (sub : ∀ v, V2 v → V1 v) : S2.length ≤ S1.length :=
  len_mono hp r2 r1 fun v q => (h1 v).2 (sub v ((h2 v).1 q))
/-- the dual of what is never seen: the rows that meet all of it with 0 are what sights come to -/
theorem unseen_is {ss : List Row} (hp : 1 < p) (P : Prm p) (hA : Oks p n A) (hl : A.length = n) (hs : Oks p n ss) {k : Nat} (hk : n ≤ k) (hv : OkR p n v) : (∀ t, t < k → ∀ s ∈ ss, dot p s (it p A t v) = 0) ↔ ∀ r ∈ kry p (tr n A) ss k, dot p r v = 0 := by
  have hp0 : 0 < p := by omega
  constructor
  · intro h r hr
    obtain ⟨t, ht, s, hs2, e⟩ := mem_kry.1 hr
    rw [← e, ← dot_it hp0 hA hl (hs s hs2) hv]
    exact h t ht s hs2
  · intro h t ht s hs2
    rw [dot_it hp0 hA hl (hs s hs2) hv]
    exact h _ (mem_kry.2 ⟨t, ht, s, hs2, rfl⟩)
end
end Lin


set_option Elab.async false
set_option linter.all false
namespace Lin
section
variable {p : Int} {n : Nat} {S T R F G : List Row} {A W : List Row} {v w r u : Row} {V1 V2 : Row → Prop}
theorem kry_one : Same p n (kry p A W 1) W := fun v => by
  have e : kry p A W 1 = W := by
    unfold kry
    rw [List.range_one, List.flatMap_singleton]
    exact (List.map_congr_left fun x _ => rfl).trans (List.map_id W)
  rw [e]
/-- one more step of what a table makes of rows -/
theorem kry_next (hp : 0 < p) (hA : Oks p n A) (hl : A.length = n) (hW : Oks p n W) (hS : Oks p n S) {k : Nat} (hk : 1 ≤ k) (s : Same p n S (kry p A W k)) : Oks p n (S ++ S.map (app p A)) ∧ Same p n (S ++ S.map (app p A)) (kry p A W (k + 1)) := by
  have o1 : Oks p n (S ++ S.map (app p A)) := fun x hx => by
    rcases List.mem_append.mp hx with h | h
    · exact hS x h
    · obtain ⟨y, hy, rfl⟩ := List.mem_map.mp h
      exact app_ok hp hl
  have o2 : Oks p n (kry p A W (k + 1)) := kry_ok hp hl hW
  have o3 : Oks p n (kry p A W k) := kry_ok hp hl hW
  refine ⟨o1, same_of hp o1 o2 (fun r hr => ?_) fun r hr => ?_⟩
  · rcases List.mem_append.mp hr with h | h
    · exact kry_up (Nat.le_succ k) ((s r).1 (Sp.gen hp (hS r h) h))
    · obtain ⟨y, hy, rfl⟩ := List.mem_map.mp h
      refine (app_sp hp hA hl o3 ((s y).1 (Sp.gen hp (hS y hy) hy))).mono hp o2 fun x hx => ?_
      obtain ⟨z, hz, rfl⟩ := List.mem_map.mp hx
      obtain ⟨t, ht, w, hw, rfl⟩ := mem_kry.1 hz
      have : app p A (it p A t w) ∈ kry p A W (k + 1) := mem_kry.2 ⟨t + 1, by omega, w, hw, rfl⟩
      exact Sp.gen hp (o2 _ this) this
  · obtain ⟨t, ht, w, hw, rfl⟩ := mem_kry.1 hr
    by_cases e : t < k
    · have hm : it p A t w ∈ kry p A W k := mem_kry.2 ⟨t, e, w, hw, rfl⟩
      exact ((s _).2 (Sp.gen hp (o3 _ hm) hm)).sub fun x hx => List.mem_append_left _ hx
    · obtain rfl : t = k := by omega
      obtain ⟨t, rfl⟩ : ∃ j, t = j + 1 := ⟨t - 1, by omega⟩
      have hm : it p A t w ∈ kry p A W (t + 1) := mem_kry.2 ⟨t, by omega, w, hw, rfl⟩
      have h1 := (s _).2 (Sp.gen hp (o3 _ hm) hm)
      exact (app_sp hp hA hl hS h1).sub fun x hx => List.mem_append_right _ hx
/-- F is a staircase of just the rows of which V1 holds -/
def Spans (p : Int) (n : Nat) (F : List Row) (V1 : Row → Prop) : Prop := Rref p n F ∧ ∀ v, Sp p n F v ↔ V1 v
theorem Spans.uniq (hp : 1 < p) (h : Spans p n F V1) (h' : Spans p n G V2) (e : ∀ v, V1 v ↔ V2 v) : F = G := h.1.uniq hp h'.1 fun v => (h.2 v).trans ((e v).trans (h'.2 v).symm)
theorem spans_face (hp : 1 < p) (oR : Oks p n R) (hF : Rref p n F) (hS : Rref p n S) (sS : Same p n S R) (sF : Same p n F (facings p n S)) : Spans p n F fun v => OkR p n v ∧ ∀ r ∈ R, dot p r v = 0 :=
  ⟨hF, fun v => (sF v).trans (facings_of hp hS oR sS)⟩
theorem face_len (hp : 1 < p) (hF : Rref p n F) (hS : Rref p n S) (sF : Same p n F (facings p n S)) : F.length + S.length = n := by
  have hp0 : 0 < p := by omega
  have c1 := combos_len (p := p) (n := n) (S := F)
  have c2 : (combos p n F).length = p.toNat ^ (facings p n S).length := Ind.count hp0 (facings_ind hp hS) (combos_nd hp0 hF.ind) fun v => (mem_combos hp0 hF.ok).trans (sF v)
  have e : F.length = (facings p n S).length := (Nat.pow_right_inj (show 1 < p.toNat by omega)).1 (c1.symm.trans c2)
  have e2 : (facings p n S).length = (frees n S).length := by unfold facings; rw [List.length_map]
  have := frees_len hS
  omega
/-- what meets with 0 all that meets with 0 what S spans: S spans it -/
theorem perp_perp (hp : 1 < p) (P : Prm p) (hS : Rref p n S) (hF : Rref p n F) (sF : Same p n F (facings p n S)) (hv : OkR p n v) (h : ∀ f ∈ F, dot p f v = 0) : Sp p n S v := by
  have hp0 : 0 < p := by omega
  obtain ⟨G, hG, sG⟩ := exists_rref hp P (R := facings p n F) (facings_ind hp hF).ok
  have l1 := face_len hp hF hS sF
  have l2 := face_len hp hG hF sG
  have gm : ∀ {x : Row}, Sp p n G x ↔ OkR p n x ∧ ∀ f ∈ F, dot p f x = 0 := fun {x} => (sG x).trans (facings_of hp hF hF.ok Same.refl)
  have sub : ∀ x, Sp p n S x → Sp p n G x := fun x hx => by
    have ox := hx.ok hp0 hS.ok
    refine gm.2 ⟨ox, fun f hf => ?_⟩
    have hf2 := (sF f).1 (Sp.gen hp0 (hF.ok f hf) hf)
    have of := hF.ok f hf
    rw [dot_comm of.1 ox.1]
    have hp2 := (facings_sp hp hS).1 hf2
    exact perp_sp hp0 hS.ok of.1 hp2.2 hx
  refine Classical.byContradiction fun no => ?_
  have := len_less hp hS hG sub (gm.2 ⟨hv, h⟩) no
  omega
/-- what is reached and never seen -/
theorem spans_both (hp : 1 < p) (P : Prm p) {B L K1 : List Row} (hB : Rref p n B) (hF : Rref p n F) (sF : Same p n F (facings p n B)) (oL : Oks p n L) (hK : Spans p n K1 fun v => OkR p n v ∧ ∀ r ∈ F ++ L, dot p r v = 0) :
    Spans p n K1 fun v => Sp p n B v ∧ OkR p n v ∧ ∀ r ∈ L, dot p r v = 0 := by
  have hp0 : 0 < p := by omega
  refine ⟨hK.1, fun v => (hK.2 v).trans ⟨fun ⟨o, h⟩ => ⟨perp_perp hp P hB hF sF o fun f hf => h f (List.mem_append_left _ hf), o, fun r hr => h r (List.mem_append_right _ hr)⟩, fun ⟨hb, o, h⟩ => ⟨o, fun r hr => ?_⟩⟩⟩
  rcases List.mem_append.mp hr with hf | hl
  · have of := hF.ok r hf
    rw [dot_comm of.1 o.1]
    have := (facings_sp hp hB).1 ((sF r).1 (Sp.gen hp0 of hf))
    exact perp_sp hp0 hB.ok of.1 this.2 hb
  · exact h r hl
end
end Lin


set_option Elab.async false
set_option linter.all false
set_option maxRecDepth 100000
set_option maxHeartbeats 1000000
/-! zip of any number of tuples, its tuples kept -/
namespace ZN
open PySem PySem.Spec PyProof.Rows
open PySem.Sem (wp)
/-- one of the tuples that are zipped: its iterator, where it stands, its items -/
structure Th where
  it : Addr
  l : Addr
  xs : Array Value
def At (h : Heap) (i : Nat) (t : Th) : Prop := h.IsTupleIter t.it t.l i ∧ h.IsTuple t.l t.xs
theorem At.keep {h h' : Heap} {i : Nat} {t : Th} (a : At h i t) (k : ∀ o, h.get? t.it = some o → h'.get? t.it = some o) (k' : ∀ o, h.get? t.l = some o → h'.get? t.l = some o) : At h' i t := by
  obtain ⟨⟨o, h1, h2⟩, ⟨o', h3, h4⟩⟩ := a
  exact ⟨⟨o, k _ h1, h2⟩, ⟨o', k' _ h3, h4⟩⟩
abbrev ZipObj (h : Heap) (z TI TO : Addr) (f0 f1 : Value) : Prop := h.get? z = some { cls := .type "zip", dict := none, data := .fields #[f0, f1, .bool false, .ref TI, .ref TO], slots := #[] }
abbrev TupObj (h : Heap) (T : Addr) (vs : Array Value) : Prop := h.get? T = some { cls := .type "tuple", data := .seq vs }
def refs (ts : List Th) : List Value := ts.map fun t => Value.ref t.it
structure Apart (z TI TO : Addr) (ts : List Th) : Prop where
  zTI : z ≠ TI
  zTO : z ≠ TO
  TITO : TI ≠ TO
  it : ∀ t ∈ ts, t.it ≠ z ∧ t.it ≠ TI ∧ t.it ≠ TO
  l : ∀ t ∈ ts, t.l ≠ z ∧ t.l ≠ TO ∧ ∀ u ∈ ts, t.l ≠ u.it
  nd : (ts.map Th.it).Nodup
structure ZipAt (h : Heap) (z TI TO : Addr) (ts : List Th) (i : Nat) : Prop where
  z : ∃ (f0 : Value) (f1 : Bool), (f0 = .none ∨ ∃ T : Addr, f0 = rawInt T) ∧ ZipObj h z TI TO f0 (.bool f1)
  ti : TupObj h TI (refs ts).toArray
  to : ∃ kept : Array Value, kept.size = ts.length ∧ TupObj h TO kept
  at_ : ∀ t ∈ ts, At h i t

section
variable {prog : Program} {w : World} {A : Around} {E : Value → Shared → Prop} {s : Shared}
variable {z TI TO : Addr} {ts : List Th} {i : Nat}
/-- what one draw of all threads leaves: those of ds drawn, those of rs not yet -/
structure Mid (h0 h : Heap) (z TO : Addr) (ts ds rs : List Th) (i : Nat) : Prop where
  sz : h.objs.size = h0.objs.size
  ds : ∀ t ∈ ds, At h (i + 1) t
  rs : ∀ t ∈ rs, At h i t
  keep : ∀ c o, c ≠ z → c ≠ TO → (∀ t ∈ ts, c ≠ t.it) → h0.get? c = some o → h.get? c = some o
def vals (ds : List Th) (i : Nat) : List Value := ds.map fun t => t.xs.getD i .none
theorem vals_len {ds : List Th} {i : Nat} : (vals ds i).length = ds.length := List.length_map _
theorem draw {h0 : Heap} {ds rs : List Th} {t : Th} {x : Value} {Q : Value → Shared → Prop} (D : Apart z TI TO ts) (ets : ts = ds ++ t :: rs) (M : Mid h0 s.heap z TO ts ds (t :: rs) i) (hx : t.xs[i]? = some x)
    (hQ : ∀ h', Mid h0 h' z TO ts (ds ++ [t]) rs i → (∀ c o, c ≠ t.it → s.heap.get? c = some o → h'.get? c = some o) → Q x { s with heap := h' }) :
    wpAny (model prog w) A (Builtin.SmallTypes.nextOf (.ref t.it)) Q E s := by
  have ht : t ∈ ts := by rw [ets]; simp
  have at0 := M.rs t List.mem_cons_self
  have nd := D.nd
  rw [ets, List.map_append, List.map_cons] at nd
  have nd2 := List.nodup_append.mp nd
  have nd3 := List.nodup_cons.mp nd2.2.1
  refine RZ.nextOf_tuple_item at0.1 at0.2 hx fun h' a k => ?_
  have kk : ∀ c o, c ≠ t.it → s.heap.get? c = some o → h'.get? c = some o := fun c o n e => k.extBut c o n e
  refine hQ h' ⟨k.1.trans M.sz, fun u hu => ?_, fun u hu => ?_, fun c o c1 c2 c3 e => kk c o (c3 t ht) (M.keep c o c1 c2 c3 e)⟩ kk
  · rcases List.mem_append.mp hu with hu | hu
    · have um : u ∈ ts := by rw [ets]; exact List.mem_append_left _ hu
      have ne : u.it ≠ t.it := fun e => nd2.2.2 u.it (List.mem_map_of_mem hu) t.it (List.mem_cons_self) e
      exact (M.ds u hu).keep (fun o e => kk _ o ne e) fun o e => kk _ o ((D.l u um).2.2 t ht) e
    · rw [List.mem_singleton.mp hu]
      refine ⟨a, ?_⟩
      obtain ⟨o, h1, h2⟩ := at0.2
      exact ⟨o, kk _ o ((D.l t ht).2.2 t ht) h1, h2⟩
  · have um : u ∈ ts := by rw [ets]; exact List.mem_append_right _ (List.mem_cons_of_mem _ hu)
    have ne : u.it ≠ t.it := fun e => nd3.1 (e ▸ List.mem_map_of_mem hu)
    exact (M.rs u (List.mem_cons_of_mem _ hu)).keep (fun o e => kk _ o ne e) fun o e => kk _ o ((D.l u um).2.2 t ht) e
theorem zipIdx_app {α : Type} (a b : List α) (k : Nat) : (a ++ b).zipIdx k = a.zipIdx k ++ b.zipIdx (k + a.length) := by
  induction a generalizing k with
  | nil => simp
  | cons x l ih => rw [List.cons_append, List.zipIdx_cons, List.zipIdx_cons, ih, List.length_cons, List.cons_append, show k + 1 + l.length = k + (l.length + 1) by omega]
theorem updateSeq_tup {T : Addr} {vs : Array Value} {k : Nat} {x : Value} {Q : Unit → Shared → Prop} (hT : TupObj s.heap T vs) (hv : vs.size ≤ 1000)
    (h : ∀ h', TupObj h' T (vs.setIfInBounds k x) → Heap.SameBut T s.heap h' → Q () { s with heap := h' }) :
    wpAny (model prog w) A (updateSeq T (·.setIfInBounds k x)) Q E s := by
  have b : 1000 ≤ sizeLine := by decide
  refine wpAny_updateSeq hT rfl (h _ ?_ (Heap.SameBut.update ..)) (by omega) (by show (vs.setIfInBounds k x).size ≤ _; rw [Array.size_setIfInBounds]; omega)
  show Heap.get? _ _ = _
  rw [Heap.get?_update_self _ hT rfl]
  simp [Obj.mapSeq]
/-- next of the zip, its own tuple free -/
theorem next_free {f0 : Value} {f1 : Bool} {Q : Value → Shared → Prop} (D : Apart z TI TO ts) (h1 : ts ≠ []) (hsz : ts.length ≤ 1000) (hz : ZipObj s.heap z TI TO f0 (.bool f1)) (hti : TupObj s.heap TI (refs ts).toArray) (hto : ∃ kept : Array Value, kept.size = ts.length ∧ TupObj s.heap TO kept)
    (hat : ∀ t ∈ ts, At s.heap i t) (hn : ∀ t ∈ ts, i < t.xs.size) (free : ∀ Q' : Bool → Shared → Prop, Q' true s → wpAny (model prog w) A (Builtin.SmallTypes.ownedTupleIsFree (.ref z)) Q' E s)
    (hQ : ∀ h' , ZipAt h' z TI TO ts (i + 1) → TupObj h' s.heap.objs.size (vals ts i).toArray → h'.objs.size = s.heap.objs.size + 1 → (∀ c o, c ≠ z → c ≠ TO → (∀ t ∈ ts, c ≠ t.it) → s.heap.get? c = some o → h'.get? c = some o) → Q (.ref s.heap.objs.size) { s with heap := h' }) :
    wpAny (model prog w) A (Builtin.«zip.__next__» ⟨[.ref z], []⟩) (fun fin s' => ∃ v, fin = .done (.ret v) ∧ Q v s') E s := by
  show wpAny _ _ (field (.ref z) 2 >>= _) _ _ _
  refine wpAny_bind (wpAny_field hz rfl (x := .bool false) rfl ?_)
  show wpAny _ _ (field (.ref z) 3 >>= _) _ _ _
  refine wpAny_bind (wpAny_field hz rfl (x := .ref TI) rfl ?_)
  refine wpAny_bind (wpAny_seqItems hti rfl ?_)
  have hne : (refs ts).toArray.isEmpty = false := by
    cases ts with
    | nil => exact absurd rfl h1
    | cons t l => simp [refs]
  simp only [hne, Bool.false_eq_true, if_false]
  show wpAny _ _ (Builtin.SmallTypes.ownedTupleIsFree (.ref z) >>= _) _ _ _
  refine wpAny_bind (free _ ?_)
  simp only [if_true]
  refine wpAny_bind (wpAny_rule ?_)
  refine wpAny_bind (wpAny_field hz rfl (x := .ref TO) rfl ?_)
  refine wpAny_bind (wpAny_setField_rec hz (by simp) fun h₁ hz₁ hs₁ => ?_)
  obtain ⟨kept0, hk0, hto0⟩ := hto
  refine wpAny_bind (wpAny_forIn_list _ (fun rest b s' => b = (none, ()) ∧ ∃ (h' : Heap) (ds rs : List Th) (kept : Array Value), s' = { s with heap := h' } ∧ ts = ds ++ rs ∧ rest = (refs rs).zipIdx ds.length ∧ Mid s.heap h' z TO ts ds rs i ∧ ZipObj h' z TI TO .ellipsis (.bool f1) ∧ TupObj h' TO kept ∧ kept.size = ts.length ∧
    ∀ (j : Nat) (t : Th), ds[j]? = some t → kept[j]? = some (t.xs.getD i .none)) _ (fun x rest b s' hI => ?_) (fun b s' hI => ?_) _ _ ?_)
  · obtain ⟨rfl, h', ds, rs, kept, rfl, ets, er, M, hz', hto', hks, hkj⟩ := hI
    cases rs with
    | nil => simp [refs] at er
    | cons t rs =>
      simp only [refs, List.map_cons, List.zipIdx_cons, List.cons.injEq] at er
      obtain ⟨rfl, rfl⟩ := er
      have ht : t ∈ ts := by rw [ets]; simp
      have hi : t.xs[i]? = some (t.xs.getD i .none) := by
        have := hn t ht
        simp [Array.getD, this]
      refine wpAny_bind (wpAny_onRaise ?_)
      show wpAny _ _ (Builtin.SmallTypes.nextOf (.ref t.it) >>= _) _ _ _
      refine wpAny_bind (draw (s := { s with heap := h' }) D ets M hi fun h2 M2 k2 => wpAny_pure ?_)
      have zt := D.it t ht
      have hto2 : TupObj h2 TO kept := k2 _ _ zt.2.2.symm hto'
      have hz2 : ZipObj h2 z TI TO .ellipsis (.bool f1) := k2 _ _ zt.1.symm hz'
      refine wpAny_bind (wpAny_seqItems hto2 rfl ?_)
      refine wpAny_bind (updateSeq_tup hto2 (by omega) fun h3 hto3 k3 => ?_)
      have kk : ∀ c o, c ≠ TO → h2.get? c = some o → h3.get? c = some o := fun c o n e => k3.extBut c o n e
      refine wpAny_bind (wpAny_letGo (wpAny_pure ⟨rfl, h3, ds ++ [t], rs, _, rfl, by rw [ets]; simp, ?_, ?_, kk _ _ D.zTO hz2, hto3, by rw [Array.size_setIfInBounds]; exact hks, fun j u hj => ?_⟩))
      · rw [List.length_append]; rfl
      · refine ⟨k3.1.trans M2.sz, fun u hu => ?_, fun u hu => ?_, fun c o c1 c2 c3 e => kk c o c2 (M2.keep c o c1 c2 c3 e)⟩
        · have um : u ∈ ts := by
            rw [ets]
            rcases List.mem_append.mp hu with q | q
            · exact List.mem_append_left _ q
            · rw [List.mem_singleton.mp q]; simp
          exact (M2.ds u hu).keep (fun o e => kk _ o (D.it u um).2.2 e) fun o e => kk _ o (D.l u um).2.1 e
        · have um : u ∈ ts := by rw [ets]; exact List.mem_append_right _ (List.mem_cons_of_mem _ hu)
          exact (M2.rs u hu).keep (fun o e => kk _ o (D.it u um).2.2 e) fun o e => kk _ o (D.l u um).2.1 e
      · have hl : ds.length < kept.size := by rw [hks, ets]; simp
        rw [Array.getElem?_setIfInBounds]
        by_cases e : j < ds.length
        · rw [if_neg (by omega)]
          rw [List.getElem?_append_left e] at hj
          exact hkj j u hj
        · have e2 : j = ds.length := by
            have := (List.getElem?_eq_some_iff.mp hj).1
            rw [List.length_append, List.length_singleton] at this
            omega
          subst e2
          rw [List.getElem?_append_right (Nat.le_refl _), Nat.sub_self] at hj
          obtain rfl : t = u := by simpa using hj
          rw [if_pos rfl, if_pos hl]
  · obtain ⟨rfl, h', ds, rs, kept, rfl, ets, er, M, hz', hto', hks, hkj⟩ := hI
    have ers : rs = [] := by
      cases rs with
      | nil => rfl
      | cons t rs => simp [refs] at er
    subst ers
    rw [List.append_nil] at ets
    subst ets
    have ek : kept.toList = vals ts i := by
      refine List.ext_getElem? fun j => ?_
      unfold vals
      rw [List.getElem?_map]
      cases e : ts[j]? with
      | none =>
        have := List.getElem?_eq_none_iff.mp e
        rw [List.getElem?_eq_none_iff.mpr (by rw [Array.length_toList]; omega)]
        rfl
      | some t =>
        have := hkj j t e
        rw [Array.getElem?_toList, this]
        rfl
    refine wpAny_bind (wpAny_seqItems hto' rfl ?_)
    have b : 1000 ≤ sizeLine := by decide
    refine wpAny_bind (wpAny_newTuple ?_ (by rw [Array.length_toList]; omega))
    rw [ek]
    have z5 : ∀ c o, h'.get? c = some o → (h'.push { cls := .type "tuple", data := .seq (vals ts i).toArray }).get? c = some o := fun c o e => Heap.get?_push_of_some _ e
    have tN : (h'.push { cls := .type "tuple", data := .seq (vals ts i).toArray }).get? h'.objs.size = some { cls := .type "tuple", data := .seq (vals ts i).toArray } := Heap.get?_push_size _ rfl
    have sN : (h'.push { cls := .type "tuple", data := .seq (vals ts i).toArray }).objs.size = h'.objs.size + 1 := Heap.size_push ..
    show wpAny _ _ (Builtin.SmallTypes.ownedTupleHandOut (.ref z) (.ref h'.objs.size) >>= _) _ _ _
    refine wpAny_bind ?_
    unfold Builtin.SmallTypes.ownedTupleHandOut
    refine wpAny_bind (wpAny_setField_rec (z5 _ _ hz') (by simp) fun h₇ hz₇ hs₇ => ?_)
    refine wpAny_setField_rec hz₇ (by simp) fun h₈ hz₈ hs₈ => ?_
    have up : ∀ c o, c ≠ z → h'.get? c = some o → h₈.get? c = some o := fun c o n e => hs₈.extBut _ _ n (hs₇.extBut _ _ n (z5 c o e))
    refine wpAny_pure ⟨_, rfl, ?_⟩
    show Q (.ref h'.objs.size) _
    have zlt : z < h'.objs.size := Heap.lt_size hz'
    have hT8 : TupObj h₈ h'.objs.size (vals ts i).toArray := hs₈.extBut _ _ (Nat.ne_of_gt zlt) (hs₇.extBut _ _ (Nat.ne_of_gt zlt) tN)
    have s8 : h₈.objs.size = h'.objs.size + 1 := by rw [hs₈.1, hs₇.1, sN]
    have es := M.sz
    rw [es] at hz₈ hT8 s8 ⊢
    refine hQ h₈ ⟨⟨rawInt s.heap.objs.size, false, .inr ⟨_, rfl⟩, hz₈⟩, up _ _ D.zTI.symm (M.keep _ _ D.zTI.symm D.TITO (fun t ht => (D.it t ht).2.1.symm) hti), ⟨kept, hks, up _ _ D.zTO.symm hto'⟩, fun t ht => ?_⟩ hT8 s8 fun c o c1 c2 c3 e => up c o c1 (M.keep c o c1 c2 c3 e)
    exact (M.ds t ht).keep (fun o e => up _ o (D.it t ht).1 e) fun o e => up _ o (D.l t ht).1 e
  · have kz : ∀ c o, c ≠ z → s.heap.get? c = some o → h₁.get? c = some o := fun c o n e => hs₁.extBut c o n e
    refine ⟨rfl, h₁, [], ts, kept0, rfl, rfl, rfl, ⟨hs₁.1, fun _ q => by simp at q, fun t ht => (hat t ht).keep (fun o e => kz _ o (D.it t ht).1 e) fun o e => kz _ o (D.l t ht).1 e, fun c o c1 _ _ e => kz c o c1 e⟩, hz₁, kz _ _ D.zTO.symm hto0, hk0, fun j t q => by simp at q⟩
/-- next of the zip, its own tuple still out -/
theorem next_held {T : Addr} {f1 : Bool} {oT : Obj} {Q : Value → Shared → Prop} (D : Apart z TI TO ts) (h1 : ts ≠ []) (hsz : ts.length ≤ 1000) (hz : ZipObj s.heap z TI TO (rawInt T) (.bool f1)) (hT : s.heap.get? T = some oT) (hti : TupObj s.heap TI (refs ts).toArray) (hto : ∃ kept : Array Value, kept.size = ts.length ∧ TupObj s.heap TO kept)
    (hat : ∀ t ∈ ts, At s.heap i t) (hn : ∀ t ∈ ts, i < t.xs.size)
    (hQ : ∀ h' , ZipAt h' z TI TO ts (i + 1) → TupObj h' s.heap.objs.size (vals ts i).toArray → h'.objs.size = s.heap.objs.size + 1 → (∀ c o, c ≠ z → c ≠ TO → (∀ t ∈ ts, c ≠ t.it) → s.heap.get? c = some o → h'.get? c = some o) → Q (.ref s.heap.objs.size) { s with heap := h' }) :
    wpAny (model prog w) A (Builtin.«zip.__next__» ⟨[.ref z], []⟩) (fun fin s' => ∃ v, fin = .done (.ret v) ∧ Q v s') E s := by
  show wpAny _ _ (field (.ref z) 2 >>= _) _ _ _
  refine wpAny_bind (wpAny_field hz rfl (x := .bool false) rfl ?_)
  show wpAny _ _ (field (.ref z) 3 >>= _) _ _ _
  refine wpAny_bind (wpAny_field hz rfl (x := .ref TI) rfl ?_)
  refine wpAny_bind (wpAny_seqItems hti rfl ?_)
  have hne : (refs ts).toArray.isEmpty = false := by
    cases ts with
    | nil => exact absurd rfl h1
    | cons t l => simp [refs]
  simp only [hne, Bool.false_eq_true, if_false]
  show wpAny _ _ (Builtin.SmallTypes.ownedTupleIsFree (.ref z) >>= _) _ _ _
  refine wpAny_bind (wpAny_tupleHeld_zip hz hT fun h₁ hz₁ hs₁ => ?_)
  simp only [Bool.false_eq_true, if_false]
  obtain ⟨kept0, hk0, hto0⟩ := hto
  refine wpAny_bind ?_
  rw [← Array.forIn_toList]
  refine (wpAny_forIn_list _ (fun rest b s' => ∃ (h' : Heap) (ds rs : List Th), b = (none, (vals ds i).toArray) ∧ s' = { s with heap := h' } ∧ ts = ds ++ rs ∧ rest = refs rs ∧ Mid s.heap h' z TO ts ds rs i ∧ ZipObj h' z TI TO (rawInt T) (.bool true) ∧ TupObj h' TO kept0) _ (fun x rest b s' hI => ?_) (fun b s' hI => ?_) _ _ ?_)
  · obtain ⟨h', ds, rs, rfl, rfl, ets, er, M, hz', hto'⟩ := hI
    cases rs with
    | nil => simp [refs] at er
    | cons t rs =>
      simp only [refs, List.map_cons, List.cons.injEq] at er
      obtain ⟨rfl, rfl⟩ := er
      have ht : t ∈ ts := by rw [ets]; simp
      have hi : t.xs[i]? = some (t.xs.getD i .none) := by
        have := hn t ht
        simp [Array.getD, this]
      refine wpAny_bind (wpAny_holding ?_)
      show wpAny _ _ (Builtin.SmallTypes.nextOf (.ref t.it) >>= _) _ _ _
      refine wpAny_bind (draw (s := { s with heap := h' }) D ets M hi fun h2 M2 k2 => wpAny_pure ?_)
      have zt := D.it t ht
      refine wpAny_pure ⟨h2, ds ++ [t], rs, ?_, rfl, by rw [ets]; simp, rfl, M2, k2 _ _ zt.1.symm hz', k2 _ _ zt.2.2.symm hto'⟩
      simp [vals]
  · obtain ⟨h', ds, rs, rfl, rfl, ets, er, M, hz', hto'⟩ := hI
    have ers : rs = [] := by
      cases rs with
      | nil => rfl
      | cons t rs => simp [refs] at er
    subst ers
    rw [List.append_nil] at ets
    subst ets
    have b : 1000 ≤ sizeLine := by decide
    show wpAny _ _ (newTuple (vals ts i).toArray.toList >>= _) _ _ _
    refine wpAny_bind (wpAny_newTuple ?_ (by rw [List.toList_toArray, vals_len]; omega))
    rw [List.toList_toArray]
    have z5 : ∀ c o, h'.get? c = some o → (h'.push { cls := .type "tuple", data := .seq (vals ts i).toArray }).get? c = some o := fun c o e => Heap.get?_push_of_some _ e
    have tN : (h'.push { cls := .type "tuple", data := .seq (vals ts i).toArray }).get? h'.objs.size = some { cls := .type "tuple", data := .seq (vals ts i).toArray } := Heap.get?_push_size _ rfl
    have sN : (h'.push { cls := .type "tuple", data := .seq (vals ts i).toArray }).objs.size = h'.objs.size + 1 := Heap.size_push ..
    refine wpAny_pure ⟨_, rfl, ?_⟩
    show Q (.ref h'.objs.size) _
    have es := M.sz
    generalize (h'.push { cls := .type "tuple", data := .seq (vals ts i).toArray }) = h8 at z5 tN sN ⊢
    rw [es] at tN sN ⊢
    refine hQ h8 ⟨⟨_, _, .inr ⟨T, rfl⟩, z5 _ _ hz'⟩, z5 _ _ (M.keep _ _ D.zTI.symm D.TITO (fun t ht => (D.it t ht).2.1.symm) hti), ⟨kept0, hk0, z5 _ _ hto'⟩, fun t ht => ?_⟩ tN sN fun c o c1 c2 c3 e => z5 c o (M.keep c o c1 c2 c3 e)
    exact (M.ds t ht).keep (fun o e => z5 _ o e) fun o e => z5 _ o e
  · have kz : ∀ c o, c ≠ z → s.heap.get? c = some o → h₁.get? c = some o := fun c o n e => hs₁.extBut c o n e
    refine ⟨h₁, [], ts, rfl, rfl, rfl, ?_, ⟨hs₁.1, fun _ q => by simp at q, fun t ht => (hat t ht).keep (fun o e => kz _ o (D.it t ht).1 e) fun o e => kz _ o (D.l t ht).1 e, fun c o c1 _ _ e => kz c o c1 e⟩, hz₁, kz _ _ D.zTO.symm hto0⟩
    simp
theorem free_none {T : Addr} {f1 : Bool} {Q : Bool → Shared → Prop} (hz : ZipObj s.heap z TI TO (rawInt T) (.bool f1)) (hT : s.heap.get? T = none) (q : Q true s) : wpAny (model prog w) A (Builtin.SmallTypes.ownedTupleIsFree (.ref z)) Q E s := by
  unfold Builtin.SmallTypes.ownedTupleIsFree
  refine wpAny_bind (wpAny_field hz rfl (x := rawInt T) rfl ?_)
  show wpAny _ _ (loadIfAlive ((T : Int).toNat) >>= _) _ _ _
  rw [Int.toNat_natCast]
  refine wpAny_bind ?_
  have hq : wpAny (model prog w) A (pure true : Sem Bool) Q E s := wpAny_pure q
  have h' : (fun (r : Option Obj) (s1 : Shared) => wpAny (model prog w) A (if r.isNone = true then pure true else (do
      let __do_lift ← field (Value.ref z) 1
      if (__do_lift != Value.bool true) = true then do
        setField (Value.ref z) 1 (Value.bool true)
        pure false
      else pure false)) Q E s1) (s.heap.get? T) s := by rw [hT]; exact hq
  exact fun _ _ _ => h'
/-- next of the zip -/
theorem next_zip {Q : Value → Shared → Prop} (D : Apart z TI TO ts) (h1 : ts ≠ []) (hsz : ts.length ≤ 1000) (Z : ZipAt s.heap z TI TO ts i) (hn : ∀ t ∈ ts, i < t.xs.size)
    (hQ : ∀ h' , ZipAt h' z TI TO ts (i + 1) → TupObj h' s.heap.objs.size (vals ts i).toArray → h'.objs.size = s.heap.objs.size + 1 → (∀ c o, c ≠ z → c ≠ TO → (∀ t ∈ ts, c ≠ t.it) → s.heap.get? c = some o → h'.get? c = some o) → Q (.ref s.heap.objs.size) { s with heap := h' }) :
    wpAny (model prog w) A (Builtin.«zip.__next__» ⟨[.ref z], []⟩) (fun fin s' => ∃ v, fin = .done (.ret v) ∧ Q v s') E s := by
  obtain ⟨f0, f1, hf, hz⟩ := Z.z
  rcases hf with rfl | ⟨T, rfl⟩
  · refine next_free D h1 hsz hz Z.ti Z.to Z.at_ hn (fun Q' q => ?_) hQ
    unfold Builtin.SmallTypes.ownedTupleIsFree
    exact wpAny_bind (wpAny_field hz rfl (x := .none) rfl (wpAny_pure q))
  · cases hT : s.heap.get? T with
    | some oT => exact next_held D h1 hsz hz hT Z.ti Z.to Z.at_ hn hQ
    | none =>
      refine next_free D h1 hsz hz Z.ti Z.to Z.at_ hn (fun Q' q => free_none hz hT q) hQ
/-- next of the zip, at its end -/
theorem end_zip {Q : Fin → Shared → Prop} (hh : A.handled = none) (D : Apart z TI TO ts) (h1 : ts ≠ []) (Z : ZipAt s.heap z TI TO ts i) (hn : ∀ t ∈ ts, t.xs.size ≤ i)
    (hE : ∀ h' e, (∀ c o, c ≠ z → c ≠ TO → (∀ t ∈ ts, c ≠ t.it) → s.heap.get? c = some o → h'.get? c = some o) → (∃ o, h'.get? e = some o ∧ o.cls = .type "StopIteration") → E (.ref e) { s with heap := h' }) :
    wpAny (model prog w) A (Builtin.«zip.__next__» ⟨[.ref z], []⟩) Q E s := by
  obtain ⟨f0, f1, hf, hz⟩ := Z.z
  obtain ⟨kept0, hk0, hto0⟩ := Z.to
  obtain ⟨t, ts', ets⟩ : ∃ t ts', ts = t :: ts' := by
    cases ts with
    | nil => exact absurd rfl h1
    | cons t l => exact ⟨t, l, rfl⟩
  have ht : t ∈ ts := by rw [ets]; simp
  have at0 := Z.at_ t ht
  have hx : t.xs[i]? = none := by
    have := hn t ht
    simp [this]
  have hne : (refs ts).toArray.isEmpty = false := by
    rw [ets]; simp [refs]
  have way1 : ∀ (free : ∀ Q' : Bool → Shared → Prop, Q' true s → wpAny (model prog w) A (Builtin.SmallTypes.ownedTupleIsFree (.ref z)) Q' E s), wpAny (model prog w) A (Builtin.«zip.__next__» ⟨[.ref z], []⟩) Q E s := by
    intro free
    show wpAny _ _ (field (.ref z) 2 >>= _) _ _ _
    refine wpAny_bind (wpAny_field hz rfl (x := .bool false) rfl ?_)
    show wpAny _ _ (field (.ref z) 3 >>= _) _ _ _
    refine wpAny_bind (wpAny_field hz rfl (x := .ref TI) rfl ?_)
    refine wpAny_bind (wpAny_seqItems Z.ti rfl ?_)
    simp only [hne, Bool.false_eq_true, if_false]
    refine wpAny_bind (free _ ?_)
    simp only [if_true]
    refine wpAny_bind (wpAny_rule ?_)
    refine wpAny_bind (wpAny_field hz rfl (x := .ref TO) rfl ?_)
    refine wpAny_bind (wpAny_setField_rec hz (by simp) fun h₁ hz₁ hs₁ => ?_)
    refine wpAny_bind ?_
    simp only [ets, refs, List.map_cons, List.zipIdx_cons, List.forIn_cons]
    refine wpAny_bind (wpAny_bind (wpAny_onRaise ?_))
    show wpAny _ _ (Builtin.SmallTypes.nextOf (.ref t.it) >>= _) _ _ _
    have kz : ∀ c o, c ≠ z → s.heap.get? c = some o → h₁.get? c = some o := fun c o n e => hs₁.extBut c o n e
    have at1 := at0.keep (h' := h₁) (fun o e => kz _ o (D.it t ht).1 e) fun o e => kz _ o (D.l t ht).1 e
    refine wpAny_bind (RZ.nextOf_tuple_end (s := { s with heap := h₁ }) hh at1.1 at1.2 hx fun h₂ e hs₂ he => ?_)
    obtain ⟨oe, hoe, hce⟩ := he
    have hz₂ : ZipObj h₂ z TI TO .ellipsis (.bool f1) := hs₂ _ _ (D.it t ht).1.symm hz₁
    have hez : e ≠ z := fun x => by subst x; rw [hz₂] at hoe; cases hoe; simp at hce
    refine wpAny_setField_rec hz₂ (by simp) fun h₃ _ hs₃ => hE h₃ e (fun c o c1 _ c3 x => hs₃.extBut _ _ c1 (hs₂ _ _ (c3 t ht) (kz _ _ c1 x))) ⟨oe, hs₃.extBut _ _ hez hoe, hce⟩
  have way2 : ∀ (T : Addr) (oT : Obj), f0 = rawInt T → s.heap.get? T = some oT → wpAny (model prog w) A (Builtin.«zip.__next__» ⟨[.ref z], []⟩) Q E s := by
    rintro T oT rfl hT
    show wpAny _ _ (field (.ref z) 2 >>= _) _ _ _
    refine wpAny_bind (wpAny_field hz rfl (x := .bool false) rfl ?_)
    show wpAny _ _ (field (.ref z) 3 >>= _) _ _ _
    refine wpAny_bind (wpAny_field hz rfl (x := .ref TI) rfl ?_)
    refine wpAny_bind (wpAny_seqItems Z.ti rfl ?_)
    simp only [hne, Bool.false_eq_true, if_false]
    show wpAny _ _ (Builtin.SmallTypes.ownedTupleIsFree (.ref z) >>= _) _ _ _
    refine wpAny_bind (wpAny_tupleHeld_zip hz hT fun h₁ hz₁ hs₁ => ?_)
    simp only [Bool.false_eq_true, if_false]
    refine wpAny_bind ?_
    rw [← Array.forIn_toList]
    simp only [ets, refs, List.map_cons, List.forIn_cons]
    refine wpAny_bind (wpAny_bind (wpAny_holding ?_))
    show wpAny _ _ (Builtin.SmallTypes.nextOf (.ref t.it) >>= _) _ _ _
    have kz : ∀ c o, c ≠ z → s.heap.get? c = some o → h₁.get? c = some o := fun c o n e => hs₁.extBut c o n e
    have at1 := at0.keep (h' := h₁) (fun o e => kz _ o (D.it t ht).1 e) fun o e => kz _ o (D.l t ht).1 e
    refine wpAny_bind (RZ.nextOf_tuple_end (s := { s with heap := h₁ }) hh at1.1 at1.2 hx fun h₂ e hs₂ he => ?_)
    exact hE h₂ e (fun c o c1 _ c3 x => hs₂ _ _ (c3 t ht) (kz _ _ c1 x)) he
  rcases hf with rfl | ⟨T, rfl⟩
  · refine way1 fun Q' q => ?_
    unfold Builtin.SmallTypes.ownedTupleIsFree
    exact wpAny_bind (wpAny_field hz rfl (x := .none) rfl (wpAny_pure q))
  · cases hT : s.heap.get? T with
    | some oT => exact way2 T oT rfl hT
    | none =>
      refine way1 fun Q' q => ?_
      exact free_none hz hT q
end
end ZN


set_option Elab.async false
set_option linter.all false
set_option maxRecDepth 100000
set_option maxHeartbeats 1000000
namespace ZN
open PySem PySem.Spec PyProof.Rows
theorem typeCall (vs : List Value) : checkTypeCall "zip" ⟨vs, []⟩ = pure () := by kernel_rfl
theorem newCall : ∀ (vs : List Value), 1 ≤ vs.length → vs.length ≤ 8 → checkBuiltinCall "zip.__new__" ⟨.type "zip" :: vs, []⟩ = pure ()
  | [a], _, _ => by kernel_rfl
  | [a, b], _, _ => by kernel_rfl
  | [a, b, c], _, _ => by kernel_rfl
  | [a, b, c, d], _, _ => by kernel_rfl
  | [a, b, c, d, e], _, _ => by kernel_rfl
  | [a, b, c, d, e, f], _, _ => by kernel_rfl
  | [a, b, c, d, e, f, g], _, _ => by kernel_rfl
  | [a, b, c, d, e, f, g, h], _, _ => by kernel_rfl
  | _ :: _ :: _ :: _ :: _ :: _ :: _ :: _ :: _ :: _, _, h => by simp at h
theorem argsInit (obj : Value) (vs : List Value) : argsOk "object.__init__" ⟨obj :: vs, []⟩ := by
  unfold argsOk; rw [signature?_of (id := "object.__init__") (n := ['_', '_', 't', 'i', 'n', 'i', '_', '_']) (o := ['t', 'c', 'e', 'j', 'b', 'o']) (by kernel_rfl) F.owner_object]; kernel_rfl
theorem newClass_zip (vs : List Value) : Builtin.SmallTypes.newClass "zip" ⟨.type "zip" :: vs, []⟩ = pure (.type "zip", vs) := by
  unfold Builtin.SmallTypes.newClass
  simp only [isType, sub_zip, pure_bind, Bool.not_true, Bool.false_eq_true, if_false]
section
variable {prog : Program} {w : World} {A : Around} {E : Value → Shared → Prop} {s : Shared}
variable {z TI TO : Addr} {ts : List Th} {i : Nat}
theorem pyNext_item {Q : Option Value → Shared → Prop} (D : Apart z TI TO ts) (h1 : ts ≠ []) (hsz : ts.length ≤ 1000) (Z : ZipAt s.heap z TI TO ts i) (hn : ∀ t ∈ ts, i < t.xs.size)
    (hQ : ∀ h' , ZipAt h' z TI TO ts (i + 1) → TupObj h' s.heap.objs.size (vals ts i).toArray → h'.objs.size = s.heap.objs.size + 1 → (∀ c o, c ≠ z → c ≠ TO → (∀ t ∈ ts, c ≠ t.it) → s.heap.get? c = some o → h'.get? c = some o) → Q (some (.ref s.heap.objs.size)) { s with heap := h' }) :
    wpAny (model prog w) A (pyNext (.ref z)) Q E s := by
  have hT : s.TypeIs (.ref z) "zip" := by
    obtain ⟨f0, f1, _, hz⟩ := Z.z
    exact ⟨_, hz, rfl⟩
  unfold pyNext
  exact wpAny_bind (wpAny_attempt (wpAny_callSpecial?_slot (name := Str.ofString "__next__") hT F.slot_zip_next
    (wpAny_call_entry F.slot_zip_next hT F.entry_zip_next
      (next_zip D h1 hsz Z hn fun h' a1 a2 a3 a4 => wpAny_pure (hQ h' a1 a2 a3 a4)) (F.args_zip_next_1 _))))
theorem pyNext_end {Q : Option Value → Shared → Prop} (hh : A.handled = none) (D : Apart z TI TO ts) (h1 : ts ≠ []) (Z : ZipAt s.heap z TI TO ts i) (hn : ∀ t ∈ ts, t.xs.size ≤ i)
    (hQ : ∀ h', (∀ c o, c ≠ z → c ≠ TO → (∀ t ∈ ts, c ≠ t.it) → s.heap.get? c = some o → h'.get? c = some o) → Q none { s with heap := h' }) : wpAny (model prog w) A (pyNext (.ref z)) Q E s := by
  have hT : s.TypeIs (.ref z) "zip" := by
    obtain ⟨f0, f1, _, hz⟩ := Z.z
    exact ⟨_, hz, rfl⟩
  unfold pyNext
  refine wpAny_bind (wpAny_attempt (wpAny_callSpecial?_slot (name := Str.ofString "__next__") hT F.slot_zip_next
    (wpAny_call_entry F.slot_zip_next hT F.entry_zip_next (end_zip hh D h1 Z hn fun h' e hk he => ?_) (F.args_zip_next_1 _))))
  obtain ⟨o, ho, hc⟩ := he
  refine wpAny_bind (wpAny_isInstance (T := "StopIteration") (b := true) ⟨o, ho, hc⟩ isSubtype_stop ?_)
  exact wpAny_pure (hQ _ hk)
theorem pyIter_zip {Q : Value → Shared → Prop} (Z : ZipAt s.heap z TI TO ts i) (h : Q (.ref z) s) : wpAny (model prog w) A (pyIter (.ref z)) Q E s := by
  have hT : s.TypeIs (.ref z) "zip" := by
    obtain ⟨f0, f1, _, hz⟩ := Z.z
    exact ⟨_, hz, rfl⟩
  refine wpAny_pyIter_slot hT F.slot_zip_iter (wpAny_call_entry F.slot_zip_iter hT F.entry_zip_iter ?_ (F.args_zip_iter_1 _))
  show wpAny _ _ (ret (.ref z)) _ _ s
  exact wpAny_pure ⟨_, rfl, "zip", _, hT, F.slot_zip_next.lookup, h⟩
end
/-! ### zip(..) made -/
section
variable {prog : Program} {w : World}
def src (t : Th) : Addr × Array Value := (t.l, t.xs)
structure Made (h0 h : Heap) (ds : List Th) : Prop where
  sz : h0.objs.size ≤ h.objs.size
  ats : ∀ t ∈ ds, At h 0 t
  bd : ∀ t ∈ ds, h0.objs.size ≤ t.it ∧ t.it < h.objs.size
  nd : (ds.map Th.it).Nodup
  keep : ∀ c o, h0.get? c = some o → h.get? c = some o
theorem new_zip (srcs : List (Addr × Array Value)) (hl : srcs.length ≤ 1000) : MeetsIn prog w (Builtin.«zip.__new__» ⟨.type "zip" :: srcs.map (fun p => Value.ref p.1), []⟩)
    (fun A R s => (∀ p ∈ srcs, s.heap.IsTuple p.1 p.2) ∧ ∀ (ts : List Th) h', srcs = ts.map src → Made s.heap h' ts → ∀ h2, ZipAt h2 (h'.objs.size + 2) h'.objs.size (h'.objs.size + 1) ts 0 → h2.objs.size = h'.objs.size + 3 → (∀ c o, h'.get? c = some o → h2.get? c = some o) →
      R (.ok (.ret (.ref (h'.objs.size + 2)))) { s with heap := h2 }) :=
  .of_wp fun A R s h => by
    obtain ⟨hsrc, hR⟩ := h
    unfold Builtin.«zip.__new__»
    refine wpAny_bind (wpAny_of_eq (newClass_zip _) ?_)
    dsimp only
    rw [if_neg (show ¬ (([] : List (Str × Value)).length > 1) from Nat.not_lt_zero 1)]
    refine wpAny_bind ?_
    unfold Builtin.SmallTypes.iterAll
    refine wpAny_bind (wpAny_forIn_list _ (fun rest b s' => ∃ (h' : Heap) (ds : List Th) (rs : List (Addr × Array Value)), b = (refs ds).toArray ∧ s' = { s with heap := h' } ∧ srcs = ds.map src ++ rs ∧ rest = rs.map (fun p => Value.ref p.1) ∧ Made s.heap h' ds) _ (fun x rest b s' hI => ?_) (fun b s' hI => ?_) _ _ ?_)
    · obtain ⟨h', ds, rs, rfl, rfl, es, er, M⟩ := hI
      cases rs with
      | nil => simp at er
      | cons p rs =>
        simp only [List.map_cons, List.cons.injEq] at er
        obtain ⟨rfl, rfl⟩ := er
        obtain ⟨o, ho, hc⟩ := hsrc p (by rw [es]; simp)
        have hp : h'.IsTuple p.1 p.2 := ⟨o, M.keep _ _ ho, hc⟩
        refine wpAny_bind (wpAny_holding (wpAny_pyIter_tuple (s := { s with heap := h' }) hp ?_))
        have k : ∀ c o, h'.get? c = some o → (h'.push { cls := .type "tuple_iterator", data := .fields #[.ref p.1, .int 0 0] }).get? c = some o := fun c o e => Heap.get?_push_of_some _ e
        have s1 : (h'.push { cls := .type "tuple_iterator", data := .fields #[.ref p.1, .int 0 0] }).objs.size = h'.objs.size + 1 := Heap.size_push ..
        have tN : (h'.push { cls := .type "tuple_iterator", data := .fields #[.ref p.1, .int 0 0] }).get? h'.objs.size = some { cls := .type "tuple_iterator", data := .fields #[.ref p.1, .int 0 0] } := Heap.get?_push_size _ rfl
        refine wpAny_pure ⟨_, ds ++ [⟨h'.objs.size, p.1, p.2⟩], rs, by simp [refs], rfl, by rw [es]; simp [src], rfl, ⟨?_, fun t ht => ?_, fun t ht => ?_, ?_, fun c o e => k c o (M.keep c o e)⟩⟩
        · show s.heap.objs.size ≤ (h'.push _).objs.size
          rw [s1]; have := M.sz; omega
        · rcases List.mem_append.mp ht with ht | ht
          · exact (M.ats t ht).keep (fun o e => k _ o e) fun o e => k _ o e
          · rw [List.mem_singleton.mp ht]
            exact ⟨⟨_, tN, rfl, rfl⟩, ⟨o, k _ _ (M.keep _ _ ho), hc⟩⟩
        · show _ ∧ _ < (h'.push _).objs.size
          rw [s1]
          have := M.sz
          rcases List.mem_append.mp ht with ht | ht
          · exact ⟨(M.bd t ht).1, Nat.lt_succ_of_lt (M.bd t ht).2⟩
          · rw [List.mem_singleton.mp ht]
            exact ⟨M.sz, Nat.lt_succ_self _⟩
        · rw [List.map_append, List.nodup_append]
          refine ⟨M.nd, by simp, fun a ha b hb e => ?_⟩
          obtain ⟨t, ht, rfl⟩ := List.mem_map.mp ha
          have hlt := (M.bd t ht).2
          rw [List.map_singleton, List.mem_singleton] at hb
          rw [e, hb] at hlt
          exact Nat.lt_irrefl _ hlt
    · obtain ⟨h', ds, rs, rfl, rfl, es, er, M⟩ := hI
      have ers : rs = [] := by
        cases rs with
        | nil => rfl
        | cons p rs => simp at er
      subst ers
      rw [List.append_nil] at es
      have hlen : ds.length = srcs.length := by rw [es, List.length_map]
      have b : 1000 ≤ sizeLine := by decide
      refine wpAny_pure ?_
      rw [List.toList_toArray]
      refine wpAny_bind (wpAny_newTuple ?_ (by unfold refs; rw [List.length_map]; omega))
      refine wpAny_bind (wpAny_newTuple ?_ (by unfold refs; rw [List.length_map, List.length_map]; omega))
      unfold Builtin.SmallTypes.newRecord
      refine wpAny_bind (wpAny_newObj_type ?_ (by show (_ : Nat) ≤ _; simp [Builtin.SmallTypes.ownedTupleFields]; decide))
      refine wpAny_pure ⟨_, rfl, ?_⟩
      show R (.ok (.ret (.ref ((h'.push { cls := .type "tuple", data := .seq (refs ds).toArray }).push { cls := .type "tuple", data := .seq ((refs ds).map fun _ => Value.none).toArray }).objs.size))) { s with heap := ((h'.push { cls := .type "tuple", data := .seq (refs ds).toArray }).push { cls := .type "tuple", data := .seq ((refs ds).map fun _ => Value.none).toArray }).push ({ cls := .type "zip", data := .fields #[.none, .bool false, .bool false, .ref h'.objs.size, .ref (h'.push { cls := .type "tuple", data := .seq (refs ds).toArray }).objs.size] } : Obj) }
      generalize eh : (h'.push { cls := .type "tuple", data := .seq (refs ds).toArray }) = hA
      have sA : hA.objs.size = h'.objs.size + 1 := by rw [← eh]; exact Heap.size_push ..
      have kA : ∀ c o, h'.get? c = some o → hA.get? c = some o := fun c o e => by rw [← eh]; exact Heap.get?_push_of_some _ e
      have tA : TupObj hA h'.objs.size (refs ds).toArray := by rw [← eh]; exact Heap.get?_push_size _ rfl
      generalize eB : (hA.push { cls := .type "tuple", data := .seq ((refs ds).map fun _ => Value.none).toArray }) = hB
      have sB : hB.objs.size = h'.objs.size + 2 := by rw [← eB, Heap.size_push, sA]
      have kB : ∀ c o, hA.get? c = some o → hB.get? c = some o := fun c o e => by rw [← eB]; exact Heap.get?_push_of_some _ e
      have tB : TupObj hB (h'.objs.size + 1) ((refs ds).map fun _ => Value.none).toArray := by rw [← eB, ← sA]; exact Heap.get?_push_size _ rfl
      rw [sA, sB]
      generalize eC : (hB.push { cls := .type "zip", data := .fields #[.none, .bool false, .bool false, .ref h'.objs.size, .ref (h'.objs.size + 1)] }) = hC
      have sC : hC.objs.size = h'.objs.size + 3 := by rw [← eC, Heap.size_push, sB]
      have kC : ∀ c o, hB.get? c = some o → hC.get? c = some o := fun c o e => by rw [← eC]; exact Heap.get?_push_of_some _ e
      have tC : ZipObj hC (h'.objs.size + 2) h'.objs.size (h'.objs.size + 1) .none (.bool false) := by rw [← eC, ← sB]; exact Heap.get?_push_size _ rfl
      have kk : ∀ c o, h'.get? c = some o → hC.get? c = some o := fun c o e => kC _ _ (kB _ _ (kA _ _ e))
      exact hR ds h' es M hC ⟨⟨_, _, .inl rfl, tC⟩, kC _ _ (kB _ _ tA), ⟨_, by simp [refs], kC _ _ tB⟩, fun t ht => (M.ats t ht).keep (fun o e => kk _ o e) fun o e => kk _ o e⟩ sC kk
    · exact ⟨s.heap, [], srcs, rfl, rfl, rfl, rfl, ⟨Nat.le_refl _, fun _ q => by simp at q, fun _ q => by simp at q, by simp, fun _ _ e => e⟩⟩
variable {A : Around} {E : Value → Shared → Prop} {s : Shared}
theorem Made.apart {h0 h : Heap} {ts : List Th} (M : Made h0 h ts) (hl : ∀ t ∈ ts, t.l < h0.objs.size) : Apart (h.objs.size + 2) h.objs.size (h.objs.size + 1) ts := by
  have b : ∀ t ∈ ts, t.it < h.objs.size := fun t ht => (M.bd t ht).2
  have c : ∀ t ∈ ts, t.l < h.objs.size := fun t ht => Nat.lt_of_lt_of_le (hl t ht) M.sz
  refine ⟨?_, ?_, ?_, fun t ht => ⟨?_, ?_, ?_⟩, fun t ht => ⟨?_, ?_, fun u hu => ?_⟩, M.nd⟩
  · exact Nat.ne_of_gt (Nat.lt_succ_of_lt (Nat.lt_succ_self _))
  · exact Nat.ne_of_gt (Nat.lt_succ_self _)
  · exact Nat.ne_of_lt (Nat.lt_succ_self _)
  · exact Nat.ne_of_lt (Nat.lt_succ_of_lt (Nat.lt_succ_of_lt (b t ht)))
  · exact Nat.ne_of_lt (b t ht)
  · exact Nat.ne_of_lt (Nat.lt_succ_of_lt (b t ht))
  · exact Nat.ne_of_lt (Nat.lt_succ_of_lt (Nat.lt_succ_of_lt (c t ht)))
  · exact Nat.ne_of_lt (Nat.lt_succ_of_lt (c t ht))
  · exact Nat.ne_of_lt (Nat.lt_of_lt_of_le (hl t ht) (M.bd u hu).1)
/-- zip(..) of so many tuples -/
theorem call_zip (srcs : List (Addr × Array Value)) (hl1 : 1 ≤ srcs.length) (hl : srcs.length ≤ 8) (hsrc : ∀ p ∈ srcs, s.heap.IsTuple p.1 p.2) {Q : Value → Shared → Prop}
    (h : ∀ (ts : List Th) (z TI TO : Addr) h2, srcs = ts.map src → Apart z TI TO ts → ZipAt h2 z TI TO ts 0 → (∀ c o, s.heap.get? c = some o → h2.get? c = some o) → s.heap.objs.size ≤ z → s.heap.objs.size ≤ TO → (∀ t ∈ ts, s.heap.objs.size ≤ t.it) → s.heap.objs.size ≤ TI → Q (.ref z) { s with heap := h2 }) :
    wpAny (model prog w) A (call (.type "zip") (srcs.map fun p => Value.ref p.1)) Q E s := by
  refine callType_newIn F.called_zip (by decide) (typeCall _) (newCall _ (by rw [List.length_map]; exact hl1) (by rw [List.length_map]; exact hl)) (fun obj => argsInit obj _) F.entry_zip_new (new_zip srcs (by omega)) ?_
  refine ⟨hsrc, fun ts h' es M h2 Z sz k => ?_⟩
  show _ ∧ _
  have hlt : ∀ t ∈ ts, t.l < s.heap.objs.size := fun t ht => by
    obtain ⟨o, ho, _⟩ := hsrc (src t) (by rw [es]; exact List.mem_map_of_mem ht)
    exact Heap.lt_size ho
  refine ⟨?_, h ts _ _ _ h2 es (M.apart hlt) Z (fun c o e => k c o (M.keep c o e)) (Nat.le_trans M.sz (Nat.le_add_right _ _)) (Nat.le_trans M.sz (Nat.le_add_right _ _)) (fun t ht => (M.bd t ht).1) M.sz⟩
  obtain ⟨f0, f1, _, hz⟩ := Z.z
  exact ⟨_, hz, rfl⟩
end
end ZN


set_option Elab.async false
set_option linter.all false
set_option maxRecDepth 100000
set_option maxHeartbeats 1000000
namespace ZN
open PySem PySem.Spec PyProof.Rows
theorem nolen : typeLookup (.type "zip") "__len__" = pure none := by rw [typeLookup_type, builtinLookup_eq_fast]; kernel_rfl
theorem nohint : typeLookup (.type "zip") "__length_hint__" = pure none := by rw [typeLookup_type, builtinLookup_eq_fast]; kernel_rfl
abbrev LstObj (h : Heap) (S : Addr) (vs : Array Value) (c : Nat) : Prop := h.get? S = some { cls := .type "list", dict := none, data := .seq vs c, slots := #[] }
/-- apart from the zip's own -/
def Away (b z TI TO : Addr) (ts : List Th) : Prop := b ≠ z ∧ b ≠ TO ∧ ∀ t ∈ ts, b ≠ t.it
/-- what the zip has given so far: new tuples -/
def Given (lo : Nat) (h : Heap) (z TI TO S : Addr) (ts : List Th) (acc : Array Value) (i : Nat) : Prop := ∃ Ts : List Addr, acc = (Ts.map Value.ref).toArray ∧ Ts.length = i ∧ Ts.Nodup ∧ (∀ T ∈ Ts, lo ≤ T) ∧ ∀ j T, Ts[j]? = some T → TupObj h T (vals ts j).toArray ∧ Away T z TI TO ts ∧ T ≠ S
theorem ZipAt.keep {h h' : Heap} {z TI TO : Addr} {ts : List Th} {i : Nat} (Z : ZipAt h z TI TO ts i) {S : Addr} (a : Away S z TI TO ts) (b : S ≠ TI) (c : ∀ t ∈ ts, S ≠ t.l) (k : ∀ d o, d ≠ S → h.get? d = some o → h'.get? d = some o) : ZipAt h' z TI TO ts i := by
  obtain ⟨f0, f1, hf, hz⟩ := Z.z
  obtain ⟨kept, hk, ht⟩ := Z.to
  exact ⟨⟨f0, f1, hf, k _ _ a.1.symm hz⟩, k _ _ b.symm Z.ti, ⟨kept, hk, k _ _ a.2.1.symm ht⟩, fun t ht => (Z.at_ t ht).keep (fun o e => k _ o (a.2.2 t ht).symm e) fun o e => k _ o (c t ht).symm e⟩
section
variable {prog : Program} {w : World} {A : Around} {E : Value → Shared → Prop} {z TI TO : Addr} {ts : List Th}
theorem loop_zip {R : Result → Shared → Prop} {n : Nat} (hh : A.handled = none) (D : Apart z TI TO ts) (h1 : ts ≠ []) (hsz : ts.length ≤ 1000) (hn : ∀ t ∈ ts, t.xs.size = n) (hn2 : n ≤ 1000) (S : Addr) (aS : Away S z TI TO ts) (bS : S ≠ TI) (cS : ∀ t ∈ ts, S ≠ t.l) (res : Value) (lo : Nat) :
    ∀ (k i : Nat) (s : Shared) (acc : Array Value) (c : Nat), n - i = k → i ≤ n → lo ≤ s.heap.objs.size → ZipAt s.heap z TI TO ts i → LstObj s.heap S acc c → Given lo s.heap z TI TO S ts acc i →
    (∀ h' acc' c', (∀ b o, Away b z TI TO ts → b ≠ S → s.heap.get? b = some o → h'.get? b = some o) → LstObj h' S acc' c' → Given lo h' z TI TO S ts acc' n → R (.ok (.ret res)) { s with heap := h' }) →
    codeAny (model prog w) A (.builtin "list.extend.loop" ⟨[.ref S, .ref z, res], []⟩) R s := by
  have big : 1000 ≤ sizeLine := by decide
  intro k
  induction k with
  | zero =>
    intro i s acc c hk hi hlo Z hS G hR
    obtain rfl : i = n := by omega
    refine codeAny_builtin F.entry_extend_loop ?_
    rw [Around.under_plainId F.plain_extend_loop _]
    show wpAny _ A.in1 (pyNext (.ref z) >>= _) _ _ s
    refine wpAny_bind (pyNext_end (A := A.in1) hh D h1 Z (fun t ht => Nat.le_of_eq (hn t ht)) fun h' k => ?_)
    obtain ⟨Ts, e1, e2, nd, lw, e3⟩ := G
    refine wpAny_pure (hR h' acc c (fun b o a _ e => k b o a.1 a.2.1 a.2.2 e) (k _ _ aS.1 aS.2.1 aS.2.2 hS) ⟨Ts, e1, e2, nd, lw, fun j T q => ?_⟩)
    obtain ⟨x1, x2, x3⟩ := e3 j T q
    exact ⟨k _ _ x2.1 x2.2.1 x2.2.2 x1, x2, x3⟩
  | succ k ih =>
    intro i s acc c hk hi hlo Z hS G hR
    have hlt : i < n := by omega
    refine codeAny_builtin F.entry_extend_loop ?_
    rw [Around.under_plainId F.plain_extend_loop _]
    show wpAny _ A.in1 (pyNext (.ref z) >>= _) _ _ s
    refine wpAny_bind (pyNext_item (A := A.in1) D h1 hsz Z (fun t ht => by rw [hn t ht]; exact hlt) fun h' Z' hT hs' kp => ?_)
    have hS' : LstObj h' S acc c := kp _ _ aS.1 aS.2.1 aS.2.2 hS
    obtain ⟨Ts, e1, e2, nd, lw, e3⟩ := G
    have ha : acc.size = i := by rw [e1, List.size_toArray, List.length_map]; exact e2
    show wpAny _ A.in1 (updateSeq S (·.push (.ref s.heap.objs.size)) >>= _) _ _ _
    refine wpAny_bind (wpAny_updateSeq hS' rfl ?_ (by rw [ha]; omega) (by show (acc.push _).size ≤ _; rw [Array.size_push, ha]; omega))
    obtain ⟨c2, hS2⟩ : ∃ c2, LstObj (h'.update S (Obj.mapSeq (·.push (.ref s.heap.objs.size)))) S (acc.push (.ref s.heap.objs.size)) c2 := ⟨_, Heap.get?_update_self (Obj.mapSeq (·.push (.ref s.heap.objs.size))) hS' rfl⟩
    have oth : ∀ b o, b ≠ S → h'.get? b = some o → (h'.update S (Obj.mapSeq (·.push (.ref s.heap.objs.size)))).get? b = some o := fun b o hb e => (Heap.get?_update_other _ _ (Ne.symm hb)).trans e
    have sz2 : (h'.update S (Obj.mapSeq (·.push (.ref s.heap.objs.size)))).objs.size = h'.objs.size := (Heap.SameBut.update ..).1
    generalize h'.update S (Obj.mapSeq (·.push (.ref s.heap.objs.size))) = h2 at hS2 oth sz2 ⊢
    have lt : ∀ b o, s.heap.get? b = some o → b ≠ s.heap.objs.size := fun b o e => Nat.ne_of_lt (Heap.lt_size e)
    have awN : Away s.heap.objs.size z TI TO ts ∧ s.heap.objs.size ≠ S := by
      obtain ⟨f0, f1, _, hz⟩ := Z.z
      obtain ⟨kept, _, hto⟩ := Z.to
      refine ⟨⟨(lt _ _ hz).symm, (lt _ _ hto).symm, fun t ht => ?_⟩, (lt _ _ hS).symm⟩
      obtain ⟨⟨o, ho, _⟩, _⟩ := Z.at_ t ht
      exact (lt _ _ ho).symm
    have ndN : (Ts ++ [s.heap.objs.size]).Nodup := by
      rw [List.nodup_append]
      refine ⟨nd, by simp, fun a ha b hb e => ?_⟩
      rw [List.mem_singleton] at hb
      obtain ⟨j, hj⟩ := List.getElem?_of_mem ha
      exact lt _ _ (e3 j a hj).1 (e.trans hb)
    have lwN : ∀ T ∈ Ts ++ [s.heap.objs.size], lo ≤ T := fun T hT => by
      rcases List.mem_append.mp hT with q | q
      · exact lw T q
      · rw [List.mem_singleton.mp q]; exact hlo
    refine wpAny_pure ⟨plainId_quiet F.plain_extend_loop _, ih (i + 1) _ (acc.push (.ref s.heap.objs.size)) c2 (by omega) hlt (by rw [sz2, hs']; exact Nat.le_succ_of_le hlo) (Z'.keep aS bS cS oth) hS2 ⟨Ts ++ [s.heap.objs.size], by rw [e1]; simp, by simp [e2], ndN, lwN, fun j T q => ?_⟩ fun h3 acc' c' kp3 hS3 G3 => hR h3 acc' c' (fun b o a hb e => kp3 b o a hb (oth b o hb (kp b o a.1 a.2.1 a.2.2 e))) hS3 G3⟩
    by_cases hj : j < Ts.length
    · rw [List.getElem?_append_left hj] at q
      obtain ⟨x1, x2, x3⟩ := e3 j T q
      exact ⟨oth _ _ x3 (kp _ _ x2.1 x2.2.1 x2.2.2 x1), x2, x3⟩
    · have hj2 := (List.getElem?_eq_some_iff.mp q).1
      rw [List.length_append, List.length_singleton] at hj2
      obtain rfl : j = Ts.length := by omega
      rw [List.getElem?_append_right (Nat.le_refl _), Nat.sub_self] at q
      obtain rfl : s.heap.objs.size = T := by simpa using q
      rw [e2]
      exact ⟨oth _ _ awN.2 hT, awN.1, awN.2⟩
theorem collect_zip {s : Shared} {Q : List Value → Shared → Prop} {n : Nat} (lo : Nat) (hlo : lo ≤ s.heap.objs.size) (hh : A.handled = none) (D : Apart z TI TO ts) (h1 : ts ≠ []) (hsz : ts.length ≤ 1000) (hn : ∀ t ∈ ts, t.xs.size = n) (hn2 : n ≤ 1000) (Z : ZipAt s.heap z TI TO ts 0)
    (hQ : ∀ h' (Ts : List Addr), (∀ b o, Away b z TI TO ts → s.heap.get? b = some o → h'.get? b = some o) → Ts.length = n → Ts.Nodup → (∀ T ∈ Ts, lo ≤ T) → (∀ j T, Ts[j]? = some T → TupObj h' T (vals ts j).toArray) → Q (Ts.map Value.ref) { s with heap := h' }) :
    wpAny (model prog w) A (collect (.ref z)) Q E s := by
  have lt : ∀ b o, s.heap.get? b = some o → b ≠ s.heap.objs.size := fun b o e => Nat.ne_of_lt (Heap.lt_size e)
  obtain ⟨f0, f1, hf, hz⟩ := Z.z
  have aS : Away s.heap.objs.size z TI TO ts := by
    obtain ⟨kept, _, hto⟩ := Z.to
    refine ⟨(lt _ _ hz).symm, (lt _ _ hto).symm, fun t ht => ?_⟩
    obtain ⟨⟨o, ho, _⟩, _⟩ := Z.at_ t ht
    exact (lt _ _ ho).symm
  have bS : s.heap.objs.size ≠ TI := (lt _ _ Z.ti).symm
  have cS : ∀ t ∈ ts, s.heap.objs.size ≠ t.l := fun t ht => by
    obtain ⟨_, ⟨o, ho, _⟩⟩ := Z.at_ t ht
    exact (lt _ _ ho).symm
  unfold collect
  refine wpAny_bind (wpAny_runValue (codeAny_builtin F.entry_proto_collect ?_))
  rw [Around.under_plainId F.plain_proto_collect _]
  show wpAny _ A.in1 (newList [] >>= fun l => again (.builtin "list.__iadd__" ⟨[l, .ref z], []⟩)) _ _ s
  refine wpAny_bind (wpAny_newObj_type ?_)
  refine wpAny_pure ⟨plainId_quiet F.plain_list_iadd _, codeAny_builtin F.entry_list_iadd ?_⟩
  rw [Around.under_plainId F.plain_list_iadd _]
  have kp1 : ∀ b o, s.heap.get? b = some o → (s.heap.push { cls := .type "list", data := .seq ([] : List Value).toArray }).get? b = some o := fun b o e => Heap.get?_push_of_some _ e
  have hS1 : LstObj (s.heap.push { cls := .type "list", data := .seq ([] : List Value).toArray }) s.heap.objs.size #[] 0 := Heap.get?_push_size _ rfl
  show wpAny _ A.in1 (Builtin.List.listExtendWith (.ref s.heap.objs.size) (.ref z) (.ref s.heap.objs.size)) _ _ { s with heap := s.heap.push { cls := .type "list", data := .seq ([] : List Value).toArray } }
  have hlo' : lo ≤ (s.heap.push { cls := .type "list", data := .seq ([] : List Value).toArray }).objs.size := by rw [Heap.size_push]; exact Nat.le_succ_of_le hlo
  generalize s.heap.push { cls := .type "list", data := .seq ([] : List Value).toArray } = hA at kp1 hS1 hlo' ⊢
  have Z1 : ZipAt hA z TI TO ts 0 := Z.keep aS bS cS fun d o _ e => kp1 d o e
  have hT : (⟨hA, s.gens, s.drawn, s.toks, s.os⟩ : Shared).TypeIs (.ref z) "zip" := ⟨_, kp1 _ _ hz, rfl⟩
  unfold Builtin.List.listExtendWith
  refine wpAny_bind (wpAny_typeOf hT ?_)
  have no1 : Builtin.List.listSameRef (.ref s.heap.objs.size) (.ref z) = false := by simp [Builtin.List.listSameRef, aS.1]
  simp only [no1, show (Value.type "zip" == Value.type "list") = false by decide, show (Value.type "zip" == Value.type "tuple") = false by decide, Bool.or_false, Bool.false_eq_true, if_false]
  refine wpAny_bind (pyIter_zip Z1 ?_)
  refine wpAny_bind (wpAny_holding ?_)
  unfold Builtin.List.listLengthHint
  refine wpAny_bind (wpAny_specialOf hT nolen ?_)
  show wpAny _ A.in1 (specialOf (Value.ref z) (Str.ofString "__length_hint__") >>= _) _ _ _
  refine wpAny_bind (wpAny_specialOf hT nohint ?_)
  refine wpAny_pure ?_
  show wpAny _ A.in1 (rule "list.extend.makes-room" >>= fun _ => Builtin.List.listTouch (.ref s.heap.objs.size) >>= fun _ =>
    again (.builtin "list.extend.loop" ⟨[.ref s.heap.objs.size, .ref z, .ref s.heap.objs.size], []⟩)) _ _ _
  refine wpAny_bind (wpAny_rule (wpAny_bind ?_))
  show wpAny _ A.in1 (updateSeq s.heap.objs.size (·.push .none) >>= fun _ => updateSeq s.heap.objs.size (·.pop)) _ _ _
  refine wpAny_bind (wpAny_updateSeq hS1 rfl ?_)
  have hS2 := Heap.get?_update_self (Obj.mapSeq (·.push Value.none)) hS1 rfl
  refine wpAny_updateSeq hS2 rfl ?_
  have hS3 := Heap.get?_update_self (Obj.mapSeq (·.pop)) hS2 rfl
  have oth : ∀ b o, b ≠ s.heap.objs.size → hA.get? b = some o → ((hA.update s.heap.objs.size (Obj.mapSeq (·.push Value.none))).update s.heap.objs.size (Obj.mapSeq (·.pop))).get? b = some o :=
    fun b o hb e => (Heap.get?_update_other _ _ (Ne.symm hb)).trans ((Heap.get?_update_other _ _ (Ne.symm hb)).trans e)
  have sz3 : ((hA.update s.heap.objs.size (Obj.mapSeq (·.push Value.none))).update s.heap.objs.size (Obj.mapSeq (·.pop))).objs.size = hA.objs.size := (Heap.SameBut.update ..).1.trans (Heap.SameBut.update ..).1
  refine wpAny_pure ⟨plainId_quiet F.plain_extend_loop _, loop_zip (A := A) hh D h1 hsz hn hn2 s.heap.objs.size aS bS cS _ lo n 0 _ _ _ rfl (Nat.zero_le _) (by rw [sz3]; exact hlo') (Z1.keep aS bS cS oth) hS3 ⟨[], rfl, rfl, List.nodup_nil, fun T q => by simp at q, fun j T q => by simp at q⟩ fun h' acc' c' k hS' G => ?_⟩
  obtain ⟨Ts, e1, e2, nd, lw, e3⟩ := G
  show wpAny _ A (load s.heap.objs.size >>= _) _ _ _
  refine wpAny_bind (wpAny_load hS' ?_)
  have q := hQ h' Ts (fun b o a e => k b o a (lt _ _ e) (oth b o (lt _ _ e) (kp1 b o e))) e2 nd lw fun j T q => (e3 j T q).1
  refine wpAny_pure ?_
  rw [e1, List.toList_toArray]
  exact q
end
end ZN


set_option Elab.async false
set_option linter.all false
set_option maxRecDepth 100000
set_option maxHeartbeats 2000000
namespace ZN
open PySem PySem.Spec PyProof.Rows
section
variable {prog : Program} {w : World} {A : Around} {E : Value → Shared → Prop} {z TI TO : Addr} {ts : List Th} {s : Shared}
theorem code_tuple_zip {Q₁ : Value → Shared → Prop} {n : Nat} (lo : Nat) (hlo : lo ≤ s.heap.objs.size) (hh : A.handled = none) (D : Apart z TI TO ts) (h1 : ts ≠ []) (hsz : ts.length ≤ 1000) (hn : ∀ t ∈ ts, t.xs.size = n) (hn2 : n ≤ 1000) (Z : ZipAt s.heap z TI TO ts 0)
    (h : ∀ h' (Ts : List Addr), (∀ b o, Away b z TI TO ts → s.heap.get? b = some o → h'.get? b = some o) → Ts.length = n → Ts.Nodup → (∀ T ∈ Ts, lo ≤ T) → (∀ j T, Ts[j]? = some T → TupObj h' T (vals ts j).toArray) →
      Q₁ (.ref h'.objs.size) { s with heap := h'.push { cls := .type "tuple", data := .seq (Ts.map Value.ref).toArray } }) :
    codeAny (model prog w) A (.call (.builtin "tuple.__new__") ⟨[.type "tuple", .ref z], []⟩) (wants Q₁ E) s := by
  refine codeAny_of_tree ?_
  show wpAny _ A.in1 (do checkBuiltinCall "tuple.__new__" ⟨[.type "tuple", .ref z], []⟩; again (.builtin "tuple.__new__" ⟨[.type "tuple", .ref z], []⟩)) _ _ s
  refine wpAny_bind (wpAny_of_eq (F.newCall_tuple_1 _) (wpAny_pure ⟨plainId_quiet F.plain_tuple_new _, codeAny_builtin F.entry_tuple_new ?_⟩))
  rw [Around.under_plainId F.plain_tuple_new _]
  have hsub := sub_tuple_self
  have hinit := init_tuple_lookup
  have hmh := madeHere_tuple
  obtain ⟨f0, f1, hf, hz⟩ := Z.z
  have hTI : s.TypeIs (.ref z) "zip" := ⟨_, hz, rfl⟩
  have hh1 : A.in1.handled = none := hh
  wp_walk using wpAny_typeOf hTI, collect_zip (A := A.in1) lo hlo hh1 D h1 hsz hn hn2 Z
  intro h' Ts k l1 nd lw hT
  show wpAny _ _ (Builtin.Tuple.tupleExact (Ts.map Value.ref).toArray >>= fun v => ret v) _ _ _
  unfold Builtin.Tuple.tupleExact
  have b : 1000 ≤ sizeLine := by decide
  refine wpAny_bind (wpAny_newObj_type ?_ (by show (Ts.map Value.ref).toArray.size ≤ sizeLine; rw [List.size_toArray, List.length_map]; omega))
  exact wpAny_pure (h h' Ts k l1 nd lw hT)
theorem call_tuple_zip {Q : Value → Shared → Prop} {n : Nat} (lo : Nat) (hlo : lo ≤ s.heap.objs.size) (hh : A.handled = none) (D : Apart z TI TO ts) (h1 : ts ≠ []) (hsz : ts.length ≤ 1000) (hn : ∀ t ∈ ts, t.xs.size = n) (hn2 : n ≤ 1000) (Z : ZipAt s.heap z TI TO ts 0)
    (h : ∀ h' (Ts : List Addr), (∀ b o, Away b z TI TO ts → s.heap.get? b = some o → h'.get? b = some o) → Ts.length = n → Ts.Nodup → (∀ T ∈ Ts, lo ≤ T) → (∀ j T, Ts[j]? = some T → TupObj h' T (vals ts j).toArray) →
      Q (.ref h'.objs.size) { s with heap := h'.push { cls := .type "tuple", data := .seq (Ts.map Value.ref).toArray } }) :
    wpAny (model prog w) A (call (.type "tuple") [.ref z]) Q E s := by
  refine callType_codes (Q₁ := fun obj s₁ => s₁.TypeIs obj "tuple" ∧ Q obj s₁) F.called_tuple (F.typeCall_tuple_1 _) F.entry_object_init
    (code_tuple_zip (A := A.in1) lo hlo hh D h1 hsz hn hn2 Z fun h' Ts a b c d e => ⟨⟨_, Heap.get?_push_size _ rfl, rfl⟩, h h' Ts a b c d e⟩) fun obj s₁ h₁ => ?_
  exact ⟨h₁.1, F.args_object_init_2 obj _, object_init_meets F.called_tuple.init.lookup F.called_tuple.made (by decide) prog w A.in1 _ s₁ ⟨h₁.1, rfl, h₁.2⟩⟩
end
section
variable {M : Model} {A : Around} {E : Value → Shared → Prop} {s : Shared} {env : Env} {pos p : Pos} {Q : Value → Shared → Prop} {e : Expr} {T : String}
theorem callWith_typeS (h : wpAny M A (eval e env) (fun v s₁ => PySem.W.StarOf M A E v (fun vs s₂ => wpAny M A (call (.type T) vs) Q E s₂) s₁) E s)
    (he : starEach [.Starred e p] env = [(true, eval e env)] := by rfl) :
    wpAny M A (callWith pos (.type T) [] (backTo pos (starEach [.Starred e p] env)) []) Q E s := by
  rw [he]
  exact PySem.W.ks_call (P := fun _ => True) rfl (fun h _ => ⟨.machine, .inr (.inl rfl), PySem.W.Looks.of_pure rfl⟩) (PySem.W.ks_lone (wpAny_mono h (fun v s1 q => (by
    unfold PySem.W.StarOf at q ⊢
    exact wpAny_mono q (fun b s2 ⟨x, y⟩ => ⟨x, wpAny_mono y (fun vs s3 z => ⟨trivial, z⟩) fun _ _ x => x⟩) fun _ _ x => x)) fun _ _ x => x))
end
end ZN
namespace K01
open PySem PySem.Spec PyProof.Rows L2
/-- many new tuples in sight at once -/
def layT (L : List (Addr × List V)) (H : Hp) : Hp := L.foldr (fun p G => upd G p.1 (.tup p.2)) H
theorem layT_old {H : Hp} {b : Addr} : ∀ {L : List (Addr × List V)}, (∀ p ∈ L, b ≠ p.1) → layT L H b = H b
  | [], _ => rfl
  | p :: L, h => by
    show upd (layT L H) p.1 _ b = _
    rw [upd_ne (h p List.mem_cons_self)]
    exact layT_old fun q hq => h q (List.mem_cons_of_mem _ hq)
theorem layT_new {H : Hp} : ∀ {L : List (Addr × List V)}, (L.map Prod.fst).Nodup → ∀ p ∈ L, layT L H p.1 = some (.tup p.2)
  | [], _, p, h => by cases h
  | q :: L, nd, p, h => by
    rw [List.map_cons, List.nodup_cons] at nd
    show upd (layT L H) q.1 _ p.1 = _
    rcases List.mem_cons.mp h with rfl | h
    · exact upd_same
    · rw [upd_ne (fun z => nd.1 (by rw [← z]; exact List.mem_map_of_mem h))]
      exact layT_new nd.2 p h
theorem layT_cases {H : Hp} {b : Addr} {o : HO} : ∀ {L : List (Addr × List V)}, layT L H b = some o → H b = some o ∨ ∃ p ∈ L, b = p.1 ∧ o = .tup p.2
  | [], h => .inl h
  | q :: L, h => by
    by_cases e : b = q.1
    · subst e
      have h' : upd (layT L H) q.1 (.tup q.2) q.1 = some o := h
      rw [upd_same] at h'
      exact .inr ⟨q, List.mem_cons_self, rfl, (Option.some.inj h').symm⟩
    · have h' : upd (layT L H) q.1 (.tup q.2) b = some o := h
      rw [upd_ne e] at h'
      rcases layT_cases h' with z | ⟨p, hp, z⟩
      · exact .inl z
      · exact .inr ⟨p, List.mem_cons_of_mem _ hp, z⟩
section
variable {X : Cx} {pins : List (Addr × Obj)} {σ : L2.St} {H : Hp} {s : Shared} {h' : Heap}
theorem inv_layT {t' : Nat} (I : Inv X pins σ H s) (L : List (Addr × List V)) (k : ∀ b u, s.heap.get? b = some u → h'.get? b = some u) (hp : ∀ p ∈ L, s.heap.objs.size ≤ p.1) (nd : (L.map Prod.fst).Nodup)
    (new : ∀ p ∈ L, ObjOk X.prog X.w (layT L H) h' p.1 (.tup p.2)) : Inv X pins σ (layT L H) { s with heap := h', toks := t' } := by
  have old : ∀ b u, s.heap.get? b = some u → layT L H b = H b := fun b u e => layT_old fun p hpm z => by
    have := Heap.lt_size e
    rw [z] at this
    exact Nat.lt_irrefl _ (Nat.lt_of_lt_of_le this (hp p hpm))
  have there : ∀ b o, H b = some o → layT L H b = some o := fun b o e => by
    rw [layT_old fun p hpm z => ?_]
    · exact e
    · have := I.hok.fresh (hp p hpm)
      rw [← z, e] at this
      cases this
  refine I.un ⟨fun b u q _ _ _ => k b u q, fun b u q _ _ _ => ⟨u.slots, k b u q⟩, fun b u q n _ => by rw [old b u q]; exact n, fun b u q _ => ⟨u, k b u q⟩, fun b xs q => there b _ q, fun b u xs q => there b _ q, fun b ps q => ⟨#[], by rw [there b _ q]; simp⟩⟩ fun b u e => ?_
  rcases layT_cases e with e | ⟨p, hpm, rfl, rfl⟩
  · exact (I.hok b u e).stay (fun c v _ q => k c v q) (fun c q => there c _ q) fun c xs q => there c _ q
  · exact new p hpm
/-- tuple(zip(*e)), e a tuple or a list of rows of one length -/
def tTupZip (K : PySem.W.Frag) (te : TE) : TE := fun σ H Q => te σ H fun x H1 => ∃ (R : List Row) (n : Nat), RowsA K R x H1 ∧ 1 ≤ R.length ∧ R.length ≤ 8 ∧ (∀ r ∈ R, r.length = n) ∧ n ≤ 1000 ∧ ∀ v H2, Ex H1 H2 → RowsT K (Lin.tr n R) v H2 → Q v H2
theorem rowsA_srcs {xs : List V} {R : List Row} {us : List Value} (I : Inv X pins σ H s) (p : Paired (fun x r => RowT X.K r x H) xs R) (rv : Vals xs us) :
    ∃ srcs : List (Addr × Array Value), us = srcs.map (fun p => Value.ref p.1) ∧ srcs.length = R.length ∧ (∀ q ∈ srcs, s.heap.IsTuple q.1 q.2) ∧ ∀ (j : Nat) q r, srcs[j]? = some q → R[j]? = some r → Vals (r.map V.int) q.2.toList := by
  induction p generalizing us with
  | nil =>
    cases rv
    exact ⟨[], rfl, rfl, (fun _ q => nomatch q), fun j q r e => nomatch e⟩
  | @cons x r xs R h _ ih =>
    cases rv with
    | @cons _ u _ us' ru rus =>
      obtain ⟨srcs, e1, e2, e3, e4⟩ := ih rus
      obtain ⟨a, rfl, ha⟩ := h
      obtain rfl : u = .ref a := ru
      obtain ⟨its, rv', p1, _⟩ := I.tuple ha
      refine ⟨(a, its.toArray) :: srcs, by rw [e1]; rfl, by simp [e2], fun q hq => ?_, fun j q r' h1 h2 => ?_⟩
      · rcases List.mem_cons.mp hq with rfl | hq
        · exact p1
        · exact e3 q hq
      · cases j with
        | zero =>
          obtain rfl : (a, its.toArray) = q := by simpa using h1
          obtain rfl : r = r' := by simpa using h2
          simpa using rv'
        | succ j => exact e4 j q r' (by simpa using h1) (by simpa using h2)
theorem vals_col {ts : List ZN.Th} {R : List Row} {n i : Nat} (hi : i < n) (hl : ts.length = R.length) (hn : ∀ r ∈ R, r.length = n) (hv : ∀ (j : Nat) t r, ts[j]? = some t → R[j]? = some r → Vals (r.map V.int) t.xs.toList) :
    Vals ((R.map fun r => Lin.g r i).map V.int) (ZN.vals ts i) := by
  induction R generalizing ts with
  | nil =>
    cases ts with
    | nil => exact .nil
    | cons t ts => simp at hl
  | cons r R ih =>
    cases ts with
    | nil => simp at hl
    | cons t ts =>
      refine .cons ?_ (ih (by simpa using hl) (fun r h => hn r (List.mem_cons_of_mem _ h)) fun j t r h1 h2 => hv (j + 1) t r (by simpa using h1) (by simpa using h2))
      have rv := hv 0 t r rfl rfl
      have hr := hn r List.mem_cons_self
      have hx : (r.map V.int)[i]? = some (.int (Lin.g r i)) := by rw [List.getElem?_map, Lin.g_get? (by omega)]; rfl
      obtain ⟨u, hu, ru⟩ := rv.get hx
      have e : t.xs.getD i .none = u := by
        rw [Array.getElem?_toList] at hu
        simp [Array.getD, hu]
        obtain ⟨h1, h2⟩ := Array.getElem?_eq_some_iff.mp hu
        simp [h1, h2]
      show RelV _ (t.xs.getD i .none)
      rw [e]
      exact ru
theorem vals_refs : ∀ Ts : List Addr, Vals (Ts.map V.ref) (Ts.map Value.ref)
  | [] => .nil
  | _ :: l => .cons rfl (vals_refs l)
theorem rows_all {K : PySem.W.Frag} {HF : Hp} : ∀ {Ts : List Addr} {C : List Row}, (∀ (j : Nat) T c, Ts[j]? = some T → C[j]? = some c → RowT K c (.ref T) HF) → Ts.length = C.length → Paired (fun x r => RowT K r x HF) (Ts.map V.ref) C
  | [], [], _, _ => .nil
  | T :: Ts, c :: C, all, l => .cons (all 0 T c rfl rfl) (rows_all (fun j T' c' h1 h2 => all (j + 1) T' c' (by simpa using h1) (by simpa using h2)) (by simpa using l))
  | [], _ :: _, _, l => by simp at l
  | _ :: _, [], _, l => by simp at l
theorem pe_tupZip {e : Expr} {te : TE} {p p2 p3 pos pos2 : Pos} (hg : Gl X "tuple") (hm : X.mg "tuple" = none) (hg2 : Gl X "zip") (hm2 : X.mg "zip" = none) (he : PE X e te) (hc : X.calm = true := by rfl)
    (hst : starEach [.Starred e p3] X.env = [(true, eval e X.env)] := by rfl) (na : starEach [.Call (.Name "zip" p2) [.Starred e p3] [] pos2] X.env = (false, eval (.Call (.Name "zip" p2) [.Starred e p3] [] pos2) X.env) :: starEach [] X.env := by rfl) :
    PE X (.Call (.Name "tuple" p) [.Call (.Name "zip" p2) [.Starred e p3] [] pos2] [] pos) (tTupZip X.K te) := by
  refine ⟨fun pins s σ H Q I h => ?_⟩
  refine Call_ (ld_blt I hg hm (u := .type "tuple") (by decide +kernel) ?_)
  refine PyProof.Rows.callWith_type1 (args_cons ?_ na) na rfl
  refine Call_ (ld_blt I hg2 hm2 PyProof.Rows.boot_zip ?_)
  refine ZN.callWith_typeS (thn (he.run pins s σ H _ I h) fun v s1 ⟨y, H1, I1, ry, R, n, hR, l1, l8, hn, hn2, q⟩ => ?_) hst
  obtain ⟨a, xs, rfl, hxs, pxs⟩ : ∃ a xs, y = V.ref a ∧ (SqT X.K H1 a xs ∨ SqL X.K H1 a xs) ∧ Paired (fun x r => RowT X.K r x H1) xs R := by
    rcases hR with ⟨a, xs, z1, z2, z3⟩ | ⟨a, xs, z1, z2, z3⟩
    · exact ⟨a, xs, z1, .inr z2, z3⟩
    · exact ⟨a, xs, z1, .inl z2, z3⟩
  obtain rfl : v = Value.ref a := ry
  refine StX.star_any I1 hxs fun us s2 I2 rv => ?_
  obtain ⟨srcs, rfl, ls, hsrc, hv⟩ := rowsA_srcs I2 pxs rv
  refine ZN.call_zip srcs (by omega) (by omega) hsrc fun ts z TI TO h2 es D Z k gz gTO git _ => ?_
  refine args_nil ?_
  have lts : ts.length = R.length := by rw [← ls, es, List.length_map]
  have hv' : ∀ (j : Nat) t r, ts[j]? = some t → R[j]? = some r → Vals (r.map V.int) t.xs.toList := fun j t r h1 h2 => hv j (ZN.src t) r (by rw [es, List.getElem?_map, h1]; rfl) h2
  have hsz : ∀ t ∈ ts, t.xs.size = n := fun t ht => by
    obtain ⟨j, hj⟩ := List.getElem?_of_mem ht
    have hlt : j < R.length := by rw [← lts]; exact (List.getElem?_eq_some_iff.mp hj).1
    have e1 := (hv' j t _ hj (List.getElem?_eq_getElem hlt)).length
    rw [List.length_map] at e1
    exact (show t.xs.size = t.xs.toList.length from Array.length_toList.symm).trans (e1.symm.trans (hn _ (List.getElem_mem hlt)))
  have hne : ts ≠ [] := fun z => by rw [z] at lts; simp at lts; omega
  have sz2 : s2.heap.objs.size ≤ h2.objs.size := by
    obtain ⟨f0, f1, _, hz⟩ := Z.z
    exact Nat.le_trans gz (Nat.le_of_lt (Heap.lt_size hz))
  refine ZN.call_tuple_zip (n := n) (s := { s2 with heap := h2 }) s2.heap.objs.size sz2 (I2.ok.hd hc) D hne (by omega) hsz hn2 Z fun h' Ts kp lT nd lw hT => ?_
  have ltr : (Lin.tr n R).length = n := Lin.tr_len
  have kk : ∀ b o, s2.heap.get? b = some o → h'.get? b = some o := fun b o e => by
    have lt := Heap.lt_size e
    refine kp b o ⟨fun z => ?_, fun z => ?_, fun t ht z => ?_⟩ (k b o e)
    · rw [z] at lt; exact Nat.lt_irrefl _ (Nat.lt_of_lt_of_le lt gz)
    · rw [z] at lt; exact Nat.lt_irrefl _ (Nat.lt_of_lt_of_le lt gTO)
    · rw [z] at lt; exact Nat.lt_irrefl _ (Nat.lt_of_lt_of_le lt (git t ht))
  let L : List (Addr × List V) := (Ts.zip (Lin.tr n R)).map fun p => (p.1, p.2.map V.int)
  have eL : L.map Prod.fst = Ts := by
    show ((Ts.zip (Lin.tr n R)).map _).map _ = Ts
    rw [List.map_map]
    exact List.map_fst_zip (by omega)
  have memL : ∀ p ∈ L, ∃ j, Ts[j]? = some p.1 ∧ j < n ∧ p.2 = (R.map fun r => Lin.g r j).map V.int := fun p hp => by
    obtain ⟨⟨T, c⟩, hq, rfl⟩ := List.mem_map.mp hp
    obtain ⟨j, hj⟩ := List.getElem?_of_mem hq
    have hz := List.getElem?_zip_eq_some.mp hj
    have hjn : j < n := by rw [← ltr]; exact (List.getElem?_eq_some_iff.mp hz.2).1
    refine ⟨j, hz.1, hjn, ?_⟩
    have := hz.2
    rw [List.getElem?_eq_getElem (by omega), Lin.tr_row hjn] at this
    rw [← Option.some.inj this]
  have I3 : Inv X pins σ (layT L H1) { s2 with heap := h' } := inv_layT (t' := s2.toks) I2 L kk (fun p hp => lw _ (by rw [← eL]; exact List.mem_map_of_mem hp)) (by rw [eL]; exact nd) fun p hp => by
    obtain ⟨j, hj, hjn, ep⟩ := memL p hp
    have hv2 := vals_col hjn lts hn hv'
    rw [← ep] at hv2
    have hl := hv2.length
    have b : 1000 ≤ sizeLine := by decide
    exact ⟨by rw [ep, List.length_map, List.length_map]; omega, _, hv2, ⟨_, hT j _ hj, rfl, _, rfl⟩⟩
  have hTs : Vals (Ts.map V.ref) (Ts.map Value.ref) := vals_refs Ts
  have fr : layT L H1 h'.objs.size = none := I3.hok.fresh (Nat.le_refl _)
  have b : 1000 ≤ sizeLine := by decide
  have I4 : Inv X pins σ (upd (layT L H1) h'.objs.size (.tup (Ts.map V.ref))) { s2 with heap := h'.push { cls := .type "tuple", data := .seq (Ts.map Value.ref).toArray } } :=
    I3.laid (t' := s2.toks) (fun b o e => Heap.get?_push_of_some _ e) (Nat.le_refl _) (show ObjOk X.prog X.w _ _ _ (.tup (Ts.map V.ref)) from ⟨by rw [List.length_map]; omega, _, hTs, ⟨_, Heap.get?_push_size _ rfl, rfl, _, rfl⟩⟩)
  have ex1 : Ex H1 (layT L H1) := fun c o e => by
    rw [layT_old fun p hp z => ?_]
    · exact e
    · have := I2.hok.fresh (lw p.1 (by rw [← eL]; exact List.mem_map_of_mem hp))
      rw [← z, e] at this
      cases this
  have ex2 : Ex (layT L H1) (upd (layT L H1) h'.objs.size (.tup (Ts.map V.ref))) := _root_.Evl.Ex.new fr
  refine ⟨.ref h'.objs.size, _, I4, rfl, q _ _ (ex1.trans ex2) ⟨_, Ts.map V.ref, rfl, SqT.of upd_same, ?_⟩⟩
  have nd2 : (L.map Prod.fst).Nodup := by rw [eL]; exact nd
  have all : ∀ (j : Nat) T c, Ts[j]? = some T → (Lin.tr n R)[j]? = some c → RowT X.K c (.ref T) (upd (layT L H1) h'.objs.size (.tup (Ts.map V.ref))) := fun j T c h1 h2 => by
    have hm : (T, c.map V.int) ∈ L := List.mem_map.mpr ⟨(T, c), List.mem_of_getElem? (List.getElem?_zip_eq_some.mpr ⟨h1, h2⟩), rfl⟩
    exact ⟨T, rfl, SqT.of (ex2 _ _ (layT_new nd2 _ hm))⟩
  have lTR : Ts.length = (Lin.tr n R).length := by omega
  exact rows_all all lTR
end
end K01


set_option Elab.async false
set_option linter.all false
set_option maxRecDepth 100000
set_option maxHeartbeats 4000000
/-! What can be reached, what tells of sights: the program's own -/
namespace K01
open PySem PySem.Spec PyProof.Rows L2
theorem rowsT_cat {K : PySem.W.Frag} {S T : List Row} {v u : V} {H : Hp} {Q : VK} (h : RowsT K S v H) (h' : RowsT K T u H) (hz : S.length + T.length ≤ 10000) (q : ∀ z H', Ex H H' → RowsT K (S ++ T) z H' → Q z H') : rCatA K v u H Q := by
  obtain ⟨a, xs, rfl, ha, pa⟩ := h
  obtain ⟨b, ys, rfl, hb, pb⟩ := h'
  have la := pr_len pa
  have lb := pr_len pb
  refine ⟨a, b, xs, ys, rfl, rfl, ha, hb, Nat.le_trans (show xs.length + ys.length ≤ 10000 by omega) (by decide), fun e => ?_, fun _ e => ?_, fun _ _ p np => ?_⟩
  · subst e
    obtain rfl : S = [] := List.length_eq_zero_iff.mp la.symm
    exact q _ _ (_root_.Evl.Ex.refl _) ⟨b, ys, rfl, hb, pb⟩
  · subst e
    obtain rfl : T = [] := List.length_eq_zero_iff.mp lb.symm
    rw [List.append_nil] at q
    exact q _ _ (_root_.Evl.Ex.refl _) ⟨a, xs, rfl, ha, pa⟩
  · have e : Ex H (upd H p (.tup (xs ++ ys))) := _root_.Evl.Ex.new np
    exact q _ _ e ⟨p, _, rfl, SqT.of upd_same, pr_app (pr_mono pa fun _ _ z => z.ex e) (pr_mono pb fun _ _ z => z.ex e)⟩
/-- the facts of a machine -/
structure MOk (p : Int) (n : Nat) (A W S : List Row) : Prop where
  p1 : 1 < p
  p2 : p ≤ 100
  prm : PrmI p
  n1 : 1 ≤ n
  n4 : n ≤ 4
  oA : Lin.Oks p n A
  lA : A.length = n
  oW : Lin.Oks p n W
  lW : W.length ≤ 100
  oS : Lin.Oks p n S
  lS : S.length ≤ 100
section
variable {P : Program} {w : World} {K : PySem.W.Frag} {mg : Str → Option Value} {base : Heap}
theorem ok_meet {f : Addr} {fd : FuncData} (B : Bare mg) (F : Fun K "meet" "meet" s_meet f fd) : FnOk P w K mg base CX0 1 f fd p_meet (spMet K) := by
  refine F.ok sc_meet (fun vs H Q E h => ?_) (fun cdv A outer s H vs Q E hr h => ?_)
  · obtain ⟨p, v, u, r, o, rfl, _⟩ := h
    rfl
  · obtain ⟨p, v, u, r, o, rfl, ⟨a, rfl, hq⟩, ⟨b, rfl, hq2⟩, hl, hp, hf, hz, q⟩ := h
    refine ⟨_, pss_one (ps_ret (pe_op op_modN (pe_callB (cr_sum rfl) (by rfl) B.sum (by decide +kernel) (pa_cons (pe_lc (own := [("a", 3), ("b", 4)]) (g := gTup K 2 (gCons (gName 3) (gCons (gName 4) gNil))) (tt := tYes) rfl sc_meet.nd (RZ.pi_zipA (by rfl) B.zip (pa_cons (pv 1) (pa_cons (pv 2) pa_nil))) (blkOk_by (N := n_meet) (sc := defScope s_meet) (by decide +kernel))
      (fun _ _ _ _ _ => pg_tup rfl (pgs_cons (pg_name (i := 3) sc_meet.nd rfl (Or.inl rfl)) (pgs_cons (pg_name (i := 4) sc_meet.nd rfl (Or.inl rfl)) pgs_nil))) (fun _ _ _ _ _ => pts_nil) (fun _ _ _ _ _ => pe_op op_mul (pv 3) (pv 4))) pa_nil)) (pv 0))), ?_⟩
    refine ⟨_, rfl, _, rfl, a, b, _, _, rfl, .inr ⟨hq, hq2, ?_⟩⟩
    refine lc_go (walk_zipT (xs := r.map V.int) (ys := o.map V.int) (n := r.length) (by rw [List.length_map]) (by rw [List.length_map]; omega)) (by omega) (fun H' e => ⟨_root_.Evl.ex_t e hq, _root_.Evl.ex_t e hq2⟩) (r.zip o) (by rw [List.length_zip]; omega) (fun _ => true)
      (fun z => IsV (.int (z.1 * z.2))) (fun _ _ _ _ _ h => h) (fun i z x H1 H2 hn e y C N hC hN => ?_) fun D ys H' nD e hD hy => ?_
    · obtain ⟨T, x1, x2, rfl, nT, rfl, f1, f2⟩ := y
      obtain ⟨n1, g1, rfl⟩ := map_get f1
      obtain ⟨n2, g2, rfl⟩ := map_get f2
      have ez : z = (n1, n2) := by
        rw [zip_at g1 g2] at hn
        exact (Option.some.inj hn).symm
      subst ez
      have hb := hf n1 (List.mem_of_getElem? g1)
      exact ⟨T, _, rfl, SqT.of upd_same, rfl, _, _, rfl, _, _, rfl, rfl, rfl, yes_go ⟨_, rfl, _, rfl, _, _, rfl, rfl, .inl ⟨by omega, by omega⟩, hC rfl _ _ (_root_.Evl.Ex.new nT) rfl⟩⟩
    · rw [filter_yes] at hy
      have ey : ys = (List.zipWith (· * ·) r o).map V.int := by
        rw [pr_fun hy, zip_map, List.map_map]
        rfl
      subst ey
      refine ⟨D, _, rfl, SqL.of hD, _, rfl, _, _, rfl, rfl, by omega, ?_⟩
      refine q _ _ e ?_
      show V.int _ = V.int _
      rw [Int.fmod_eq_emod_of_nonneg _ (by omega)]
      rfl
def spPStirred (K : PySem.W.Frag) : Sp := fun vs H Q _ => ∃ (p : Int) (n : Nat) (v u : V) (A : List Row) (r : Row), vs = [.int p, v, u] ∧ RowsA K A v H ∧ RowT K r u H ∧ 1 < p ∧ p ≤ 100 ∧ n ≤ 100 ∧ Lin.Oks p n A ∧ A.length ≤ 1000 ∧ Lin.OkR p n r ∧ Ret (RowT K (Lin.app p A r)) H Q
theorem ok_pstirred {f : Addr} {fd : FuncData} (B : Bare mg) (F : Fun K "stirred" "stirred" s_stirred f fd) (Gm : Got P w K mg base CX0 1 "meet" p_meet (spMet K)) : FnOk P w K mg base CX0 2 f fd p_stirred (spPStirred K) := by
  refine F.ok sc_stirred (fun vs H Q E h => ?_) (fun cdv Ar outer s H vs Q E hr h => ?_)
  · obtain ⟨p, n, v, u, A, r, rfl, _⟩ := h
    rfl
  · obtain ⟨p, n, v, u, A, r, rfl, hA, hr0, h1, h2, hn, oA, lA, oR, q⟩ := h
    refine ⟨_, pss_one (ps_ret (pe_callTy call_tuple_of (by rfl) B.tuple (by decide +kernel) (pa_cons (pe_lc (own := [("row", 3)]) (g := gName 3) (tt := tYes) rfl sc_stirred.nd (pi_seq (pv 1)) (blkOk_by (N := n_stirred) (sc := defScope s_stirred) (by decide +kernel))
      (fun _ _ _ _ _ => pg_name (i := 3) sc_stirred.nd rfl (Or.inl rfl)) (fun _ _ _ _ _ => pts_nil) (fun _ _ _ _ _ => pe_got Gm hr pass0 (pa_cons (pv 0) (pa_cons (pv 3) (pa_cons (pv 2) pa_nil))))) pa_nil))), ?_⟩
    have turn : ∀ (us : List V), Paired (fun x r => RowT K r x H) us A → ∀ (i : Nat) (d : Row) (x : V) (H1 H2 : Hp), A[i]? = some d → Ex H H1 → YAt us i H1 x H2 → ∀ (C : V → Hp → Prop) (N : Hp → Prop), (true = true → ∀ y H3, Ex H1 H3 → IsV (.int (Lin.dot p d r)) y H3 → C y H3) → (true = false → ∀ H3, Ex H1 H3 → N H3) →
        gName 3 x (wipe [some (.int p), some v, some u, none] [3]) H2 fun σ2 H2' => wipe σ2 [3] = wipe [some (.int p), some v, some u, none] [3] ∧ tYes σ2 H2' fun b H3 => if b = true then tCall (spMet K) [] E0 (tCons (tVar 0) (tCons (tVar 3) (tCons (tVar 2) tNil))) σ2 H3 C else N H3 := by
      intro us pb i d x H1 H2 hn1 e y C N hC hN
      obtain ⟨rfl, ex'⟩ := y
      obtain ⟨d', hd', rd⟩ := pr_get pb ex'
      obtain rfl : d' = d := Option.some.inj (hd'.symm.trans hn1)
      have od := oA d' (List.mem_of_getElem? hd')
      exact ⟨rfl, yes_go ⟨_, rfl, _, rfl, _, rfl, p, x, u, d', r, rfl, rd.ex e, hr0.ex e, by rw [od.1, oR.1], by omega, fun z hz => (by have := od.2 z hz; omega), by rw [od.1]; omega, fun z H3 e3 ez => hC rfl z H3 e3 ez⟩⟩
    have fin : ∀ (D : Addr) (ys : List V) (H' : Hp), H D = none → Ex H H' → H' D = some (.lst ys) → Paired (fun y d => IsV (.int (Lin.dot p d r)) y H') ys (A.filter fun _ => true) → rTupK K [.ref D] H' Q := by
      intro D ys H' nD e hD hy
      rw [filter_yes] at hy
      have ey : ys = (Lin.app p A r).map V.int := by
        rw [pr_fun hy]
        unfold Lin.app
        rw [List.map_map]
        rfl
      subst ey
      exact ⟨D, _, rfl, .inl ⟨SqL.of hD, fun l hl => q _ _ (e.trans (_root_.Evl.Ex.new hl)) (RowT.new upd_same)⟩⟩
    rcases hA with ⟨b, us, rfl, hb, pb⟩ | ⟨b, us, rfl, hb, pb⟩
    · have lu := pr_len pb
      refine .inl ⟨_, rfl, b, rfl, ⟨_, hb⟩, ?_⟩
      exact lc_go (walk_list (xs := us)) (by omega) (fun H' e => _root_.Evl.ex_l e hb) A lu.symm (fun _ => true) (fun row => IsV (.int (Lin.dot p row r))) (fun _ _ _ _ _ h => h) (turn us pb) fin
    · have lu := pr_len pb
      refine .inr ⟨_, rfl, b, rfl, ⟨_, hb⟩, ?_⟩
      exact lc_go (walk_tup (xs := us)) (by omega) (fun H' e => _root_.Evl.ex_t e hb) A lu.symm (fun _ => true) (fun row => IsV (.int (Lin.dot p row r))) (fun _ _ _ _ _ h => h) (turn us pb) fin
end
end K01


set_option Elab.async false
set_option linter.all false
set_option maxRecDepth 100000
set_option maxHeartbeats 2000000
/-! for x in zip( *rows ): a new tuple each turn, kept -/
namespace ZN
open PySem PySem.Spec PyProof.Rows
def prs (ts : List Th) : List (Addr × Addr) := ts.map fun t => (t.it, t.l)
/-- the zip between two turns; what its tuples hold is told elsewhere -/
structure ZipI (h : Heap) (z TI TO : Addr) (ps : List (Addr × Addr)) (i : Nat) : Prop where
  z : ∃ (f0 : Value) (f1 : Bool), (f0 = .none ∨ ∃ T : Addr, f0 = rawInt T) ∧ ZipObj h z TI TO f0 (.bool f1)
  ti : TupObj h TI (ps.map fun p => Value.ref p.1).toArray
  to : ∃ kept : Array Value, kept.size = ps.length ∧ TupObj h TO kept
  its : ∀ p ∈ ps, h.IsTupleIter p.1 p.2 i
theorem ZipAt.pairs {h : Heap} {z TI TO : Addr} {ts : List Th} {i : Nat} (Z : ZipAt h z TI TO ts i) : ZipI h z TI TO (prs ts) i := by
  refine ⟨Z.z, ?_, ?_, fun p hp => ?_⟩
  · have := Z.ti
    unfold prs
    rw [List.map_map]
    exact this
  · obtain ⟨kept, hk, ht⟩ := Z.to
    exact ⟨kept, by rw [hk]; unfold prs; rw [List.length_map], ht⟩
  · obtain ⟨t, ht, rfl⟩ := List.mem_map.mp hp
    exact (Z.at_ t ht).1
theorem ZipI.full {h : Heap} {z TI TO : Addr} {ts : List Th} {i : Nat} (Z : ZipI h z TI TO (prs ts) i) (hl : ∀ t ∈ ts, h.IsTuple t.l t.xs) : ZipAt h z TI TO ts i := by
  refine ⟨Z.z, ?_, ?_, fun t ht => ⟨Z.its _ (List.mem_map.mpr ⟨t, ht, rfl⟩), hl t ht⟩⟩
  · have := Z.ti
    unfold prs at this
    rw [List.map_map] at this
    exact this
  · obtain ⟨kept, hk, ht⟩ := Z.to
    exact ⟨kept, by rw [hk]; unfold prs; rw [List.length_map], ht⟩
theorem ZipI.at {h h' : Heap} {z TI TO : Addr} {ps : List (Addr × Addr)} {i : Nat} (Z : ZipI h z TI TO ps i) (k : ∀ b ∈ z :: TI :: TO :: ps.map Prod.fst, ∀ o, h.get? b = some o → h'.get? b = some o) : ZipI h' z TI TO ps i := by
  obtain ⟨f0, f1, hf, hz⟩ := Z.z
  obtain ⟨kept, hk, ht⟩ := Z.to
  refine ⟨⟨f0, f1, hf, k z (by simp) _ hz⟩, k TI (by simp) _ Z.ti, ⟨kept, hk, k TO (by simp) _ ht⟩, fun p hp => ?_⟩
  obtain ⟨o, h1, h2⟩ := Z.its p hp
  exact ⟨o, k p.1 (by simp; exact .inr (.inr (.inr ⟨p.2, hp⟩))) _ h1, h2⟩
theorem Apart.same {z TI TO : Addr} {ts ts' : List Th} (e : prs ts = prs ts') (D : Apart z TI TO ts) : Apart z TI TO ts' := by
  have mem : ∀ t ∈ ts', ∃ u ∈ ts, u.it = t.it ∧ u.l = t.l := fun t ht => by
    have : (t.it, t.l) ∈ prs ts := by rw [e]; exact List.mem_map.mpr ⟨t, ht, rfl⟩
    obtain ⟨u, hu, q⟩ := List.mem_map.mp this
    exact ⟨u, hu, congrArg Prod.fst q, congrArg Prod.snd q⟩
  refine ⟨D.zTI, D.zTO, D.TITO, fun t ht => ?_, fun t ht => ?_, ?_⟩
  · obtain ⟨u, hu, e1, e2⟩ := mem t ht
    rw [← e1]; exact D.it u hu
  · obtain ⟨u, hu, e1, e2⟩ := mem t ht
    rw [← e2]
    refine ⟨(D.l u hu).1, (D.l u hu).2.1, fun v hv => ?_⟩
    obtain ⟨v', hv', e3, e4⟩ := mem v hv
    rw [← e3]
    exact (D.l u hu).2.2 v' hv'
  · have : ts'.map Th.it = ts.map Th.it := by
      have := congrArg (List.map Prod.fst) e
      unfold prs at this
      rw [List.map_map, List.map_map] at this
      exact this.symm
    rw [this]
    exact D.nd
end ZN
namespace K01
open PySem PySem.Spec PyProof.Rows L2
/-- the tuples at as, drawn from side by side: each turn a new tuple of their i-th items -/
def ItzN (K : PySem.W.Frag) (as : List Addr) : It :=
  ⟨fun i H => ∀ a ∈ as, ∃ xs, SqT K H a xs ∧ i < xs.length,
    fun i H v H' => ∃ T col, v = .ref T ∧ H T = none ∧ H' = upd H T (.tup col) ∧ col.length = as.length ∧ ∀ (j : Nat) a xs, as[j]? = some a → SqT K H a xs → col[j]? = xs[i]?,
    fun i H => ∀ a ∈ as, ∃ xs, SqT K H a xs ∧ xs.length ≤ i⟩
section
variable {X : Cx} {pins : List (Addr × Obj)} {σ : L2.St} {H : Hp} {s : Shared}
theorem threads_of {i : Nat} {Pr : List V → Prop} (I : Inv X pins σ H s) : ∀ {ps : List (Addr × Addr)}, (∀ a ∈ ps.map Prod.snd, ∃ xs, SqT X.K H a xs ∧ Pr xs) →
    ∃ ts : List ZN.Th, ZN.prs ts = ps ∧ ∀ t ∈ ts, s.heap.IsTuple t.l t.xs ∧ ∃ xs, SqT X.K H t.l xs ∧ Pr xs ∧ Vals xs t.xs.toList
  | [], _ => ⟨[], rfl, fun _ q => nomatch q⟩
  | p :: ps, h => by
    obtain ⟨ts, e, q⟩ := threads_of (i := i) I (ps := ps) fun a ha => h a (List.mem_cons_of_mem _ ha)
    obtain ⟨xs, hx, hp⟩ := h p.2 List.mem_cons_self
    obtain ⟨its, rv, p1, _⟩ := I.tuple hx
    refine ⟨⟨p.1, p.2, its.toArray⟩ :: ts, by show (p.1, p.2) :: ZN.prs ts = _; rw [e], fun t ht => ?_⟩
    rcases List.mem_cons.mp ht with rfl | ht
    · exact ⟨p1, xs, hx, hp, by simpa using rv⟩
    · exact q t ht
theorem vals_at {ts : List ZN.Th} {i : Nat} (h : ∀ t ∈ ts, ∃ xs, SqT X.K H t.l xs ∧ i < xs.length ∧ Vals xs t.xs.toList) : ∃ col : List V, Vals col (ZN.vals ts i) ∧ ∀ (j : Nat) t, ts[j]? = some t → ∃ xs, SqT X.K H t.l xs ∧ col[j]? = xs[i]? := by
  induction ts with
  | nil => exact ⟨[], .nil, fun j t q => nomatch q⟩
  | cons t ts ih =>
    obtain ⟨col, r, q⟩ := ih fun u hu => h u (List.mem_cons_of_mem _ hu)
    obtain ⟨xs, hx, hi, rv⟩ := h t List.mem_cons_self
    obtain ⟨u, hu, ru⟩ := rv.get (List.getElem?_eq_getElem hi)
    have e : t.xs.getD i .none = u := by
      rw [Array.getElem?_toList] at hu
      obtain ⟨h1, h2⟩ := Array.getElem?_eq_some_iff.mp hu
      simp [Array.getD, h1, h2]
    refine ⟨xs[i] :: col, .cons (by show RelV _ (t.xs.getD i .none); rw [e]; exact ru) r, fun j t' ht' => ?_⟩
    cases j with
    | zero =>
      obtain rfl : t = t' := by simpa using ht'
      exact ⟨xs, hx, by rw [List.getElem?_eq_getElem hi]; rfl⟩
    | succ j => exact q j t' (by simpa using ht')
theorem turn_zipN {P : Program} {w : World} {K : PySem.W.Frag} {tg : Expr} (hgo : ∀ z v, letOwnedTupleGo tg z v = pure ()) {ts0 : List ZN.Th} {z TI TO : Addr} (D : ZN.Apart z TI TO ts0) (h1 : ts0 ≠ []) (hsz : ts0.length ≤ 1000) :
    Turn P w K tg (ItzN K ((ZN.prs ts0).map Prod.snd)) (z :: TI :: TO :: (ZN.prs ts0).map Prod.fst) z (fun i h => ZN.ZipI h z TI TO (ZN.prs ts0) i) where
  mem := by simp
  obj := fun i h st c hc => by
    obtain ⟨f0, f1, hf, hz⟩ := st.z
    obtain ⟨kept, hk, ht⟩ := st.to
    rcases List.mem_cons.mp hc with rfl | hc
    · exact ⟨_, hz, fun v q => nomatch q⟩
    rcases List.mem_cons.mp hc with rfl | hc
    · exact ⟨_, st.ti, fun v q => nomatch q⟩
    rcases List.mem_cons.mp hc with rfl | hc
    · exact ⟨_, ht, fun v q => nomatch q⟩
    obtain ⟨p, hp, rfl⟩ := List.mem_map.mp hc
    obtain ⟨o, e1, _, d1⟩ := st.its p hp
    exact ⟨o, e1, fun v q => by rw [d1] at q; cases q⟩
  keep := fun i h h' st k => st.at k
  item := by
    intro X hP hw hK hc i pins s σ H E I hf st hg
    subst hP hw hK
    obtain ⟨ts, ets, hts⟩ := threads_of (i := i) (Pr := fun xs => i < xs.length) I hg
    have D' := ZN.Apart.same ets.symm D
    have Z : ZN.ZipAt s.heap z TI TO ts i := by rw [← ets] at st; exact st.full fun t ht => (hts t ht).1
    have hne : ts ≠ [] := fun e => h1 (by
      rw [e] at ets
      have := congrArg List.length ets
      unfold ZN.prs at this
      rw [List.length_map, List.length_map] at this
      exact List.length_eq_zero_iff.mp this.symm)
    have hl : ts.length = ts0.length := by
      have := congrArg List.length ets
      unfold ZN.prs at this
      rwa [List.length_map, List.length_map] at this
    obtain ⟨col, rc, qc⟩ := vals_at (X := X) (H := H) (i := i) fun t ht => (hts t ht).2
    have hn : ∀ t ∈ ts, i < t.xs.size := fun t ht => by
      obtain ⟨xs, _, hi, rv⟩ := (hts t ht).2
      have := rv.length
      rw [Array.length_toList] at this
      exact Nat.lt_of_lt_of_eq hi this
    have hzl : z < s.heap.objs.size := by
      obtain ⟨f0, f1, _, hz⟩ := Z.z
      exact Heap.lt_size hz
    have olt : ∀ b ∈ z :: TI :: TO :: (ZN.prs ts0).map Prod.fst, b < s.heap.objs.size := fun b hb => by
      obtain ⟨f0, f1, _, hz⟩ := st.z
      obtain ⟨kept, _, ht⟩ := st.to
      rcases List.mem_cons.mp hb with rfl | hb
      · exact hzl
      rcases List.mem_cons.mp hb with rfl | hb
      · exact Heap.lt_size st.ti
      rcases List.mem_cons.mp hb with rfl | hb
      · exact Heap.lt_size ht
      obtain ⟨p, hp, rfl⟩ := List.mem_map.mp hb
      obtain ⟨o, e1, _⟩ := st.its p hp
      exact Heap.lt_size e1
    refine ZN.pyNext_item D' hne (by omega) Z hn fun h' Z' hT sz hk => ⟨_, rfl, ?_⟩
    rw [hgo]
    have lc : col.length = ts.length := by rw [rc.length, ZN.vals_len]
    have b1000 : 1000 ≤ sizeLine := by decide
    have new : ObjOk X.prog X.w (upd H s.heap.objs.size (.tup col)) h' s.heap.objs.size (.tup col) := ⟨by omega, _, rc, ⟨_, hT, rfl, _, rfl⟩⟩
    have memf : ∀ t ∈ ts, t.it ∈ (ZN.prs ts0).map Prod.fst := fun t ht => by
      rw [← ets]
      exact List.mem_map.mpr ⟨(t.it, t.l), List.mem_map.mpr ⟨t, ht, rfl⟩, rfl⟩
    have I1 : Inv X pins σ (upd H s.heap.objs.size (.tup col)) { s with heap := h' } :=
      I.turnedNew (t' := s.toks) (ch := z :: TI :: TO :: (ZN.prs ts0).map Prod.fst) (fun c o hb e => hk c o (fun q => hb (by simp [q])) (fun q => hb (by simp [q])) (fun t ht q => hb (by rw [q]; exact List.mem_cons_of_mem _ (List.mem_cons_of_mem _ (List.mem_cons_of_mem _ (memf t ht))))) e) hf (Nat.le_refl _) new
    refine wpAny_pure ⟨.ref s.heap.objs.size, _, I1, rfl, ⟨_, col, rfl, I.hok.fresh (Nat.le_refl _), rfl, ?_, fun j a xs ha hx => ?_⟩, ?_, fun b hb => ?_⟩
    · rw [lc, hl, List.length_map]; unfold ZN.prs; rw [List.length_map]
    · rw [← ets] at ha
      unfold ZN.prs at ha
      rw [List.map_map, List.getElem?_map] at ha
      cases ht : ts[j]? with
      | none => rw [ht] at ha; cases ha
      | some t =>
        rw [ht] at ha
        have ea : t.l = a := Option.some.inj ha
        obtain ⟨xs', hx', e⟩ := qc j t ht
        rw [ea] at hx'
        rw [e, I.tuple_inj hx hx']
    · show ZN.ZipI h' z TI TO (ZN.prs ts0) (i + 1)
      rw [← ets]
      exact Z'.pairs
    · rw [upd_ne (Nat.ne_of_lt (olt b hb))]
      exact (hf b hb).1
  done := by
    intro X hP hw hK hc i pins s σ H E I hf st hg
    subst hP hw hK
    obtain ⟨ts, ets, hts⟩ := threads_of (i := i) (Pr := fun xs => xs.length ≤ i) I hg
    have D' := ZN.Apart.same ets.symm D
    have Z : ZN.ZipAt s.heap z TI TO ts i := by rw [← ets] at st; exact st.full fun t ht => (hts t ht).1
    have hne : ts ≠ [] := fun e => h1 (by
      rw [e] at ets
      have := congrArg List.length ets
      unfold ZN.prs at this
      rw [List.length_map, List.length_map] at this
      exact List.length_eq_zero_iff.mp this.symm)
    have hn : ∀ t ∈ ts, t.xs.size ≤ i := fun t ht => by
      obtain ⟨xs, _, hi, rv⟩ := (hts t ht).2
      have := rv.length
      rw [Array.length_toList] at this
      exact Nat.le_trans (Nat.le_of_eq this.symm) hi
    have memf : ∀ t ∈ ts, t.it ∈ (ZN.prs ts0).map Prod.fst := fun t ht => by
      rw [← ets]
      exact List.mem_map.mpr ⟨(t.it, t.l), List.mem_map.mpr ⟨t, ht, rfl⟩, rfl⟩
    exact ZN.pyNext_end (I.ok.hd hc) D' hne Z hn fun h' hk => ⟨rfl, I.turnedL (t' := s.toks) (ch := z :: TI :: TO :: (ZN.prs ts0).map Prod.fst) (fun c o hb e =>
      hk c o (fun q => hb (by simp [q])) (fun q => hb (by simp [q])) (fun t ht q => hb (by rw [q]; exact List.mem_cons_of_mem _ (List.mem_cons_of_mem _ (List.mem_cons_of_mem _ (memf t ht))))) e) hf⟩
  self := fun A i s Q E st h => by
    obtain ⟨f0, f1, _, hz⟩ := st.z
    have hT : s.TypeIs (.ref z) "zip" := ⟨_, hz, rfl⟩
    refine wpAny_pyIter_slot hT F.slot_zip_iter (wpAny_call_entry F.slot_zip_iter hT F.entry_zip_iter ?_ (F.args_zip_iter_1 _))
    show wpAny _ _ (ret (.ref z)) _ _ s
    exact wpAny_pure ⟨_, rfl, "zip", _, hT, F.slot_zip_next.lookup, h⟩
theorem pairs_fst {α β γ : Type} {F : α → β → Prop} : ∀ {xs : List (α × γ)} {ys : List β}, Paired (fun q r => F q.1 r) xs ys → Paired F (xs.map Prod.fst) ys
  | _, _, .nil => .nil
  | _, _, .cons h t => .cons h (pairs_fst t)
/-- zip( *e ), e a tuple or a list of rows -/
def iZipN (K : PySem.W.Frag) (te : TE) : TI := fun σ H R => te σ H fun x H1 => ∃ (rs : List Row), RowsA K rs x H1 ∧ 1 ≤ rs.length ∧ rs.length ≤ 8 ∧ ∀ as : List Addr, Paired (fun a r => SqT K H1 a (r.map V.int)) as rs → R (ItzN K as) H1
theorem pi_zipN {e : Expr} {te : TE} {tg : Expr} {p2 p3 pos2 : Pos} (hg2 : Gl X "zip") (hm2 : X.mg "zip" = none) (he : PE X e te) (hgo : ∀ z v, letOwnedTupleGo tg z v = pure () := by intro _ _; rfl)
    (hst : starEach [.Starred e p3] X.env = [(true, eval e X.env)] := by rfl) : PI X tg (.Call (.Name "zip" p2) [.Starred e p3] [] pos2) (iZipN X.K te) := by
  refine ⟨fun pins s σ H R I h => ?_⟩
  refine Call_ (ld_blt I hg2 hm2 PyProof.Rows.boot_zip ?_)
  refine ZN.callWith_typeS (thn (he.run pins s σ H _ I h) fun v s1 ⟨y, H1, I1, ry, rs, hR, l1, l8, q⟩ => ?_) hst
  obtain ⟨a, xs, rfl, hxs, pxs⟩ : ∃ a xs, y = V.ref a ∧ (SqT X.K H1 a xs ∨ SqL X.K H1 a xs) ∧ Paired (fun x r => RowT X.K r x H1) xs rs := by
    rcases hR with ⟨a, xs, z1, z2, z3⟩ | ⟨a, xs, z1, z2, z3⟩
    · exact ⟨a, xs, z1, .inr z2, z3⟩
    · exact ⟨a, xs, z1, .inl z2, z3⟩
  obtain rfl : v = Value.ref a := ry
  refine StX.star_any I1 hxs fun us s2 I2 rv => ?_
  have key : ∃ srcs : List (Addr × Array Value), us = srcs.map (fun p => Value.ref p.1) ∧ srcs.length = rs.length ∧ (∀ q ∈ srcs, s2.heap.IsTuple q.1 q.2) ∧ Paired (fun q r => SqT X.K H1 q.1 (r.map V.int)) srcs rs := by
    clear q hR hxs l1 l8 h
    induction pxs generalizing us with
    | nil =>
      cases rv
      exact ⟨[], rfl, rfl, (fun _ q => nomatch q), .nil⟩
    | @cons x r xs R h _ ih =>
      cases rv with
      | @cons _ u _ us' ru rus =>
        obtain ⟨srcs, e1, e2, e3, e4⟩ := ih us' rus
        obtain ⟨b, rfl, hb⟩ := h
        obtain rfl : u = .ref b := ru
        obtain ⟨its, rv', p1, _⟩ := I2.tuple hb
        refine ⟨(b, its.toArray) :: srcs, by rw [e1]; rfl, by simp [e2], fun q hq => ?_, .cons hb e4⟩
        rcases List.mem_cons.mp hq with rfl | hq
        · exact p1
        · exact e3 q hq
  obtain ⟨srcs, rfl, ls, hsrc, hps⟩ := key
  refine ZN.call_zip srcs (by omega) (by omega) hsrc fun ts z TI TO h2 es D Z k gz gTO git gTI => ?_
  have lts : ts.length = rs.length := by rw [← ls, es, List.length_map]
  have hne : ts ≠ [] := fun z => by rw [z] at lts; simp at lts; omega
  have I3 : Inv X pins σ H1 { s2 with heap := h2 } := I2.kept (t' := s2.toks) k
  refine ZN.pyIter_zip Z ?_
  have ep : (ZN.prs ts).map Prod.snd = srcs.map Prod.fst := by rw [es]; unfold ZN.prs; rw [List.map_map, List.map_map]; rfl
  refine ⟨z, _, _, _, H1, rfl, I3, turn_zipN hgo D hne (by omega), Z.pairs, fun b hb => ?_, ?_⟩
  · have hle : s2.heap.objs.size ≤ b := by
      rcases List.mem_cons.mp hb with rfl | hb
      · exact gz
      rcases List.mem_cons.mp hb with rfl | hb
      · exact gTI
      rcases List.mem_cons.mp hb with rfl | hb
      · exact gTO
      obtain ⟨p, hp, rfl⟩ := List.mem_map.mp hb
      obtain ⟨t, ht, rfl⟩ := List.mem_map.mp hp
      exact git t ht
    exact I2.fpOk hle (I2.hok.fresh hle)
  · rw [ep]
    exact q _ (pairs_fst hps)
end
end K01


set_option Elab.async false
set_option linter.all false
set_option maxRecDepth 100000
set_option maxHeartbeats 4000000
/-! Tables one behind another, the still table, moving on -/
namespace K01
open PySem PySem.Spec PyProof.Rows L2
theorem walk_zipN {K : PySem.W.Frag} {as : List Addr} {R : List Row} {n : Nat} (hl : as.length = R.length) (ne : R ≠ []) (hn : ∀ r ∈ R, r.length = n) :
    Walk (ItzN K as) n (fun H => Paired (fun a r => SqT K H a (r.map V.int)) as R) (fun i H x H' => ∃ T, x = .ref T ∧ H T = none ∧ H' = upd H T (.tup ((R.map fun r => Lin.g r i).map V.int))) := by
  refine ⟨fun i H hi h a ha => ?_, fun H h a ha => ?_, fun i H x H' hi h y => ?_⟩
  · obtain ⟨r, hr, q⟩ := pr_mem h ha
    exact ⟨_, q, by rw [List.length_map, hn r hr]; exact hi⟩
  · obtain ⟨r, hr, q⟩ := pr_mem h ha
    exact ⟨_, q, by rw [List.length_map, hn r hr]; exact Nat.le_refl _⟩
  · obtain ⟨T, col, e1, e2, e3, e4, e5⟩ := y
    refine ⟨T, e1, e2, ?_⟩
    rw [e3]
    have : col = (R.map fun r => Lin.g r i).map V.int := by
      refine List.ext_getElem? fun j => ?_
      by_cases hj : j < as.length
      · obtain ⟨r, hr, q⟩ := pr_get h (List.getElem?_eq_getElem hj)
        rw [e5 j _ _ (List.getElem?_eq_getElem hj) q, List.getElem?_map, List.getElem?_map, List.getElem?_map, hr, Lin.g_get? (by rw [hn r (List.mem_of_getElem? hr)]; exact hi)]
        rfl
      · rw [List.getElem?_eq_none (by omega), List.getElem?_eq_none (by rw [List.length_map, List.length_map]; omega)]
    rw [this]
section
variable {P : Program} {w : World} {K : PySem.W.Frag} {mg : Str → Option Value} {base : Heap}
def spBoth (K : PySem.W.Frag) : Sp := fun vs H Q _ => ∃ (p : Int) (n : Nat) (v u : V) (A C : List Row), vs = [.int p, v, u] ∧ RowsT K A v H ∧ RowsT K C u H ∧ 1 < p ∧ p ≤ 100 ∧ 1 ≤ n ∧ n ≤ 8 ∧ Lin.Oks p n A ∧ A.length = n ∧ Lin.Oks p n C ∧ C.length = n ∧ Ret (RowsT K (Lin.behind p n A C)) H Q
theorem ok_both {f : Addr} {fd : FuncData} (B : Bare mg) (F : Fun K "stirred_by_both" "stirred_by_both" s_stirred_by_both f fd) (Gt : Got P w K mg base CX0 2 "stirred" p_stirred (spPStirred K)) : FnOk P w K mg base CX0 3 f fd p_stirred_by_both (spBoth K) := by
  refine F.ok sc_stirred_by_both (fun vs H Q E h => ?_) (fun cdv Ar outer s H vs Q E hr h => ?_)
  · obtain ⟨p, n, v, u, A, C, rfl, _⟩ := h
    rfl
  · obtain ⟨p, n, v, u, A, C, rfl, hA, hC, h1, h2, n1, n8, oA, lA, oC, lC, q⟩ := h
    have hp0 : 0 < p := by omega
    refine ⟨_, pss_cons (ps_setLc (i := 3) (own := [("column", 4)]) (g := gName 4) (tt := tYes) rfl sc_stirred_by_both.nd rfl rfl (sw_true rfl rfl rfl (by decide +kernel)) (pi_zipN (by rfl) B.zip (pv 2)) (blkOk_by (N := n_stirred_by_both) (sc := defScope s_stirred_by_both) (by decide +kernel)) (fun _ _ _ _ _ => pg_name (i := 4) sc_stirred_by_both.nd rfl (Or.inl rfl)) (fun _ _ _ _ _ => pts_nil)
        (fun _ _ _ _ _ => pe_got Gt hr pass0 (pa_cons (pv 0) (pa_cons (pv 1) (pa_cons (pv 4) pa_nil)))))
      (pss_one (ps_ret (pe_tupZip (by rfl) B.tuple (by rfl) B.zip (pv 3)))), ?_⟩
    refine ⟨_, rfl, C, .inr hC, by omega, by omega, fun as pas => ?_⟩
    have ne : C ≠ [] := fun z => by rw [z] at lC; simp at lC; omega
    have ltr : (Lin.tr n C).length = n := Lin.tr_len
    refine lc_go (walk_zipN (pr_len pas) ne (fun r hr => (oC r hr).1)) (by omega) (fun H' e => pr_mono pas fun _ _ z => _root_.Evl.ex_t e z) (Lin.tr n C) ltr (fun _ => true) (fun d => RowT K (Lin.app p A d)) (fun _ => RowT.stb) (fun i d x H1 H2 hd e y C' N hC' hN => ?_) fun D ys H' nD e hD hy => ?_
    · obtain ⟨T, rfl, nT, rfl⟩ := y
      have hi : i < n := by rw [← ltr]; exact (List.getElem?_eq_some_iff.mp hd).1
      have ed : d = C.map fun r => Lin.g r i := by
        rw [List.getElem?_eq_getElem (by rw [ltr]; exact hi), Lin.tr_row hi] at hd
        exact (Option.some.inj hd).symm
      have eT : Ex H1 (upd H1 T (.tup ((C.map fun r => Lin.g r i).map V.int))) := _root_.Evl.Ex.new nT
      have od : Lin.OkR p n d := Lin.tr_ok hp0 oC lC d (List.mem_of_getElem? hd)
      have rT : RowT K d (.ref T) (upd H1 T (.tup ((C.map fun r => Lin.g r i).map V.int))) := by rw [← ed]; exact RowT.new upd_same
      exact ⟨rfl, yes_go ⟨_, rfl, _, rfl, _, rfl, p, n, v, .ref T, A, d, rfl, .inr (hA.ex (e.trans eT)), rT, h1, h2, by omega, oA, by omega, od, fun z H3 e3 hz => hC' rfl z H3 (eT.trans e3) hz⟩⟩
    · rw [filter_yes] at hy
      refine ⟨_, rfl, (Lin.tr n C).map (Lin.app p A), n, .inl ⟨D, ys, rfl, SqL.of hD, pr_map hy fun _ _ z => z⟩, by rw [List.length_map, ltr]; omega, by rw [List.length_map, ltr]; omega, fun r hr => ?_, by omega, fun v2 H2 e2 h2 => q v2 H2 (e.trans e2) h2⟩
      obtain ⟨d, _, rfl⟩ := List.mem_map.mp hr
      unfold Lin.app
      rw [List.length_map]
      exact lA
def spStill (K : PySem.W.Frag) : Sp := fun vs H Q _ => ∃ n : Nat, vs = [.int (n : Nat)] ∧ n ≤ 100 ∧ Ret (RowsT K (Lin.units n)) H Q
theorem ok_still {f : Addr} {fd : FuncData} (B : Bare mg) (F : Fun K "still" "still" s_still f fd) : FnOk P w K mg base CX0 1 f fd p_still (spStill K) := by
  refine F.ok sc_still (fun vs H Q E h => ?_) (fun cdv Ar outer s H vs Q E hr h => ?_)
  · obtain ⟨n, rfl, _⟩ := h
    rfl
  · obtain ⟨n, rfl, hn, q⟩ := h
    refine ⟨_, pss_one (ps_ret (pe_callTy call_tuple_of (by rfl) B.tuple (by decide +kernel) (pa_cons (pe_lc (own := [("row", 2)]) (g := gName 2) (tt := tYes) rfl sc_still.nd (pi_range1 rfl B.range (pa_cons (pv 0) pa_nil)) (blkOk_by (N := n_still) (sc := defScope s_still) (by decide +kernel)) (fun _ _ _ _ _ => pg_name (i := 2) sc_still.nd rfl (Or.inr rfl)) (fun _ _ _ _ _ => pts_nil)
      (fun _ _ _ _ _ => pe_callTy (show CallR _ (.type "tuple") (rTupK K) from call_tuple_of) (by rfl) B.tuple (by decide +kernel) (pa_cons (pe_lc (own := [("column", 1)]) (g := gName 1) (tt := tYes) rfl sc_still.nd (pi_range1 rfl B.range (pa_cons (pv 0) pa_nil)) (blkOk_by (by rfl)) (fun _ _ _ _ _ => pg_name (i := 1) sc_still.nd rfl (Or.inl rfl)) (fun _ _ _ _ _ => pts_nil)
        (fun _ _ _ _ _ => pe_ifExp (pt_cmpR op_eq (pv 2) (pv 1) (nomark _)) pe_int pe_int)) pa_nil))) pa_nil))), ?_⟩
    refine ⟨_, rfl, _, rfl, by omega, by omega, ?_⟩
    refine lc_go (walk_range (lo := 0) (n := ((n : Nat) : Int).toNat)) (by omega) (fun _ _ => trivial) (List.range n) (by rw [List.length_range, Int.toNat_natCast]) (fun _ => true) (fun j => RowT K (Lin.unit n j)) (fun _ => RowT.stb) (fun i j x H1 H2 hj e y C N hC hN => ?_) fun D ys H1 nD e1 hD hy => ?_
    · obtain ⟨rfl, ex⟩ := y
      have ex' : x = V.int ((i : Nat) : Int) := ex.trans (by show V.int _ = V.int _; rw [Int.zero_add])
      subst ex'
      have hi : i < n := by
        have := (List.getElem?_eq_some_iff.mp hj).1
        rwa [List.length_range] at this
      have ej : j = i := by
        rw [List.getElem?_range hi] at hj
        exact (Option.some.inj hj).symm
      subst ej
      refine ⟨rfl, yes_go ⟨_, rfl, _, rfl, by omega, by omega, ?_⟩⟩
      refine lc_go (walk_range (lo := 0) (n := ((n : Nat) : Int).toNat)) (by omega) (fun _ _ => trivial) (List.range n) (by rw [List.length_range, Int.toNat_natCast]) (fun _ => true) (fun m => IsV (.int (if m = j then 1 else 0))) (fun _ _ _ _ _ h => h) (fun m k y H3 H4 hm e3 yy2 C2 N2 hC2 hN2 => ?_) fun D2 ys2 H3 nD2 e3 hD2 hy2 => ?_
      · obtain ⟨rfl, ey⟩ := yy2
        have ey' : y = V.int ((m : Nat) : Int) := ey.trans (by show V.int _ = V.int _; rw [Int.zero_add])
        subst ey'
        have hm2 : m < n := by
          have := (List.getElem?_eq_some_iff.mp hm).1
          rwa [List.length_range] at this
        have em : k = m := by
          rw [List.getElem?_range hm2] at hm
          exact (Option.some.inj hm).symm
        subst em
        refine ⟨rfl, yes_go ⟨_, rfl, _, rfl, rfl, _, rfl, ite2 (fun c => ?_) (fun c => ?_)⟩⟩
        · have ce : (j : Int) = k := yeq c
          refine hC2 rfl _ _ (_root_.Evl.Ex.refl _) ?_
          show V.int _ = V.int _
          rw [if_pos (by omega)]
        · have ce : (j : Int) ≠ k := yne c
          refine hC2 rfl _ _ (_root_.Evl.Ex.refl _) ?_
          show V.int _ = V.int _
          rw [if_neg (by omega)]
      · rw [filter_yes] at hy2
        have ey : ys2 = (Lin.unit n j).map V.int := by
          rw [pr_fun hy2, ← unit_is hi, List.map_map]
          rfl
        subst ey
        exact ⟨D2, _, rfl, .inl ⟨SqL.of hD2, fun l nl => hC rfl _ _ (e3.trans (_root_.Evl.Ex.new nl)) (RowT.new upd_same)⟩⟩
    · rw [filter_yes] at hy
      refine ⟨D, ys, rfl, .inl ⟨SqL.of hD, fun l nl => ?_⟩⟩
      have e9 : Ex H1 (upd H1 l (.tup ys)) := _root_.Evl.Ex.new nl
      exact q _ _ (e1.trans e9) ⟨l, ys, rfl, SqT.of upd_same, pr_map (G := fun x r => RowT K r x _) (f := Lin.unit n) hy fun _ _ z => z.ex e9⟩
def spStillM (K : PySem.W.Frag) : Sp := fun vs H Q _ => ∃ (p : Int) (n : Nat), vs = [.int p, .int (n : Nat)] ∧ n ≤ 100 ∧ Ret (MachT K p (Lin.units n) (Lin.units n) (Lin.units n)) H Q
theorem ok_stillM {f : Addr} {fd : FuncData} (F : Fun K "still_machine" "still_machine" s_still_machine f fd) (Gs : Got P w K mg base CX0 1 "still" p_still (spStill K)) : FnOk P w K mg base CX0 2 f fd p_still_machine (spStillM K) := by
  refine F.ok sc_still_machine (fun vs H Q E h => ?_) (fun cdv Ar outer s H vs Q E hr h => ?_)
  · obtain ⟨p, n, rfl, _⟩ := h
    rfl
  · obtain ⟨p, n, rfl, hn, q⟩ := h
    refine ⟨_, pss_cons (ps_set (i := 2) sc_still_machine.nd rfl (Or.inl rfl) (pe_got Gs hr pass0 (pa_cons (pv 1) pa_nil))) (pss_one (ps_ret (pe_tup (pa_cons (pv 0) (pa_cons (pv 2) (pa_cons (pv 2) (pa_cons (pv 2) pa_nil))))))), ?_⟩
    refine ⟨_, rfl, n, rfl, hn, fun z H1 e1 hz => ?_⟩
    refine ⟨_, rfl, _, rfl, _, rfl, _, rfl, (by show 4 ≤ sizeLine; decide), fun l nl => ?_⟩
    have e9 := _root_.Evl.Ex.new (o := .tup [.int p, z, z, z]) nl
    exact q _ _ (e1.trans e9) ⟨l, z, z, z, rfl, SqT.of upd_same, hz.ex e9, hz.ex e9, hz.ex e9⟩
end
end K01


set_option Elab.async false
set_option linter.all false
set_option maxRecDepth 100000
set_option maxHeartbeats 4000000
namespace K01
open PySem PySem.Spec PyProof.Rows L2
section
variable {P : Program} {w : World} {K : PySem.W.Frag} {mg : Str → Option Value} {base : Heap}
def spClosure (K : PySem.W.Frag) : Sp := fun vs H Q _ => ∃ (p : Int) (n : Nat) (v u : V) (A W : List Row), vs = [.int p, v, u] ∧ RowsT K A v H ∧ RowsA K W u H ∧ 1 < p ∧ p ≤ 100 ∧ PrmI p ∧ n ≤ 100 ∧ Lin.Oks p n A ∧ A.length = n ∧ Lin.Oks p n W ∧ Ret (Stair K p n (Lin.kry p A W (n + 1))) H Q
/-- the staircase of what can be reached; of what tells of sights -/
abbrev reachR (p : Int) (n : Nat) (A W : List Row) : List Row := Lin.kry p A W (n + 1)
abbrev lookR (p : Int) (n : Nat) (A S : List Row) : List Row := Lin.kry p (Lin.tr n A) S (n + 1)
def spM (K : PySem.W.Frag) (R : Int → Nat → List Row → List Row → List Row → V → Hp → Prop) : Sp := fun vs H Q _ => ∃ (p : Int) (n : Nat) (v : V) (A W S : List Row), vs = [v] ∧ MachT K p A W S v H ∧ MOk p n A W S ∧ Ret (R p n A W S) H Q
theorem spM_len {R : Int → Nat → List Row → List Row → List Row → V → Hp → Prop} {vs : List V} {H : Hp} {Q : VK} {E : XK} (h : spM K R vs H Q E) : ∃ v, vs = [v] := by
  obtain ⟨p, n, v, A, W, S, rfl, _⟩ := h
  exact ⟨v, rfl⟩
def rReach (K : PySem.W.Frag) : Int → Nat → List Row → List Row → List Row → V → Hp → Prop := fun p n A W S => Stair K p n (reachR p n A W)
def rLooks (K : PySem.W.Frag) : Int → Nat → List Row → List Row → List Row → V → Hp → Prop := fun p n A W S => Stair K p n (lookR p n A S)
/-- a staircase that spans just the rows of which V1 holds -/
def SpanT (K : PySem.W.Frag) (p : Int) (n : Nat) (V1 : Row → Prop) (v : V) (H : Hp) : Prop := ∃ F, RowsT K F v H ∧ Lin.Spans p n F V1
def blind (p : Int) (n : Nat) (A S : List Row) : Row → Prop := fun v => Lin.OkR p n v ∧ ∀ r ∈ lookR p n A S, Lin.dot p r v = 0
theorem stair_perp {p : Int} {n : Nat} {S R : List Row} {v : Row} (hp : 0 < p) (oR : Lin.Oks p n R) (hS : Lin.Rref p n S) (s : Lin.Same p n S R) (hv : v.length = n) : (∀ r ∈ S, Lin.dot p r v = 0) ↔ ∀ r ∈ R, Lin.dot p r v = 0 := Lin.perp_same hp hS.ok oR s hv
def rDark (K : PySem.W.Frag) : Int → Nat → List Row → List Row → List Row → V → Hp → Prop := fun p n A W S => SpanT K p n (blind p n A S)
def rGone (K : PySem.W.Frag) : Int → Nat → List Row → List Row → List Row → V → Hp → Prop := fun p n A W S => SpanT K p n fun v => Lin.Sp p n (reachR p n A W) v ∧ blind p n A S v
theorem MOk.oReach {p : Int} {n : Nat} {A W S : List Row} (M : MOk p n A W S) : Lin.Oks p n (reachR p n A W) := Lin.kry_ok (by have := M.p1; omega) M.lA M.oW
theorem MOk.oLook {p : Int} {n : Nat} {A W S : List Row} (M : MOk p n A W S) : Lin.Oks p n (lookR p n A S) := Lin.kry_ok (by have := M.p1; omega) Lin.tr_len M.oS
theorem face_spans {p : Int} {n : Nat} {R : List Row} {v : V} {H : Hp} (hp : 1 < p) (oR : Lin.Oks p n R) (h : Face K p n R v H) : SpanT K p n (fun x => Lin.OkR p n x ∧ ∀ r ∈ R, Lin.dot p r x = 0) v H := by
  obtain ⟨F, S, h1, h2, h3, h4, h5⟩ := h
  exact ⟨F, h1, Lin.spans_face hp oR h2 h3 h4 h5⟩
end
end K01


set_option Elab.async false
set_option linter.all false
set_option maxRecDepth 100000
set_option maxHeartbeats 4000000
namespace K01
open PySem PySem.Spec PyProof.Rows L2
section
variable {P : Program} {w : World} {K : PySem.W.Frag} {mg : Str → Option Value} {base : Heap}
/-- the told number: staircases of what is reached, of what of it is lost -/
def rTold : Int → Nat → List Row → List Row → List Row → V → Hp → Prop := fun p n A W S v H => ∃ R G, Lin.Spans p n R (Lin.Sp p n (reachR p n A W)) ∧ Lin.Spans p n G (fun x => Lin.Sp p n (reachR p n A W) x ∧ blind p n A S x) ∧ v = .int ((R.length : Nat) - (G.length : Nat) : Int)
/-- asked of what may be no machine -/
def Asks (K : PySem.W.Frag) (C : Addr) (R : Int → Nat → List Row → List Row → List Row → V → Hp → Prop) : Sp := fun vs H Q E => ∃ v, vs = [v] ∧ ((∃ z, WP K H v (some z) ∧ ∀ d H', Ex H H' → H' d = some (.xd [("part", .str z)]) → E (.ref C) (some d) H') ∨
  ∃ (p : Int) (n : Nat) (A W S : List Row), WP K H v none ∧ MachT K p A W S v H ∧ MOk p n A W S ∧ Ret (R p n A W S) H Q)
theorem Asks.len {C : Addr} {R : Int → Nat → List Row → List Row → List Row → V → Hp → Prop} {vs : List V} {H : Hp} {Q : VK} {E : XK} (h : Asks K C R vs H Q E) : ∃ v, vs = [v] := by
  obtain ⟨v, rfl, _⟩ := h
  exact ⟨v, rfl⟩
theorem asks_go {C : Addr} {R : Int → Nat → List Row → List Row → List Row → V → Hp → Prop} {H : Hp} {Q : VK} {E : XK} {v : V} {X : Cx} {cc : TE} {t : TS} {D : Ends} (h : Asks K C R [v] H Q E)
    (hc : ∀ (Q' : VK) , spCheckM K C [v] H Q' E → cc [some v] H Q') (ht : ∀ (p : Int) (n : Nat) (A W S : List Row) (H1 : Hp), Ex H H1 → MachT K p A W S v H1 → MOk p n A W S → Ret (R p n A W S) H1 Q → t D [some v] H1) :
    tDrop cc { D with nx := t D } [some v] H := by
  obtain ⟨v', ev, h⟩ := h
  obtain rfl : v = v' := by simpa using ev
  refine hc _ ?_
  rcases h with ⟨z, hw, he⟩ | ⟨p, n, A, W, S, hw, hM, M, q⟩
  · exact ⟨v, some z, rfl, hw, he⟩
  · exact ⟨v, none, rfl, hw, fun x H1 e1 ex => ht p n A W S H1 e1 (hM.ex e1) M (q.go e1)⟩
end
end K01


set_option Elab.async false
set_option linter.all false
set_option maxRecDepth 100000
set_option maxHeartbeats 4000000
/-! The law of the parts: what stands beside what -/
namespace K01
open PySem PySem.Spec PyProof.Rows L2
section
variable {P : Program} {w : World} {K : PySem.W.Frag} {mg : Str → Option Value} {base : Heap}
theorem alike_row {r : Row} {v u : V} {H : Hp} (h : RowT K r v H) (h' : RowT K r u H) (hl : r.length ≤ 1000) : AlikeV K 1 v u H := by
  obtain ⟨a, rfl, ha⟩ := h
  obtain ⟨b, rfl, hb⟩ := h'
  refine .inr ⟨a, b, _, _, rfl, rfl, ha, hb, rfl, by rw [List.length_map]; exact hl, fun i u v e1 e2 => ?_⟩
  obtain ⟨x, hx, rfl⟩ := map_get e1
  obtain ⟨y, hy, rfl⟩ := map_get e2
  rw [hx] at hy
  exact ⟨x, rfl, by rw [Option.some.inj hy]⟩
theorem alike_rows {S : List Row} {v u : V} {H : Hp} (h : RowsT K S v H) (h' : RowsT K S u H) (hl : S.length ≤ 1000) (hr : ∀ r ∈ S, r.length ≤ 1000) : AlikeV K 2 v u H := by
  obtain ⟨a, xs, rfl, ha, pa⟩ := h
  obtain ⟨b, ys, rfl, hb, pb⟩ := h'
  have l1 := pr_len pa
  have l2 := pr_len pb
  refine .inr ⟨a, b, xs, ys, rfl, rfl, ha, hb, by omega, by omega, fun i x y e1 e2 => ?_⟩
  obtain ⟨r, hr1, hx⟩ := pr_get pa e1
  obtain ⟨r', hr2, hy⟩ := pr_get pb e2
  obtain rfl : r = r' := Option.some.inj (hr1.symm.trans hr2)
  exact alike_row hx hy (hr r (List.mem_of_getElem? hr1))
/-- apart from the drawer's row, or read in the written part -/
def Apt (K : PySem.W.Frag) (a c : Addr) (xs : List V) : Prop := c ≠ a ∨ SqL K (fun _ => none) c xs
theorem sqlN_up {c : Addr} {xs : List V} {H : Hp} (h : SqL K (fun _ => none) c xs) : SqL K H c xs := by
  rcases h with (h | ⟨_, h⟩) | h
  · cases h
  · cases h
  · exact .inr h
theorem apt_b {a c : Addr} {xs : List V} {H H' : Hp} (e : ExB a H H') (p : Apt K a c xs) (h : SqL K H c xs) : SqL K H' c xs := p.elim (fun n => sql_b e n h) fun q => sqlN_up q
theorem apt_rows {a sc c : Addr} {ns : List Int} {xs : List V} {L : List Row} {H : Hp} (r : Row0 K a sc ns H) (h : SqL K H c xs) (p : Paired (fun x r => RowT K r x H) xs L) : Apt K a c xs := by
  rcases h with (h | ⟨o, h⟩) | h
  · refine .inl fun z => ?_
    obtain ⟨i, sd, gr, ha, _⟩ := r
    rw [z, ha] at h
    have e : xs = [.ref sc, .int i, .int sd, .int gr] := by injection h with h; injection h with h; exact h.symm
    rw [e] at p
    obtain ⟨r', _, b, eb, _⟩ := pr_get p (i := 1) rfl
    cases eb
  · refine .inl fun z => ?_
    obtain ⟨i, sd, gr, ha, _⟩ := r
    rw [z, ha] at h
    cases h
  · exact .inr (.inr h)
def spPickW (K : PySem.W.Frag) : Sp := fun vs H Q _ => ∃ (a t sc : Addr) (ns : List Int) (xs : List V), vs = [.ref a, .ref t] ∧ Row0 K a sc ns H ∧ Apt K a t xs ∧ SqL K H t xs ∧ 1 ≤ xs.length ∧ xs.length ≤ 1000 ∧ ∀ (j : Nat) (v : V) H', xs[j]? = some v → ExB a H H' → Row0 K a sc ns H' → Q v H'
theorem ok_pickW {f : Addr} {fd : FuncData} (B : Bare mg) (F : Fun K "_law_pick" "_law_pick" s_law_pick f fd) (Gt : Got P w K mg base CX0 1 "_law_taken" p_law_taken (spTaken K)) : FnOk P w K mg base CX0 2 f fd p_law_pick (spPickW K) := by
  refine F.ok sc_law_pick (fun vs H Q E h => ?_) (fun cdv A outer s H vs Q E hr h => ?_)
  · obtain ⟨a, t, sc, ns, xs, rfl, _⟩ := h
    rfl
  · obtain ⟨a, t, sc, ns, xs, rfl, ha, nt, ht, h1, h2, q⟩ := h
    refine ⟨_, pss_one (ps_ret (pe_ix ix_list (pv 1) (pe_got Gt hr pass0 (pa_cons (pv 0) (pa_cons (pe_callB call_len_seq (by rfl) B.len PySem.boot_len (pa_cons (pv 1) pa_nil)) pa_nil))) (fun _ _ => rfl))), ?_⟩
    refine ⟨_, rfl, _, rfl, _, rfl, t, xs, rfl, .inl ht, a, sc, ns, _, rfl, ha, by omega, by omega, fun r H' r0 r1 e hr' => ?_⟩
    have hj : r.toNat < xs.length := by omega
    exact ⟨t, xs, r, xs[r.toNat], rfl, rfl, apt_b e nt ht, at_of (j := r.toNat) (by omega) (List.getElem?_eq_getElem hj), q _ _ _ (List.getElem?_eq_getElem hj) e hr'⟩
end
section
variable {p : Int} {n : Nat} {A W S L : List Row}
theorem MOk.prmL (M : MOk p n A W S) : Lin.Prm p := prm_of M.prm
theorem can_iff (M : MOk p n A W S) (lot : Lin.Lot p n (Lin.kry p A W 4) L) : ∀ v, v ∈ L ↔ Lin.Sp p n (reachR p n A W) v := fun v =>
  (lot.mem v).trans (Lin.kry_same M.p1 M.prmL M.oA M.lA M.oW M.n4 (Nat.le_succ n) v)
theorem never_iff (M : MOk p n A W S) : ∀ v, v ∈ dark p n A S ↔ blind p n A S v := fun v => by
  have hp0 : 0 < p := by have := M.p1; omega
  rw [mem_dark hp0]
  refine and_congr_right fun o => ?_
  refine (Lin.unseen_is M.p1 M.prmL M.oA M.lA M.oS M.n4 o).trans ?_
  exact Lin.perp_same hp0 (Lin.kry_ok hp0 Lin.tr_len M.oS) M.oLook (Lin.kry_same M.p1 M.prmL (Lin.tr_ok hp0 M.oA M.lA) Lin.tr_len M.oS M.n4 (Nat.le_succ n)) o.1
theorem dark_nd : (dark p n A S).Nodup := (Lin.all_nd n).filter _
theorem spans_stairs {F : List Row} {V1 : Row → Prop} {leads : List Nat} (hp : 1 < p) (h : Lin.Spans p n F V1) (nd : L.Nodup) (hL : ∀ v, v ∈ L ↔ V1 v) (srt : leads.Pairwise (· < ·)) (hm : ∀ a, a ∈ leads ↔ a ∈ (Lin.lawRows L).map Lin.lead) : Lin.lawStairs leads L = F :=
  Lin.stairs_of_space hp h.1 h.2 nd hL srt hm
theorem spans_count {F : List Row} {V1 : Row → Prop} (hp : 1 < p) (h : Lin.Spans p n F V1) (nd : L.Nodup) (hL : ∀ v, v ∈ L ↔ V1 v) : L.length = p.toNat ^ F.length := Lin.Space.count hp h.1 h.2 nd hL
theorem wp_good {K : PySem.W.Frag} {v : V} {G : Hp} (M : MOk p n A W S) (prm : isPrm (.int p) = true) (fA : Lin.Full p n A) (w1 : 1 ≤ W.length) (w4 : W.length ≤ 4) (s1 : 1 ≤ S.length) (s4 : S.length ≤ 4) (h : MachT K p A W S v G) : WP K G v none := by
  obtain ⟨m, a, w, s, rfl, h1, h2, h3, h4⟩ := h
  exact .good h1 prm ⟨h2, M.oA, M.lA, M.n1, M.n4, fA⟩ h3 M.oW w1 w4 h4 M.oS s1 s4
end
end K01


set_option Elab.async false
set_option linter.all false
set_option maxRecDepth 100000
set_option maxHeartbeats 4000000
namespace K01
open PySem PySem.Spec PyProof.Rows L2
/-! tables as data -/
def tabD (rs : List Row) : PyData := .tuple (rs.map rowD)
theorem rowD_eqv (r s : Row) : PyData.eqv (rowD r) (rowD s) = decide (r = s) := by
  unfold rowD
  rw [PyData.eqv, PySem.W.ked_eqvAll]
theorem tabD_all : ∀ rs ss : List Row, PyData.eqvAll (rs.map rowD) (ss.map rowD) = decide (rs = ss)
  | [], [] => rfl
  | [], _ :: _ => rfl
  | _ :: _, [] => rfl
  | r :: rs, s :: ss => by
    rw [List.map_cons, List.map_cons, PyData.eqvAll, rowD_eqv, tabD_all rs ss]
    by_cases h : r = s <;> by_cases h2 : rs = ss <;> simp [h, h2]
theorem tabD_eqv (rs ss : List Row) : PyData.eqv (tabD rs) (tabD ss) = decide (rs = ss) := by
  unfold tabD
  rw [PyData.eqv, tabD_all]
theorem tabD_shaped (rs : List Row) : SeqAt.shaped (tabD rs) = true := rowsD_shaped rs
theorem tabD_dp {K : PySem.W.Frag} {H : Hp} {rs : List Row} {v : V} (h : RowsT K rs v H) : Dp K H v (tabD rs) := by
  obtain ⟨a, xs, rfl, ha, pa⟩ := h
  exact .tup ha (rowsD_dp pa)
section
variable {P : Program} {w : World} {K : PySem.W.Frag} {mg : Str → Option Value} {base : Heap}
/-- the table that stirs so many times -/
def spOften (K : PySem.W.Frag) : Sp := fun vs H Q _ => ∃ (p : Int) (n : Nat) (v : V) (A : List Row) (t : Nat), vs = [.int p, v, .int (t : Nat)] ∧ RowsT K A v H ∧ 1 < p ∧ p ≤ 100 ∧ 1 ≤ n ∧ n ≤ 8 ∧ Lin.Oks p n A ∧ A.length = n ∧ Ret (RowsT K (Lin.pw p n A t)) H Q
theorem ok_often {f : Addr} {fd : FuncData} (B : Bare mg) (F : Fun K "stirred_often" "stirred_often" s_stirred_often f fd) (Gs : Got P w K mg base CX0 1 "still" p_still (spStill K)) (Gb : Got P w K mg base CX0 3 "stirred_by_both" p_stirred_by_both (spBoth K)) : FnOk P w K mg base CX0 4 f fd p_stirred_often (spOften K) := by
  refine F.ok sc_stirred_often (fun vs H Q E h => ?_) (fun cdv Ar outer s H vs Q E hr h => ?_)
  · obtain ⟨p, n, v, A, t, rfl, _⟩ := h
    rfl
  · obtain ⟨p, n, v, A, t, rfl, hA, h1, h2, n1, n8, oA, lA, q⟩ := h
    have hr1 : Room 1 _ := hr.mono (by decide)
    have hp0 : 0 < p := by omega
    refine ⟨_, pss_cons (ps_set (i := 3) sc_stirred_often.nd rfl (Or.inl rfl) (pe_got Gs hr1 pass0 (pa_cons (pe_callB call_len_seq (by rfl) B.len PySem.boot_len (pa_cons (pv 1) pa_nil)) pa_nil)))
      (pss_cons (ps_while PassesOwn.never (pt_cmpR op_gt (pv 2) pe_int (nomark _))
        (pss_cons (ps_if (pt_cmpR op_eq (pe_op op_modN (pv 2) pe_int) pe_int (nomark _)) (pss_one (ps_set (i := 3) sc_stirred_often.nd rfl (Or.inl rfl) (pe_got Gb hr pass0 (pa_cons (pv 0) (pa_cons (pv 1) (pa_cons (pv 3) pa_nil)))))) pss_nil)
        (pss_cons (ps_set (i := 1) sc_stirred_often.nd rfl (Or.inl rfl) (pe_got Gb hr pass0 (pa_cons (pv 0) (pa_cons (pv 1) (pa_cons (pv 1) pa_nil)))))
        (pss_one (ps_set (i := 2) sc_stirred_often.nd rfl (Or.inl rfl) (pe_op op_fdivN (pv 2) pe_int))))))
      (pss_one (ps_ret (pv 3)))), ?_⟩
    obtain ⟨ab, aus, rfl, hab, pab⟩ := id hA
    have la : aus.length = n := (pr_len pab).trans lA
    refine ⟨_, rfl, ab, aus, rfl, .inr hab, n, (by rw [la]; rfl), by omega, fun z0 H0 e0 hz0 => ?_⟩
    refine while_by (fun σ' H' => ∃ (v' u' : V) (d e m : Nat), σ' = [some (.int p), some v', some (.int (m : Nat)), some u'] ∧ Ex H H' ∧ RowsT K (Lin.pw p n A e) v' H' ∧ RowsT K (Lin.pw p n A d) u' H' ∧ d + e * m = t) (fun σ' _ => match σ' with | [_, _, some (.int m), _] => m.toNat | _ => 0)
      ⟨.ref ab, z0, 0, 1, t, rfl, e0, by rw [Lin.pw_one h1 oA lA]; exact hA.ex e0, hz0, by omega⟩ (fun σ' H' p' => ?_) ?_
    · obtain ⟨v', u', d, e, m, rfl, eG, hC, hu, hd⟩ := p'
      have okp := Lin.pw_ok (p := p) (n := n) (A := A) h1 lA e
      have okd := Lin.pw_ok (p := p) (n := n) (A := A) h1 lA d
      refine ⟨_, rfl, _, _, rfl, rfl, _, rfl, ite2 (fun c => ?_) (fun c => ?_)⟩
      · have mp : 0 < m := by have := of_decide_eq_true c; omega
        have dv : (m : Int).fdiv 2 = ((m / 2 : Nat) : Int) := by rw [Int.fdiv_eq_ediv_of_nonneg _ (by decide)]; omega
        have dm : (m : Int).fmod 2 = ((m % 2 : Nat) : Int) := by rw [Int.fmod_eq_emod_of_nonneg _ (by decide)]; omega
        refine ⟨_, rfl, _, _, rfl, rfl, (show (2 : Int) ≠ 0 by decide), rfl, _, rfl, ite2 (fun c2 => ?_) (fun c2 => ?_)⟩
        · have odd : m % 2 = 1 := by have := yeq c2; omega
          refine ⟨_, rfl, _, rfl, _, rfl, p, n, v', u', Lin.pw p n A e, Lin.pw p n A d, rfl, hC.ex (_root_.Evl.Ex.refl _), hu.ex (_root_.Evl.Ex.refl _), h1, h2, n1, n8, okp.1, okp.2, okd.1, okd.2, fun z H2 e2 hz => ?_⟩
          rw [Lin.pw_add h1 oA lA] at hz
          have ed : e + d + (e + e) * (m / 2) = t := by
            have : m = 2 * (m / 2) + 1 := by omega
            rw [← hd]
            conv => rhs; rw [this]
            rw [Nat.mul_add, Nat.mul_one, ← Nat.mul_assoc, Nat.mul_comm e 2, Nat.two_mul]
            omega
          refine ⟨_, rfl, _, rfl, _, rfl, p, n, v', v', Lin.pw p n A e, Lin.pw p n A e, rfl, hC.ex e2, hC.ex e2, h1, h2, n1, n8, okp.1, okp.2, okp.1, okp.2, fun v3 H3 e3 h3 => ?_⟩
          rw [Lin.pw_add h1 oA lA] at h3
          refine ⟨_, rfl, _, _, rfl, rfl, (by constructor <;> decide), ?_⟩
          refine ⟨⟨v3, z, e + d, e + e, m / 2, (show [some (.int p), some v3, some (.int ((m : Int).fdiv 2)), some z] = _ by rw [dv]), eG.trans (e2.trans e3), h3, hz.ex e3, ed⟩, ?_⟩
          show ((m : Int).fdiv 2).toNat < ((m : Nat) : Int).toNat
          rw [dv]
          omega
        · have evn : m % 2 = 0 := by have := yne c2; omega
          have ed : d + (e + e) * (m / 2) = t := by
            have : m = 2 * (m / 2) := by omega
            rw [← hd]
            conv => rhs; rw [this]
            rw [← Nat.mul_assoc, Nat.mul_comm e 2, Nat.two_mul]
          refine ⟨_, rfl, _, rfl, _, rfl, p, n, v', v', Lin.pw p n A e, Lin.pw p n A e, rfl, hC.ex (_root_.Evl.Ex.refl H'), hC.ex (_root_.Evl.Ex.refl H'), h1, h2, n1, n8, okp.1, okp.2, okp.1, okp.2, fun v3 H3 e3 h3 => ?_⟩
          rw [Lin.pw_add h1 oA lA] at h3
          refine ⟨_, rfl, _, _, rfl, rfl, (by constructor <;> decide), ?_⟩
          refine ⟨⟨v3, u', d, e + e, m / 2, (show [some (.int p), some v3, some (.int ((m : Int).fdiv 2)), some u'] = _ by rw [dv]), eG.trans ((_root_.Evl.Ex.refl H').trans e3), h3, hu.ex e3, ed⟩, ?_⟩
          show ((m : Int).fdiv 2).toNat < ((m : Nat) : Int).toNat
          rw [dv]
          omega
      · have m0 : m = 0 := by
          have : ¬ (0 : Int) < (m : Int) := fun z => c (decide_eq_true z)
          omega
        subst m0
        refine ⟨_, rfl, q _ _ eG ?_⟩
        have : d = t := by omega
        rw [← this]
        exact hu
    · intro σ' H' Q1 Q2 i h
      obtain ⟨v1, z1, i1, j1, r1, r2, b, r3, r4⟩ := h
      exact ⟨v1, z1, i1, j1, r1, r2, b, r3, i _ _ r4⟩
end
end K01
namespace K01
open PySem PySem.Spec PyProof.Rows L2
section
variable {P : Program} {w : World} {K : PySem.W.Frag} {mg : Str → Option Value} {base : Heap}
def spCheckN (C : Addr) : Sp := fun vs H Q E => ∃ (x : V) (lo hi : Int), vs = [x, .int lo, .int hi] ∧ Flt x ∧ (isNum lo hi x = true → Ret (IsV .non) H Q) ∧ (isNum lo hi x = false → ∀ H', Ex H H' → E (.ref C) none H')
theorem ok_checkN {f C : Addr} {fd : FuncData} (F : Fun K "check_number" "check_number" s_check_number f fd) (Gp : Got P w K mg base CX0 1 "is_number" p_is_number spNumber) (Ec : ErrC K mg "BadNumber" C) : FnOk P w K mg base (L2.CX P w) 3 f fd p_check_number (spCheckN C) := by
  refine F.okX sc_check_number (fun vs H Q E h => ?_) (fun cdv A outer s H vs Q E hr h => ?_)
  · obtain ⟨x, lo, hi, rfl, _⟩ := h
    rfl
  · obtain ⟨x, lo, hi, rfl, hx, q1, q2⟩ := h
    refine ⟨_, pss_one (ps_if (pt_not (pt_val (pe_got Gp (hr.mono (by decide)) pass0 (pa_cons (pv 0) (pa_cons (pv 1) (pa_cons (pv 2) pa_nil)))))) (pss_one (ps_raise rfl (takes_of rfl rfl rfl rfl) (pmk_own0 PySem.F.excBase_ValueError Ec.xC Ec.gC Ec.kC (raises_own Ec.bC Ec.tC) rfl))) pss_nil), ?_⟩
    refine ⟨_, rfl, _, rfl, _, rfl, x, lo, hi, rfl, hx, fun z H1 e1 ez => ?_⟩
    cases (show z = _ from ez)
    refine ⟨_, rfl, ite2 (fun c => ?_) (fun c => ?_)⟩
    · exact q2 (by simpa using c) _ e1
    · exact q1 (by simpa using c) _ _ e1 rfl
def spCheckMem (K : PySem.W.Frag) (C : Addr) : Sp := fun vs H Q E => ∃ (p : Int) (n : Nat) (v u : V) (A W S : List Row) (fs : List V), vs = [v, u] ∧ MachT K p A W S v H ∧ A.length = n ∧ TupF K fs u H ∧ (∀ x ∈ fs, Flt x) ∧ fs.length ≤ 1000 ∧ (isRowB p (n : Nat) fs = true → Ret (IsV .non) H Q) ∧ (isRowB p (n : Nat) fs = false → ∀ H', Ex H H' → E (.ref C) none H')
theorem ok_checkMem {f C : Addr} {fd : FuncData} (B : Bare mg) (F : Fun K "check_memory" "check_memory" s_check_memory f fd) (Gr : Got P w K mg base CX0 2 "is_row" p_is_row (spIsRow K)) (Ec : ErrC K mg "BadMemory" C) : FnOk P w K mg base (L2.CX P w) 3 f fd p_check_memory (spCheckMem K C) := by
  refine F.okX sc_check_memory (fun vs H Q E h => ?_) (fun cdv Ar outer s H vs Q E hr h => ?_)
  · obtain ⟨p, n, v, u, A, W, S, fs, rfl, _⟩ := h
    rfl
  · obtain ⟨p, n, v, u, A, W, S, fs, rfl, hM, lA, hT, hF, hl, q1, q2⟩ := h
    refine ⟨_, pss_one (ps_if (pt_not (pt_val (pe_got Gr hr pass0 (pa_cons (pe_ix ix_tup (pv 0) pe_int (fun _ _ => rfl)) (pa_cons (pv 1) (pa_cons (pe_callB call_len_seq (by rfl) B.len PySem.boot_len (pa_cons (pe_ix ix_tup (pv 0) pe_int (fun _ _ => rfl)) pa_nil)) pa_nil)))))) (pss_one (ps_raise rfl (takes_of rfl rfl rfl rfl) (pmk_own0 PySem.F.excBase_ValueError Ec.xC Ec.gC Ec.kC (raises_own Ec.bC Ec.tC) rfl))) pss_nil), ?_⟩
    obtain ⟨m, a, w', s', rfl, hm, ⟨ab, aus, rfl, hab, pab⟩, hW, hS⟩ := hM
    have la : aus.length = n := (pr_len pab).trans lA
    refine ⟨_, rfl, m, _, _, _, rfl, rfl, hm, at_of (j := 0) rfl rfl, _, rfl, _, rfl, m, _, _, _, rfl, rfl, hm, at_of (j := 1) rfl rfl, ab, aus, rfl, .inr hab, ?_⟩
    refine ⟨p, u, fs, _, rfl, hT, hF, hl, fun z H1 e1 ez => ?_⟩
    cases (show z = _ from ez)
    rw [la]
    refine ⟨_, rfl, ite2 (fun c => ?_) (fun c => ?_)⟩
    · exact q2 (by simpa using c) _ e1
    · exact q1 (by simpa using c) _ _ e1 rfl
/-- behind so many ticks; a memory that is none -/
def spBehind (K : PySem.W.Frag) (CM : Addr) : Sp := fun vs H Q E => ∃ (p : Int) (n : Nat) (v u : V) (A W S : List Row) (fs : List V) (t : Nat), vs = [v, u, .int (t : Nat)] ∧ WP K H v none ∧ MachT K p A W S v H ∧ MOk p n A W S ∧ TupF K fs u H ∧ (∀ x ∈ fs, Flt x) ∧ fs.length ≤ 1000 ∧
  ((isRowB p (n : Nat) fs = false ∧ ∀ H', Ex H H' → E (.ref CM) none H') ∨ ∃ r : Row, fs = r.map V.int ∧ Lin.OkR p n r ∧ t ≤ 100000 ∧ Ret (RowT K (Lin.it p A t r)) H Q)
theorem isRowB_of {p : Int} {n : Nat} {r : Row} (h : Lin.OkR p n r) : isRowB p (n : Nat) (r.map V.int) = true := by
  unfold isRowB
  rw [List.length_map, h.1, decide_eq_true rfl, Bool.true_and, List.all_map, List.all_eq_true]
  intro x hx
  have := h.2 x hx
  simp [isNum]
  omega
theorem ok_behind {f CB CM : Addr} {fd : FuncData} {tk : Tok} (F : Fun K "behind_ticks" "behind_ticks" s_behind_ticks f fd) (G1 : Got P w K mg base (L2.CX P w) 8 "check_machine" p_check_machine (spCheckM K CB)) (G2 : Got P w K mg base (L2.CX P w) 3 "check_memory" p_check_memory (spCheckMem K CM)) {CN : Addr}
    (G3 : Got P w K mg base (L2.CX P w) 3 "check_number" p_check_number (spCheckN CN)) (G4 : Got P w K mg base CX0 4 "stirred_often" p_stirred_often (spOften K)) (G5 : Got P w K mg base CX0 2 "stirred" p_stirred (spPStirred K)) (gT : mg "MOST_TICKS" = some (.int 100000 tk)) : FnOk P w K mg base (L2.CX P w) 9 f fd p_behind_ticks (spBehind K CM) := by
  refine F.okX sc_behind_ticks (fun vs H Q E h => ?_) (fun cdv Ar outer s H vs Q E hr h => ?_)
  · obtain ⟨p, n, v, u, A, W, S, fs, t, rfl, _⟩ := h
    rfl
  · obtain ⟨p, n, v, u, A, W, S, fs, t, rfl, hw, hM, M, hT, hF, hl, h⟩ := h
    refine ⟨_, pss_cons (ps_expr (pe_got G1 hr (passes_call (takes_of rfl rfl rfl rfl) fun _ _ _ _ z => z) (pa_cons (pv 0) pa_nil)))
      (pss_cons (ps_expr (pe_got G2 (hr.mono (by decide)) (passes_call (takes_of rfl rfl rfl rfl) fun _ _ _ _ z => z) (pa_cons (pv 0) (pa_cons (pv 1) pa_nil))))
      (pss_cons (ps_expr (pe_got G3 (hr.mono (by decide)) (passes_call (takes_of rfl rfl rfl rfl) fun _ _ _ _ z => z) (pa_cons (pv 2) (pa_cons pe_int (pa_cons (pe_glob (by rfl) gT (v := .int 100000) ⟨_, rfl⟩) pa_nil)))))
      (pss_one (ps_ret (pe_got G5 (hr.mono (by decide)) pass0 (pa_cons (pe_ix ix_tup (pv 0) pe_int (fun _ _ => rfl)) (pa_cons (pe_got G4 (hr.mono (by decide)) pass0 (pa_cons (pe_ix ix_tup (pv 0) pe_int (fun _ _ => rfl)) (pa_cons (pe_ix ix_tup (pv 0) pe_int (fun _ _ => rfl)) (pa_cons (pv 2) pa_nil)))) (pa_cons (pv 1) pa_nil)))))))), ?_⟩
    have hM0 := hM
    refine ⟨_, rfl, v, none, rfl, hw, fun z H1 e1 ez => ?_⟩
    have hM1 := hM.ex e1
    refine ⟨_, rfl, _, rfl, p, n, v, u, A, W, S, fs, rfl, hM1, M.lA, hT.ex e1, hF, hl, fun okk z2 H2 e2 ez2 => ?_, fun bad H' e' => ?_⟩
    · rcases h with ⟨bad, _⟩ | ⟨r, rfl, oR, ht, q⟩
      · rw [bad] at okk
        cases okk
      · refine ⟨_, rfl, .int (t : Nat), 0, 100000, rfl, .int _, fun _ z3 H3 e3 ez3 => ?_, fun no => ?_⟩
        · have e03 := (e1.trans e2).trans e3
          obtain ⟨m, a, w', s', rfl, hm, hA, hW, hS⟩ := hM.ex e03
          have okp := Lin.pw_ok (p := p) (n := n) (A := A) M.p1 M.lA t
          refine ⟨_, rfl, m, _, _, _, rfl, rfl, hm, at_of (j := 0) rfl rfl, _, rfl, m, _, _, _, rfl, rfl, hm, at_of (j := 0) rfl rfl, _, rfl, m, _, _, _, rfl, rfl, hm, at_of (j := 1) rfl rfl, _, rfl, p, n, a, A, t, rfl, hA, M.p1, M.p2, M.n1, by have := M.n4; omega, M.oA, M.lA, fun v4 H4 e4 h4 => ?_⟩
          refine ⟨_, rfl, p, n, v4, u, Lin.pw p n A t, r, rfl, .inr h4, (TupF.ex (e03.trans e4) hT : RowT K r u H4), M.p1, M.p2, by have := M.n4; omega, okp.1, by have := M.n4; omega, oR, ?_⟩
          rw [Lin.app_pw M.p1 M.oA M.lA oR]
          exact q.go (e03.trans e4)
        · have : isNum 0 100000 (.int (t : Nat)) = true := by simp [isNum]; omega
          rw [this] at no
          cases no
    · rcases h with ⟨_, q⟩ | ⟨r, rfl, oR, ht, q⟩
      · exact q _ (e1.trans e')
      · rw [isRowB_of oR] at bad
        cases bad
/-- the round -/
def Rnd (p : Int) (n : Nat) (A : List Row) (v : V) (_ : Hp) : Prop := ∃ t : Nat, v = .int (t : Nat) ∧ 1 ≤ t ∧ Lin.pw p n A t = Lin.units n ∧ ∀ s, 1 ≤ s → s < t → Lin.pw p n A s ≠ Lin.units n
def rTurns : Int → Nat → List Row → List Row → List Row → V → Hp → Prop := fun p n A W S v H => Rnd p n A v H
theorem round_of {p : Int} {n : Nat} {A : List Row} (hp : 1 < p) (P_ : Lin.Prm p) (oA : Lin.Oks p n A) (lA : A.length = n) (f : Lin.Full p n A) : ∃ t, 1 ≤ t ∧ Lin.pw p n A t = Lin.units n ∧ ∀ s, 1 ≤ s → s < t → Lin.pw p n A s ≠ Lin.units n := by
  obtain ⟨S, rS, sS⟩ := Lin.exists_rref hp P_ oA
  exact Lin.round hp oA lA rS ((Lin.full_rank hp rS sS).1 f) sS
/-- asked of a machine that can be undone -/
def AsksF (K : PySem.W.Frag) (C : Addr) (R : Int → Nat → List Row → List Row → List Row → V → Hp → Prop) : Sp := fun vs H Q E => ∃ v, vs = [v] ∧ ((∃ z, WP K H v (some z) ∧ ∀ d H', Ex H H' → H' d = some (.xd [("part", .str z)]) → E (.ref C) (some d) H') ∨
  ∃ (p : Int) (n : Nat) (A W S : List Row), WP K H v none ∧ MachT K p A W S v H ∧ MOk p n A W S ∧ Lin.Full p n A ∧ Ret (R p n A W S) H Q)
theorem ok_turns {f C : Addr} {fd : FuncData} (B : Bare mg) (F : Fun K "turns" "turns" s_turns f fd) (Gc : Got P w K mg base (L2.CX P w) 8 "check_machine" p_check_machine (spCheckM K C)) (Gs : Got P w K mg base CX0 1 "still" p_still (spStill K)) (Gb : Got P w K mg base CX0 3 "stirred_by_both" p_stirred_by_both (spBoth K)) :
    FnOk P w K mg base (L2.CX P w) 9 f fd p_turns (AsksF K C rTurns) := by
  refine F.okX sc_turns (fun vs H Q E h => ?_) (fun cdv Ar outer s H vs Q E hr h => ?_)
  · obtain ⟨v, rfl, _⟩ := h
    rfl
  · obtain ⟨v, rfl, h⟩ := h
    refine ⟨_, pss_cons (ps_expr (pe_got Gc hr (passes_call (takes_of rfl rfl rfl rfl) fun _ _ _ _ z => z) (pa_cons (pv 0) pa_nil)))
      (pss_cons (ps_par (i := 1) (j := 2) rfl sc_turns.nd rfl rfl (by decide) rfl rfl (pa_cons (pe_ix ix_tup (pv 0) pe_int (fun _ _ => rfl)) (pa_cons (pe_ix ix_tup (pv 0) pe_int (fun _ _ => rfl)) pa_nil)) (by rfl))
      (pss_cons (ps_set (i := 3) sc_turns.nd rfl (Or.inl rfl) (pe_got Gs (hr.mono (by decide)) pass0 (pa_cons (pe_callB call_len_seq (by rfl) B.len PySem.boot_len (pa_cons (pv 2) pa_nil)) pa_nil)))
      (pss_cons (ps_set (i := 4) sc_turns.nd rfl (Or.inl rfl) (pv 2))
      (pss_cons (ps_set (i := 5) sc_turns.nd rfl (Or.inl rfl) pe_int)
      (pss_cons (ps_while (passes_of rfl) (pt_cmpR (op_neD hr.units) (pv 4) (pv 3) (nomark _))
        (pss_cons (ps_set (i := 4) sc_turns.nd rfl (Or.inl rfl) (pe_got Gb (hr.mono (by decide)) pass0 (pa_cons (pv 1) (pa_cons (pv 2) (pa_cons (pv 4) pa_nil)))))
        (pss_one (ps_aug (i := 5) sc_turns.nd rfl (Or.inl rfl) pe_int ip_add))))
      (pss_one (ps_ret (pv 5)))))))), ?_⟩
    rcases h with ⟨z, hw, he⟩ | ⟨p, n, A, W, S, hw, hM, M, fA, q⟩
    · exact ⟨_, rfl, v, some z, rfl, hw, he⟩
    · refine ⟨_, rfl, v, none, rfl, hw, fun z H1 e1 ez => ?_⟩
      obtain ⟨m, a, w', s', rfl, hm, hA, hW, hS⟩ := hM.ex e1
      obtain ⟨ab, aus, rfl, hab, pab⟩ := id hA
      have la : aus.length = n := (pr_len pab).trans M.lA
      have n4 := M.n4
      have n1 := M.n1
      have p1 := M.p1
      obtain ⟨T, T1, T2, T3⟩ := round_of p1 (prm_of M.prm) M.oA M.lA fA
      refine ⟨_, rfl, m, _, _, _, rfl, rfl, hm, at_of (j := 0) rfl rfl, _, rfl, m, _, _, _, rfl, rfl, hm, at_of (j := 1) rfl rfl, _, _, rfl, ?_⟩
      refine ⟨_, rfl, ab, aus, rfl, .inr hab, n, (by rw [la]; rfl), by omega, fun z2 H2 e2 hz2 => ?_⟩
      refine ⟨_, rfl, ?_⟩
      refine while_by (fun σ' H' => ∃ (v' : V) (t : Nat), σ' = [some (.ref m), some (.int p), some (.ref ab), some z2, some v', some (.int (t : Nat))] ∧ Ex H2 H' ∧ RowsT K (Lin.pw p n A t) v' H' ∧ 1 ≤ t ∧ t ≤ T) (fun σ' _ => match σ' with | [_, _, _, _, _, some (.int t)] => T - t.toNat | _ => 0)
        ⟨.ref ab, 1, rfl, _root_.Evl.Ex.refl _, by rw [Lin.pw_one p1 M.oA M.lA]; exact hA.ex e2, Nat.le_refl _, T1⟩ (fun σ' H' p' => ?_) ?_
      · obtain ⟨v', t, rfl, eG, hC, t1, t2⟩ := p'
        have okp := Lin.pw_ok (p := p) (n := n) (A := A) p1 M.lA t
        refine ⟨_, rfl, _, rfl, tabD (Lin.pw p n A t), tabD (Lin.units n), tabD_dp hC, tabD_dp (hz2.ex eG), tabD_shaped _, tabD_shaped _, _, rfl, ?_⟩
        rw [tabD_eqv]
        refine ite2 (fun c => ?_) (fun c => ?_)
        · have ne : Lin.pw p n A t ≠ Lin.units n := by simpa using c
          have lt : t < T := Nat.lt_of_le_of_ne t2 fun z => ne (by rw [z]; exact T2)
          refine ⟨_, rfl, _, rfl, _, rfl, p, n, .ref ab, v', A, Lin.pw p n A t, rfl, (hA.ex e2).ex eG, hC, p1, M.p2, n1, by omega, M.oA, M.lA, okp.1, okp.2, fun z3 H3 e3 hz3 => ?_⟩
          have pe : Lin.behind p n A (Lin.pw p n A t) = Lin.pw p n A (t + 1) := by
            have := Lin.pw_add (p := p) (n := n) (A := A) p1 M.oA M.lA 1 t
            rw [Lin.pw_one p1 M.oA M.lA] at this
            rw [this, Nat.add_comm]
          rw [pe] at hz3
          refine ⟨_, rfl, _, _, rfl, rfl, ⟨z3, t + 1, rfl, eG.trans e3, hz3, by omega, lt⟩, ?_⟩
          show T - ((t : Int) + 1).toNat < T - ((t : Nat) : Int).toNat
          omega
        · have eq : Lin.pw p n A t = Lin.units n := by simpa using c
          exact ⟨_, rfl, q _ _ ((e1.trans e2).trans eG) ⟨t, rfl, t1, eq, fun s s1 s2 => T3 s s1 (by omega)⟩⟩
      · intro σ' H' Q1 Q2 i h
        obtain ⟨v1, z1, v2, z2', d1, d2, r1, r2, r3, r4, b, r5, r6⟩ := h
        exact ⟨v1, z1, v2, z2', d1, d2, r1, r2, r3, r4, b, r5, i _ _ r6⟩
end
end K01


set_option Elab.async false
set_option linter.all false
/-! Instructions, where gos lead -/
namespace Prg
inductive Wd | get | plus | minus | add | take | put | wait | say | ask | zero | go | stop
  deriving DecidableEq, Repr
/-- a word and its number (nought where it has none) -/
abbrev Ins := Wd × Nat
def bare : Wd → Bool
  | .wait | .say | .ask | .stop => true
  | _ => false
def see : Wd → Bool
  | .get | .plus | .minus => true
  | _ => false
def wri : Wd → Bool
  | .add | .take => true
  | _ => false
def mark : Wd → Bool
  | .say | .ask | .zero => true
  | _ => false
section
variable (P : List Ins)
def word (i : Nat) : Option Wd := P[i]?.map Prod.fst
def num (i : Nat) : Nat := (P[i]?.map Prod.snd).getD 0
def isGo (i : Nat) : Bool := word P i == some .go
def stp (i : Nat) : Nat := if isGo P i = true then num P i else i
def it : Nat → Nat → Nat
  | 0, i => i
  | k + 1, i => it k (stp P i)
def fin (i : Nat) : Nat := if i < P.length ∧ word P i ≠ some .stop ∧ word P i ≠ some .go then i else P.length
/-- with which instruction it goes on at i; the end stands for none -/
def land (i : Nat) : Nat := fin P (it P (P.length + 1) i)
variable {P}
theorem isGo_lt {i : Nat} (h : isGo P i = true) : i < P.length := by
  unfold isGo word at h
  cases e : P[i]? with
  | none => rw [e] at h; simp at h
  | some x => exact (List.getElem?_eq_some_iff.mp e).1
theorem stp_no {i : Nat} (h : isGo P i = false) : stp P i = i := by unfold stp; rw [if_neg (by rw [h]; simp)]
theorem stp_go {i : Nat} (h : isGo P i = true) : stp P i = num P i := by unfold stp; rw [if_pos h]
theorem it_no {i : Nat} (h : isGo P i = false) : ∀ k, it P k i = i
  | 0 => rfl
  | k + 1 => by show it P k (stp P i) = i; rw [stp_no h]; exact it_no h k
theorem it_add (a b i : Nat) : it P (a + b) i = it P b (it P a i) := by
  induction a generalizing i with
  | zero => rw [Nat.zero_add]; rfl
  | succ a ih => rw [Nat.succ_add]; exact ih (stp P i)
theorem it_fix {i k m : Nat} (h : isGo P (it P k i) = false) (hm : k ≤ m) : it P m i = it P k i := by
  obtain ⟨d, rfl⟩ := Nat.exists_eq_add_of_le hm
  rw [it_add, it_no h]
theorem pigeon {f : Nat → Nat} {n : Nat} (h : ∀ a, a ≤ n → f a < n) : ∃ a b, a < b ∧ b ≤ n ∧ f a = f b := by
  refine Classical.byContradiction fun no => ?_
  have inj : ∀ a b, a < b → b ≤ n → f a ≠ f b := fun a b h1 h2 e => no ⟨a, b, h1, h2, e⟩
  have nd : ((List.range (n + 1)).map f).Nodup := by
    rw [List.Nodup, List.pairwise_map]
    refine (List.pairwise_lt_range (n := n + 1)).imp_of_mem fun {a b} ha hb hab => ?_
    exact inj a b hab (by have := List.mem_range.mp hb; omega)
  have sub : ∀ x ∈ (List.range (n + 1)).map f, x ∈ List.range n := fun x hx => by
    obtain ⟨a, ha, rfl⟩ := List.mem_map.mp hx
    exact List.mem_range.mpr (h a (by have := List.mem_range.mp ha; omega))
  have hl : ((List.range (n + 1)).map f).length ≤ (List.range n).length := Lin.nd_len nd sub
  rw [List.length_map, List.length_range, List.length_range] at hl
  omega
/-- where gos end at all, they end within as many steps as there are instructions -/
theorem go_ends {i : Nat} (h : ∃ k, isGo P (it P k i) = false) : isGo P (it P P.length i) = false := by
  obtain ⟨k, hk⟩ := h
  induction k using Nat.strongRecOn with
  | ind k ih =>
    by_cases e : k ≤ P.length
    · rw [it_fix hk e]; exact hk
    · by_cases all : ∀ a, a ≤ P.length → isGo P (it P a i) = true
      · obtain ⟨a, b, h1, h2, h3⟩ := pigeon (f := fun a => it P a i) (n := P.length) fun a ha => isGo_lt (all a ha)
        have h3 : it P a i = it P b i := h3
        refine ih (a + (k - b)) (by omega) ?_
        rw [it_add, h3, ← it_add, show b + (k - b) = k by omega]
        exact hk
      · obtain ⟨a, ha⟩ := Classical.not_forall.mp all
        obtain ⟨h1, h2⟩ := Classical.not_imp.mp ha
        have h2 : isGo P (it P a i) = false := by simpa using h2
        rw [it_fix h2 h1]
        exact h2
theorem land_no {i : Nat} (h : isGo P i = false) : land P i = fin P i := by unfold land; rw [it_no h]
theorem land_go {i : Nat} (h : isGo P i = true) : land P i = land P (num P i) := by
  unfold land
  have e : it P (P.length + 1) i = it P P.length (num P i) := by show it P P.length (stp P i) = _; rw [stp_go h]
  rw [e]
  by_cases g : isGo P (it P P.length (num P i)) = false
  · rw [it_fix g (Nat.le_succ _)]
  · have g' : isGo P (it P P.length (num P i)) = true := by simpa using g
    have n1 : isGo P (it P (P.length + 1) (num P i)) = true := by
      refine Classical.byContradiction fun q => g ?_
      exact go_ends ⟨P.length + 1, by simpa using q⟩
    unfold fin
    rw [if_neg, if_neg]
    · rintro ⟨_, _, q⟩
      unfold isGo at n1
      exact q (by simpa using n1)
    · rintro ⟨_, _, q⟩
      unfold isGo at g'
      exact q (by simpa using g')
/-- gos that come round lead nowhere -/
theorem land_cyc {i k : Nat} (hk : 0 < k) (h : it P k i = i) (g : isGo P i = true) : land P i = P.length := by
  have all : ∀ m, isGo P (it P m i) = true := fun m => by
    refine Classical.byContradiction fun q => ?_
    have q : isGo P (it P m i) = false := by simpa using q
    have r : ∀ j, it P (k * j) i = i := fun j => by
      induction j with
      | zero => rfl
      | succ j ih => rw [Nat.mul_succ, it_add, ih, h]
    have : it P (k * m) i = it P m i := it_fix q (Nat.le_mul_of_pos_left m hk)
    rw [r m] at this
    rw [← this, g] at q
    cases q
  unfold land fin
  rw [if_neg]
  rintro ⟨_, _, q⟩
  have := all (P.length + 1)
  unfold isGo at this
  exact q (by simpa using this)
theorem land_le (i : Nat) : land P i ≤ P.length := by
  unfold land fin
  split
  · rename_i h; omega
  · exact Nat.le_refl _
theorem land_end : land P P.length = P.length := by
  have : isGo P P.length = false := by
    cases e : isGo P P.length with
    | false => rfl
    | true => exact absurd (isGo_lt e) (Nat.lt_irrefl _)
  rw [land_no this]
  unfold fin
  rw [if_neg (by omega)]
/-- what stands where it lands -/
theorem land_word {i : Nat} (h : land P i < P.length) : word P (land P i) ≠ some .stop ∧ word P (land P i) ≠ some .go := by
  unfold land fin at h ⊢
  split
  · rename_i q; exact q.2
  · rename_i q; rw [if_neg q] at h; omega
end
end Prg


set_option Elab.async false
set_option linter.all false
set_option maxRecDepth 100000
set_option maxHeartbeats 4000000
/-! What instructions must be like -/
namespace K01
open PySem PySem.Spec PyProof.Rows L2
def wstr : Prg.Wd → Str
  | .get => "get" | .plus => "plus" | .minus => "minus" | .add => "add" | .take => "take" | .put => "put" | .wait => "wait" | .say => "say" | .ask => "ask" | .zero => "zero" | .go => "go" | .stop => "stop"
/-- what may stand for an instruction -/
inductive IV | num (i : Int) | one (w : Prg.Wd) | two (w : Prg.Wd) (k : Int)
def IVof (K : PySem.W.Frag) : IV → V → Hp → Prop
  | .num i, v, _ => v = .int i
  | .one w, v, H => TupF K [.str (wstr w)] v H
  | .two w k, v, H => TupF K [.str (wstr w), .int k] v H
theorem IVof.ex {K : PySem.W.Frag} {H H' : Hp} (e : Ex H H') : ∀ {i : IV} {v : V}, IVof K i v H → IVof K i v H'
  | .num _, _, h => h
  | .one _, _, h => TupF.ex e h
  | .two _ _, _, h => TupF.ex e h
theorem IVof.n {K : PySem.W.Frag} {H H' : Hp} (e : ExN H H') : ∀ {i : IV} {v : V}, IVof K i v H → IVof K i v H'
  | .num _, _, h => h
  | .one _, _, ⟨b, z, q⟩ => ⟨b, z, sqt_n e q⟩
  | .two _ _, _, ⟨b, z, q⟩ => ⟨b, z, sqt_n e q⟩
def IVsT (K : PySem.W.Frag) (is : List IV) (v : V) (H : Hp) : Prop := ∃ a vs, v = .ref a ∧ SqT K H a vs ∧ Paired (fun x i => IVof K i x H) vs is
theorem IVsT.n {K : PySem.W.Frag} {H H' : Hp} (e : ExN H H') {is : List IV} {v : V} (h : IVsT K is v H) : IVsT K is v H' := by
  obtain ⟨a, vs, z, q, p⟩ := h
  exact ⟨a, vs, z, sqt_n e q, pr_mono p fun _ _ x => x.n e⟩
theorem IVsT.ex {K : PySem.W.Frag} {H H' : Hp} (e : Ex H H') {is : List IV} {v : V} (h : IVsT K is v H) : IVsT K is v H' := h.n (Evl.Ex.n e)
def iv (i : Prg.Ins) : IV := if Prg.bare i.1 = true then .one i.1 else .two i.1 i.2
/-- a program -/
def PrgT (K : PySem.W.Frag) (P : List Prg.Ins) (v : V) (H : Hp) : Prop := IVsT K (P.map iv) v H
/-- the greatest number behind each word; no number at all -/
def mostN (p s w m : Int) : Prg.Wd → Option Int
  | .get | .plus | .minus => some (s - 1)
  | .add | .take => some (w - 1)
  | .put => some (p - 1)
  | .zero | .go => some m
  | _ => none
def bareOk (kept : Bool) : Prg.Wd → Bool
  | .say | .ask | .stop => true
  | .wait => kept
  | _ => false
def insOk (kept : Bool) (f : Prg.Wd → Option Int) : IV → Bool
  | .num _ => false
  | .one w => bareOk kept w
  | .two w k => match f w with
    | none => false
    | some m => decide (0 ≤ k) && decide (k ≤ m)
def numK (p s w m : Int) : List (Key × V) := [(.inr "get", .int (s - 1)), (.inr "plus", .int (s - 1)), (.inr "minus", .int (s - 1)), (.inr "add", .int (w - 1)), (.inr "take", .int (w - 1)), (.inr "put", .int (p - 1)), (.inr "zero", .int m), (.inr "go", .int m)]
theorem numK_at {p s w m : Int} (x : Prg.Wd) : valV (numK p s w m) (.inr (wstr x)) = (mostN p s w m x).map V.int := by
  cases x <;> rfl
theorem numK_merge {p s w m : Int} : mergeK [] (numK p s w m) = numK p s w m := by rfl
def bareV (kept : Bool) : List V := if kept = true then [.str "say", .str "ask", .str "stop", .str "wait"] else [.str "say", .str "ask", .str "stop"]
theorem bareV_in {kept : Bool} (x : Prg.Wd) : inV (.str (wstr x)) (bareV kept) = bareOk kept x := by
  cases kept <;> cases x <;> decide +kernel
section
variable {P : Program} {w : World} {K : PySem.W.Frag} {mg : Str → Option Value} {base : Heap}
def spMost : Sp := fun vs H Q _ => ∃ p s w m : Int, vs = [.int p, .int s, .int w, .int m] ∧ ∀ d, H d = none → Q (.ref d) (upd H d (.dK (numK p s w m)))
theorem ok_most {f : Addr} {fd : FuncData} (F : Fun K "most_numbers" "most_numbers" s_most_numbers f fd) : FnOk P w K mg base CX0 1 f fd p_most_numbers spMost := by
  refine F.ok sc_most_numbers (fun vs H Q E h => ?_) (fun cdv Ar outer s H vs Q E hr h => ?_)
  · obtain ⟨p, s, w, m, rfl, _⟩ := h
    rfl
  · obtain ⟨p, s', w', m, rfl, q⟩ := h
    refine ⟨_, pss_one (ps_ret (pe_disp (pps_cons pe_str (pe_op op_sub (pv 1) pe_int) (pps_cons pe_str (pe_op op_sub (pv 1) pe_int) (pps_cons pe_str (pe_op op_sub (pv 1) pe_int) (pps_cons pe_str (pe_op op_sub (pv 2) pe_int) (pps_cons pe_str (pe_op op_sub (pv 2) pe_int)
      (pps_cons pe_str (pe_op op_sub (pv 0) pe_int) (pps_cons pe_str (pv 3) (pps_cons pe_str (pv 3) pps_nil)))))))) (by rfl) (by rfl) (fun z => by cases z) (by show 8 ≤ 15; decide))), ?_⟩
    intro d nd
    refine ⟨_, rfl, _, _, rfl, rfl, _, rfl, _, _, rfl, rfl, _, rfl, _, _, rfl, rfl, _, rfl, _, _, rfl, rfl, _, rfl, _, _, rfl, rfl, _, rfl, _, _, rfl, rfl, _, rfl, _, rfl, ?_⟩
    refine ⟨upd_same, numK p s' w' m, rfl, (by show 8 ≤ 15; decide), ?_⟩
    rw [numK_merge, upd_upd]
    exact q d nd
def spIsIns (K : PySem.W.Frag) : Sp := fun vs H Q _ => ∃ (i : IV) (v : V) (d b : Addr) (p s w m : Int) (kept : Bool), vs = [v, .ref d, .ref b] ∧ IVof K i v H ∧ H d = some (.dK (numK p s w m)) ∧ SqT K H b (bareV kept) ∧ Ret (IsV (.bl (insOk kept (mostN p s w m) i))) H Q
theorem ok_isins {f : Addr} {fd : FuncData} (B : Bare mg) (F : Fun K "is_instruction" "is_instruction" s_is_instruction f fd) (Gn : Got P w K mg base CX0 1 "is_number" p_is_number spNumber) : FnOk P w K mg base CX0 2 f fd p_is_instruction (spIsIns K) := by
  refine F.ok sc_is_instruction (fun vs H Q E h => ?_) (fun cdv Ar outer s H vs Q E hr h => ?_)
  · obtain ⟨i, v, d, b, p, s, w, m, kept, rfl, _⟩ := h
    rfl
  · obtain ⟨i, v, d, b, p, s', w', m, kept, rfl, hv, hd, hb, q⟩ := h
    have hu := hu_of hr
    refine ⟨_, pss_cons (ps_if (PW.pt (pw_or (pt_not (pt_val (pe_callB call_isi (by rfl) B.isinstance (by decide +kernel) (pa_cons (pv 0) (pa_cons (pe_bltn (v := .ty "tuple") (by rfl) B.tuple (by decide +kernel) rfl) pa_nil)))))
        (pw_or (pt_cmpR op_eq (pe_callB call_len_seq (by rfl) B.len PySem.boot_len (pa_cons (pv 0) pa_nil)) pe_int (nomark _))
        (pw_or1 (pt_not (pt_val (pe_callB call_isi (by rfl) B.isinstance (by decide +kernel) (pa_cons (pe_ix ix_tup (pv 0) pe_int (fun _ _ => rfl)) (pa_cons (pe_bltn (v := .ty "str") (by rfl) B.str (by decide +kernel) rfl) pa_nil))))))))) (pss_one (ps_ret pe_bl)) pss_nil)
      (pss_cons (ps_if (pt_cmpR op_eq (pe_callB call_len_seq (by rfl) B.len PySem.boot_len (pa_cons (pv 0) pa_nil)) pe_int (nomark _)) (pss_one (ps_ret (pe_cmpR (show OpR _ _ (rIn K false) from op_in_seq) (pe_ix ix_tup (pv 0) pe_int (fun _ _ => rfl)) (pv 2) rfl))) pss_nil)
      (pss_cons (ps_if (PW.pt (pw_or (pt_cmpR op_ne (pe_callB call_len_seq (by rfl) B.len PySem.boot_len (pa_cons (pv 0) pa_nil)) pe_int (nomark _))
        (pw_or1 (pt_cmp (pc_dnotin hu (pe_ix ix_tup (pv 0) pe_int (fun _ _ => rfl)) (pv 1)))))) (pss_one (ps_ret pe_bl)) pss_nil)
      (pss_one (ps_ret (pe_got Gn hr pass0 (pa_cons (pe_ix ix_tup (pv 0) pe_int (fun _ _ => rfl)) (pa_cons pe_int (pa_cons (pe_dget hu (pv 1) (pe_ix ix_tup (pv 0) pe_int (fun _ _ => rfl)) (fun _ _ => rfl)) pa_nil)))))))), ?_⟩
    cases i with
    | num i =>
      obtain rfl : v = .int i := hv
      exact ⟨_, rfl, .int i, .ty "tuple", .type "int", .type "tuple", false, rfl, .ty _, .base (.int i), kit_ty (by decide +kernel), false, rfl, iteT (iteT (q _ _ (_root_.Evl.Ex.refl _) rfl))⟩
    | one x =>
      obtain ⟨a, rfl, ha⟩ := hv
      refine ⟨_, rfl, .ref a, .ty "tuple", .type "tuple", .type "tuple", true, rfl, .ty _, tyx_t ha, kit_ty (by decide +kernel), true, rfl, iteF ?_⟩
      refine ⟨_, rfl, a, _, rfl, .inr ha, rfl, _, rfl, iteF ?_⟩
      refine ⟨_, rfl, a, _, _, _, rfl, rfl, ha, at_of (j := 0) rfl rfl, .str _, .ty "str", .type "str", .type "str", true, rfl, .ty _, .base (.str _), kit_ty (by decide +kernel), true, rfl, iteF ?_⟩
      refine ⟨_, rfl, a, _, rfl, .inr ha, rfl, _, rfl, iteT ?_⟩
      refine ⟨_, rfl, a, _, _, _, rfl, rfl, ha, at_of (j := 0) rfl rfl, _, rfl, b, bareV kept, rfl, .inr hb, rfl, by cases kept <;> rfl, ?_⟩
      show Q (.bl (inV (.str (wstr x)) (bareV kept))) H
      rw [bareV_in]
      exact q _ _ (_root_.Evl.Ex.refl _) rfl
    | two x k =>
      obtain ⟨a, rfl, ha⟩ := hv
      refine ⟨_, rfl, .ref a, .ty "tuple", .type "tuple", .type "tuple", true, rfl, .ty _, tyx_t ha, kit_ty (by decide +kernel), true, rfl, iteF ?_⟩
      refine ⟨_, rfl, a, _, rfl, .inr ha, rfl, _, rfl, iteF ?_⟩
      refine ⟨_, rfl, a, _, _, _, rfl, rfl, ha, at_of (j := 0) rfl rfl, .str _, .ty "str", .type "str", .type "str", true, rfl, .ty _, .base (.str _), kit_ty (by decide +kernel), true, rfl, iteF ?_⟩
      refine ⟨_, rfl, a, _, rfl, .inr ha, rfl, _, rfl, iteF ?_⟩
      refine ⟨_, rfl, a, _, rfl, .inr ha, rfl, _, rfl, iteF ?_⟩
      refine ⟨_, rfl, a, _, _, _, rfl, rfl, ha, at_of (j := 0) rfl rfl, _, rfl, d, _, rfl, DGet.k (k := Sum.inr (wstr x)) hd, _, rfl, ?_⟩
      rw [numK_at]
      have e : insOk kept (mostN p s' w' m) (.two x k) = match mostN p s' w' m x with
        | none => false
        | some m => decide (0 ≤ k) && decide (k ≤ m) := rfl
      rw [e] at q
      cases hm : mostN p s' w' m x with
      | none =>
        rw [hm] at q
        exact iteT (q _ _ (_root_.Evl.Ex.refl _) rfl)
      | some mm =>
        rw [hm] at q
        refine iteF ?_
        refine ⟨_, rfl, a, _, _, _, rfl, rfl, ha, at_of (j := 1) rfl rfl, _, rfl, _, rfl, a, _, _, _, rfl, rfl, ha, at_of (j := 0) rfl rfl, d, .int mm, rfl, ?_, ?_⟩
        · have := DGet.k (k := Sum.inr (wstr x)) hd
          rw [numK_at, hm] at this
          exact this
        · exact ⟨.int k, 0, mm, rfl, .int _, fun z H1 e1 ez => q z H1 e1 ez⟩
end
end K01


set_option Elab.async false
set_option linter.all false
set_option maxRecDepth 100000
set_option maxHeartbeats 4000000
/-! Checks of programs -/
namespace K01
open PySem PySem.Spec PyProof.Rows L2
/-- the making of BadProgram -/
abbrev s_badprog : Stmt := inClass (topS 3) 0
theorem sc_badprog : FnScope ["self", "index"] ["self", "index"] (defScope s_badprog) := ⟨rfl, rfl, rfl, by decide +kernel, rfl, by decide +kernel, by decide +kernel⟩
structure BadP (K : PySem.W.Frag) (mg : Str → Option Value) (C fI : Addr) : Prop where
  ex : OexC K C
  gC : mg "BadProgram" = some (.ref C)
  no : PySem.W.findIn K (.ref C) "index" = some none
  ini : PySem.W.findIn K (.ref C) "__init__" = some (some (.ref fI))
  tyI : PySem.W.typeIn K (.ref fI) = some (.type "function")
section
variable {P : Program} {w : World} {K : PySem.W.Frag} {mg : Str → Option Value} {base : Heap}
def spBadP (K : PySem.W.Frag) (C : Addr) : Sp := fun vs H Q _ => ∃ (a : Addr) (x : V) (H0 : Hp), vs = [.ref a, x] ∧ H = upd H0 a (exo a C none) ∧ H0 a = none ∧ ∀ H2 d, H2 a = some (exo a C (some d)) → H2 d = some (exd d [("index", x)]) → (∀ b o, H0 b = some o → H2 b = some o) → H0 d = none → d ≠ a → Q .non H2
theorem ok_badprog {f C fI : Addr} {fd : FuncData} (M : BadP K mg C fI) (F : Fun K "__init__" "BadProgram.__init__" s_badprog f fd) : FnOk P w K mg base CX0 1 f fd ["self", "index"] (spBadP K C) := by
  refine F.ok sc_badprog (fun vs H Q E h => ?_) (fun cdv Ar outer s H vs Q E hr h => ?_)
  · obtain ⟨a, z, H0, rfl, _⟩ := h
    rfl
  · obtain ⟨a, z, H0, rfl, rfl, n0, q⟩ := h
    refine ⟨_, pss_one (ps_ost (pv 0) (pv 1)), ?_⟩
    refine ⟨_, rfl, _, rfl, a, C, rfl, M.ex, M.no, .inl ⟨upd_same, fun dx ndx nda => ?_⟩⟩
    have n1 : H0 dx = none := by rw [upd_ne nda] at ndx; exact ndx
    refine q _ dx upd_same (by rw [upd_ne nda]; exact upd_same) (fun b o hb => ?_) n1 nda
    rw [upd_ne (ne_of_none hb n0), upd_ne (ne_of_none hb n1), upd_ne (ne_of_none hb n0)]
    exact hb
theorem IVsT.at {is : List IV} {a : Addr} {vs : List V} {H : Hp} (p : Paired (fun x i => IVof K i x H) vs is) {j : Nat} {x : V} (h : vs[j]? = some x) : ∃ i, is[j]? = some i ∧ IVof K i x H := pr_get p h
def spCheckMany (K : PySem.W.Frag) : Sp := fun vs H Q _ => ∃ (is : List IV) (v : V) (m : Nat), vs = [v, .int (m : Nat)] ∧ IVsT K is v H ∧ 1 ≤ is.length ∧ is.length ≤ m ∧ Ret (IsV .non) H Q
theorem ok_checkMany {f C fI : Addr} {fd fdI : FuncData} (B : Bare mg) (M : BadP K mg C fI) (F : Fun K "check_many" "check_many" s_check_many f fd) (FI : Fun K "__init__" "BadProgram.__init__" s_badprog fI fdI) : FnOk P w K mg base (L2.CX P w) 3 f fd p_check_many (spCheckMany K) := by
  have bI := FI.binds (ps := ["self", "index"]) fun _ _ _ _ _ _ us hl => match us, hl with | [_, _], _ => rfl
  refine F.okX sc_check_many (fun vs H Q E h => ?_) (fun cdv Ar outer s H vs Q E hr h => ?_)
  · obtain ⟨is, v, m, rfl, _⟩ := h
    rfl
  · obtain ⟨is, v, m, rfl, ⟨a, xs, rfl, ha, pa⟩, l1, l2, q⟩ := h
    refine ⟨_, pss_one (ps_if (PW.pt (pw_or (pt_not (pt_val (pe_callB call_isi (by rfl) B.isinstance (by decide +kernel) (pa_cons (pv 0) (pa_cons (pe_bltn (v := .ty "tuple") (by rfl) B.tuple (by decide +kernel) rfl) pa_nil)))))
        (pw_or1 (pt_not (pt_chain op_le op_le pe_int (pe_callB call_len_seq (by rfl) B.len PySem.boot_len (pa_cons (pv 0) pa_nil)) (pv 1))))))
      (pss_one (ps_raise rfl (takes_of rfl rfl rfl rfl) (pmk_oex (CX := CX0) M.ex M.ini M.tyI (ok_badprog M FI) (hr.mono (by decide)) bI .nil pass0 rfl M.gC (pa_cons pe_non pa_nil)))) pss_nil), ?_⟩
    have la : xs.length = is.length := pr_len pa
    refine ⟨_, rfl, .ref a, .ty "tuple", .type "tuple", .type "tuple", true, rfl, .ty _, tyx_t ha, kit_ty (by decide +kernel), true, rfl, iteF ?_⟩
    refine ⟨_, rfl, a, xs, rfl, .inr ha, _, _, rfl, rfl, _, rfl, ite2 (fun c => ?_) (fun c => absurd (decide_eq_true (by omega)) c)⟩
    exact ⟨_, rfl, _, _, rfl, rfl, _, rfl, ite2 (fun c2 => absurd (show m < xs.length by simpa using c2) (by omega)) (fun c2 => q _ _ (_root_.Evl.Ex.refl _) rfl)⟩
/-- the places of the instructions, looked through in turn -/
def FirstBad (ok : IV → Bool) (is : List IV) (good : Prop) (bad : Nat → Prop) : Prop := ((∀ (j : Nat) x, is[j]? = some x → ok x = true) ∧ good) ∨ ∃ (n : Nat) (x : IV), is[n]? = some x ∧ ok x = false ∧ (∀ (j : Nat) y, j < n → is[j]? = some y → ok y = true) ∧ bad n
def spCheckIns (K : PySem.W.Frag) (C : Addr) : Sp := fun vs H Q E => ∃ (is : List IV) (v : V) (d b : Addr) (p s w m : Int) (kept : Bool), vs = [v, .ref d, .ref b] ∧ IVsT K is v H ∧ is.length ≤ 30000 ∧ H d = some (.dK (numK p s w m)) ∧ SqT K H b (bareV kept) ∧
  FirstBad (insOk kept (mostN p s w m)) is (Ret (IsV .non) H Q) (fun n => ∀ d H', Ex H H' → H' d = some (.xd [("index", .int (n : Nat))]) → E (.ref C) (some d) H')
theorem ok_checkIns {f C fI : Addr} {fd fdI : FuncData} (B : Bare mg) (M : BadP K mg C fI) (F : Fun K "check_instructions" "check_instructions" s_check_instructions f fd) (FI : Fun K "__init__" "BadProgram.__init__" s_badprog fI fdI) (Gi : Got P w K mg base CX0 2 "is_instruction" p_is_instruction (spIsIns K)) :
    FnOk P w K mg base (L2.CX P w) 3 f fd p_check_instructions (spCheckIns K C) := by
  have bI := FI.binds (ps := ["self", "index"]) fun _ _ _ _ _ _ us hl => match us, hl with | [_, _], _ => rfl
  refine F.okX sc_check_instructions (fun vs H Q E h => ?_) (fun cdv Ar outer s H vs Q E hr h => ?_)
  · obtain ⟨is, v, d, b, p, s, w, m, kept, rfl, _⟩ := h
    rfl
  · obtain ⟨is, v, d, b, p, s', w', m, kept, rfl, ⟨a, xs, rfl, ha, pa⟩, l1, hd, hb, q⟩ := h
    refine ⟨_, pss_one (ps_for (passes_of rfl) rfl (pi_enumT (by rfl) B.enumerate (pa_cons (pv 0) pa_nil)) (pg_tup rfl (pgs_cons (pg_name (i := 3) sc_check_instructions.nd rfl (Or.inl rfl)) (pgs_cons (pg_name (i := 4) sc_check_instructions.nd rfl (Or.inl rfl)) pgs_nil)))
      (pss_one (ps_if (pt_not (pt_val (pe_got Gi (hr.mono (by decide)) pass0 (pa_cons (pv 4) (pa_cons (pv 1) (pa_cons (pv 2) pa_nil))))))
        (pss_one (ps_raise rfl (takes_of rfl rfl rfl rfl) (pmk_oex (CX := CX0) M.ex M.ini M.tyI (ok_badprog M FI) (hr.mono (by decide)) bI .nil pass0 rfl M.gC (pa_cons (pv 3) pa_nil)))) pss_nil))), ?_⟩
    have la : xs.length = is.length := pr_len pa
    refine ⟨_, rfl, a, _, rfl, ha, ?_⟩
    refine for_it walk_enumT (fun i σ' H' => (∃ y1 y2, σ' = [some (.ref a), some (.ref d), some (.ref b), y1, y2]) ∧ Ex H H' ∧ ∀ (j : Nat) y, j < i → is[j]? = some y → insOk kept (mostN p s' w' m) y = true) ⟨⟨none, none, rfl⟩, _root_.Evl.Ex.refl H, fun j _ hj => by omega⟩ (fun i σ' H' _ p => _root_.Evl.ex_t p.2.1 ha) (fun i x σ' H1 H2 hi p' y => ?_) fun σ' H' p' => ?_
    · obtain ⟨⟨y1, y2, rfl⟩, e, h0⟩ := p'
      obtain ⟨T, x1, x2, rfl, nT, rfl, f1, f2⟩ := y
      obtain rfl := Option.some.inj f1
      obtain ⟨iv', g2, gv⟩ := pr_get pa f2
      have e2 : Ex H (upd H1 T (.tup [.int (i : Nat), x2])) := e.trans (_root_.Evl.Ex.new nT)
      refine ⟨T, _, rfl, SqT.of upd_same, rfl, _, _, rfl, _, _, rfl, rfl, ?_⟩
      refine ⟨_, rfl, _, rfl, _, rfl, iv', x2, d, b, p, s', w', m, kept, rfl, gv.ex e2, e2 _ _ hd, _root_.Evl.ex_t e2 hb, fun z H3 e3 ez => ?_⟩
      cases (show z = _ from ez)
      have e4 := e2.trans e3
      refine ⟨_, rfl, ite2 (fun c => ?_) (fun c => ?_)⟩
      · have bad : insOk kept (mostN p s' w' m) iv' = false := by simpa using c
        rcases q with ⟨all, _⟩ | ⟨n, x, gx, hx, hb4, hE⟩
        · rw [all _ _ g2] at bad
          cases bad
        · have en : i = n := by
            rcases Nat.lt_trichotomy i n with z | z | z
            · rw [hb4 _ _ z g2] at bad
              cases bad
            · exact z
            · rw [h0 _ _ z gx] at hx
              cases hx
          subst en
          refine ⟨_, rfl, (by show 1 ≤ 1000; decide), fun a' na => ?_⟩
          refine ⟨a', .int (i : Nat), H3, rfl, rfl, na, fun H2 d2 h2 h3 h4 h5 h6 => ⟨rfl, d2, _, h2, h3, h5, ?_⟩⟩
          refine hE d2 _ (fun b o hb => ?_) upd_same
          have hb1 := e4 _ _ hb
          rw [upd_ne (ne_of_none hb1 h5), del_ne (ne_of_none hb1 na)]
          exact h4 _ _ hb1
      · have good : insOk kept (mostN p s' w' m) iv' = true := by simpa using c
        refine ⟨⟨_, _, rfl⟩, e4, fun j y hj gy => ?_⟩
        rcases Nat.lt_or_ge j i with z | z
        · exact h0 j y z gy
        · have : j = i := by omega
          rw [this, g2] at gy
          rw [← Option.some.inj gy]
          exact good
    · obtain ⟨⟨y1, y2, rfl⟩, e, h0⟩ := p'
      rcases q with ⟨_, q⟩ | ⟨n, x, gx, hx, _, _⟩
      · exact q _ _ e rfl
      · have : n < is.length := (List.getElem?_eq_some_iff.mp gx).1
        rw [h0 n x (by omega) gx] at hx
        cases hx
end
end K01


set_option Elab.async false
set_option linter.all false
set_option maxRecDepth 100000
set_option maxHeartbeats 4000000
/-! Programs and kept programs -/
namespace K01
open PySem PySem.Spec PyProof.Rows L2
theorem FirstBad.imp {ok : IV → Bool} {is : List IV} {g g' : Prop} {b b' : Nat → Prop} (h : FirstBad ok is g b) (i : g → g') (j : ∀ n, b n → b' n) : FirstBad ok is g' b' := by
  rcases h with ⟨a, q⟩ | ⟨n, x, h1, h2, h3, h4⟩
  · exact .inl ⟨a, i q⟩
  · exact .inr ⟨n, x, h1, h2, h3, j n h4⟩
section
variable {P : Program} {w : World} {K : PySem.W.Frag} {mg : Str → Option Value} {base : Heap}
/-- it raises BadProgram with this place -/
def BadAt (C : Addr) (E : XK) (H : Hp) (n : Nat) : Prop := ∀ d H', Ex H H' → H' d = some (.xd [("index", .int (n : Nat))]) → E (.ref C) (some d) H'
theorem BadAt.go {C : Addr} {E : XK} {H H1 : Hp} (e : Ex H H1) {n : Nat} (h : BadAt C E H n) : BadAt C E H1 n := fun d H' e' => h d H' (e.trans e')
def spCheckVal : Sp := fun vs H Q _ => ∃ t : Int, vs = [.int t] ∧ 1 ≤ t ∧ t ≤ 4 ∧ Ret (IsV .non) H Q
theorem ok_checkVal {f CN : Addr} {fd : FuncData} {tk : Tok} (F : Fun K "check_values" "check_values" s_check_values f fd) (Gc : Got P w K mg base (L2.CX P w) 3 "check_number" p_check_number (spCheckN CN)) (g4 : mg "MOST_VALUES" = some (.int 4 tk)) : FnOk P w K mg base (L2.CX P w) 4 f fd p_check_values spCheckVal := by
  refine F.okX sc_check_values (fun vs H Q E h => ?_) (fun cdv Ar outer s H vs Q E hr h => ?_)
  · obtain ⟨t, rfl, _⟩ := h
    rfl
  · obtain ⟨t, rfl, t1, t4, q⟩ := h
    refine ⟨_, pss_one (ps_expr (pe_got Gc (hr.mono (by decide)) (passes_call (takes_of rfl rfl rfl rfl) fun _ _ _ _ z => z) (pa_cons (pv 0) (pa_cons pe_int (pa_cons (pe_glob (by rfl) g4 (v := .int 4) ⟨_, rfl⟩) pa_nil))))), ?_⟩
    have yes : isNum 1 4 (.int t) = true := by simp [isNum]; omega
    exact ⟨_, rfl, .int t, 1, 4, rfl, .int _, fun _ z3 H3 e3 ez3 => q _ _ e3 rfl, fun no => by rw [yes] at no; cases no⟩
def spCheckPr (K : PySem.W.Frag) (C : Addr) : Sp := fun vs H Q E => ∃ (is : List IV) (v : V) (p c : Int), vs = [.int p, .int c, v] ∧ IVsT K is v H ∧ 1 ≤ is.length ∧ is.length ≤ 20 ∧ FirstBad (insOk false (mostN p c c (is.length : Nat))) is (Ret (IsV .non) H Q) (BadAt C E H)
theorem ok_checkPr {f C aB : Addr} {fd : FuncData} {tk : Tok} (B : Bare mg) (F : Fun K "check_program" "check_program" s_check_program f fd) (Gm : Got P w K mg base (L2.CX P w) 3 "check_many" p_check_many (spCheckMany K)) (Gn : Got P w K mg base CX0 1 "most_numbers" p_most_numbers spMost) (Gi : Got P w K mg base (L2.CX P w) 3 "check_instructions" p_check_instructions (spCheckIns K C))
    (g20 : mg "MOST_INSTRUCTIONS" = some (.int 20 tk)) (gB : mg "BARE_WORDS" = some (.ref aB)) (hB : ∀ H : Hp, SqT K H aB (bareV false)) : FnOk P w K mg base (L2.CX P w) 4 f fd p_check_program (spCheckPr K C) := by
  refine F.okX sc_check_program (fun vs H Q E h => ?_) (fun cdv Ar outer s H vs Q E hr h => ?_)
  · obtain ⟨is, v, p, c, rfl, _⟩ := h
    rfl
  · obtain ⟨is, v, p, c, rfl, hI, l1, l2, q⟩ := h
    refine ⟨_, pss_cons (ps_expr (pe_got Gm (hr.mono (by decide)) (passes_call (takes_of rfl rfl rfl rfl) fun _ _ _ _ z => z) (pa_cons (pv 2) (pa_cons (pe_glob (by rfl) g20 (v := .int 20) ⟨_, rfl⟩) pa_nil))))
      (pss_one (ps_expr (pe_got Gi (hr.mono (by decide)) (passes_call (takes_of rfl rfl rfl rfl) fun _ _ _ _ z => z) (pa_cons (pv 2) (pa_cons (pe_got Gn (hr.mono (by decide)) pass0 (pa_cons (pv 0) (pa_cons (pv 1) (pa_cons (pv 1) (pa_cons (pe_callB call_len_seq (by rfl) B.len PySem.boot_len (pa_cons (pv 2) pa_nil)) pa_nil)))))
        (pa_cons (pe_glob (by rfl) gB (v := .ref aB) rfl) pa_nil)))))), ?_⟩
    refine ⟨_, rfl, is, v, 20, rfl, hI, l1, l2, fun z H1 e1 ez => ?_⟩
    obtain ⟨a, xs, rfl, ha, pa⟩ := hI.ex e1
    have la : xs.length = is.length := pr_len pa
    refine ⟨_, rfl, _, rfl, _, rfl, _, rfl, .ref a, rfl, a, xs, rfl, .inr ha, p, c, c, (xs.length : Nat), rfl, fun d nd => ?_⟩
    have e2 : Ex H1 (upd H1 d (.dK (numK p c c (xs.length : Nat)))) := _root_.Evl.Ex.new nd
    refine ⟨is, .ref a, d, aB, p, c, c, (xs.length : Nat), false, rfl, IVsT.ex e2 ⟨a, xs, rfl, ha, pa⟩, by omega, upd_same, hB _, ?_⟩
    rw [la] at e2 ⊢
    exact q.imp (fun r z H3 e3 ez => by cases (show z = _ from ez); exact r.go (e1.trans e2) _ _ e3 rfl) fun n b => b.go (e1.trans e2)
def spCheckK (K : PySem.W.Frag) (C : Addr) : Sp := fun vs H Q E => ∃ (is : List IV) (p : Int) (A W S : List Row) (m v : V), vs = [m, v] ∧ MachT K p A W S m H ∧ IVsT K is v H ∧ 1 ≤ is.length ∧ is.length ≤ 6000 ∧ FirstBad (insOk true (mostN p (S.length : Nat) (W.length : Nat) (is.length : Nat))) is (Ret (IsV .non) H Q) (BadAt C E H)
theorem ok_checkK {f C aB : Addr} {fd : FuncData} {tk : Tok} (B : Bare mg) (F : Fun K "check_kept" "check_kept" s_check_kept f fd) (Gm : Got P w K mg base (L2.CX P w) 3 "check_many" p_check_many (spCheckMany K)) (Gn : Got P w K mg base CX0 1 "most_numbers" p_most_numbers spMost) (Gi : Got P w K mg base (L2.CX P w) 3 "check_instructions" p_check_instructions (spCheckIns K C))
    (g20 : mg "MOST_KEPT" = some (.int 6000 tk)) (gB : mg "KEPT_BARE_WORDS" = some (.ref aB)) (hB : ∀ H : Hp, SqT K H aB (bareV true)) : FnOk P w K mg base (L2.CX P w) 4 f fd p_check_kept (spCheckK K C) := by
  refine F.okX sc_check_kept (fun vs H Q E h => ?_) (fun cdv Ar outer s H vs Q E hr h => ?_)
  · obtain ⟨is, p, A, W, S, m, v, rfl, _⟩ := h
    rfl
  · obtain ⟨is, p, A, W, S, m, v, rfl, hM, hI, l1, l2, q⟩ := h
    refine ⟨_, pss_cons (ps_expr (pe_got Gm (hr.mono (by decide)) (passes_call (takes_of rfl rfl rfl rfl) fun _ _ _ _ z => z) (pa_cons (pv 1) (pa_cons (pe_glob (by rfl) g20 (v := .int 6000) ⟨_, rfl⟩) pa_nil))))
      (pss_cons (ps_set (i := 2) sc_check_kept.nd rfl (Or.inl rfl) (pe_got Gn (hr.mono (by decide)) pass0 (pa_cons (pe_ix ix_tup (pv 0) pe_int (fun _ _ => rfl)) (pa_cons (pe_callB call_len_seq (by rfl) B.len PySem.boot_len (pa_cons (pe_ix ix_tup (pv 0) pe_int (fun _ _ => rfl)) pa_nil)) (pa_cons (pe_callB call_len_seq (by rfl) B.len PySem.boot_len (pa_cons (pe_ix ix_tup (pv 0) pe_int (fun _ _ => rfl)) pa_nil)) (pa_cons (pe_callB call_len_seq (by rfl) B.len PySem.boot_len (pa_cons (pv 1) pa_nil)) pa_nil))))))
      (pss_one (ps_expr (pe_got Gi (hr.mono (by decide)) (passes_call (takes_of rfl rfl rfl rfl) fun _ _ _ _ z => z) (pa_cons (pv 1) (pa_cons (pv 2) (pa_cons (pe_glob (by rfl) gB (v := .ref aB) rfl) pa_nil))))))), ?_⟩
    refine ⟨_, rfl, is, v, 6000, rfl, hI, l1, l2, fun z H1 e1 ez => ?_⟩
    obtain ⟨a, xs, rfl, ha, pa⟩ := hI.ex e1
    obtain ⟨mm, ta, tw, ts, rfl, hm, hA, ⟨wa, ws, rfl, hwa, pw⟩, ⟨sa, ss, rfl, hsa, ps⟩⟩ := hM.ex e1
    have la : xs.length = is.length := pr_len pa
    have lw : ws.length = W.length := pr_len pw
    have ls : ss.length = S.length := pr_len ps
    refine ⟨_, rfl, mm, _, _, _, rfl, rfl, hm, at_of (j := 0) rfl rfl, _, rfl, mm, _, _, _, rfl, rfl, hm, at_of (j := 3) rfl rfl, sa, ss, rfl, .inr hsa, _, rfl, mm, _, _, _, rfl, rfl, hm, at_of (j := 2) rfl rfl, wa, ws, rfl, .inr hwa,
      .ref a, rfl, a, xs, rfl, .inr ha, p, (ss.length : Nat), (ws.length : Nat), (xs.length : Nat), rfl, fun d nd => ?_⟩
    have e2 : Ex H1 (upd H1 d (.dK (numK p (ss.length : Nat) (ws.length : Nat) (xs.length : Nat)))) := _root_.Evl.Ex.new nd
    refine ⟨_, rfl, _, rfl, is, .ref a, d, aB, p, (ss.length : Nat), (ws.length : Nat), (xs.length : Nat), true, rfl, IVsT.ex e2 ⟨a, xs, rfl, ha, pa⟩, by omega, upd_same, hB _, ?_⟩
    rw [la, ls, lw] at e2 ⊢
    exact q.imp (fun r z H3 e3 ez => by cases (show z = _ from ez); exact r.go (e1.trans e2) _ _ e3 rfl) fun n b => b.go (e1.trans e2)
end
end K01


set_option Elab.async false
set_option linter.all false
set_option maxRecDepth 100000
/-! What landings finds -/
namespace Prg
open PySem PySem.Spec PyProof.Rows L2
/-- numbers of gos and zeros stay within -/
def Jmp (P : List Ins) : Prop := ∀ (i : Nat) (x : Ins), P[i]? = some x → (x.1 = .go ∨ x.1 = .zero) → x.2 ≤ P.length
variable {P : List Ins}
theorem word_at {i : Nat} {x : Ins} (h : P[i]? = some x) : word P i = some x.1 := by unfold word; rw [h]; rfl
theorem num_at {i : Nat} {x : Ins} (h : P[i]? = some x) : num P i = x.2 := by unfold num; rw [h]; rfl
theorem isGo_at {i : Nat} {x : Ins} (h : P[i]? = some x) : isGo P i = decide (x.1 = .go) := by
  unfold isGo
  rw [word_at h]
  cases x.1 <;> rfl
theorem go_le (J : Jmp P) {i : Nat} (h : isGo P i = true) : num P i ≤ P.length := by
  have hl := isGo_lt h
  have g : P[i]? = some P[i] := List.getElem?_eq_getElem hl
  rw [num_at g]
  rw [isGo_at g] at h
  exact J i _ g (.inl (of_decide_eq_true h))
theorem stp_le (J : Jmp P) {i : Nat} (h : i ≤ P.length) : stp P i ≤ P.length := by
  unfold stp
  split
  · rename_i g; exact go_le J g
  · exact h
theorem it_le (J : Jmp P) : ∀ (k : Nat) {i : Nat}, i ≤ P.length → it P k i ≤ P.length
  | 0, _, h => h
  | k + 1, _, h => it_le J k (stp_le J h)
theorem it_one (k i : Nat) : it P (k + 1) i = stp P (it P k i) := it_add k 1 i
theorem it_go {k i : Nat} (h : isGo P (it P k i) = true) : it P (k + 1) i = num P (it P k i) := by rw [it_one, stp_go h]
theorem land_it {f : Nat} : ∀ {k : Nat}, (∀ j, j < k → isGo P (it P j f) = true) → ∀ j, j ≤ k → land P (it P j f) = land P (it P k f)
  | 0, _, j, hj => by
    have : j = 0 := by omega
    rw [this]
  | k + 1, h, j, hj => by
    have e : land P (it P k f) = land P (it P (k + 1) f) := by rw [land_go (h k (Nat.lt_succ_self _)), it_go (h k (Nat.lt_succ_self _))]
    rcases Nat.lt_or_ge j (k + 1) with z | z
    · rw [land_it (k := k) (fun j hj => h j (by omega)) j (by omega), e]
    · have : j = k + 1 := by omega
      rw [this]
abbrev ky (i : Nat) : Key := Sum.inl ((i : Nat) : Int)
theorem ky_inj {i j : Nat} (h : ky i = ky j) : i = j := by
  have h' : ((i : Nat) : Int) = ((j : Nat) : Int) := Sum.inl.inj h
  omega
theorem keys_put (kvs : List (Key × V)) (k : Key) (v x : V) (h : valV kvs k = some x) : (putK kvs k v).map (·.1) = kvs.map (·.1) := by
  unfold putK
  rw [valV_any, h, if_pos (show (some x).isSome = true from rfl), List.map_map]
  refine List.map_congr_left fun kv _ => ?_
  show (if kv.1 = k then (kv.1, v) else kv).1 = kv.1
  split <;> rfl
/-- what stands found; some of it may be the end for now -/
structure Fnd (P : List Ins) (kvs : List (Key × V)) (bad : Nat → Prop) : Prop where
  nd : (kvs.map (·.1)).Nodup
  ks : ∀ k ∈ kvs.map (·.1), ∃ i, i ≤ P.length ∧ k = ky i
  en : ∃ v, valV kvs (ky P.length) = some v
  val : ∀ (i : Nat) v, valV kvs (ky i) = some v → v = .int (land P i : Nat) ∨ (bad i ∧ v = .int (P.length : Nat))
theorem Fnd.len {kvs : List (Key × V)} {bad : Nat → Prop} (F : Fnd P kvs bad) : kvs.length ≤ P.length + 1 := by
  have := Lin.nd_len (ys := (List.range (P.length + 1)).map ky) F.nd fun k hk => by
    obtain ⟨i, hi, e⟩ := F.ks k hk
    exact List.mem_map.mpr ⟨i, List.mem_range.mpr (by omega), e.symm⟩
  rw [List.length_map, List.length_map, List.length_range] at this
  exact this
theorem Fnd.lt {kvs : List (Key × V)} {bad : Nat → Prop} (F : Fnd P kvs bad) {i : Nat} (h : i ≤ P.length) (hn : valV kvs (ky i) = none) : kvs.length < P.length + 1 := by
  have := Lin.nd_len (xs := kvs.map (·.1) ++ [ky i]) (ys := (List.range (P.length + 1)).map ky) (by
    rw [List.nodup_append]
    refine ⟨F.nd, by simp, fun a ha b hb => ?_⟩
    rw [List.mem_singleton.mp hb]
    rintro rfl
    exact valV_not hn ha) fun k hk => by
    rcases List.mem_append.mp hk with z | z
    · obtain ⟨i, hi, e⟩ := F.ks k z
      exact List.mem_map.mpr ⟨i, List.mem_range.mpr (by omega), e.symm⟩
    · rw [List.mem_singleton.mp z]
      exact List.mem_map.mpr ⟨i, List.mem_range.mpr (by omega), rfl⟩
  rw [List.length_append, List.length_map, List.length_map, List.length_range, List.length_singleton] at this
  omega
theorem Fnd.ne {kvs : List (Key × V)} {bad : Nat → Prop} (F : Fnd P kvs bad) {i : Nat} (h : i ≤ P.length) (hn : valV kvs (ky i) = none) : i < P.length := by
  rcases Nat.lt_or_ge i P.length with z | z
  · exact z
  · have : i = P.length := by omega
    subst this
    obtain ⟨v, e⟩ := F.en
    rw [e] at hn
    cases hn
theorem Fnd.put {kvs : List (Key × V)} {bad bad' : Nat → Prop} (F : Fnd P kvs bad) {i : Nat} {v : V} (h : i ≤ P.length) (hb : ∀ j, bad j → j ≠ i → bad' j) (hv : v = .int (land P i : Nat) ∨ (bad' i ∧ v = .int (P.length : Nat))) : Fnd P (putK kvs (ky i) v) bad' := by
  refine ⟨?_, ?_, ?_, ?_⟩
  · cases e : valV kvs (ky i) with
    | none => exact nd_putK v F.nd e
    | some x => rw [keys_put _ _ _ _ e]; exact F.nd
  · intro k hk
    cases e : valV kvs (ky i) with
    | none =>
      rw [putK_new v e, List.map_append] at hk
      rcases List.mem_append.mp hk with z | z
      · exact F.ks k z
      · exact ⟨i, h, List.mem_singleton.mp z⟩
    | some x =>
      rw [keys_put _ _ _ _ e] at hk
      exact F.ks k hk
  · rw [valV_put]
    split
    · exact ⟨_, rfl⟩
    · exact F.en
  · intro j u hu
    rw [valV_put] at hu
    by_cases e : ky j = ky i
    · rw [if_pos e] at hu
      have := ky_inj e
      subst this
      rw [← Option.some.inj hu]
      exact hv
    · rw [if_neg e] at hu
      rcases F.val j u hu with z | ⟨z1, z2⟩
      · exact .inl z
      · exact .inr ⟨hb j z1 fun q => e (by rw [q]), z2⟩
theorem put_has {kvs : List (Key × V)} {k j : Key} {v : V} (h : (valV kvs j).isSome = true) : (valV (putK kvs k v) j).isSome = true := by
  rw [valV_put]
  split
  · rfl
  · exact h
theorem fnd_start : Fnd P [(ky P.length, .int (P.length : Nat))] (fun _ => False) := by
  refine ⟨by simp, fun k hk => ⟨P.length, Nat.le_refl _, List.mem_singleton.mp hk⟩, ⟨_, valV_pos rfl⟩, fun i v hv => .inl ?_⟩
  by_cases e : ky P.length = ky i
  · have := ky_inj e
    subst this
    rw [valV_pos rfl] at hv
    rw [land_end, ← Option.some.inj hv]
  · rw [valV_neg e] at hv
    cases hv
/-- the gos followed so far -/
def gone (P : List Ins) (f i k : Nat) (x : Nat) : Prop := ∃ j, i ≤ j ∧ j < k ∧ x = it P j f
/-- where it stops, it knows -/
theorem Fnd.stop {kvs : List (Key × V)} {f k : Nat} (F : Fnd P kvs (gone P f 0 k)) (g : ∀ j, j < k → isGo P (it P j f) = true) {v : V} (h : valV kvs (ky (it P k f)) = some v) : v = .int (land P (it P k f) : Nat) := by
  rcases F.val _ _ h with z | ⟨⟨j, _, hj, e⟩, z⟩
  · exact z
  · rw [z]
    have : land P (it P k f) = P.length := by
      refine land_cyc (k := k - j) (by omega) ?_ (by rw [e]; exact g j hj)
      rw [e, ← it_add, show j + (k - j) = k by omega, e]
    rw [this]
end Prg


set_option Elab.async false
set_option linter.all false
set_option maxRecDepth 100000
set_option maxHeartbeats 4000000
/-! Where it lands -/
namespace K01
open PySem PySem.Spec PyProof.Rows L2 Prg
theorem ins_at {K : PySem.W.Frag} {x : Ins} {v : V} {H : Hp} (h : IVof K (iv x) v H) : ∃ b us, v = .ref b ∧ SqT K H b us ∧ us[0]? = some (.str (wstr x.1)) ∧ (bare x.1 = false → us[1]? = some (.int (x.2 : Nat))) := by
  unfold iv at h
  split at h
  · rename_i hb
    obtain ⟨b, rfl, q⟩ := h
    exact ⟨b, _, rfl, q, rfl, fun z => by rw [hb] at z; cases z⟩
  · obtain ⟨b, rfl, q⟩ := h
    exact ⟨b, _, rfl, q, rfl, fun _ => rfl⟩
/-- the program's tuple, its instructions -/
theorem prg_at {K : PySem.W.Frag} {P : List Ins} {xs : List V} {H : Hp} (p : Paired (fun x i => IVof K i x H) xs (P.map iv)) {i : Nat} {x : Ins} (h : P[i]? = some x) : ∃ b us, xs[i]? = some (.ref b) ∧ SqT K H b us ∧ us[0]? = some (.str (wstr x.1)) ∧ (bare x.1 = false → us[1]? = some (.int (x.2 : Nat))) := by
  obtain ⟨v, hv, q⟩ := pr_getR p (show (P.map iv)[i]? = some (iv x) by rw [List.getElem?_map, h]; rfl)
  obtain ⟨b, us, rfl, h1, h2, h3⟩ := ins_at q
  exact ⟨b, us, hv, h1, h2, h3⟩
theorem _root_.Prg.Fnd.mono {P : List Ins} {kvs : List (Key × V)} {bad bad' : Nat → Prop} (F : Fnd P kvs bad) (h : ∀ i, bad i → bad' i) : Fnd P kvs bad' :=
  ⟨F.nd, F.ks, F.en, fun i v e => (F.val i v e).imp id fun ⟨a, b⟩ => ⟨h i a, b⟩⟩
theorem _root_.Prg.Fnd.pos {P : List Ins} {kvs : List (Key × V)} {bad : Nat → Prop} (F : Fnd P kvs bad) : 0 < kvs.length := by
  obtain ⟨v, e⟩ := F.en
  cases kvs with
  | nil => cases e
  | cons _ _ => exact Nat.succ_pos _
def landV (P : List Ins) : List V := (List.range (P.length + 1)).map fun i => V.int (land P i : Nat)
def LandT (P : List Ins) (v : V) (H : Hp) : Prop := ∃ L, v = .ref L ∧ H L = some (.lst (landV P))
theorem LandT.ex {P : List Ins} {v : V} {H H' : Hp} (e : Ex H H') (h : LandT P v H) : LandT P v H' := by
  obtain ⟨L, z, q⟩ := h
  exact ⟨L, z, e _ _ q⟩
theorem landV_at {P : List Ins} {i : Nat} (h : i ≤ P.length) : (landV P)[i]? = some (.int (land P i : Nat)) := by
  unfold landV
  rw [List.getElem?_map, List.getElem?_range (by omega)]
  rfl
theorem strGo {x : Wd} : wstr x = "go" → x = .go := by cases x <;> intro h <;> first | rfl | exact absurd h (by decide +kernel)
theorem isIn2 (x : Wd) : inV (.str (wstr x)) [.str "go", .str "stop"] = (decide (x = .go) || decide (x = .stop)) := by cases x <;> decide +kernel
section
variable {P : Program} {w : World} {K : PySem.W.Frag} {mg : Str → Option Value} {base : Heap}
def spLand (K : PySem.W.Frag) : Sp := fun vs H Q _ => ∃ (P : List Ins) (v : V), vs = [v] ∧ PrgT K P v H ∧ Jmp P ∧ P.length ≤ 30000 ∧ Ret (LandT P) H Q
theorem ok_land {f : Addr} {fd : FuncData} (B : Bare mg) (F : Fun K "landings" "landings" s_landings f fd) : FnOk P w K mg base CX0 1 f fd p_landings (spLand K) := by
  refine F.ok sc_landings (fun vs H Q E h => ?_) (fun cdv Ar outer s H vs Q E hr h => ?_)
  · obtain ⟨P, v, rfl, _⟩ := h
    rfl
  · obtain ⟨P, v, rfl, ⟨a, xs, rfl, ha, pa⟩, J, hl, q⟩ := h
    have hu := hu_of hr
    have la : xs.length = P.length := by rw [pr_len pa, List.length_map]
    refine ⟨_, pss_cons (ps_set (i := 1) sc_landings.nd rfl (Or.inl rfl) (pe_callB call_len_seq (by rfl) B.len PySem.boot_len (pa_cons (pv 0) pa_nil)))
      (pss_cons (ps_set (i := 2) sc_landings.nd rfl (Or.inr rfl) (pe_disp (pps_cons (pv 1) (pv 1) pps_nil) (by rfl) (by rfl) (fun z => by cases z) (by decide)))
      (pss_cons (ps_for PassesOwn.never rfl (pi_range1 rfl B.range (pa_cons (pv 1) pa_nil)) (pg_name (i := 3) sc_landings.nd rfl (Or.inl rfl))
        (pss_cons (ps_set (i := 4) sc_landings.nd rfl (Or.inl rfl) (pv 3))
        (pss_cons (ps_set (i := 5) sc_landings.nd rfl (Or.inl rfl) (pe_lst pa_nil))
        (pss_cons (ps_while PassesOwn.never (pt_cmp (pc_dnotin hu (pv 4) (pv 2)))
          (pss_cons (ps_set (i := 6) sc_landings.nd rfl (Or.inl rfl) (pe_ix ix_tup (pe_ix ix_tup (pv 0) (pv 4) (fun _ _ => rfl)) pe_int (fun _ _ => rfl)))
          (pss_cons (ps_dput hu (pv 2) (pv 4) (pe_ifExp (pt_cmpR (show OpR _ _ (rIn K false) from op_in_seq) (pv 6) (pe_tup (pa_cons pe_str (pa_cons pe_str pa_nil))) rfl) (pv 1) (pv 4)) rfl)
          (pss_one (ps_if (pt_cmpR op_eq (pv 6) pe_str (nomark _))
            (pss_cons (ps_expr (pe_bm PySem.F.plainAttrs_list PySem.F.slot_list_append PySem.F.type_list_append mt_append (pv 5) (pa_cons (pv 4) pa_nil)))
            (pss_one (ps_set (i := 4) sc_landings.nd rfl (Or.inl rfl) (pe_ix ix_tup (pe_ix ix_tup (pv 0) (pv 4) (fun _ _ => rfl)) pe_int (fun _ _ => rfl))))) pss_nil)))))
        (pss_one (ps_for PassesOwn.never rfl (pi_list (pv 5)) (pg_name (i := 7) sc_landings.nd rfl (Or.inl rfl)) (pss_one (ps_dput hu (pv 2) (pv 7) (pe_dget hu (pv 2) (pv 4) (fun _ _ => rfl)) rfl))))))))
      (pss_one (ps_ret (pe_lc (own := [("place", 4)]) (g := gName 4) (tt := tYes) rfl sc_landings.nd (pi_range1 rfl B.range (pa_cons (pe_op op_add (pv 1) pe_int) pa_nil)) (blkOk_by (N := n_landings) (sc := defScope s_landings) (by decide +kernel)) (fun _ _ _ _ _ => pg_name (i := 4) sc_landings.nd rfl (Or.inl rfl)) (fun _ _ _ _ _ => pts_nil)
        (fun _ _ _ _ _ => pe_dget hu (pv 2) (pv 4) (fun _ _ => rfl))))))), ?_⟩
    refine ⟨_, rfl, a, xs, rfl, .inr ha, ?_⟩
    rw [la]
    intro d nd
    refine ⟨_, rfl, _, rfl, ?_⟩
    refine ⟨upd_same, [(ky P.length, .int (P.length : Nat))], rfl, (by show 1 ≤ 15; decide), ?_⟩
    rw [show mergeK [] [(ky P.length, V.int (P.length : Nat))] = [(ky P.length, V.int (P.length : Nat))] from rfl, upd_upd]
    refine ⟨_, rfl, _, rfl, by omega, by omega, ?_⟩
    have big : P.length + 1 < sizeLine := Nat.lt_of_le_of_lt (show P.length + 1 ≤ 30001 by omega) (by decide)
    refine for_range (lo := 0) (n := ((P.length : Nat) : Int).toNat) (fun i σ' H' => ∃ (kvs : List (Key × V)) (y3 y4 y5 y6 y7 : Option V), σ' = [some (.ref a), some (.int (P.length : Nat)), some (.ref d), y3, y4, y5, y6, y7] ∧ Ex H H' ∧ H' d = some (.dK kvs) ∧ Fnd P kvs (fun _ => False) ∧ ∀ j, j < i → (valV kvs (ky j)).isSome = true)
      ⟨_, none, none, none, none, none, rfl, _root_.Evl.Ex.new nd, upd_same, fnd_start, fun j hj => by omega⟩ (fun i σ' H' hi p' => ?_) fun σ' H' p' => ?_
    · obtain ⟨kvs, y3, y4, y5, y6, y7, rfl, e0, hd, Fn, has⟩ := p'
      rw [Int.toNat_natCast] at hi
      rw [Int.zero_add]
      refine ⟨_, rfl, (by show 0 ≤ sizeLine; decide), fun g ng => ?_⟩
      have ngH : H g = none := by
        cases z : H g with
        | none => rfl
        | some o => rw [e0 _ _ z] at ng; cases ng
      have gd : g ≠ d := by rintro rfl; rw [hd] at ng; cases ng
      refine while_by (fun σ' H' => ∃ (k : Nat) (kvs : List (Key × V)) (y6 : Option V), σ' = [some (.ref a), some (.int (P.length : Nat)), some (.ref d), some (.int (i : Nat)), some (.int (it P k i : Nat)), some (.ref g), y6, y7] ∧ Ex H H' ∧ H' d = some (.dK kvs) ∧
          H' g = some (.lst ((List.range k).map fun j => V.int (it P j i : Nat))) ∧ Fnd P kvs (gone P i 0 k) ∧ (∀ j, j < k → isGo P (it P j i) = true) ∧ (∀ j, j < i → (valV kvs (ky j)).isSome = true) ∧ (0 < k → (valV kvs (ky i)).isSome = true) ∧ k < kvs.length)
        (fun _ H' => match H' d with | some (.dK kvs) => P.length + 1 - kvs.length | _ => 0)
        ⟨0, kvs, y6, rfl, e0.trans (_root_.Evl.Ex.new ng), by rw [upd_ne gd.symm]; exact hd, upd_same, Fn.mono fun _ z => z.elim, fun j hj => by omega, has, fun z => absurd z (by omega), Fn.pos⟩ (fun σ' H1 p' => ?_) ?_
      · obtain ⟨k, kvs, y6, rfl, e1, hd1, hg1, Fn, gos, has, hasi, kk⟩ := p'
        have pl : it P k i ≤ P.length := it_le J k (by omega)
        refine ⟨_, rfl, _, rfl, d, _, rfl, DGet.k (k := ky (it P k i)) hd1, _, rfl, ?_⟩
        cases e : valV kvs (ky (it P k i)) with
        | none =>
          have lt := Fn.ne pl e
          have ln := Fn.lt pl e
          obtain ⟨x, hx⟩ : ∃ x, P[it P k i]? = some x := ⟨_, List.getElem?_eq_getElem lt⟩
          obtain ⟨b, us, gx, hb, g0, g1⟩ := prg_at pa hx
          have isg := isGo_at hx
          refine iteT ?_
          refine ⟨_, rfl, _, rfl, a, _, _, _, rfl, rfl, _root_.Evl.ex_t e1 ha, at_of rfl gx, b, _, _, _, rfl, rfl, _root_.Evl.ex_t e1 hb, at_of (j := 0) rfl g0, ?_⟩
          refine ⟨_, rfl, (by show 2 ≤ sizeLine; decide), fun t nt => ?_⟩
          have td : t ≠ d := by rintro rfl; rw [hd1] at nt; cases nt
          have tg : t ≠ g := by rintro rfl; rw [hg1] at nt; cases nt
          have e2 : Ex H (upd H1 t (.tup [.str "go", .str "stop"])) := e1.trans (_root_.Evl.Ex.new nt)
          refine ⟨t, _, rfl, .inr (SqT.of upd_same), rfl, rfl, _, rfl, ?_⟩
          have dp : ∀ o, (upd H1 t o) d = some (.dK kvs) := fun o => by rw [upd_ne td.symm]; exact hd1
          have dg : ∀ o, (upd H1 t o) g = some (.lst ((List.range k).map fun j => V.int (it P j i : Nat))) := fun o => by rw [upd_ne tg.symm]; exact hg1
          have sm : kvs.length < sizeLine := Nat.lt_trans ln big
          rw [isIn2]
          by_cases isgo : x.1 = .go
          · rw [show (decide (x.1 = .go) || decide (x.1 = .stop)) = true by rw [isgo]; rfl]
            refine iteT ?_
            have ig : isGo P (it P k i) = true := by rw [isg]; exact decide_eq_true isgo
            refine ⟨_, rfl, _, rfl, _, rfl, d, _, rfl, DPut.k (k := ky (it P k i)) (dp _) sm, ?_⟩
            refine ⟨_, rfl, rfl, _, rfl, ite2 (fun c => ?_) (fun c => absurd (decide_eq_true (by rw [isgo]; rfl)) c)⟩
            have gg : (upd (upd H1 t (.tup [.str "go", .str "stop"])) d (.dK (putK kvs (ky (it P k i)) (.int (P.length : Nat))))) g = some (.lst ((List.range k).map fun j => V.int (it P j i : Nat))) := by rw [upd_ne gd]; exact dg _
            have e4 := (e2.mut (p := d) (o := .dK (putK kvs (ky (it P k i)) (.int (P.length : Nat)))) nd).mut (p := g) (o := .lst (((List.range k).map fun j => V.int (it P j i : Nat)) ++ [.int (it P k i : Nat)])) ngH
            have kl : k ≤ P.length := by have := Fn.len; omega
            have pl1 : ∀ v, (putK kvs (ky (it P k i)) v).length = kvs.length + 1 := fun v => by rw [putK_new _ e, List.length_append, List.length_singleton]
            have nb : bare x.1 = false := by rw [isgo]; rfl
            have e5 : it P (k + 1) i = x.2 := by rw [it_go ig, num_at hx]
            refine ⟨_, rfl, .inl ⟨rfl, _, SqL.of gg⟩, _, rfl, g, _, _, rfl, rfl, gg, (by rw [List.length_map, List.length_range]; omega), ?_⟩
            refine ⟨_, rfl, _, rfl, a, _, _, _, rfl, rfl, _root_.Evl.ex_t e4 ha, at_of rfl gx, b, _, _, _, rfl, rfl, _root_.Evl.ex_t e4 hb, at_of (j := 1) rfl (g1 nb), ?_⟩
            refine ⟨⟨k + 1, _, _, by rw [e5]; rfl, e4, by rw [upd_ne gd.symm]; exact upd_same, by rw [List.range_succ, List.map_append]; exact upd_same, ?_, ?_, fun j hj => put_has (has j hj), ?_, by rw [pl1]; omega⟩, ?_⟩
            · refine Fn.put pl (fun j hj _ => ?_) (.inr ⟨⟨k, Nat.zero_le _, Nat.lt_succ_self _, rfl⟩, rfl⟩)
              obtain ⟨j', h1, h2, h3⟩ := hj
              exact ⟨j', h1, Nat.lt_succ_of_lt h2, h3⟩
            · intro j hj
              rcases Nat.lt_or_ge j k with z | z
              · exact gos j z
              · have : j = k := by omega
                rw [this]
                exact ig
            · intro _
              rcases Nat.eq_zero_or_pos k with z | z
              · subst z
                rw [valV_put, if_pos (show ky i = ky (it P 0 i) from rfl)]
                rfl
              · exact put_has (hasi z)
            · show (match (upd (upd _ d (HO.dK (putK kvs (ky (it P k i)) _))) g _ d) with | some (.dK kvs) => P.length + 1 - kvs.length | _ => 0) < (match H1 d with | some (.dK kvs) => P.length + 1 - kvs.length | _ => 0)
              rw [upd_ne gd.symm, upd_same, hd1]
              show P.length + 1 - (putK kvs (ky (it P k i)) _).length < P.length + 1 - kvs.length
              rw [putK_new _ e, List.length_append, List.length_singleton]
              omega
          · have ng' : isGo P (it P k i) = false := by rw [isg]; exact decide_eq_false isgo
            by_cases st : x.1 = .stop
            · rw [show (decide (x.1 = .go) || decide (x.1 = .stop)) = true by rw [st]; rfl]
              refine iteT ?_
              have hv : V.int (P.length : Nat) = V.int (land P (it P k i) : Nat) := by
                rw [land_no ng']
                unfold fin
                rw [if_neg fun z => z.2.1 (by rw [word_at hx, st])]
              refine ⟨_, rfl, _, rfl, _, rfl, d, _, rfl, DPut.k (k := ky (it P k i)) (dp _) sm, ?_⟩
              refine ⟨_, rfl, rfl, _, rfl, ite2 (fun c => absurd (strGo (V.str.inj (of_decide_eq_true c))) isgo) (fun c => ?_)⟩
              refine ⟨⟨k, _, _, rfl, e2.mut nd, upd_same, by rw [upd_ne gd]; exact dg _, Fn.put pl (fun j hj _ => hj) (.inl hv), gos, fun j hj => put_has (has j hj), fun z => put_has (hasi z), by rw [putK_new _ e, List.length_append, List.length_singleton]; omega⟩, ?_⟩
              show (match (upd _ d (HO.dK (putK kvs (ky (it P k i)) _)) d) with | some (.dK kvs) => P.length + 1 - kvs.length | _ => 0) < (match H1 d with | some (.dK kvs) => P.length + 1 - kvs.length | _ => 0)
              rw [upd_same, hd1]
              show P.length + 1 - (putK kvs (ky (it P k i)) _).length < P.length + 1 - kvs.length
              rw [putK_new _ e, List.length_append, List.length_singleton]
              omega
            · rw [show (decide (x.1 = .go) || decide (x.1 = .stop)) = false by rw [decide_eq_false isgo, decide_eq_false st]; rfl]
              refine iteF ?_
              have hv : V.int (it P k i : Nat) = V.int (land P (it P k i) : Nat) := by
                rw [land_no ng']
                unfold fin
                rw [if_pos ⟨lt, fun z => st (Option.some.inj ((word_at hx).symm.trans z)), fun z => isgo (Option.some.inj ((word_at hx).symm.trans z))⟩]
              refine ⟨_, rfl, _, rfl, _, rfl, d, _, rfl, DPut.k (k := ky (it P k i)) (dp _) sm, ?_⟩
              refine ⟨_, rfl, rfl, _, rfl, ite2 (fun c => absurd (strGo (V.str.inj (of_decide_eq_true c))) isgo) (fun c => ?_)⟩
              refine ⟨⟨k, _, _, rfl, e2.mut nd, upd_same, by rw [upd_ne gd]; exact dg _, Fn.put pl (fun j hj _ => hj) (.inl hv), gos, fun j hj => put_has (has j hj), fun z => put_has (hasi z), by rw [putK_new _ e, List.length_append, List.length_singleton]; omega⟩, ?_⟩
              show (match (upd _ d (HO.dK (putK kvs (ky (it P k i)) _)) d) with | some (.dK kvs) => P.length + 1 - kvs.length | _ => 0) < (match H1 d with | some (.dK kvs) => P.length + 1 - kvs.length | _ => 0)
              rw [upd_same, hd1]
              show P.length + 1 - (putK kvs (ky (it P k i)) _).length < P.length + 1 - kvs.length
              rw [putK_new _ e, List.length_append, List.length_singleton]
              omega
        | some v =>
          refine iteF ?_
          have ev := Fn.stop gos e
          subst ev
          refine ⟨_, rfl, g, rfl, ⟨_, SqL.of hg1⟩, ?_⟩
          refine for_list (K := K) (a := g) (xs := (List.range k).map fun j => V.int (it P j i : Nat)) (fun m σ' H' => ∃ (kvs : List (Key × V)) (y7 : Option V), σ' = [some (.ref a), some (.int (P.length : Nat)), some (.ref d), some (.int (i : Nat)), some (.int (it P k i : Nat)), some (.ref g), y6, y7] ∧ Ex H H' ∧ H' d = some (.dK kvs) ∧
              H' g = some (.lst ((List.range k).map fun j => V.int (it P j i : Nat))) ∧ Fnd P kvs (gone P i m k) ∧ (∀ j, j < i → (valV kvs (ky j)).isSome = true) ∧ (valV kvs (ky i)).isSome = true ∧ valV kvs (ky (it P k i)) = some (.int (land P (it P k i) : Nat)))
            ⟨kvs, y7, rfl, e1, hd1, hg1, Fn, has, ?_, e⟩ (fun m σ' H' _ ⟨_, _, _, _, _, hg, _⟩ => SqL.of hg) (fun m x σ' H2 hx p' => ?_) fun σ' H2 p' => ?_
          · rcases Nat.eq_zero_or_pos k with z | z
            · subst z
              have e' : valV kvs (ky i) = _ := e
              rw [e']
              rfl
            · exact hasi z
          · obtain ⟨kvs, y7, rfl, e2, hd2, hg2, Fn, has, hasi, e⟩ := p'
            have mk : m < k := by
              have := (List.getElem?_eq_some_iff.mp hx).1
              rwa [List.length_map, List.length_range] at this
            rw [List.getElem?_map, List.getElem?_range mk] at hx
            obtain rfl := Option.some.inj hx
            refine ⟨_, rfl, _, rfl, d, _, rfl, (by have := DGet.k (k := ky (it P k i)) hd2; rw [e] at this; exact this), ?_⟩
            refine ⟨_, rfl, _, rfl, d, _, rfl, DPut.k (k := ky (it P m i)) hd2 (Nat.lt_of_le_of_lt Fn.len big), ?_⟩
            refine ⟨_, _, rfl, e2.mut nd, upd_same, by rw [upd_ne gd]; exact hg2, Fn.put (it_le J m (by omega)) ?_ (.inl (by rw [land_it gos m (by omega)])), fun j hj => put_has (has j hj), put_has hasi, ?_⟩
            · rintro j ⟨j', h1, h2, rfl⟩ h3
              refine ⟨j', ?_, h2, rfl⟩
              rcases Nat.lt_or_ge m j' with z | z
              · exact z
              · have : j' = m := by omega
                exact absurd (by rw [this]) h3
            · rw [valV_put]
              split
              · rfl
              · exact e
          · obtain ⟨kvs, y7, rfl, e2, hd2, hg2, Fn, has, hasi, e⟩ := p'
            rw [List.length_map, List.length_range] at Fn
            refine ⟨kvs, _, _, _, _, _, rfl, e2, hd2, Fn.mono ?_, fun j hj => ?_⟩
            · rintro j ⟨j', h1, h2, _⟩
              omega
            · rcases Nat.lt_or_ge j i with z | z
              · exact has j z
              · have : j = i := by omega
                rw [this]
                exact hasi
      · intro σ' H' Q1 Q2 i h
        obtain ⟨v1, z1, v2, z2', d1, o1, r1, r2, c, r3, r4⟩ := h
        exact ⟨v1, z1, v2, z2', d1, o1, r1, r2, c, r3, i _ _ r4⟩
    · obtain ⟨kvs, y3, y4, y5, y6, y7, rfl, e0, hd, Fn, has⟩ := p'
      rw [Int.toNat_natCast] at has
      refine ⟨_, rfl, _, _, rfl, rfl, _, rfl, by omega, by omega, ?_⟩
      refine lc_go (walk_range (lo := 0) (n := (((P.length : Nat) : Int) + 1).toNat)) (by omega) (fun _ _ => trivial) (List.range (P.length + 1)) (by rw [List.length_range]; omega) (fun _ => true) (fun j => IsV (.int (land P j : Nat))) (fun _ _ _ _ _ h => h) (fun i j x H1 H2 hj e y C N hC hN => ?_) fun D ys H1 nD e1 hD hy => ?_
      · obtain ⟨rfl, ex⟩ := y
        have ex' : x = V.int ((i : Nat) : Int) := ex.trans (by show V.int _ = V.int _; rw [Int.zero_add])
        subst ex'
        have hi : i < P.length + 1 := by
          have := (List.getElem?_eq_some_iff.mp hj).1
          rwa [List.length_range] at this
        have ej : j = i := by
          rw [List.getElem?_range hi] at hj
          exact (Option.some.inj hj).symm
        subst ej
        have hs : valV kvs (ky j) = some (.int (land P j : Nat)) := by
          have h1 : (valV kvs (ky j)).isSome = true := by
            rcases Nat.lt_or_ge j P.length with z | z
            · exact has j z
            · have : j = P.length := by omega
              subst this
              obtain ⟨v, e⟩ := Fn.en
              rw [e]
              rfl
          obtain ⟨v, hv⟩ := Option.isSome_iff_exists.mp h1
          rcases Fn.val j v hv with z | ⟨z, _⟩
          · rw [hv, z]
          · exact z.elim
        refine ⟨rfl, yes_go ⟨_, rfl, _, rfl, d, _, rfl, (by have := DGet.k (k := ky j) (e _ _ hd); rw [hs] at this; exact this), hC rfl _ _ (_root_.Evl.Ex.refl _) rfl⟩⟩
      · rw [filter_yes] at hy
        have ey : ys = landV P := pr_fun hy
        subst ey
        exact q _ _ (e0.trans e1) ⟨D, rfl, hD⟩
end
end K01


set_option Elab.async false
set_option linter.all false
set_option maxRecDepth 100000
/-! Runs -/
namespace Prg
open Lin (Row)
/-- the memory and the hand ahead of the stirring -/
def deed (p : Int) (W S : List Row) (x : Ins) (m : Row) (h : Int) : Row × Int :=
  match x.1 with
  | .get => (m, Lin.dot p (S.getD x.2 []) m)
  | .plus => (m, (h + Lin.dot p (S.getD x.2 []) m) % p)
  | .minus => (m, (h - Lin.dot p (S.getD x.2 []) m) % p)
  | .add => (Lin.add p m h (W.getD x.2 []), h)
  | .take => (Lin.add p m (-h) (W.getD x.2 []), h)
  | .put => (m, (x.2 : Nat))
  | _ => (m, h)
structure St where
  m : Row
  h : Int
  a : Nat
  said : List Int
  pl : Nat
def step (p : Int) (A W S : List Row) (P : List Ins) (ins : List Int) (s : St) : St :=
  match P[s.pl]? with
  | none => s
  | some x =>
    match x.1 with
    | .say => ⟨Lin.app p A s.m, s.h, s.a, s.said ++ [s.h], land P (s.pl + 1)⟩
    | .ask => ⟨Lin.app p A s.m, ins.getD s.a 0, s.a + 1, s.said, land P (s.pl + 1)⟩
    | .zero => ⟨Lin.app p A s.m, s.h, s.a, s.said, land P (if s.h = 0 then x.2 else s.pl + 1)⟩
    | _ => ⟨Lin.app p A (deed p W S x s.m s.h).1, (deed p W S x s.m s.h).2, s.a, s.said, land P (s.pl + 1)⟩
def nth (p : Int) (A W S : List Row) (P : List Ins) (ins : List Int) (s : St) : Nat → St
  | 0 => s
  | k + 1 => step p A W S P ins (nth p A W S P ins s k)
/-- the words and numbers that a program may have -/
structure InsOk (p : Int) (sl wl n : Nat) (kept : Bool) (x : Ins) : Prop where
  see : Prg.see x.1 = true → x.2 < sl
  wri : Prg.wri x.1 = true → x.2 < wl
  put : x.1 = .put → ((x.2 : Nat) : Int) < p
  jmp : x.1 = .go ∨ x.1 = .zero → x.2 ≤ n
  wait : x.1 = .wait → kept = true
def PrgOk (p : Int) (sl wl : Nat) (kept : Bool) (P : List Ins) : Prop := ∀ (i : Nat) (x : Ins), P[i]? = some x → InsOk p sl wl P.length kept x
theorem PrgOk.jmp {p : Int} {sl wl : Nat} {kept : Bool} {P : List Ins} (h : PrgOk p sl wl kept P) : Jmp P := fun i x e z => (h i x e).jmp z
/-- what stays true in a run -/
structure StOk (p : Int) (n : Nat) (P : List Ins) (s : St) : Prop where
  m : Lin.OkR p n s.m
  h0 : 0 ≤ s.h
  h1 : s.h < p
  pl : s.pl ≤ P.length
  wd : s.pl < P.length → word P s.pl ≠ some .stop ∧ word P s.pl ≠ some .go
theorem dot_bd {p : Int} (hp : 0 < p) (u w : Row) : 0 ≤ Lin.dot p u w ∧ Lin.dot p u w < p := by
  unfold Lin.dot
  exact ⟨Int.emod_nonneg _ (by omega), Int.emod_lt_of_pos _ hp⟩
theorem getD_ok {p : Int} {n : Nat} {R : List Row} (o : Lin.Oks p n R) {i : Nat} (h : i < R.length) : Lin.OkR p n (R.getD i []) := by
  have : R.getD i [] = R[i] := by rw [List.getD_eq_getElem?_getD, List.getElem?_eq_getElem h]; rfl
  rw [this]
  exact o _ (List.getElem_mem h)
theorem getD_at {R : List Row} {i : Nat} (h : i < R.length) : R[i]? = some (R.getD i []) := by
  rw [List.getD_eq_getElem?_getD, List.getElem?_eq_getElem h]
  rfl
theorem deed_ok {p : Int} {n sl : Nat} {W S : List Row} {kept : Bool} {x : Ins} {m : Row} {h : Int} (hp : 0 < p) (oW : Lin.Oks p n W) (X : InsOk p S.length W.length sl kept x) (om : Lin.OkR p n m) (h0 : 0 ≤ h) (h1 : h < p) :
    Lin.OkR p n (deed p W S x m h).1 ∧ 0 ≤ (deed p W S x m h).2 ∧ (deed p W S x m h).2 < p := by
  obtain ⟨w, k⟩ := x
  cases w with
  | get => exact ⟨om, dot_bd hp _ _⟩
  | plus => exact ⟨om, Int.emod_nonneg _ (by omega), Int.emod_lt_of_pos _ hp⟩
  | minus => exact ⟨om, Int.emod_nonneg _ (by omega), Int.emod_lt_of_pos _ hp⟩
  | add => exact ⟨Lin.ok_add hp om.1 (getD_ok oW (X.wri rfl)).1, h0, h1⟩
  | take => exact ⟨Lin.ok_add hp om.1 (getD_ok oW (X.wri rfl)).1, h0, h1⟩
  | put => exact ⟨om, Int.natCast_nonneg _, X.put rfl⟩
  | wait => exact ⟨om, h0, h1⟩
  | say => exact ⟨om, h0, h1⟩
  | ask => exact ⟨om, h0, h1⟩
  | zero => exact ⟨om, h0, h1⟩
  | go => exact ⟨om, h0, h1⟩
  | stop => exact ⟨om, h0, h1⟩
theorem step_ok {p : Int} {n : Nat} {A W S : List Row} {P : List Ins} {ins : List Int} {kept : Bool} {s : St} (hp : 0 < p) (oA : Lin.Oks p n A) (lA : A.length = n) (oW : Lin.Oks p n W) (X : PrgOk p S.length W.length kept P) (oi : ∀ x ∈ ins, 0 ≤ x ∧ x < p) (o : StOk p n P s) : StOk p n P (step p A W S P ins s) := by
  have wd : ∀ i, land P i < P.length → word P (land P i) ≠ some .stop ∧ word P (land P i) ≠ some .go := fun i h => land_word h
  have oapp : ∀ {m : Row}, Lin.OkR p n m → Lin.OkR p n (Lin.app p A m) := fun _ => Lin.app_ok hp lA
  unfold step
  cases e : P[s.pl]? with
  | none => exact o
  | some x =>
    have D := deed_ok (S := S) hp oW (X _ x e) o.m o.h0 o.h1
    obtain ⟨w, k⟩ := x
    cases w with
    | say => exact ⟨oapp o.m, o.h0, o.h1, land_le _, wd _⟩
    | ask =>
      have b : 0 ≤ ins.getD s.a 0 ∧ ins.getD s.a 0 < p := by
        rw [List.getD_eq_getElem?_getD]
        cases g : ins[s.a]? with
        | none => exact ⟨Int.le_refl _, hp⟩
        | some y => exact oi y (List.mem_of_getElem? g)
      exact ⟨oapp o.m, b.1, b.2, land_le _, wd _⟩
    | zero => exact ⟨oapp o.m, o.h0, o.h1, land_le _, wd _⟩
    | get => exact ⟨oapp D.1, D.2.1, D.2.2, land_le _, wd _⟩
    | plus => exact ⟨oapp D.1, D.2.1, D.2.2, land_le _, wd _⟩
    | minus => exact ⟨oapp D.1, D.2.1, D.2.2, land_le _, wd _⟩
    | add => exact ⟨oapp D.1, D.2.1, D.2.2, land_le _, wd _⟩
    | take => exact ⟨oapp D.1, D.2.1, D.2.2, land_le _, wd _⟩
    | put => exact ⟨oapp D.1, D.2.1, D.2.2, land_le _, wd _⟩
    | wait => exact ⟨oapp D.1, D.2.1, D.2.2, land_le _, wd _⟩
    | go => exact ⟨oapp D.1, D.2.1, D.2.2, land_le _, wd _⟩
    | stop => exact ⟨oapp D.1, D.2.1, D.2.2, land_le _, wd _⟩
section
variable {p : Int} {A W S : List Row} {P : List Ins} {ins : List Int} {s : St} {x : Ins}
theorem step_say (hx : P[s.pl]? = some x) (e : x.1 = .say) : step p A W S P ins s = ⟨Lin.app p A s.m, s.h, s.a, s.said ++ [s.h], land P (s.pl + 1)⟩ := by
  unfold step; rw [hx]; obtain ⟨w, k⟩ := x; cases (show w = _ from e); rfl
theorem step_ask (hx : P[s.pl]? = some x) (e : x.1 = .ask) : step p A W S P ins s = ⟨Lin.app p A s.m, ins.getD s.a 0, s.a + 1, s.said, land P (s.pl + 1)⟩ := by
  unfold step; rw [hx]; obtain ⟨w, k⟩ := x; cases (show w = _ from e); rfl
theorem step_zero (hx : P[s.pl]? = some x) (e : x.1 = .zero) : step p A W S P ins s = ⟨Lin.app p A s.m, s.h, s.a, s.said, land P (if s.h = 0 then x.2 else s.pl + 1)⟩ := by
  unfold step; rw [hx]; obtain ⟨w, k⟩ := x; cases (show w = _ from e); rfl
theorem step_else (hx : P[s.pl]? = some x) (e1 : x.1 ≠ .say) (e2 : x.1 ≠ .ask) (e3 : x.1 ≠ .zero) : step p A W S P ins s = ⟨Lin.app p A (deed p W S x s.m s.h).1, (deed p W S x s.m s.h).2, s.a, s.said, land P (s.pl + 1)⟩ := by
  unfold step; rw [hx]; obtain ⟨w, k⟩ := x; cases w <;> first | rfl | contradiction
end
/-- from where it goes on -/
def start (P : List Ins) (m : Row) : St := ⟨m, 0, 0, [], land P 0⟩
theorem start_ok {p : Int} {n : Nat} {P : List Ins} {m : Row} (hp : 0 < p) (om : Lin.OkR p n m) : StOk p n P (start P m) := ⟨om, Int.le_refl _, hp, land_le _, fun h => land_word h⟩
/-- how far a run goes -/
def Ends (pl : Nat → Nat) (n most T : Nat) : Prop := T ≤ most ∧ (∀ t, t < T → pl t < n) ∧ (T = most ∨ ¬ pl T < n)
theorem Ends.one {pl : Nat → Nat} {n most T T' : Nat} (h : Ends pl n most T) (h' : Ends pl n most T') : T = T' := by
  obtain ⟨a, b, c⟩ := h
  obtain ⟨a', b', c'⟩ := h'
  rcases Nat.lt_trichotomy T T' with z | z | z
  · rcases c with q | q
    · omega
    · exact absurd (b' T z) q
  · exact z
  · rcases c' with q | q
    · omega
    · exact absurd (b T' z) q
end Prg


set_option Elab.async false
set_option linter.all false
set_option maxRecDepth 100000
set_option maxHeartbeats 4000000
/-! One deed of a run -/
namespace K01
open PySem PySem.Spec PyProof.Rows L2 Prg
theorem wstr_inj {x y : Wd} : wstr x = wstr y → x = y := by cases x <;> cases y <;> intro h <;> first | rfl | exact absurd h (by decide +kernel)
theorem wEq {x y : Wd} (c : decide (V.str (wstr x) = V.str (wstr y)) = true) : x = y := wstr_inj (V.str.inj (of_decide_eq_true c))
theorem wNe {x y : Wd} (c : ¬ decide (V.str (wstr x) = V.str (wstr y)) = true) : x ≠ y := fun z => c (decide_eq_true (by rw [z]))
/-- a memory and a hand -/
def PairT (K : PySem.W.Frag) (d : Row × Int) (v : V) (H : Hp) : Prop := ∃ t y, v = .ref t ∧ SqT K H t [y, .int d.2] ∧ RowT K d.1 y H
section
variable {P : Program} {w : World} {K : PySem.W.Frag} {mg : Str → Option Value} {base : Heap}
def spDone (K : PySem.W.Frag) : Sp := fun vs H Q _ => ∃ (p : Int) (n : Nat) (A W S : List Row) (mv v u : V) (x : Ins) (r : Row) (h : Int), vs = [mv, v, u, .int h] ∧ MachT K p A W S mv H ∧ MOk p n A W S ∧ IVof K (iv x) v H ∧ (see x.1 = true → x.2 < S.length) ∧ (wri x.1 = true → x.2 < W.length) ∧
  RowT K r u H ∧ Lin.OkR p n r ∧ 0 ≤ h ∧ h < p ∧ Ret (PairT K (deed p W S x r h)) H Q
theorem ok_done {f : Addr} {fd : FuncData} (F : Fun K "done" "done" s_done f fd) (Gm : Got P w K mg base CX0 1 "meet" p_meet (spMet K)) (Gl : Got P w K mg base CX0 1 "less" p_less (spLess K)) : FnOk P w K mg base CX0 2 f fd p_done (spDone K) := by
  refine F.ok sc_done (fun vs H Q E h => ?_) (fun cdv Ar outer s H vs Q E hr h => ?_)
  · obtain ⟨p, n, A, W, S, mv, v, u, x, r, h', rfl, _⟩ := h
    rfl
  · obtain ⟨p, n, A, W, S, mv, v, u, x, r, hd, rfl, hM, M, hI, xs, xw, hr0, oR, h0, h1, q⟩ := h
    refine ⟨_, pss_cons (ps_asg (pv 0) (pg_tup rfl (pgs_cons (pg_name (i := 4) sc_done.nd rfl (Or.inl rfl)) (pgs_cons (pg_name (i := 5) sc_done.nd rfl (Or.inl rfl)) (pgs_cons (pg_name (i := 6) sc_done.nd rfl (Or.inl rfl)) (pgs_cons (pg_name (i := 7) sc_done.nd rfl (Or.inl rfl)) pgs_nil))))))
      (pss_cons (ps_set (i := 8) sc_done.nd rfl (Or.inl rfl) (pe_ix ix_tup (pv 1) pe_int (fun _ _ => rfl)))
      (pss_cons (ps_if (pt_cmpR op_eq (pv 8) pe_str (nomark _)) (pss_one (ps_ret (pe_tup (pa_cons (pv 2) (pa_cons (pe_got Gm hr pass0 (pa_cons (pv 4) (pa_cons (pe_ix ix_tup (pv 7) (pe_ix ix_tup (pv 1) pe_int (fun _ _ => rfl)) (fun _ _ => rfl)) (pa_cons (pv 2) pa_nil)))) pa_nil))))) pss_nil)
      (pss_cons (ps_if (pt_cmpR op_eq (pv 8) pe_str (nomark _)) (pss_one (ps_ret (pe_tup (pa_cons (pv 2) (pa_cons (pe_op op_mod (pe_op op_add (pv 3) (pe_got Gm hr pass0 (pa_cons (pv 4) (pa_cons (pe_ix ix_tup (pv 7) (pe_ix ix_tup (pv 1) pe_int (fun _ _ => rfl)) (fun _ _ => rfl)) (pa_cons (pv 2) pa_nil))))) (pv 4)) pa_nil))))) pss_nil)
      (pss_cons (ps_if (pt_cmpR op_eq (pv 8) pe_str (nomark _)) (pss_one (ps_ret (pe_tup (pa_cons (pv 2) (pa_cons (pe_op op_mod (pe_op op_sub (pv 3) (pe_got Gm hr pass0 (pa_cons (pv 4) (pa_cons (pe_ix ix_tup (pv 7) (pe_ix ix_tup (pv 1) pe_int (fun _ _ => rfl)) (fun _ _ => rfl)) (pa_cons (pv 2) pa_nil))))) (pv 4)) pa_nil))))) pss_nil)
      (pss_cons (ps_if (pt_cmpR op_eq (pv 8) pe_str (nomark _)) (pss_one (ps_ret (pe_tup (pa_cons (pe_got Gl hr pass0 (pa_cons (pv 4) (pa_cons (pv 2) (pa_cons (pe_un un_neg (pv 3)) (pa_cons (pe_ix ix_tup (pv 6) (pe_ix ix_tup (pv 1) pe_int (fun _ _ => rfl)) (fun _ _ => rfl)) pa_nil))))) (pa_cons (pv 3) pa_nil))))) pss_nil)
      (pss_cons (ps_if (pt_cmpR op_eq (pv 8) pe_str (nomark _)) (pss_one (ps_ret (pe_tup (pa_cons (pe_got Gl hr pass0 (pa_cons (pv 4) (pa_cons (pv 2) (pa_cons (pv 3) (pa_cons (pe_ix ix_tup (pv 6) (pe_ix ix_tup (pv 1) pe_int (fun _ _ => rfl)) (fun _ _ => rfl)) pa_nil))))) (pa_cons (pv 3) pa_nil))))) pss_nil)
      (pss_cons (ps_if (pt_cmpR op_eq (pv 8) pe_str (nomark _)) (pss_one (ps_ret (pe_tup (pa_cons (pv 2) (pa_cons (pe_ix ix_tup (pv 1) pe_int (fun _ _ => rfl)) pa_nil))))) pss_nil)
      (pss_one (ps_ret (pe_tup (pa_cons (pv 2) (pa_cons (pv 3) pa_nil)))))))))))), ?_⟩
    obtain ⟨m, a, ww, ss, rfl, hm, hA, ⟨wb, wus, rfl, hwb, pwb⟩, ⟨sb, sus, rfl, hsb, psb⟩⟩ := hM
    obtain ⟨b, us, rfl, hb, g0, g1⟩ := ins_at hI
    have p1 := M.p1
    have p2 := M.p2
    have n4 := M.n4
    refine ⟨_, rfl, _, _, rfl, hm, rfl, _, _, rfl, _, _, rfl, _, _, rfl, _, _, rfl, rfl, ?_⟩
    refine ⟨_, rfl, b, us, _, _, rfl, rfl, hb, at_of (j := 0) rfl g0, ?_⟩
    have sight : see x.1 = true → ∃ y, sus[x.2]? = some y ∧ RowT K (S.getD x.2 []) y H ∧ (S.getD x.2 []).length = r.length ∧ ∀ z ∈ S.getD x.2 [], -1000 < z ∧ z < 1000 := fun e => by
      have l := xs e
      obtain ⟨y, h1, h2⟩ := pr_getR psb (getD_at l)
      have o := getD_ok M.oS l
      exact ⟨y, h1, h2, by rw [o.1, oR.1], fun z hz => by have := o.2 z hz; omega⟩
    have write : wri x.1 = true → ∃ y, wus[x.2]? = some y ∧ RowT K (W.getD x.2 []) y H ∧ r.length = (W.getD x.2 []).length := fun e => by
      have l := xw e
      obtain ⟨y, h1, h2⟩ := pr_getR pwb (getD_at l)
      have o := getD_ok M.oW l
      exact ⟨y, h1, h2, by rw [o.1, oR.1]⟩
    have len : r.length ≤ 1000 := by rw [oR.1]; omega
    have fin : ∀ {row : Row} {d : Int} {y : V} {H1 : Hp}, deed p W S x r hd = (row, d) → Ex H H1 → RowT K row y H1 → ∀ t, H1 t = none → Q (.ref t) (upd H1 t (.tup [y, .int d])) := fun ed e1 hy t nt =>
      q _ _ (e1.trans (_root_.Evl.Ex.new nt)) ⟨t, _, rfl, by rw [ed]; exact SqT.of upd_same, by rw [ed]; exact hy.ex (_root_.Evl.Ex.new nt)⟩
    refine ⟨_, rfl, rfl, _, rfl, ite2 (fun c => ?_) (fun c1 => ?_)⟩
    · have ex : x.1 = .get := wEq (y := .get) c
      obtain ⟨y, gy, ry, ly, by_⟩ := sight (by rw [ex]; rfl)
      refine ⟨_, rfl, _, rfl, _, rfl, _, rfl, b, us, _, _, rfl, rfl, hb, at_of (j := 1) rfl (g1 (by rw [ex]; rfl)), sb, sus, _, y, rfl, rfl, hsb, at_of rfl gy, _, rfl, p, y, u, _, r, rfl, ry, hr0, ly, by omega, by_, by rw [ly]; exact len, fun z H1 e1 ez => ?_⟩
      cases (show z = _ from ez)
      exact ⟨(by show 2 ≤ sizeLine; decide), fin (by unfold deed; rw [ex]) e1 (hr0.ex e1)⟩
    have n1 : x.1 ≠ .get := wNe (y := .get) c1
    refine ⟨_, rfl, rfl, _, rfl, ite2 (fun c => ?_) (fun c2 => ?_)⟩
    · have ex : x.1 = .plus := wEq (y := .plus) c
      obtain ⟨y, gy, ry, ly, by_⟩ := sight (by rw [ex]; rfl)
      refine ⟨_, rfl, _, rfl, _, rfl, _, rfl, _, rfl, b, us, _, _, rfl, rfl, hb, at_of (j := 1) rfl (g1 (by rw [ex]; rfl)), sb, sus, _, y, rfl, rfl, hsb, at_of rfl gy, _, rfl, p, y, u, _, r, rfl, ry, hr0, ly, by omega, by_, by rw [ly]; exact len, fun z H1 e1 ez => ?_⟩
      cases (show z = _ from ez)
      refine ⟨_, _, rfl, rfl, _, rfl, _, _, rfl, rfl, by omega, (by show 2 ≤ sizeLine; decide), fin (by unfold deed; rw [ex]) e1 (hr0.ex e1)⟩
    have n2 : x.1 ≠ .plus := wNe (y := .plus) c2
    refine ⟨_, rfl, rfl, _, rfl, ite2 (fun c => ?_) (fun c3 => ?_)⟩
    · have ex : x.1 = .minus := wEq (y := .minus) c
      obtain ⟨y, gy, ry, ly, by_⟩ := sight (by rw [ex]; rfl)
      refine ⟨_, rfl, _, rfl, _, rfl, _, rfl, _, rfl, b, us, _, _, rfl, rfl, hb, at_of (j := 1) rfl (g1 (by rw [ex]; rfl)), sb, sus, _, y, rfl, rfl, hsb, at_of rfl gy, _, rfl, p, y, u, _, r, rfl, ry, hr0, ly, by omega, by_, by rw [ly]; exact len, fun z H1 e1 ez => ?_⟩
      cases (show z = _ from ez)
      refine ⟨_, _, rfl, rfl, _, rfl, _, _, rfl, rfl, by omega, (by show 2 ≤ sizeLine; decide), fin (by unfold deed; rw [ex]) e1 (hr0.ex e1)⟩
    have n3 : x.1 ≠ .minus := wNe (y := .minus) c3
    refine ⟨_, rfl, rfl, _, rfl, ite2 (fun c => ?_) (fun c4 => ?_)⟩
    · have ex : x.1 = .add := wEq (y := .add) c
      obtain ⟨y, gy, ry, ly⟩ := write (by rw [ex]; rfl)
      refine ⟨_, rfl, _, rfl, _, rfl, _, rfl, _, rfl, _, rfl, b, us, _, _, rfl, rfl, hb, at_of (j := 1) rfl (g1 (by rw [ex]; rfl)), wb, wus, _, y, rfl, rfl, hwb, at_of rfl gy, p, -hd, u, y, r, _, rfl, hr0, ry, ly, by omega, ⟨by omega, by omega⟩, len, fun z H1 e1 hz => ?_⟩
      rw [Int.neg_neg] at hz
      refine ⟨_, rfl, (by show 2 ≤ sizeLine; decide), fin (by unfold deed; rw [ex]) e1 hz⟩
    have n4 : x.1 ≠ .add := wNe (y := .add) c4
    refine ⟨_, rfl, rfl, _, rfl, ite2 (fun c => ?_) (fun c5 => ?_)⟩
    · have ex : x.1 = .take := wEq (y := .take) c
      obtain ⟨y, gy, ry, ly⟩ := write (by rw [ex]; rfl)
      refine ⟨_, rfl, _, rfl, _, rfl, _, rfl, _, rfl, b, us, _, _, rfl, rfl, hb, at_of (j := 1) rfl (g1 (by rw [ex]; rfl)), wb, wus, _, y, rfl, rfl, hwb, at_of rfl gy, p, hd, u, y, r, _, rfl, hr0, ry, ly, by omega, ⟨by omega, by omega⟩, len, fun z H1 e1 hz => ?_⟩
      refine ⟨_, rfl, (by show 2 ≤ sizeLine; decide), fin (by unfold deed; rw [ex]) e1 hz⟩
    have n5 : x.1 ≠ .take := wNe (y := .take) c5
    refine ⟨_, rfl, rfl, _, rfl, ite2 (fun c => ?_) (fun c6 => ?_)⟩
    · have ex : x.1 = .put := wEq (y := .put) c
      refine ⟨_, rfl, _, rfl, b, us, _, _, rfl, rfl, hb, at_of (j := 1) rfl (g1 (by rw [ex]; rfl)), (by show 2 ≤ sizeLine; decide), fin (by unfold deed; rw [ex]) (_root_.Evl.Ex.refl _) hr0⟩
    have n6 : x.1 ≠ .put := wNe (y := .put) c6
    refine ⟨_, rfl, _, rfl, (by show 2 ≤ sizeLine; decide), fin ?_ (_root_.Evl.Ex.refl _) hr0⟩
    unfold deed
    split <;> first | rfl | contradiction
end
end K01


set_option Elab.async false
set_option linter.all false
set_option maxRecDepth 100000
set_option maxHeartbeats 4000000
/-! a = b = c = d = e -/
namespace K01
open PySem PySem.Spec PyProof.Rows L2 PySem.W
section
variable {M : Model} {A : Around} {E : Value → Shared → Prop} {env : Env} {s : Shared}
theorem wpAny_Assign_four {t₁ t₂ t₃ t₄ value : Expr} {pos : Pos} {Q : Flow → Shared → Prop}
    (h : wpAny M A (eval value env) (fun v s₁ => wpAny M A (assign t₁ env v) (fun _ s₂ => wpAny M A (assign t₂ env v) (fun _ s₃ => wpAny M A (assign t₃ env v) (fun _ s₄ => wpAny M A (assign t₄ env v) (fun _ => Q .next) E s₄) E s₃) E s₂) E s₁) E s)
    (he : (assignEach [t₁, t₂, t₃, t₄] env).map (·.2) = [assign t₁ env, assign t₂ env, assign t₃ env, assign t₄ env] := by rfl)
    (hw : swappedStores [t₁, t₂, t₃, t₄] value env = pure none := by rfl) :
    wpAny M A (exec (.Assign [t₁, t₂, t₃, t₄] value pos) env) Q E s := by
  refine wpAny_Assign_stores (wpAny_mono h (fun v s₁ h₁ => ?_) fun _ _ x => x) rfl hw
  rw [he]
  exact wpAny_bind (wpAny_holding (wpAny_mono h₁ (fun _ s₂ h₂ => wpAny_bind (wpAny_holding (wpAny_mono h₂ (fun _ s₃ h₃ => wpAny_bind (wpAny_holding h₃)) fun _ _ x => x))) fun _ _ x => x))
end
section
variable {X : L2.Cx} {e : Expr} {te : TE} {pos : Pos}
def tAsg4 (te : TE) (g1 g2 g3 g4 : TG) : TS := fun D σ H => te σ H fun x H1 => g1 x σ H1 fun σ1 H2 => g2 x σ1 H2 fun σ2 H3 => g3 x σ2 H3 fun σ3 H4 => g4 x σ3 H4 D.nx
theorem ps_asg4 {t1 t2 t3 t4 : Expr} {g1 g2 g3 g4 : TG} (he : PE X e te) (h1 : PG X t1 g1) (h2 : PG X t2 g2) (h3 : PG X t3 g3) (h4 : PG X t4 g4)
    (ha : (assignEach [t1, t2, t3, t4] X.env).map (·.2) = [assign t1 X.env, assign t2 X.env, assign t3 X.env, assign t4 X.env] := by rfl) (hw : swappedStores [t1, t2, t3, t4] e X.env = pure none := by rfl) :
    PS X (.Assign [t1, t2, t3, t4] e pos) (tAsg4 te g1 g2 g3 g4) := by
  refine ⟨fun pins s σ H D I h => ?_⟩
  refine wpAny_Assign_four (thn (he.run pins s σ H _ I h) fun v s1 ⟨x, H1, I1, r1, q1⟩ => ?_) ha hw
  refine thn (h1.run pins s1 σ H1 x v _ I1 r1 q1) fun _ s2 ⟨σ2, H2, I2, q2⟩ => ?_
  refine thn (h2.run pins s2 σ2 H2 x v _ I2 r1 q2) fun _ s3 ⟨σ3, H3, I3, q3⟩ => ?_
  refine thn (h3.run pins s3 σ3 H3 x v _ I3 r1 q3) fun _ s4 ⟨σ4, H4, I4, q4⟩ => ?_
  exact thn (h4.run pins s4 σ4 H4 x v _ I4 r1 q4) fun _ s5 q => q
end
theorem joinK {T : Nat → Prop} {G : Prop} (a : (∀ k, T k) → G) (b : ∀ k, T k) : G := a b
end K01


set_option Elab.async false
set_option linter.all false
set_option maxRecDepth 100000
set_option maxHeartbeats 4000000
/-! A run -/
namespace K01
open PySem PySem.Spec PyProof.Rows L2 Prg
def mark : Wd → Bool
  | .say => true
  | .ask => true
  | .zero => true
  | _ => false
theorem isMark (x : Wd) : inV (.str (wstr x)) [.str "say", .str "ask", .str "zero"] = mark x := by cases x <;> decide +kernel
/-- what a run says, the word, the ticks -/
def RunV (K : PySem.W.Frag) (said : List Int) (word : Str) (T : Nat) (v : V) (H : Hp) : Prop := ∃ c s, v = .ref c ∧ SqT K H c [.ref s, .str word, .int (T : Nat)] ∧ SqT K H s (said.map V.int)
def EndT (K : PySem.W.Frag) (p : Int) (A W S : List Row) (P : List Ins) (ins : List Int) (m : Row) (most : Nat) (v : V) (H : Hp) : Prop :=
  ∃ T, Ends (fun t => (nth p A W S P ins (start P m) t).pl) P.length most T ∧ RunV K (nth p A W S P ins (start P m) T).said (if (nth p A W S P ins (start P m) T).pl = P.length then "stopped" else "running") T v H
theorem ExN.lst {H : Hp} {g : Addr} {xs : List V} {o : HO} (h : H g = some (.lst xs)) : ExN H (upd H g o) := fun b u e nl => by
  have : b ≠ g := by rintro rfl; rw [h] at e; exact nl xs (Option.some.inj e).symm
  rw [upd_ne this]
  exact e
section
variable {P : Program} {w : World} {K : PySem.W.Frag} {mg : Str → Option Value} {base : Heap}
def spRun (K : PySem.W.Frag) : Sp := fun vs H Q _ => ∃ (p : Int) (n : Nat) (A W S : List Row) (mv v iv u : V) (sk : Addr) (P : List Ins) (ins : List Int) (m : Row) (most : Nat) (kept : Bool), vs = [mv, v, iv, .int (most : Nat), u, .ref sk] ∧ H sk = some (.dK []) ∧ MachT K p A W S mv H ∧ MOk p n A W S ∧ PrgT K P v H ∧
  PrgOk p S.length W.length kept P ∧ P.length ≤ 30000 ∧ RowT K ins iv H ∧ (∀ x ∈ ins, 0 ≤ x ∧ x < p) ∧ RowT K m u H ∧ Lin.OkR p n m ∧ most ≤ 100000 ∧ Ret (EndT K p A W S P ins m most) H Q
theorem ok_run {f : Addr} {fd : FuncData} (B : Bare mg) (F : Fun K "run" "run" s_run f fd) (Gl : Got P w K mg base CX0 1 "landings" p_landings (spLand K)) (Gd : Got P w K mg base CX0 2 "done" p_done (spDone K)) (Gs : Got P w K mg base CX0 2 "stirred" p_stirred (spPStirred K)) (Gls : Got P w K mg base CX0 1 "less" p_less (spLess K)) {aM : Addr} (gM : mg "MARKS" = some (.ref aM)) (hMk : ∀ H : Hp, SqT K H aM [.str "say", .str "ask", .str "zero"]) : FnOk P w K mg base CX0 3 f fd p_run (spRun K) := by
  refine F.ok sc_run (fun vs H Q E h => ?_) (fun cdv Ar outer s H vs Q E hr h => ?_)
  · obtain ⟨p, n, A, W, S, mv, v, iv, u, sk, P, ins, m, most, kept, rfl, _⟩ := h
    rfl
  · obtain ⟨p, n, A, W, S, mv, v, iv, u, sk, P, ins, m0, most, kept, rfl, hsk, hM, M, hP, X, lP, hI, oI, hm0, om0, lm, q⟩ := h
    have hr1 : Room 1 _ := hr.mono (by decide)
    have hu := hu_of hr
    refine ⟨_, pss_cons (ps_set (i := 6) sc_run.nd rfl (Or.inl rfl) (pe_got Gl hr1 pass0 (pa_cons (pv 1) pa_nil)))
      (pss_cons (ps_set (i := 7) sc_run.nd rfl (Or.inl rfl) (pe_lst pa_nil))
      (pss_cons (ps_asg4 pe_int (pg_name (i := 8) sc_run.nd rfl (Or.inl rfl)) (pg_name (i := 9) sc_run.nd rfl (Or.inl rfl)) (pg_name (i := 10) sc_run.nd rfl (Or.inl rfl)) (pg_name (i := 11) sc_run.nd rfl (Or.inl rfl)))
      (pss_cons (ps_set (i := 12) sc_run.nd rfl (Or.inl rfl) (pe_ix ix_list (pv 6) pe_int (fun _ _ => rfl)))
      (pss_cons (ps_while PassesOwn.never (PW.pt (pw_and (pt_cmpR op_lt (pv 12) (pe_callB call_len_seq (by rfl) B.len PySem.boot_len (pa_cons (pv 1) pa_nil)) (nomark _)) (pw_and1 (pt_cmpR op_lt (pv 10) (pv 3) (nomark _)))))
        (pss_cons (ps_set (i := 13) sc_run.nd rfl (Or.inl rfl) (pe_ix ix_tup (pv 1) (pv 12) (fun _ _ => rfl)))
        (pss_cons (ps_set (i := 14) sc_run.nd rfl (Or.inl rfl) (pe_op op_add (pv 12) pe_int))
        (pss_cons (ps_if (pt_cmpR (show OpR _ _ (rIn K false) from op_in_seq) (pe_ix ix_tup (pv 13) pe_int (fun _ _ => rfl)) (pe_glob (by rfl) gM (v := .ref aM) rfl) rfl)
          (pss_cons (ps_if (pt_cmp (pc_din hu (pv 11) (pv 5))) (pss_one (ps_set (i := 4) sc_run.nd rfl (Or.inl rfl) (pe_got Gls hr1 pass0 (pa_cons (pe_ix ix_tup (pv 0) pe_int (fun _ _ => rfl)) (pa_cons (pv 4) (pa_cons (pe_un un_neg pe_int) (pa_cons (pe_dget hu (pv 5) (pv 11) (fun _ _ => rfl)) pa_nil))))))) pss_nil)
          (pss_one (ps_aug (i := 11) sc_run.nd rfl (Or.inl rfl) pe_int ip_add))) pss_nil)
        (pss_cons (ps_if (pt_cmpR op_eq (pe_ix ix_tup (pv 13) pe_int (fun _ _ => rfl)) pe_str (nomark _))
          (pss_one (ps_expr (pe_bm PySem.F.plainAttrs_list PySem.F.slot_list_append PySem.F.type_list_append mt_append (pv 7) (pa_cons (pv 8) pa_nil))))
          (pss_one (ps_if (pt_cmpR op_eq (pe_ix ix_tup (pv 13) pe_int (fun _ _ => rfl)) pe_str (nomark _))
            (pss_cons (ps_set (i := 8) sc_run.nd rfl (Or.inl rfl) (pe_ifExp (pt_cmpR op_lt (pv 9) (pe_callB call_len_seq (by rfl) B.len PySem.boot_len (pa_cons (pv 2) pa_nil)) (nomark _)) (pe_ix ix_tup (pv 2) (pv 9) (fun _ _ => rfl)) pe_int))
            (pss_one (ps_aug (i := 9) sc_run.nd rfl (Or.inl rfl) pe_int ip_add)))
            (pss_one (ps_if (pt_cmpR op_eq (pe_ix ix_tup (pv 13) pe_int (fun _ _ => rfl)) pe_str (nomark _))
              (pss_one (ps_set (i := 14) sc_run.nd rfl (Or.inl rfl) (pe_ifExp (pt_cmpR op_eq (pv 8) pe_int (nomark _)) (pe_ix ix_tup (pv 13) pe_int (fun _ _ => rfl)) (pv 14))))
              (pss_one (ps_asg (pe_got Gd hr pass0 (pa_cons (pv 0) (pa_cons (pv 13) (pa_cons (pv 4) (pa_cons (pv 8) pa_nil))))) (pg_tup rfl (pgs_cons (pg_name (i := 4) sc_run.nd rfl (Or.inl rfl)) (pgs_cons (pg_name (i := 8) sc_run.nd rfl (Or.inl rfl)) pgs_nil))))))))))
        (pss_cons (ps_set (i := 4) sc_run.nd rfl (Or.inl rfl) (pe_got Gs hr pass0 (pa_cons (pe_ix ix_tup (pv 0) pe_int (fun _ _ => rfl)) (pa_cons (pe_ix ix_tup (pv 0) pe_int (fun _ _ => rfl)) (pa_cons (pv 4) pa_nil)))))
        (pss_cons (ps_set (i := 12) sc_run.nd rfl (Or.inl rfl) (pe_ix ix_list (pv 6) (pv 14) (fun _ _ => rfl)))
        (pss_one (ps_aug (i := 10) sc_run.nd rfl (Or.inl rfl) pe_int ip_add)))))))))
      (pss_cons (ps_set (i := 15) sc_run.nd rfl (Or.inl rfl) (pe_ifExp (pt_cmpR op_eq (pv 12) (pe_callB call_len_seq (by rfl) B.len PySem.boot_len (pa_cons (pv 1) pa_nil)) (nomark _)) pe_str pe_str))
      (pss_one (ps_ret (pe_tup (pa_cons (pe_callTy call_tuple_of (by rfl) B.tuple (by decide +kernel) (pa_cons (pv 7) pa_nil)) (pa_cons (pv 15) (pa_cons (pv 10) pa_nil))))))))))), ?_⟩
    obtain ⟨mm, am, wm, sm, rfl, hm, hA, hW, hS⟩ := id hM
    obtain ⟨pa_, xs, rfl, hp, pp⟩ := id hP
    obtain ⟨ia, rfl, hi⟩ := id hI
    have la : xs.length = P.length := by rw [pr_len pp, List.length_map]
    have J := X.jmp
    have p1 := M.p1
    have n4 := M.n4
    refine ⟨_, rfl, P, .ref pa_, rfl, hP, J, lP, fun lv H1 e1 hL => ?_⟩
    obtain ⟨L, rfl, hL⟩ := hL
    refine ⟨(by show 0 ≤ sizeLine; decide), fun g ng => ?_⟩
    have eg : Ex H1 (upd H1 g (.lst [])) := _root_.Evl.Ex.new ng
    refine ⟨_, rfl, L, _, _, _, rfl, rfl, SqL.of (eg _ _ hL), at_of (j := 0) rfl (landV_at (Nat.zero_le _)), ?_⟩
    obtain ⟨N, hN⟩ : ∃ N, N = nth p A W S P ins (start P m0) := ⟨_, rfl⟩
    have N0 : N 0 = start P m0 := by rw [hN]; rfl
    have NS : ∀ t, N (t + 1) = step p A W S P ins (N t) := fun t => by rw [hN]; rfl
    have fin : ∀ (t : Nat) (H' : Hp), Ex H1 H' → Ends (fun t => (N t).pl) P.length most t → ∀ l, H' l = none → ∀ (wd : Str), (wd = if (N t).pl = P.length then ("stopped" : Str) else ("running" : Str)) → ∀ c, (upd H' l (.tup ((N t).said.map V.int))) c = none →
        Q (.ref c) (upd (upd H' l (.tup ((N t).said.map V.int))) c (.tup [.ref l, .str wd, .int (t : Nat)])) := fun t H' e0 en l nl wd hw c nc => by
      subst hN
      refine q _ _ ((e1.trans e0).trans ((_root_.Evl.Ex.new nl).trans (_root_.Evl.Ex.new nc))) ⟨t, en, c, l, rfl, ?_, _root_.Evl.ex_t (_root_.Evl.Ex.new nc) (SqT.of upd_same)⟩
      rw [← hw]
      exact SqT.of upd_same
    refine while_by (fun σ' H' => ∃ (t k : Nat) (u' : V) (y11 y12 : Option V), σ' = [some (.ref mm), some (.ref pa_), some (.ref ia), some (.int (most : Nat)), some u', some (.ref sk), some (.ref L), some (.ref g), some (.int (N t).h), some (.int ((N t).a : Nat)), some (.int (t : Nat)), some (.int (k : Nat)), some (.int ((N t).pl : Nat)), y11, y12, none] ∧ Ex H1 H' ∧ RowT K (N t).m u' H' ∧
        H' g = some (.lst ((N t).said.map V.int)) ∧ StOk p n P (N t) ∧ t ≤ most ∧ (N t).said.length ≤ t ∧ ∀ t', t' < t → (N t').pl < P.length)
      (fun σ' _ => match σ' with | [_, _, _, _, _, _, _, _, _, _, some (.int t), _, _, _, _, _] => most - t.toNat | _ => 0)
      ⟨0, 0, u, none, none, by rw [N0]; rfl, eg, by rw [N0]; exact (hm0.ex e1).ex eg, by rw [N0]; exact upd_same, by rw [N0]; exact start_ok (by omega) om0, Nat.zero_le _, by rw [N0]; exact Nat.le_refl _, fun t' h => absurd h (Nat.not_lt_zero _)⟩ (fun σ' H' p' => ?_) ?_
    · obtain ⟨t, k, u', y11, y12, rfl, e0, hu', hg, ok, tm, sl, bef⟩ := p'
      have e01 := e1.trans e0
      refine ⟨_, rfl, _, rfl, pa_, xs, rfl, .inr (_root_.Evl.ex_t e01 hp), _, _, rfl, rfl, _, rfl, ite2 (fun c => ?_) (fun c => ?_)⟩
      · have lt : (N t).pl < P.length := by have := of_decide_eq_true c; omega
        refine ⟨_, rfl, _, rfl, _, _, rfl, rfl, _, rfl, ite2 (fun c2 => ?_) (fun c2 => ?_)⟩
        · have tlt : t + 1 ≤ most := by have := of_decide_eq_true c2; omega
          obtain ⟨x, hx⟩ : ∃ x, P[(N t).pl]? = some x := ⟨_, List.getElem?_eq_getElem lt⟩
          have Xx := X _ x hx
          obtain ⟨b, us, gx, hb, g0, g1⟩ := prg_at pp hx
          have okS : StOk p n P (N (t + 1)) := by rw [NS]; exact step_ok (by omega) M.oA M.lA M.oW X oI ok
          have befS : ∀ t', t' < t + 1 → (N t').pl < P.length := fun t' h' => by
            rcases Nat.lt_or_ge t' t with z | z
            · exact bef t' z
            · have : t' = t := by omega
              rw [this]
              exact lt
          refine ⟨_, rfl, _, rfl, pa_, xs, _, _, rfl, rfl, _root_.Evl.ex_t e01 hp, at_of rfl gx, ?_⟩
          refine ⟨_, rfl, _, _, rfl, rfl, ?_⟩
          refine ⟨_, rfl, b, us, _, _, rfl, rfl, _root_.Evl.ex_t e01 hb, at_of (j := 0) rfl g0, aM, _, rfl, .inr (hMk _), rfl, rfl, _, rfl, ?_⟩
          rw [isMark]
          cases em : mark x.1 with
          | false =>
            refine iteF ?_
            refine ⟨_, rfl, b, us, _, _, rfl, rfl, _root_.Evl.ex_t e01 hb, at_of (j := 0) rfl g0, rfl, _, rfl, ite2 (fun c3 => ?_) (fun c3 => ?_)⟩
            · have ex : x.1 = .say := wEq (y := .say) c3
              refine ⟨_, rfl, .inl ⟨rfl, _, SqL.of hg⟩, _, rfl, g, _, _, rfl, rfl, hg, Nat.lt_of_le_of_lt (show _ ≤ 100000 by rw [List.length_map]; omega) (by decide), ?_⟩
              have es := (NS t).trans (step_say hx ex)
              have e2 : Ex H1 (upd H' g (.lst ((N t).said.map V.int ++ [.int (N t).h]))) := e0.mut ng
              refine ⟨_, rfl, mm, _, _, _, rfl, rfl, _root_.Evl.ex_t (e1.trans e2) hm, at_of (j := 0) rfl rfl, _, rfl, mm, _, _, _, rfl, rfl, _root_.Evl.ex_t (e1.trans e2) hm, at_of (j := 1) rfl rfl, _, rfl, p, n, am, _, A, _, rfl, .inr (hA.ex (e1.trans e2)), hu'.n (ExN.lst hg), p1, M.p2, by omega, M.oA, by rw [M.lA]; omega, ok.m, fun z H3 e3 hz => ?_⟩
              refine ⟨_, rfl, _, rfl, L, _, _, _, rfl, rfl, SqL.of ((e2.trans e3) _ _ hL), at_of (j := (N t).pl + 1) rfl (landV_at (by omega)), ?_⟩
              refine ⟨_, rfl, _, _, rfl, rfl, ⟨t + 1, k, z, _, _, by rw [es]; rfl, e2.trans e3, by rw [es]; exact hz, by rw [es]; exact e3 _ _ (by rw [List.map_append]; exact upd_same), okS, tlt, by rw [es]; show ((N t).said ++ [(N t).h]).length ≤ _; rw [List.length_append, List.length_singleton]; omega, befS⟩, ?_⟩
              show most - ((t : Int) + 1).toNat < most - ((t : Nat) : Int).toNat
              omega
            have n1 : x.1 ≠ .say := wNe (y := .say) c3
            refine ⟨_, rfl, b, us, _, _, rfl, rfl, _root_.Evl.ex_t e01 hb, at_of (j := 0) rfl g0, rfl, _, rfl, ite2 (fun c4 => ?_) (fun c4 => ?_)⟩
            · have ex : x.1 = .ask := wEq (y := .ask) c4
              have li : (ins.map V.int).length = ins.length := List.length_map _
              refine ⟨_, rfl, _, rfl, ia, _, rfl, .inr (_root_.Evl.ex_t e01 hi), _, _, rfl, rfl, _, rfl, ite2 (fun c5 => ?_) (fun c5 => ?_)⟩
              · have l5 : (N t).a < ins.length := by have := of_decide_eq_true c5; omega
                refine ⟨_, rfl, _, rfl, ia, _, _, _, rfl, rfl, _root_.Evl.ex_t e01 hi, at_of (v := .int (ins.getD (N t).a 0)) rfl (by rw [List.getElem?_map, List.getD_eq_getElem?_getD, List.getElem?_eq_getElem l5]; rfl), ?_⟩
                refine ⟨_, rfl, _, _, rfl, rfl, ?_⟩
                have es := (NS t).trans (step_ask hx ex)
                have e2 := e0
                refine ⟨_, rfl, mm, _, _, _, rfl, rfl, _root_.Evl.ex_t (e1.trans e2) hm, at_of (j := 0) rfl rfl, _, rfl, mm, _, _, _, rfl, rfl, _root_.Evl.ex_t (e1.trans e2) hm, at_of (j := 1) rfl rfl, _, rfl, p, n, am, _, A, _, rfl, .inr (hA.ex (e1.trans e2)), hu', p1, M.p2, by omega, M.oA, by rw [M.lA]; omega, ok.m, fun z H3 e3 hz => ?_⟩
                refine ⟨_, rfl, _, rfl, L, _, _, _, rfl, rfl, SqL.of ((e2.trans e3) _ _ hL), at_of (j := (N t).pl + 1) rfl (landV_at (by omega)), ?_⟩
                refine ⟨_, rfl, _, _, rfl, rfl, ⟨t + 1, k, z, _, _, by rw [es]; rfl, e2.trans e3, by rw [es]; exact hz, by rw [es]; exact e3 _ _ hg, okS, tlt, by rw [es]; show (N t).said.length ≤ _; omega, befS⟩, ?_⟩
                show most - ((t : Int) + 1).toNat < most - ((t : Nat) : Int).toNat
                omega
              · have l5 : ¬ (N t).a < ins.length := fun z => c5 (decide_eq_true (by omega))
                have z0 : ins.getD (N t).a 0 = (0 : Int) := by rw [List.getD_eq_getElem?_getD, List.getElem?_eq_none (by omega)]; rfl
                refine ⟨_, rfl, _, _, rfl, rfl, ?_⟩
                have es := (NS t).trans ((step_ask hx ex).trans (by rw [z0]))
                have e2 := e0
                refine ⟨_, rfl, mm, _, _, _, rfl, rfl, _root_.Evl.ex_t (e1.trans e2) hm, at_of (j := 0) rfl rfl, _, rfl, mm, _, _, _, rfl, rfl, _root_.Evl.ex_t (e1.trans e2) hm, at_of (j := 1) rfl rfl, _, rfl, p, n, am, _, A, _, rfl, .inr (hA.ex (e1.trans e2)), hu', p1, M.p2, by omega, M.oA, by rw [M.lA]; omega, ok.m, fun z H3 e3 hz => ?_⟩
                refine ⟨_, rfl, _, rfl, L, _, _, _, rfl, rfl, SqL.of ((e2.trans e3) _ _ hL), at_of (j := (N t).pl + 1) rfl (landV_at (by omega)), ?_⟩
                refine ⟨_, rfl, _, _, rfl, rfl, ⟨t + 1, k, z, _, _, by rw [es]; rfl, e2.trans e3, by rw [es]; exact hz, by rw [es]; exact e3 _ _ hg, okS, tlt, by rw [es]; show (N t).said.length ≤ _; omega, befS⟩, ?_⟩
                show most - ((t : Int) + 1).toNat < most - ((t : Nat) : Int).toNat
                omega
            have n2 : x.1 ≠ .ask := wNe (y := .ask) c4
            refine ⟨_, rfl, b, us, _, _, rfl, rfl, _root_.Evl.ex_t e01 hb, at_of (j := 0) rfl g0, rfl, _, rfl, ite2 (fun c5 => ?_) (fun c5 => ?_)⟩
            · have ex : x.1 = .zero := wEq (y := .zero) c5
              refine ⟨_, rfl, rfl, _, rfl, ite2 (fun c6 => ?_) (fun c6 => ?_)⟩
              · have h0 : (N t).h = 0 := yeq c6
                refine ⟨_, rfl, b, us, _, _, rfl, rfl, _root_.Evl.ex_t e01 hb, at_of (j := 1) rfl (g1 (by rw [ex]; rfl)), ?_⟩
                have es := (NS t).trans ((step_zero hx ex).trans (by rw [if_pos h0]))
                have e2 := e0
                refine ⟨_, rfl, mm, _, _, _, rfl, rfl, _root_.Evl.ex_t (e1.trans e2) hm, at_of (j := 0) rfl rfl, _, rfl, mm, _, _, _, rfl, rfl, _root_.Evl.ex_t (e1.trans e2) hm, at_of (j := 1) rfl rfl, _, rfl, p, n, am, _, A, _, rfl, .inr (hA.ex (e1.trans e2)), hu', p1, M.p2, by omega, M.oA, by rw [M.lA]; omega, ok.m, fun z H3 e3 hz => ?_⟩
                refine ⟨_, rfl, _, rfl, L, _, _, _, rfl, rfl, SqL.of ((e2.trans e3) _ _ hL), at_of rfl (landV_at (Xx.jmp (.inr ex))), ?_⟩
                refine ⟨_, rfl, _, _, rfl, rfl, ⟨t + 1, k, z, _, _, by rw [es]; rfl, e2.trans e3, by rw [es]; exact hz, by rw [es]; exact e3 _ _ hg, okS, tlt, by rw [es]; show (N t).said.length ≤ _; omega, befS⟩, ?_⟩
                show most - ((t : Int) + 1).toNat < most - ((t : Nat) : Int).toNat
                omega
              · have h0 : (N t).h ≠ 0 := yne c6
                refine ⟨_, rfl, ?_⟩
                have es := (NS t).trans ((step_zero hx ex).trans (by rw [if_neg h0]))
                have e2 := e0
                refine ⟨_, rfl, mm, _, _, _, rfl, rfl, _root_.Evl.ex_t (e1.trans e2) hm, at_of (j := 0) rfl rfl, _, rfl, mm, _, _, _, rfl, rfl, _root_.Evl.ex_t (e1.trans e2) hm, at_of (j := 1) rfl rfl, _, rfl, p, n, am, _, A, _, rfl, .inr (hA.ex (e1.trans e2)), hu', p1, M.p2, by omega, M.oA, by rw [M.lA]; omega, ok.m, fun z H3 e3 hz => ?_⟩
                refine ⟨_, rfl, _, rfl, L, _, _, _, rfl, rfl, SqL.of ((e2.trans e3) _ _ hL), at_of (j := (N t).pl + 1) rfl (landV_at (by omega)), ?_⟩
                refine ⟨_, rfl, _, _, rfl, rfl, ⟨t + 1, k, z, _, _, by rw [es]; rfl, e2.trans e3, by rw [es]; exact hz, by rw [es]; exact e3 _ _ hg, okS, tlt, by rw [es]; show (N t).said.length ≤ _; omega, befS⟩, ?_⟩
                show most - ((t : Int) + 1).toNat < most - ((t : Nat) : Int).toNat
                omega
            have n3 : x.1 ≠ .zero := wNe (y := .zero) c5
            have hIx : IVof K (iv x) (.ref b) H' := by
              obtain ⟨v', hv', q'⟩ := pr_getR pp (show (P.map iv)[(N t).pl]? = some (iv x) by rw [List.getElem?_map, hx]; rfl)
              rw [gx] at hv'
              rw [Option.some.inj hv']
              exact q'.ex e01
            refine ⟨_, rfl, _, rfl, _, rfl, _, rfl, p, n, A, W, S, .ref mm, .ref b, u', x, (N t).m, (N t).h, rfl, hM.ex e01, M, hIx, Xx.see, Xx.wri, hu', ok.m, ok.h0, ok.h1, fun zz H2 e02 hz2 => ?_⟩
            obtain ⟨tt, y, rfl, htt, hy⟩ := hz2
            refine ⟨tt, _, rfl, htt, rfl, _, _, rfl, _, _, rfl, rfl, ?_⟩
            have D := deed_ok (S := S) (by omega) M.oW Xx ok.m ok.h0 ok.h1
            have es := (NS t).trans (step_else hx n1 n2 n3)
            have e2 := e0.trans e02
            refine ⟨_, rfl, mm, _, _, _, rfl, rfl, _root_.Evl.ex_t (e1.trans e2) hm, at_of (j := 0) rfl rfl, _, rfl, mm, _, _, _, rfl, rfl, _root_.Evl.ex_t (e1.trans e2) hm, at_of (j := 1) rfl rfl, _, rfl, p, n, am, _, A, _, rfl, .inr (hA.ex (e1.trans e2)), hy, p1, M.p2, by omega, M.oA, by rw [M.lA]; omega, D.1, fun z H3 e3 hz => ?_⟩
            refine ⟨_, rfl, _, rfl, L, _, _, _, rfl, rfl, SqL.of ((e2.trans e3) _ _ hL), at_of (j := (N t).pl + 1) rfl (landV_at (by omega)), ?_⟩
            refine ⟨_, rfl, _, _, rfl, rfl, ⟨t + 1, k, z, _, _, by rw [es]; rfl, e2.trans e3, by rw [es]; exact hz, by rw [es]; exact e3 _ _ (e02 _ _ hg), okS, tlt, by rw [es]; show (N t).said.length ≤ _; omega, befS⟩, ?_⟩
            show most - ((t : Int) + 1).toNat < most - ((t : Nat) : Int).toNat
            omega
          | true =>
            refine iteT ?_
            refine ⟨_, rfl, _, rfl, sk, _, rfl, DGet.k (k := ky k) (e01 _ _ hsk), _, rfl, iteF ?_⟩
            refine ⟨_, rfl, _, _, rfl, rfl, ?_⟩
            refine ⟨_, rfl, b, us, _, _, rfl, rfl, _root_.Evl.ex_t e01 hb, at_of (j := 0) rfl g0, rfl, _, rfl, ite2 (fun c3 => ?_) (fun c3 => ?_)⟩
            · have ex : x.1 = .say := wEq (y := .say) c3
              refine ⟨_, rfl, .inl ⟨rfl, _, SqL.of hg⟩, _, rfl, g, _, _, rfl, rfl, hg, Nat.lt_of_le_of_lt (show _ ≤ 100000 by rw [List.length_map]; omega) (by decide), ?_⟩
              have es := (NS t).trans (step_say hx ex)
              have e2 : Ex H1 (upd H' g (.lst ((N t).said.map V.int ++ [.int (N t).h]))) := e0.mut ng
              refine ⟨_, rfl, mm, _, _, _, rfl, rfl, _root_.Evl.ex_t (e1.trans e2) hm, at_of (j := 0) rfl rfl, _, rfl, mm, _, _, _, rfl, rfl, _root_.Evl.ex_t (e1.trans e2) hm, at_of (j := 1) rfl rfl, _, rfl, p, n, am, _, A, _, rfl, .inr (hA.ex (e1.trans e2)), hu'.n (ExN.lst hg), p1, M.p2, by omega, M.oA, by rw [M.lA]; omega, ok.m, fun z H3 e3 hz => ?_⟩
              refine ⟨_, rfl, _, rfl, L, _, _, _, rfl, rfl, SqL.of ((e2.trans e3) _ _ hL), at_of (j := (N t).pl + 1) rfl (landV_at (by omega)), ?_⟩
              refine ⟨_, rfl, _, _, rfl, rfl, ⟨t + 1, (k + 1), z, _, _, by rw [es]; rfl, e2.trans e3, by rw [es]; exact hz, by rw [es]; exact e3 _ _ (by rw [List.map_append]; exact upd_same), okS, tlt, by rw [es]; show ((N t).said ++ [(N t).h]).length ≤ _; rw [List.length_append, List.length_singleton]; omega, befS⟩, ?_⟩
              show most - ((t : Int) + 1).toNat < most - ((t : Nat) : Int).toNat
              omega
            have n1 : x.1 ≠ .say := wNe (y := .say) c3
            refine ⟨_, rfl, b, us, _, _, rfl, rfl, _root_.Evl.ex_t e01 hb, at_of (j := 0) rfl g0, rfl, _, rfl, ite2 (fun c4 => ?_) (fun c4 => ?_)⟩
            · have ex : x.1 = .ask := wEq (y := .ask) c4
              have li : (ins.map V.int).length = ins.length := List.length_map _
              refine ⟨_, rfl, _, rfl, ia, _, rfl, .inr (_root_.Evl.ex_t e01 hi), _, _, rfl, rfl, _, rfl, ite2 (fun c5 => ?_) (fun c5 => ?_)⟩
              · have l5 : (N t).a < ins.length := by have := of_decide_eq_true c5; omega
                refine ⟨_, rfl, _, rfl, ia, _, _, _, rfl, rfl, _root_.Evl.ex_t e01 hi, at_of (v := .int (ins.getD (N t).a 0)) rfl (by rw [List.getElem?_map, List.getD_eq_getElem?_getD, List.getElem?_eq_getElem l5]; rfl), ?_⟩
                refine ⟨_, rfl, _, _, rfl, rfl, ?_⟩
                have es := (NS t).trans (step_ask hx ex)
                have e2 := e0
                refine ⟨_, rfl, mm, _, _, _, rfl, rfl, _root_.Evl.ex_t (e1.trans e2) hm, at_of (j := 0) rfl rfl, _, rfl, mm, _, _, _, rfl, rfl, _root_.Evl.ex_t (e1.trans e2) hm, at_of (j := 1) rfl rfl, _, rfl, p, n, am, _, A, _, rfl, .inr (hA.ex (e1.trans e2)), hu', p1, M.p2, by omega, M.oA, by rw [M.lA]; omega, ok.m, fun z H3 e3 hz => ?_⟩
                refine ⟨_, rfl, _, rfl, L, _, _, _, rfl, rfl, SqL.of ((e2.trans e3) _ _ hL), at_of (j := (N t).pl + 1) rfl (landV_at (by omega)), ?_⟩
                refine ⟨_, rfl, _, _, rfl, rfl, ⟨t + 1, (k + 1), z, _, _, by rw [es]; rfl, e2.trans e3, by rw [es]; exact hz, by rw [es]; exact e3 _ _ hg, okS, tlt, by rw [es]; show (N t).said.length ≤ _; omega, befS⟩, ?_⟩
                show most - ((t : Int) + 1).toNat < most - ((t : Nat) : Int).toNat
                omega
              · have l5 : ¬ (N t).a < ins.length := fun z => c5 (decide_eq_true (by omega))
                have z0 : ins.getD (N t).a 0 = (0 : Int) := by rw [List.getD_eq_getElem?_getD, List.getElem?_eq_none (by omega)]; rfl
                refine ⟨_, rfl, _, _, rfl, rfl, ?_⟩
                have es := (NS t).trans ((step_ask hx ex).trans (by rw [z0]))
                have e2 := e0
                refine ⟨_, rfl, mm, _, _, _, rfl, rfl, _root_.Evl.ex_t (e1.trans e2) hm, at_of (j := 0) rfl rfl, _, rfl, mm, _, _, _, rfl, rfl, _root_.Evl.ex_t (e1.trans e2) hm, at_of (j := 1) rfl rfl, _, rfl, p, n, am, _, A, _, rfl, .inr (hA.ex (e1.trans e2)), hu', p1, M.p2, by omega, M.oA, by rw [M.lA]; omega, ok.m, fun z H3 e3 hz => ?_⟩
                refine ⟨_, rfl, _, rfl, L, _, _, _, rfl, rfl, SqL.of ((e2.trans e3) _ _ hL), at_of (j := (N t).pl + 1) rfl (landV_at (by omega)), ?_⟩
                refine ⟨_, rfl, _, _, rfl, rfl, ⟨t + 1, (k + 1), z, _, _, by rw [es]; rfl, e2.trans e3, by rw [es]; exact hz, by rw [es]; exact e3 _ _ hg, okS, tlt, by rw [es]; show (N t).said.length ≤ _; omega, befS⟩, ?_⟩
                show most - ((t : Int) + 1).toNat < most - ((t : Nat) : Int).toNat
                omega
            have n2 : x.1 ≠ .ask := wNe (y := .ask) c4
            refine ⟨_, rfl, b, us, _, _, rfl, rfl, _root_.Evl.ex_t e01 hb, at_of (j := 0) rfl g0, rfl, _, rfl, ite2 (fun c5 => ?_) (fun c5 => ?_)⟩
            · have ex : x.1 = .zero := wEq (y := .zero) c5
              refine ⟨_, rfl, rfl, _, rfl, ite2 (fun c6 => ?_) (fun c6 => ?_)⟩
              · have h0 : (N t).h = 0 := yeq c6
                refine ⟨_, rfl, b, us, _, _, rfl, rfl, _root_.Evl.ex_t e01 hb, at_of (j := 1) rfl (g1 (by rw [ex]; rfl)), ?_⟩
                have es := (NS t).trans ((step_zero hx ex).trans (by rw [if_pos h0]))
                have e2 := e0
                refine ⟨_, rfl, mm, _, _, _, rfl, rfl, _root_.Evl.ex_t (e1.trans e2) hm, at_of (j := 0) rfl rfl, _, rfl, mm, _, _, _, rfl, rfl, _root_.Evl.ex_t (e1.trans e2) hm, at_of (j := 1) rfl rfl, _, rfl, p, n, am, _, A, _, rfl, .inr (hA.ex (e1.trans e2)), hu', p1, M.p2, by omega, M.oA, by rw [M.lA]; omega, ok.m, fun z H3 e3 hz => ?_⟩
                refine ⟨_, rfl, _, rfl, L, _, _, _, rfl, rfl, SqL.of ((e2.trans e3) _ _ hL), at_of rfl (landV_at (Xx.jmp (.inr ex))), ?_⟩
                refine ⟨_, rfl, _, _, rfl, rfl, ⟨t + 1, (k + 1), z, _, _, by rw [es]; rfl, e2.trans e3, by rw [es]; exact hz, by rw [es]; exact e3 _ _ hg, okS, tlt, by rw [es]; show (N t).said.length ≤ _; omega, befS⟩, ?_⟩
                show most - ((t : Int) + 1).toNat < most - ((t : Nat) : Int).toNat
                omega
              · have h0 : (N t).h ≠ 0 := yne c6
                refine ⟨_, rfl, ?_⟩
                have es := (NS t).trans ((step_zero hx ex).trans (by rw [if_neg h0]))
                have e2 := e0
                refine ⟨_, rfl, mm, _, _, _, rfl, rfl, _root_.Evl.ex_t (e1.trans e2) hm, at_of (j := 0) rfl rfl, _, rfl, mm, _, _, _, rfl, rfl, _root_.Evl.ex_t (e1.trans e2) hm, at_of (j := 1) rfl rfl, _, rfl, p, n, am, _, A, _, rfl, .inr (hA.ex (e1.trans e2)), hu', p1, M.p2, by omega, M.oA, by rw [M.lA]; omega, ok.m, fun z H3 e3 hz => ?_⟩
                refine ⟨_, rfl, _, rfl, L, _, _, _, rfl, rfl, SqL.of ((e2.trans e3) _ _ hL), at_of (j := (N t).pl + 1) rfl (landV_at (by omega)), ?_⟩
                refine ⟨_, rfl, _, _, rfl, rfl, ⟨t + 1, (k + 1), z, _, _, by rw [es]; rfl, e2.trans e3, by rw [es]; exact hz, by rw [es]; exact e3 _ _ hg, okS, tlt, by rw [es]; show (N t).said.length ≤ _; omega, befS⟩, ?_⟩
                show most - ((t : Int) + 1).toNat < most - ((t : Nat) : Int).toNat
                omega
            have n3 : x.1 ≠ .zero := wNe (y := .zero) c5
            have hIx : IVof K (iv x) (.ref b) H' := by
              obtain ⟨v', hv', q'⟩ := pr_getR pp (show (P.map iv)[(N t).pl]? = some (iv x) by rw [List.getElem?_map, hx]; rfl)
              rw [gx] at hv'
              rw [Option.some.inj hv']
              exact q'.ex e01
            refine ⟨_, rfl, _, rfl, _, rfl, _, rfl, p, n, A, W, S, .ref mm, .ref b, u', x, (N t).m, (N t).h, rfl, hM.ex e01, M, hIx, Xx.see, Xx.wri, hu', ok.m, ok.h0, ok.h1, fun zz H2 e02 hz2 => ?_⟩
            obtain ⟨tt, y, rfl, htt, hy⟩ := hz2
            refine ⟨tt, _, rfl, htt, rfl, _, _, rfl, _, _, rfl, rfl, ?_⟩
            have D := deed_ok (S := S) (by omega) M.oW Xx ok.m ok.h0 ok.h1
            have es := (NS t).trans (step_else hx n1 n2 n3)
            have e2 := e0.trans e02
            refine ⟨_, rfl, mm, _, _, _, rfl, rfl, _root_.Evl.ex_t (e1.trans e2) hm, at_of (j := 0) rfl rfl, _, rfl, mm, _, _, _, rfl, rfl, _root_.Evl.ex_t (e1.trans e2) hm, at_of (j := 1) rfl rfl, _, rfl, p, n, am, _, A, _, rfl, .inr (hA.ex (e1.trans e2)), hy, p1, M.p2, by omega, M.oA, by rw [M.lA]; omega, D.1, fun z H3 e3 hz => ?_⟩
            refine ⟨_, rfl, _, rfl, L, _, _, _, rfl, rfl, SqL.of ((e2.trans e3) _ _ hL), at_of (j := (N t).pl + 1) rfl (landV_at (by omega)), ?_⟩
            refine ⟨_, rfl, _, _, rfl, rfl, ⟨t + 1, (k + 1), z, _, _, by rw [es]; rfl, e2.trans e3, by rw [es]; exact hz, by rw [es]; exact e3 _ _ (e02 _ _ hg), okS, tlt, by rw [es]; show (N t).said.length ≤ _; omega, befS⟩, ?_⟩
            show most - ((t : Int) + 1).toNat < most - ((t : Nat) : Int).toNat
            omega
        · have ts : t = most := by
            have : ¬ ((t : Nat) : Int) < (most : Nat) := fun z => c2 (decide_eq_true z)
            omega
          by_cases e : (N t).pl = P.length
          · refine ⟨_, rfl, _, rfl, pa_, xs, rfl, .inr (_root_.Evl.ex_t e01 hp), rfl, _, rfl, ite2 (fun _ => ?_) (fun c9 => absurd (decide_eq_true (by rw [e, la])) c9)⟩
            refine ⟨_, rfl, g, _, rfl, .inl ⟨SqL.of hg, fun l nl => ?_⟩⟩
            exact ⟨_, rfl, _, rfl, (by show 3 ≤ sizeLine; decide), fun c nc => fin t _ e0 ⟨tm, bef, .inl ts⟩ l nl _ (by rw [if_pos e]) c nc⟩
          · refine ⟨_, rfl, _, rfl, pa_, xs, rfl, .inr (_root_.Evl.ex_t e01 hp), rfl, _, rfl, ite2 (fun c9 => absurd (by have := yeq c9; rw [la] at this; omega) e) (fun _ => ?_)⟩
            refine ⟨_, rfl, g, _, rfl, .inl ⟨SqL.of hg, fun l nl => ?_⟩⟩
            exact ⟨_, rfl, _, rfl, (by show 3 ≤ sizeLine; decide), fun c nc => fin t _ e0 ⟨tm, bef, .inl ts⟩ l nl _ (by rw [if_neg e]) c nc⟩
      · have nl_ : ¬ (N t).pl < P.length := fun z => c (decide_eq_true (by omega))
        refine iteF ?_
        by_cases e : (N t).pl = P.length
        · refine ⟨_, rfl, _, rfl, pa_, xs, rfl, .inr (_root_.Evl.ex_t e01 hp), rfl, _, rfl, ite2 (fun _ => ?_) (fun c9 => absurd (decide_eq_true (by rw [e, la])) c9)⟩
          refine ⟨_, rfl, g, _, rfl, .inl ⟨SqL.of hg, fun l nl => ?_⟩⟩
          exact ⟨_, rfl, _, rfl, (by show 3 ≤ sizeLine; decide), fun c nc => fin t _ e0 ⟨tm, bef, .inr nl_⟩ l nl _ (by rw [if_pos e]) c nc⟩
        · refine ⟨_, rfl, _, rfl, pa_, xs, rfl, .inr (_root_.Evl.ex_t e01 hp), rfl, _, rfl, ite2 (fun c9 => absurd (by have := yeq c9; rw [la] at this; omega) e) (fun _ => ?_)⟩
          refine ⟨_, rfl, g, _, rfl, .inl ⟨SqL.of hg, fun l nl => ?_⟩⟩
          exact ⟨_, rfl, _, rfl, (by show 3 ≤ sizeLine; decide), fun c nc => fin t _ e0 ⟨tm, bef, .inr nl_⟩ l nl _ (by rw [if_neg e]) c nc⟩
    · intro σ' H' Q1 Q2 i h
      obtain ⟨v1, z1, v2, z2, b1, ys, r1, r2, i1, j1, r3, r4, b, r5, r6⟩ := h
      refine ⟨v1, z1, v2, z2, b1, ys, r1, r2, i1, j1, r3, r4, b, r5, ?_⟩
      by_cases hb : b = true
      · rw [if_pos hb] at r6 ⊢
        obtain ⟨v3, z3, v4, z4, i2, j2, r7, r8, b2, r9, r10⟩ := r6
        exact ⟨v3, z3, v4, z4, i2, j2, r7, r8, b2, r9, i _ _ r10⟩
      · rw [if_neg hb] at r6 ⊢
        exact i _ _ r6
end
end K01


set_option Elab.async false
set_option linter.all false
set_option maxRecDepth 100000
set_option maxHeartbeats 4000000
/-! Runs on a machine that stirs itself, and on a still one -/
namespace K01
open PySem PySem.Spec PyProof.Rows L2 Prg
theorem insOk_of {p : Int} {sl wl n : Nat} {kept : Bool} {x : Ins} (X : InsOk p sl wl n kept x) (ng : x.1 = .wait → kept = true) : insOk kept (mostN p (sl : Nat) (wl : Nat) (n : Nat)) (iv x) = true := by
  obtain ⟨w, k⟩ := x
  cases w with
  | get => have := X.see rfl; simp [iv, bare, insOk, mostN]; omega
  | plus => have := X.see rfl; simp [iv, bare, insOk, mostN]; omega
  | minus => have := X.see rfl; simp [iv, bare, insOk, mostN]; omega
  | add => have := X.wri rfl; simp [iv, bare, insOk, mostN]; omega
  | take => have := X.wri rfl; simp [iv, bare, insOk, mostN]; omega
  | put => have := X.put rfl; simp [iv, bare, insOk, mostN]; omega
  | zero => have := X.jmp (.inr rfl); simp [iv, bare, insOk, mostN]; omega
  | go => have := X.jmp (.inl rfl); simp [iv, bare, insOk, mostN]; omega
  | wait => rw [ng rfl]; rfl
  | say => cases kept <;> rfl
  | ask => cases kept <;> rfl
  | stop => cases kept <;> rfl
theorem allOk_of {p : Int} {sl wl : Nat} {kept : Bool} {P : List Ins} (X : PrgOk p sl wl kept P) (j : Nat) (y : IV) (h : (P.map iv)[j]? = some y) : insOk kept (mostN p (sl : Nat) (wl : Nat) (P.length : Nat)) y = true := by
  rw [List.getElem?_map] at h
  cases e : P[j]? with
  | none => rw [e] at h; cases h
  | some x =>
    rw [e] at h
    obtain rfl : iv x = y := Option.some.inj h
    exact insOk_of (X j x e) (X j x e).wait
theorem allNum {p : Int} {ins : List Int} (h : ∀ x ∈ ins, 0 ≤ x ∧ x < p) : (ins.map V.int).all (isNum 0 (p - 1)) = true := by
  rw [List.all_map, List.all_eq_true]
  intro x hx
  have := h x hx
  simp [isNum]
  omega
section
variable {P : Program} {w : World} {K : PySem.W.Frag} {mg : Str → Option Value} {base : Heap}
def spCheckIn (K : PySem.W.Frag) (C : Addr) : Sp := fun vs H Q E => ∃ (p : Int) (v : V) (fs : List V), vs = [.int p, v] ∧ TupF K fs v H ∧ (∀ x ∈ fs, Flt x) ∧ fs.length ≤ 50 ∧ (fs.all (isNum 0 (p - 1)) = true → Ret (IsV .non) H Q) ∧ (fs.all (isNum 0 (p - 1)) = false → ∀ H', Ex H H' → E (.ref C) none H')
theorem ok_checkIn {f C : Addr} {fd : FuncData} {tk : Tok} (B : Bare mg) (F : Fun K "check_inputs" "check_inputs" s_check_inputs f fd) (Gn : Got P w K mg base CX0 1 "is_number" p_is_number spNumber) (g50 : mg "MOST_INPUTS" = some (.int 50 tk)) (Ec : ErrC K mg "BadInputs" C) : FnOk P w K mg base (L2.CX P w) 3 f fd p_check_inputs (spCheckIn K C) := by
  refine F.okX sc_check_inputs (fun vs H Q E h => ?_) (fun cdv Ar outer s H vs Q E hr h => ?_)
  · obtain ⟨p, v, fs, rfl, _⟩ := h
    rfl
  · obtain ⟨p, v, fs, rfl, ⟨b, rfl, hb⟩, hf, hz, q1, q2⟩ := h
    have rs : ∀ (X : L2.Cx), True := fun _ => trivial
    refine ⟨_, pss_cons (ps_if (PW.pt (pw_or (pt_not (pt_val (pe_callB call_isi (by rfl) B.isinstance (by decide +kernel) (pa_cons (pv 1) (pa_cons (pe_bltn (v := .ty "tuple") (by rfl) B.tuple (by decide +kernel) rfl) pa_nil)))))
        (pw_or1 (pt_cmpR op_gt (pe_callB call_len_seq (by rfl) B.len PySem.boot_len (pa_cons (pv 1) pa_nil)) (pe_glob (by rfl) g50 (v := .int 50) ⟨_, rfl⟩) (nomark _))))) (pss_one (ps_raise rfl (takes_of rfl rfl rfl rfl) (pmk_own0 PySem.F.excBase_ValueError Ec.xC Ec.gC Ec.kC (raises_own Ec.bC Ec.tC) rfl))) pss_nil)
      (pss_one (ps_if (pt_not (pt_val (pe_callB (cr_all rfl) (by rfl) B.all (by decide +kernel) (pa_cons (pe_lc (own := [("number", 2)]) (g := gName 2) (tt := tYes) rfl sc_check_inputs.nd (pi_tup (pv 1)) (blkOk_by (N := n_check_inputs) (sc := defScope s_check_inputs) (by decide +kernel)) (fun _ _ _ _ _ => pg_name (i := 2) sc_check_inputs.nd rfl (Or.inl rfl)) (fun _ _ _ _ _ => pts_nil)
        (fun _ _ _ _ _ => pe_got Gn (hr.mono (by decide)) pass0 (pa_cons (pv 2) (pa_cons pe_int (pa_cons (pe_op op_sub (pv 0) pe_int) pa_nil))))) pa_nil)))) (pss_one (ps_raise rfl (takes_of rfl rfl rfl rfl) (pmk_own0 PySem.F.excBase_ValueError Ec.xC Ec.gC Ec.kC (raises_own Ec.bC Ec.tC) rfl))) pss_nil)), ?_⟩
    refine ⟨_, rfl, .ref b, .ty "tuple", .type "tuple", .type "tuple", true, rfl, .ty _, tyx_t hb, kit_ty (by decide +kernel), true, rfl, iteF ?_⟩
    refine ⟨_, rfl, b, fs, rfl, .inr hb, _, _, rfl, rfl, _, rfl, ite2 (fun c => absurd (of_decide_eq_true c) (by omega)) (fun c => ?_)⟩
    refine ⟨_, rfl, b, rfl, ⟨_, hb⟩, ?_⟩
    refine lc_go (walk_tup (xs := fs)) (by omega) (fun H' e => _root_.Evl.ex_t e hb) fs rfl (fun _ => true) (fun x => IsV (.bl (isNum 0 (p - 1) x))) (fun _ _ _ _ _ h => h) (fun i d x H1 H2 hn e y C N hC hN => ?_) fun D ys H' nD e hD hy => ?_
    · obtain ⟨rfl, hx⟩ := y
      cases (show d = x from Option.some.inj (hn.symm.trans hx))
      exact ⟨rfl, yes_go ⟨_, rfl, _, rfl, _, _, rfl, rfl, d, 0, p - 1, rfl, hf d (List.mem_of_getElem? hn), fun z H3 e3 ez => hC rfl z H3 e3 ez⟩⟩
    · rw [filter_yes] at hy
      have ey : ys = (fs.map (isNum 0 (p - 1))).map V.bl := by
        rw [List.map_map]
        exact pr_fun hy
      subst ey
      refine ⟨D, _, rfl, SqL.of hD, ?_⟩
      have et : ∀ (l : List V), ((l.map (isNum 0 (p - 1))).map V.bl).all (fun x => match x with | .bl b => b | _ => false) = l.all (isNum 0 (p - 1)) := fun l => by rw [List.map_map, List.all_map]; rfl
      refine ⟨_, rfl, ite2 (fun c => q2 ?_ _ e) (fun c => q1 ?_ _ _ e rfl)⟩
      · cases z : fs.all (isNum 0 (p - 1)) with
        | false => rfl
        | true => simp [List.all_map] at c; simp at z; obtain ⟨x, hx, c⟩ := c; exact absurd (z x hx) (by simpa using c)
      · simp [List.all_map] at c ⊢
        exact c
def spRunSt (K : PySem.W.Frag) (CI : Addr) : Sp := fun vs H Q E => ∃ (p : Int) (n : Nat) (A W S : List Row) (mv v i u : V) (P : List Ins) (fs : List V) (m : Row) (most : Nat), vs = [mv, v, i, .int (most : Nat), u] ∧ WP K H mv none ∧ MachT K p A W S mv H ∧ MOk p n A W S ∧ PrgT K P v H ∧
  PrgOk p S.length W.length true P ∧ 1 ≤ P.length ∧ P.length ≤ 6000 ∧ TupF K fs i H ∧ (∀ x ∈ fs, Flt x) ∧ fs.length ≤ 50 ∧ RowT K m u H ∧ Lin.OkR p n m ∧ most ≤ 100000 ∧
  ((fs.all (isNum 0 (p - 1)) = false ∧ ∀ H', Ex H H' → E (.ref CI) none H') ∨ ∃ ins : List Int, fs = ins.map V.int ∧ (∀ x ∈ ins, 0 ≤ x ∧ x < p) ∧ Ret (EndT K p A W S P ins m most) H Q)
theorem ok_runSt {f CB CP CI CN CM : Addr} {fd : FuncData} {tk : Tok} (F : Fun K "run_stirred" "run_stirred" s_run_stirred f fd) (G1 : Got P w K mg base (L2.CX P w) 8 "check_machine" p_check_machine (spCheckM K CB)) (G2 : Got P w K mg base (L2.CX P w) 4 "check_kept" p_check_kept (spCheckK K CP))
    (G3 : Got P w K mg base (L2.CX P w) 3 "check_inputs" p_check_inputs (spCheckIn K CI)) (G4 : Got P w K mg base (L2.CX P w) 3 "check_number" p_check_number (spCheckN CN)) (G5 : Got P w K mg base (L2.CX P w) 3 "check_memory" p_check_memory (spCheckMem K CM)) (G6 : Got P w K mg base CX0 3 "run" p_run (spRun K))
    (gT : mg "MOST_TICKS" = some (.int 100000 tk)) : FnOk P w K mg base (L2.CX P w) 9 f fd p_run_stirred (spRunSt K CI) := by
  refine F.okX sc_run_stirred (fun vs H Q E h => ?_) (fun cdv Ar outer s H vs Q E hr h => ?_)
  · obtain ⟨p, n, A, W, S, mv, v, i, u, P, fs, m, most, rfl, _⟩ := h
    rfl
  · obtain ⟨p, n, A, W, S, mv, v, i, u, P, fs, m, most, rfl, hw, hM, M, hP, X, l1, l2, hI, hF, hl, hm, om, lm, h⟩ := h
    refine ⟨_, pss_cons (ps_expr (pe_got G1 hr (passes_call (takes_of rfl rfl rfl rfl) fun _ _ _ _ z => z) (pa_cons (pv 0) pa_nil)))
      (pss_cons (ps_expr (pe_got G2 (hr.mono (by decide)) (passes_call (takes_of rfl rfl rfl rfl) fun _ _ _ _ z => z) (pa_cons (pv 0) (pa_cons (pv 1) pa_nil))))
      (pss_cons (ps_expr (pe_got G3 (hr.mono (by decide)) (passes_call (takes_of rfl rfl rfl rfl) fun _ _ _ _ z => z) (pa_cons (pe_ix ix_tup (pv 0) pe_int (fun _ _ => rfl)) (pa_cons (pv 2) pa_nil))))
      (pss_cons (ps_expr (pe_got G4 (hr.mono (by decide)) (passes_call (takes_of rfl rfl rfl rfl) fun _ _ _ _ z => z) (pa_cons (pv 3) (pa_cons pe_int (pa_cons (pe_glob (by rfl) gT (v := .int 100000) ⟨_, rfl⟩) pa_nil)))))
      (pss_cons (ps_expr (pe_got G5 (hr.mono (by decide)) (passes_call (takes_of rfl rfl rfl rfl) fun _ _ _ _ z => z) (pa_cons (pv 0) (pa_cons (pv 4) pa_nil))))
      (pss_one (ps_ret (pe_got G6 (hr.mono (by decide)) pass0 (pa_cons (pv 0) (pa_cons (pv 1) (pa_cons (pv 2) (pa_cons (pv 3) (pa_cons (pv 4) (pa_cons pe_dnewK pa_nil))))))))))))), ?_⟩
    refine ⟨_, rfl, mv, none, rfl, hw, fun z H1 e1 ez => ?_⟩
    refine ⟨_, rfl, _, rfl, P.map iv, p, A, W, S, mv, v, rfl, hM.ex e1, hP.ex e1, by rw [List.length_map]; exact l1, by rw [List.length_map]; exact l2, .inl ⟨fun j y hj => by rw [List.length_map]; exact allOk_of X j y hj, fun z2 H2 e2 ez2 => ?_⟩⟩
    have e12 := e1.trans e2
    have hM2 := hM.ex e12
    obtain ⟨mm, am, wm, sm, rfl, hmm, hA, hW, hS⟩ := id hM2
    refine ⟨_, rfl, mm, _, _, _, rfl, rfl, hmm, at_of (j := 0) rfl rfl, _, rfl, p, i, fs, rfl, hI.ex e12, hF, hl, fun yes z3 H3 e3 ez3 => ?_, fun no H' e' => ?_⟩
    · rcases h with ⟨no, _⟩ | ⟨ins, rfl, oI, q⟩
      · rw [no] at yes
        cases yes
      · have e13 := e12.trans e3
        have num : isNum 0 100000 (.int (most : Nat)) = true := by simp [isNum]; omega
        refine ⟨_, rfl, .int (most : Nat), 0, 100000, rfl, .int _, fun _ z4 H4 e4 ez4 => ?_, fun no => by rw [num] at no; cases no⟩
        have e14 := e13.trans e4
        refine ⟨_, rfl, _, rfl, p, n, .ref mm, u, A, W, S, m.map V.int, rfl, hM.ex e14, M.lA, (hm.ex e14 : RowT K m u H4), fun x hx => by obtain ⟨y, _, rfl⟩ := List.mem_map.mp hx; exact .int y, by rw [List.length_map, om.1]; have := M.n4; omega, fun yes z5 H5 e5 ez5 => ?_, fun no => by rw [isRowB_of om] at no; cases no⟩
        have e15 := e14.trans e5
        refine ⟨_, rfl, _, rfl, _, rfl, _, rfl, _, rfl, fun dk ndk => ?_⟩
        have e16 := e15.trans (_root_.Evl.Ex.new (o := .dK []) ndk)
        exact ⟨p, n, A, W, S, .ref mm, v, i, u, dk, P, ins, m, most, true, rfl, upd_same, hM.ex e16, M, hP.ex e16, X, by omega, (hI.ex e16 : RowT K ins i _), oI, hm.ex e16, om, lm, q.go e16⟩
    · rcases h with ⟨_, q⟩ | ⟨ins, rfl, oI, _⟩
      · exact q _ (e12.trans e')
      · rw [allNum oI] at no
        cases no
end
end K01


set_option Elab.async false
set_option linter.all false
set_option maxRecDepth 100000
set_option maxHeartbeats 4000000
/-! Runs on a still machine -/
namespace K01
open PySem PySem.Spec PyProof.Rows L2 Prg
theorem rep0 : ∀ c : Nat, (List.replicate c [V.int 0]).flatten = (Lin.zero c).map V.int
  | 0 => rfl
  | c + 1 => by rw [List.replicate_succ, List.flatten_cons, rep0 c]; rfl
theorem mok_still {p : Int} {c : Nat} (hp : isPrm (.int p) = true) (c1 : 1 ≤ c) (c4 : c ≤ 4) : MOk p c (Lin.units c) (Lin.units c) (Lin.units c) := by
  have b := prm_bd hp
  have l : (Lin.units c).length = c := Lin.units_len
  exact ⟨b.1, b.2, prmI hp, c1, c4, Lin.units_ok b.1, l, Lin.units_ok b.1, by omega, Lin.units_ok b.1, by omega⟩
section
variable {P : Program} {w : World} {K : PySem.W.Frag} {mg : Str → Option Value} {base : Heap}
def spRunSl (K : PySem.W.Frag) (CP : Addr) : Sp := fun vs H Q E => ∃ (p : Int) (c : Nat) (v i : V) (is : List IV) (most : Nat), vs = [.int p, .int (c : Nat), v, i, .int (most : Nat)] ∧ isPrm (.int p) = true ∧ 1 ≤ c ∧ c ≤ 4 ∧ IVsT K is v H ∧ 1 ≤ is.length ∧ is.length ≤ 20 ∧
  ((∃ (n : Nat) (x : IV), is[n]? = some x ∧ insOk false (mostN p (c : Nat) (c : Nat) (is.length : Nat)) x = false ∧ (∀ (j : Nat) y, j < n → is[j]? = some y → insOk false (mostN p (c : Nat) (c : Nat) (is.length : Nat)) y = true) ∧ BadAt CP E H n) ∨
   ∃ (P : List Ins) (ins : List Int), is = P.map iv ∧ PrgOk p c c false P ∧ RowT K ins i H ∧ (∀ x ∈ ins, 0 ≤ x ∧ x < p) ∧ ins.length ≤ 50 ∧ most ≤ 100000 ∧ Ret (EndT K p (Lin.units c) (Lin.units c) (Lin.units c) P ins (Lin.zero c) most) H Q)
theorem ok_runSl {f CP CI CN : Addr} {fd : FuncData} {tk : Tok} (F : Fun K "run_still" "run_still" s_run_still f fd) (G1 : Got P w K mg base (L2.CX P w) 3 "check_prime" p_check_prime (spCheckP CN)) (G2 : Got P w K mg base (L2.CX P w) 4 "check_values" p_check_values spCheckVal)
    (G3 : Got P w K mg base (L2.CX P w) 4 "check_program" p_check_program (spCheckPr K CP)) (G4 : Got P w K mg base (L2.CX P w) 3 "check_inputs" p_check_inputs (spCheckIn K CI)) (G5 : Got P w K mg base (L2.CX P w) 3 "check_number" p_check_number (spCheckN CN))
    (G6 : Got P w K mg base CX0 2 "still_machine" p_still_machine (spStillM K)) (G7 : Got P w K mg base CX0 3 "run" p_run (spRun K)) (gT : mg "MOST_TICKS" = some (.int 100000 tk)) : FnOk P w K mg base (L2.CX P w) 5 f fd p_run_still (spRunSl K CP) := by
  refine F.okX sc_run_still (fun vs H Q E h => ?_) (fun cdv Ar outer s H vs Q E hr h => ?_)
  · obtain ⟨p, c, v, i, is, most, rfl, _⟩ := h
    rfl
  · obtain ⟨p, c, v, i, is, most, rfl, hp, c1, c4, hI, l1, l2, h⟩ := h
    refine ⟨_, pss_cons (ps_expr (pe_got G1 (hr.mono (by decide)) (passes_call (takes_of rfl rfl rfl rfl) fun _ _ _ _ z => z) (pa_cons (pv 0) pa_nil)))
      (pss_cons (ps_expr (pe_got G2 (hr.mono (by decide)) (passes_call (takes_of rfl rfl rfl rfl) fun _ _ _ _ z => z) (pa_cons (pv 1) pa_nil)))
      (pss_cons (ps_expr (pe_got G3 (hr.mono (by decide)) (passes_call (takes_of rfl rfl rfl rfl) fun _ _ _ _ z => z) (pa_cons (pv 0) (pa_cons (pv 1) (pa_cons (pv 2) pa_nil)))))
      (pss_cons (ps_expr (pe_got G4 (hr.mono (by decide)) (passes_call (takes_of rfl rfl rfl rfl) fun _ _ _ _ z => z) (pa_cons (pv 0) (pa_cons (pv 3) pa_nil))))
      (pss_cons (ps_expr (pe_got G5 (hr.mono (by decide)) (passes_call (takes_of rfl rfl rfl rfl) fun _ _ _ _ z => z) (pa_cons (pv 4) (pa_cons pe_int (pa_cons (pe_glob (by rfl) gT (v := .int 100000) ⟨_, rfl⟩) pa_nil)))))
      (pss_one (ps_ret (pe_got G7 (hr.mono (by decide)) pass0 (pa_cons (pe_got G6 (hr.mono (by decide)) pass0 (pa_cons (pv 0) (pa_cons (pv 1) pa_nil))) (pa_cons (pv 2) (pa_cons (pv 3) (pa_cons (pv 4) (pa_cons (pe_op op_repA (pe_tup (pa_cons pe_int pa_nil)) (pv 1)) (pa_cons pe_dnewK pa_nil))))))))))))), ?_⟩
    have pb := prm_bd hp
    have M := mok_still hp c1 c4
    refine ⟨_, rfl, .int p, rfl, .int _, fun _ z1 H1 e1 ez1 => ?_, fun no => by rw [hp] at no; cases no⟩
    refine ⟨_, rfl, (c : Nat), rfl, by omega, by omega, fun z2 H2 e2 ez2 => ?_⟩
    have e12 := e1.trans e2
    refine ⟨_, rfl, _, rfl, _, rfl, is, v, p, (c : Nat), rfl, hI.ex e12, l1, l2, ?_⟩
    rcases h with ⟨n, x, h1, h2, h3, h4⟩ | ⟨P, ins, rfl, X, hin, oI, li, lm, q⟩
    · exact .inr ⟨n, x, h1, h2, h3, h4.go e12⟩
    · refine .inl ⟨fun j y hj => by rw [List.length_map]; exact allOk_of X j y hj, fun z3 H3 e3 ez3 => ?_⟩
      have e13 := e12.trans e3
      refine ⟨_, rfl, _, rfl, p, i, ins.map V.int, rfl, (hin.ex e13 : RowT K ins i H3), fun x hx => by obtain ⟨y, _, rfl⟩ := List.mem_map.mp hx; exact .int y, by rw [List.length_map]; exact li, fun _ z4 H4 e4 ez4 => ?_, fun no => by rw [allNum oI] at no; cases no⟩
      have e14 := e13.trans e4
      have num : isNum 0 100000 (.int (most : Nat)) = true := by simp [isNum]; omega
      refine ⟨_, rfl, .int (most : Nat), 0, 100000, rfl, .int _, fun _ z5 H5 e5 ez5 => ?_, fun no => by rw [num] at no; cases no⟩
      have e15 := e14.trans e5
      refine ⟨_, rfl, _, rfl, p, c, rfl, by omega, fun mv H6 e6 hM => ?_⟩
      refine ⟨_, rfl, _, rfl, _, rfl, (by show 1 ≤ sizeLine; decide), fun t nt => ?_⟩
      have e7 := _root_.Evl.Ex.new (o := .tup [.int 0]) nt
      refine ⟨_, rfl, t, (c : Nat), [.int 0], rfl, rfl, SqT.of upd_same, by simp, by omega, by omega, (by show 1 ≤ 1000; decide), fun z8 H8 e8 h8 => ?_⟩
      rw [Int.toNat_natCast, rep0] at h8
      have e18 := e15.trans (e6.trans (e7.trans e8))
      have ul : (Lin.units c).length = c := Lin.units_len
      have lP : P.length ≤ 20 := by rw [List.length_map] at l2; exact l2
      intro dk ndk
      have ek := _root_.Evl.Ex.new (o := .dK []) ndk
      have e19 := e18.trans ek
      exact ⟨p, c, _, _, _, mv, v, i, .ref z8, dk, P, ins, Lin.zero c, most, false, rfl, upd_same, ((hM.ex e7).ex e8).ex ek, M, hI.ex e19, by rw [ul]; exact X, by omega, hin.ex e19, oI, ⟨z8, rfl, _root_.Evl.ex_t ek h8⟩, Lin.ok_zero c (by omega), lm, q.go e19⟩
end
end K01


set_option Elab.async false
set_option linter.all false
set_option maxRecDepth 100000
set_option maxHeartbeats 4000000
/-! The law's own runs -/
namespace K01
open PySem PySem.Spec PyProof.Rows L2 Prg
/-- where it stands, -1 for the end -/
def landI (P : List Ins) (i : Nat) : Int := if land P i = P.length then -1 else (land P i : Nat)
theorem isIn2' (x : Wd) : inV (.str (wstr x)) [.str "stop", .str "go"] = (decide (x = .stop) || decide (x = .go)) := by cases x <;> decide +kernel
theorem isSee (x : Wd) : inV (.str (wstr x)) [.str "get", .str "plus", .str "minus"] = see x := by cases x <;> decide +kernel
theorem isWri (x : Wd) : inV (.str (wstr x)) [.str "add", .str "take"] = wri x := by cases x <;> decide +kernel
section
variable {P : Program} {w : World} {K : PySem.W.Frag} {mg : Str → Option Value} {base : Heap}
def spStands (K : PySem.W.Frag) : Sp := fun vs H Q _ => ∃ (P : List Ins) (v : V) (i : Nat), vs = [v, .int (i : Nat)] ∧ PrgT K P v H ∧ Jmp P ∧ P.length ≤ 1000 ∧ i ≤ P.length ∧ Ret (IsV (.int (landI P i))) H Q
theorem ok_stands {f : Addr} {fd : FuncData} (B : Bare mg) (F : Fun K "_law_stands" "_law_stands" s_law_stands f fd) : FnOk P w K mg base CX0 1 f fd p_law_stands (spStands K) := by
  refine F.ok sc_law_stands (fun vs H Q E h => ?_) (fun cdv Ar outer s H vs Q E hr h => ?_)
  · obtain ⟨P, v, i, rfl, _⟩ := h
    rfl
  · obtain ⟨P, v, i, rfl, hP, J, lP, li, q⟩ := h
    obtain ⟨a, xs, rfl, ha, pa⟩ := id hP
    have la : xs.length = P.length := by rw [pr_len pa, List.length_map]
    refine ⟨_, pss_cons (ps_for PassesOwn.never rfl (pi_range1 rfl B.range (pa_cons (pe_op op_add (pe_callB call_len_seq (by rfl) B.len PySem.boot_len (pa_cons (pv 0) pa_nil)) pe_int) pa_nil)) (pg_name (i := 2) sc_law_stands.nd rfl (Or.inl rfl))
        (pss_one (ps_if (PW.pt (pw_and (pt_cmpR op_lt (pv 1) (pe_callB call_len_seq (by rfl) B.len PySem.boot_len (pa_cons (pv 0) pa_nil)) (nomark _)) (pw_and1 (pt_cmpR op_eq (pe_ix ix_tup (pe_ix ix_tup (pv 0) (pv 1) (fun _ _ => rfl)) pe_int (fun _ _ => rfl)) pe_str (nomark _)))))
          (pss_one (ps_set (i := 1) sc_law_stands.nd rfl (Or.inl rfl) (pe_ix ix_tup (pe_ix ix_tup (pv 0) (pv 1) (fun _ _ => rfl)) pe_int (fun _ _ => rfl)))) pss_nil)))
      (pss_cons (ps_if (PW.pt (pw_or (pt_cmpR op_eq (pv 1) (pe_callB call_len_seq (by rfl) B.len PySem.boot_len (pa_cons (pv 0) pa_nil)) (nomark _))
          (pw_or1 (pt_cmpR (show OpR _ _ (rIn K false) from op_in_seq) (pe_ix ix_tup (pe_ix ix_tup (pv 0) (pv 1) (fun _ _ => rfl)) pe_int (fun _ _ => rfl)) (pe_lst (pa_cons pe_str (pa_cons pe_str pa_nil))) rfl))))
          (pss_one (ps_ret (pe_op op_sub pe_int pe_int))) pss_nil)
      (pss_one (ps_ret (pv 1)))), ?_⟩
    refine ⟨_, rfl, a, xs, rfl, .inr ha, _, _, rfl, rfl, _, rfl, by omega, by omega, ?_⟩
    refine for_range (lo := 0) (n := (((xs.length : Nat) : Int) + 1).toNat) (fun j σ' H' => ∃ y, σ' = [some (.ref a), some (.int (it P j i : Nat)), y] ∧ H' = H) ⟨none, rfl, rfl⟩ (fun j σ' H' hj p' => ?_) fun σ' H' p' => ?_
    · obtain ⟨y, rfl, rfl⟩ := p'
      have pl : it P j i ≤ P.length := it_le J j li
      refine ⟨_, rfl, _, rfl, a, xs, rfl, .inr ha, _, _, rfl, rfl, _, rfl, ite2 (fun c => ?_) (fun c => ?_)⟩
      · have lt : it P j i < P.length := by have := of_decide_eq_true c; omega
        obtain ⟨x, hx⟩ : ∃ x, P[it P j i]? = some x := ⟨_, List.getElem?_eq_getElem lt⟩
        obtain ⟨b, us, gx, hb, g0, g1⟩ := prg_at pa hx
        refine ⟨_, rfl, _, rfl, a, xs, _, _, rfl, rfl, ha, at_of rfl gx, b, us, _, _, rfl, rfl, hb, at_of (j := 0) rfl g0, rfl, _, rfl, ite2 (fun c2 => ?_) (fun c2 => ?_)⟩
        · have ex : x.1 = .go := wEq (y := .go) c2
          have ig : isGo P (it P j i) = true := by rw [isGo_at hx, ex]; rfl
          refine ⟨_, rfl, _, rfl, a, xs, _, _, rfl, rfl, ha, at_of rfl gx, b, us, _, _, rfl, rfl, hb, at_of (j := 1) rfl (g1 (by rw [ex]; rfl)), ?_⟩
          exact ⟨_, by rw [it_go ig, num_at hx]; rfl, rfl⟩
        · have ex : x.1 ≠ .go := wNe (y := .go) c2
          have ig : isGo P (it P j i) = false := by rw [isGo_at hx]; exact decide_eq_false ex
          exact ⟨_, by rw [it_one, stp_no ig]; rfl, rfl⟩
      · have nlt : ¬ it P j i < P.length := fun z => c (decide_eq_true (by omega))
        have ig : isGo P (it P j i) = false := by
          cases z : isGo P (it P j i) with
          | false => rfl
          | true => exact absurd (isGo_lt z) nlt
        exact iteF ⟨_, by rw [it_one, stp_no ig]; rfl, rfl⟩
    · obtain ⟨y, rfl, rfl⟩ := p'
      have e0 : (((xs.length : Nat) : Int) + 1).toNat = P.length + 1 := by omega
      rw [e0]
      have pl : it P (P.length + 1) i ≤ P.length := it_le J _ li
      have el : land P i = fin P (it P (P.length + 1) i) := rfl
      generalize it P (P.length + 1) i = k at pl el ⊢
      refine ⟨_, rfl, _, rfl, a, xs, rfl, .inr ha, rfl, _, rfl, ite2 (fun c => ?_) (fun c => ?_)⟩
      · have ek : k = P.length := by have := yeq c; omega
        refine ⟨_, _, rfl, rfl, q _ _ (_root_.Evl.Ex.refl _) ?_⟩
        show V.int _ = V.int _
        have : land P i = P.length := by rw [el]; unfold fin; rw [if_neg (by omega)]
        unfold landI
        rw [if_pos this]
        rfl
      · have lt : k < P.length := by have := yne c; omega
        obtain ⟨x, hx⟩ : ∃ x, P[k]? = some x := ⟨_, List.getElem?_eq_getElem lt⟩
        obtain ⟨b, us, gx, hb, g0, g1⟩ := prg_at pa hx
        refine ⟨_, rfl, _, rfl, a, xs, _, _, rfl, rfl, ha, at_of rfl gx, b, us, _, _, rfl, rfl, hb, at_of (j := 0) rfl g0, (by show 2 ≤ sizeLine; decide), fun l nl => ?_⟩
        have e9 := _root_.Evl.Ex.new (o := .lst [.str "stop", .str "go"]) nl
        refine ⟨l, _, rfl, .inl (SqL.of upd_same), rfl, rfl, _, rfl, ?_⟩
        rw [isIn2']
        by_cases sg : x.1 = .stop ∨ x.1 = .go
        · have : (decide (x.1 = .stop) || decide (x.1 = .go)) = true := by rcases sg with z | z <;> rw [z] <;> rfl
          rw [this]
          refine iteT ⟨_, _, rfl, rfl, q _ _ e9 ?_⟩
          show V.int _ = V.int _
          have : land P i = P.length := by
            rw [el]; unfold fin
            rw [if_neg]
            rintro ⟨_, h2, h3⟩
            rw [word_at hx] at h2 h3
            rcases sg with z | z
            · exact h2 (by rw [z])
            · exact h3 (by rw [z])
          unfold landI
          rw [if_pos this]
          rfl
        · have : (decide (x.1 = .stop) || decide (x.1 = .go)) = false := by
            rw [decide_eq_false fun z => sg (.inl z), decide_eq_false fun z => sg (.inr z)]
            rfl
          rw [this]
          refine iteF ⟨_, rfl, q _ _ e9 ?_⟩
          show V.int _ = V.int _
          have : land P i = k := by
            rw [el]; unfold fin
            rw [if_pos ⟨lt, fun z => sg (.inl (Option.some.inj ((word_at hx).symm.trans z))), fun z => sg (.inr (Option.some.inj ((word_at hx).symm.trans z)))⟩]
          unfold landI
          rw [if_neg (by omega), this]
end
end K01


set_option Elab.async false
set_option linter.all false
set_option maxRecDepth 100000
set_option maxHeartbeats 4000000
/-! The law's own deeds -/
namespace K01
open PySem PySem.Spec PyProof.Rows L2 Prg
def lawD (s h : Int) : List (Key × V) := [(.inr "get", .int s), (.inr "plus", .int (h + s)), (.inr "minus", .int (h - s))]
theorem lawD_merge {s h : Int} : mergeK [] (lawD s h) = lawD s h := by rfl
def seeV (x : Wd) (s h : Int) : Int := match x with | .get => s | .plus => h + s | _ => h - s
theorem lawD_at {s h : Int} {x : Wd} (e : see x = true) : valV (lawD s h) (.inr (wstr x)) = some (.int (seeV x s h)) := by
  cases x <;> first | rfl | (cases e; done)
section
variable {P : Program} {w : World} {K : PySem.W.Frag} {mg : Str → Option Value} {base : Heap}
def spLDeed (K : PySem.W.Frag) : Sp := fun vs H Q _ => ∃ (p : Int) (n : Nat) (A W S : List Row) (mv v u : V) (x : Ins) (r : Row) (h : Int), vs = [mv, u, .int h, v] ∧ MachT K p A W S mv H ∧ MOk p n A W S ∧ IVof K (iv x) v H ∧ (see x.1 = true → x.2 < S.length) ∧ (wri x.1 = true → x.2 < W.length) ∧
  RowT K r u H ∧ Lin.OkR p n r ∧ 0 ≤ h ∧ h < p ∧ Ret (PairT K (Lin.app p A (deed p W S x r h).1, (deed p W S x r h).2)) H Q
theorem ok_ldeed {f : Addr} {fd : FuncData} (B : Bare mg) (F : Fun K "_law_deed" "_law_deed" s_law_deed f fd) (Gm : Got P w K mg base CX0 1 "_law_met" p_law_met (spMet K)) (Ga : Got P w K mg base CX0 1 "_law_added" p_law_added (spAdded K)) (Gs : Got P w K mg base CX0 2 "_law_stirred" p_law_stirred (spStirred K)) : FnOk P w K mg base CX0 3 f fd p_law_deed (spLDeed K) := by
  refine F.ok sc_law_deed (fun vs H Q E h => ?_) (fun cdv Ar outer s H vs Q E hr h => ?_)
  · obtain ⟨p, n, A, W, S, mv, v, u, x, r, h', rfl, _⟩ := h
    rfl
  · obtain ⟨p, n, A, W, S, mv, v, u, x, r, hd, rfl, hM, M, hI, xs, xw, hr0, oR, h0, h1, q⟩ := h
    have hr1 : Room 1 _ := hr.mono (by decide)
    have hu := hu_of hr
    refine ⟨_, pss_cons (ps_par3 (i := 4) (j := 5) (l := 6) rfl sc_law_deed.nd rfl rfl rfl (by decide) (by decide) (by decide) rfl rfl rfl (pa_cons (pe_ix ix_tup (pv 0) pe_int (fun _ _ => rfl)) (pa_cons (pe_ix ix_tup (pv 3) pe_int (fun _ _ => rfl)) (pa_cons (pe_ix ix_tup (pv 3) (pe_un un_neg pe_int) (fun _ _ => rfl)) pa_nil))) (by rfl))
      (pss_cons (ps_if (pt_cmpR (show OpR _ _ (rIn K false) from op_in_seq) (pv 5) (pe_lst (pa_cons pe_str (pa_cons pe_str (pa_cons pe_str pa_nil)))) rfl)
        (pss_cons (ps_set (i := 7) sc_law_deed.nd rfl (Or.inl rfl) (pe_got Gm hr1 pass0 (pa_cons (pv 4) (pa_cons (pe_ix ix_tup (pe_ix ix_tup (pv 0) pe_int (fun _ _ => rfl)) (pv 6) (fun _ _ => rfl)) (pa_cons (pv 1) pa_nil)))))
        (pss_one (ps_set (i := 2) sc_law_deed.nd rfl (Or.inl rfl) (pe_op op_mod (pe_dget hu (pe_disp (pps_cons pe_str (pv 7) (pps_cons pe_str (pe_op op_add (pv 2) (pv 7)) (pps_cons pe_str (pe_op op_sub (pv 2) (pv 7)) pps_nil))) (by rfl) (by rfl) (fun z => by cases z) (by decide)) (pv 5) (fun _ _ => rfl)) (pv 4))))) pss_nil)
      (pss_cons (ps_if (pt_cmpR (show OpR _ _ (rIn K false) from op_in_seq) (pv 5) (pe_lst (pa_cons pe_str (pa_cons pe_str pa_nil))) rfl) (pss_one (ps_set (i := 1) sc_law_deed.nd rfl (Or.inl rfl) (pe_got Ga hr1 pass0 (pa_cons (pv 4) (pa_cons (pv 1) (pa_cons (pe_ix ix_tup (pe_ix ix_tup (pv 0) pe_int (fun _ _ => rfl)) (pv 6) (fun _ _ => rfl)) (pa_cons (pe_ifExp (pt_cmpR op_eq (pv 5) pe_str (nomark _)) (pv 2) (pe_op op_sub pe_int (pv 2))) pa_nil))))))) pss_nil)
      (pss_cons (ps_if (pt_cmpR op_eq (pv 5) pe_str (nomark _)) (pss_one (ps_set (i := 2) sc_law_deed.nd rfl (Or.inl rfl) (pv 6))) pss_nil)
      (pss_one (ps_ret (pe_tup (pa_cons (pe_got Gs hr pass0 (pa_cons (pv 0) (pa_cons (pv 1) pa_nil))) (pa_cons (pv 2) pa_nil)))))))), ?_⟩
    obtain ⟨m, av, wv, sv, rfl, hm, hA, hW, hS⟩ := id hM
    obtain ⟨wb, wus, rfl, hwb, pwb⟩ := id hW
    obtain ⟨sb, sus, rfl, hsb, psb⟩ := id hS
    have p1 := M.p1
    have p2 := M.p2
    have n4 := M.n4
    have nseeput : ∀ {y : Wd}, see y = true → y ≠ .put := fun e z => by rw [z] at e; cases e
    have nwriput : ∀ {y : Wd}, wri y = true → y ≠ .put := fun e z => by rw [z] at e; cases e
    -- the word, and what stands last
    obtain ⟨b, us, lst, rfl, hb, g0, gl, ln⟩ : ∃ b us lst, v = .ref b ∧ SqT K H b us ∧ us[0]? = some (.str (wstr x.1)) ∧ atI us (-1) = some lst ∧ (bare x.1 = false → lst = .int (x.2 : Nat)) := by
      unfold iv at hI
      split at hI
      · rename_i z
        obtain ⟨b, rfl, h⟩ := hI
        exact ⟨b, _, _, rfl, h, rfl, rfl, fun e => by rw [z] at e; cases e⟩
      · obtain ⟨b, rfl, h⟩ := hI
        exact ⟨b, _, _, rfl, h, rfl, rfl, fun _ => rfl⟩
    refine ⟨_, rfl, m, _, _, _, rfl, rfl, hm, at_of (j := 0) rfl rfl, _, rfl, b, _, _, _, rfl, rfl, hb, at_of (j := 0) rfl g0, _, rfl, _, rfl, b, _, _, _, rfl, rfl, hb, gl, _, _, _, rfl, ?_⟩
    refine ⟨_, rfl, (by show 3 ≤ sizeLine; decide), fun l1 n1 => ?_⟩
    have e1 : Ex H (upd H l1 (.lst [.str "get", .str "plus", .str "minus"])) := _root_.Evl.Ex.new n1
    refine ⟨l1, _, rfl, .inl (SqL.of upd_same), rfl, rfl, _, rfl, ?_⟩
    rw [isSee]
    generalize upd H l1 (.lst [.str "get", .str "plus", .str "minus"]) = H1 at e1 ⊢
    cases es : see x.1 with
    | true =>
      have lt := xs es
      have nw : wri x.1 = false := by revert es; cases x.1 <;> intro es <;> first | rfl | cases es
      have nb : bare x.1 = false := by revert es; cases x.1 <;> intro es <;> first | rfl | cases es
      have np : x.1 ≠ .put := by rintro z; rw [z] at es; cases es
      obtain ⟨y, gy, ry⟩ := pr_getR psb (getD_at lt)
      have oy := getD_ok M.oS lt
      have el := ln nb
      subst el
      refine iteT ?_
      refine ⟨_, rfl, _, rfl, m, _, _, _, rfl, rfl, _root_.Evl.ex_t e1 hm, at_of (j := 3) rfl rfl, _, rfl, sb, sus, _, y, rfl, rfl, _root_.Evl.ex_t e1 hsb, at_of rfl gy, _, rfl, p, y, u, _, r, rfl, ry.ex e1, hr0.ex e1, by rw [oy.1, oR.1], by omega, fun z hz => by have := oy.2 z hz; omega, by rw [oy.1]; omega, fun z H2 e2 ez => ?_⟩
      cases (show z = _ from ez)
      have ed : deed p W S x r hd = (r, seeV x.1 (Lin.dot p (S.getD x.2 []) r) hd % p) := by
        have bd := Prg.dot_bd (show 0 < p by omega) (S.getD x.2 []) r
        obtain ⟨w', k⟩ := x
        cases w' with
        | get => exact congrArg (Prod.mk r) (Int.emod_eq_of_lt bd.1 bd.2).symm
        | plus => rfl
        | minus => rfl
        | _ => cases es
      rw [ed] at q
      have e12 := e1.trans e2
      intro d nd
      refine ⟨_, rfl, _, rfl, _, rfl, _, _, rfl, rfl, _, rfl, _, rfl, _, _, rfl, rfl, ?_⟩
      refine ⟨upd_same, lawD (Lin.dot p (S.getD x.2 []) r) hd, rfl, (by show 3 ≤ 15; decide), ?_⟩
      rw [lawD_merge, upd_upd]
      have e3 : Ex H (upd H2 d (.dK (lawD (Lin.dot p (S.getD x.2 []) r) hd))) := e12.trans (_root_.Evl.Ex.new nd)
      refine ⟨_, rfl, d, _, rfl, (by have := DGet.k (H := upd H2 d (.dK (lawD (Lin.dot p (S.getD x.2 []) r) hd))) (k := Sum.inr (wstr x.1)) upd_same; rw [lawD_at es] at this; exact this), _, rfl, _, _, rfl, rfl, by omega, ?_⟩
      generalize upd H2 d (.dK (lawD (Lin.dot p (S.getD x.2 []) r) hd)) = H3 at e3 ⊢
      refine ⟨_, rfl, (by show 2 ≤ sizeLine; decide), fun l2 n2 => ?_⟩
      have e8 := e3.trans (_root_.Evl.Ex.new (o := .lst [.str "add", .str "take"]) n2)
      refine ⟨l2, _, rfl, .inl (SqL.of upd_same), rfl, rfl, _, rfl, ?_⟩
      generalize upd _ l2 (.lst [.str "add", .str "take"]) = H8 at e8 ⊢
      rw [isWri, nw]
      refine iteF ?_
      refine ⟨_, rfl, rfl, _, rfl, ite2 (fun c => absurd (wEq (y := .put) c) np) (fun _ => ?_)⟩
      refine ⟨_, rfl, _, rfl, p, n, .ref m, u, A, W, S, r, rfl, hM.ex e8, hr0.ex e8, p1, p2, by omega, M.oA, M.lA, oR, fun z9 H9 e9 hz9 => ?_⟩
      refine ⟨_, rfl, (by show 2 ≤ sizeLine; decide), fun t nt => ?_⟩
      exact q _ _ ((e8.trans e9).trans (_root_.Evl.Ex.new nt)) ⟨t, z9, rfl, SqT.of upd_same, hz9.ex (_root_.Evl.Ex.new nt)⟩
    | false =>
      refine iteF ?_
      refine ⟨_, rfl, (by show 2 ≤ sizeLine; decide), fun l2 n2 => ?_⟩
      have e8 := e1.trans (_root_.Evl.Ex.new (o := .lst [.str "add", .str "take"]) n2)
      refine ⟨l2, _, rfl, .inl (SqL.of upd_same), rfl, rfl, _, rfl, ?_⟩
      generalize upd _ l2 (.lst [.str "add", .str "take"]) = H8 at e8 ⊢
      rw [isWri]
      cases ew : wri x.1 with
      | true =>
        have lt := xw ew
        have nb : bare x.1 = false := by revert ew; cases x.1 <;> intro ew <;> first | rfl | cases ew
        obtain ⟨y, gy, ry⟩ := pr_getR pwb (getD_at lt)
        have oy := getD_ok M.oW lt
        have el := ln nb
        subst el
        refine iteT ?_
        refine ⟨_, rfl, _, rfl, _, rfl, m, _, _, _, rfl, rfl, _root_.Evl.ex_t e8 hm, at_of (j := 2) rfl rfl, _, rfl, wb, wus, _, y, rfl, rfl, _root_.Evl.ex_t e8 hwb, at_of rfl gy, ?_⟩
        refine ⟨_, rfl, rfl, _, rfl, ite2 (fun c => ?_) (fun c => ?_)⟩
        · have ex : x.1 = .add := wEq (y := .add) c
          have ed : deed p W S x r hd = (Lin.add p r hd (W.getD x.2 []), hd) := by unfold deed; rw [ex]
          rw [ed] at q
          refine ⟨_, rfl, p, hd, u, y, r, _, rfl, hr0.ex e8, ry.ex e8, by rw [oy.1, oR.1], by omega, ⟨by omega, by omega⟩, by rw [oR.1]; omega, fun z H2 e2 hz => ?_⟩
          refine ⟨_, rfl, rfl, _, rfl, ite2 (fun c => absurd (wEq (y := .put) c) (nwriput ew)) (fun _ => ?_)⟩
          refine ⟨_, rfl, _, rfl, p, n, .ref m, z, A, W, S, _, rfl, hM.ex (e8.trans e2), hz, p1, p2, by omega, M.oA, M.lA, Lin.ok_add (by omega) oR.1 oy.1, fun z9 H9 e9 hz9 => ?_⟩
          refine ⟨_, rfl, (by show 2 ≤ sizeLine; decide), fun t nt => ?_⟩
          exact q _ _ (((e8.trans e2).trans e9).trans (_root_.Evl.Ex.new nt)) ⟨t, z9, rfl, SqT.of upd_same, hz9.ex (_root_.Evl.Ex.new nt)⟩
        · have ex : x.1 = .take := by
            have := wNe (y := .add) c
            revert ew this; cases x.1 <;> intro ew this <;> first | rfl | contradiction | cases ew
          have ed : deed p W S x r hd = (Lin.add p r (-hd) (W.getD x.2 []), hd) := by unfold deed; rw [ex]
          rw [ed] at q
          refine ⟨_, rfl, _, _, rfl, rfl, p, 0 - hd, u, y, r, _, rfl, hr0.ex e8, ry.ex e8, by rw [oy.1, oR.1], by omega, ⟨by omega, by omega⟩, by rw [oR.1]; omega, fun z H2 e2 hz => ?_⟩
          rw [Int.zero_sub] at hz
          refine ⟨_, rfl, rfl, _, rfl, ite2 (fun c => absurd (wEq (y := .put) c) (nwriput ew)) (fun _ => ?_)⟩
          refine ⟨_, rfl, _, rfl, p, n, .ref m, z, A, W, S, _, rfl, hM.ex (e8.trans e2), hz, p1, p2, by omega, M.oA, M.lA, Lin.ok_add (by omega) oR.1 oy.1, fun z9 H9 e9 hz9 => ?_⟩
          refine ⟨_, rfl, (by show 2 ≤ sizeLine; decide), fun t nt => ?_⟩
          exact q _ _ (((e8.trans e2).trans e9).trans (_root_.Evl.Ex.new nt)) ⟨t, z9, rfl, SqT.of upd_same, hz9.ex (_root_.Evl.Ex.new nt)⟩
      | false =>
        refine iteF ?_
        refine ⟨_, rfl, rfl, _, rfl, ite2 (fun c => ?_) (fun c => ?_)⟩
        · have ex : x.1 = .put := wEq (y := .put) c
          have ed : deed p W S x r hd = (r, ((x.2 : Nat) : Int)) := by unfold deed; rw [ex]
          rw [ed] at q
          have el := ln (by rw [ex]; rfl)
          subst el
          refine ⟨_, rfl, ?_⟩
          refine ⟨_, rfl, _, rfl, p, n, .ref m, u, A, W, S, r, rfl, hM.ex e8, hr0.ex e8, p1, p2, by omega, M.oA, M.lA, oR, fun z9 H9 e9 hz9 => ?_⟩
          refine ⟨_, rfl, (by show 2 ≤ sizeLine; decide), fun t nt => ?_⟩
          exact q _ _ ((e8.trans e9).trans (_root_.Evl.Ex.new nt)) ⟨t, z9, rfl, SqT.of upd_same, hz9.ex (_root_.Evl.Ex.new nt)⟩
        · have nx := wNe (y := .put) c
          have ed : deed p W S x r hd = (r, hd) := by
            obtain ⟨w', k⟩ := x
            cases w' <;> first | rfl | exact absurd rfl nx | cases (show true = false from es) | cases (show true = false from ew)
          rw [ed] at q
          refine ⟨_, rfl, _, rfl, p, n, .ref m, u, A, W, S, r, rfl, hM.ex e8, hr0.ex e8, p1, p2, by omega, M.oA, M.lA, oR, fun z9 H9 e9 hz9 => ?_⟩
          refine ⟨_, rfl, (by show 2 ≤ sizeLine; decide), fun t nt => ?_⟩
          exact q _ _ ((e8.trans e9).trans (_root_.Evl.Ex.new nt)) ⟨t, z9, rfl, SqT.of upd_same, hz9.ex (_root_.Evl.Ex.new nt)⟩
end
end K01


set_option Elab.async false
set_option linter.all false
set_option maxRecDepth 100000
set_option maxHeartbeats 4000000
/-! The law's own run -/
namespace K01
open PySem PySem.Spec PyProof.Rows L2 Prg
theorem dpInts {K : PySem.W.Frag} {H : Hp} : ∀ ys : List Int, DpAll K H (ys.map V.int) (ys.map PyData.int)
  | [] => .nil
  | y :: ys => .cons (.int y) (dpInts ys)
theorem listD_shaped (ys : List Int) : SeqAt.shaped (.list (ys.map PyData.int)) = true := by
  simp [SeqAt.shaped, PyData.canLay0, PyData.depth, PySem.W.ke_canLayAll0, PySem.W.ke_depthAll]
theorem listD_nil (ys : List Int) : (!PyData.eqv (.list (ys.map PyData.int)) (.list [])) = decide (ys ≠ []) := by
  cases ys <;> simp [PyData.eqv, PyData.eqvAll]
theorem isSay3 (x : Wd) : inV (.str (wstr x)) [.str "say", .str "ask", .str "zero"] = mark x := by cases x <;> decide +kernel
/-- where a run stands, -1 for the end -/
def standI (P : List Ins) (i : Nat) : Int := if i = P.length then -1 else (i : Nat)
theorem landI_stand (P : List Ins) (i : Nat) : landI P i = standI P (land P i) := rfl
section
variable {P : Program} {w : World} {K : PySem.W.Frag} {mg : Str → Option Value} {base : Heap}
def spLRun (K : PySem.W.Frag) : Sp := fun vs H Q _ => ∃ (p : Int) (n : Nat) (A W S : List Row) (mv v i u : V) (P : List Ins) (ins : List Int) (m : Row) (most : Nat) (kept : Bool), vs = [mv, v, i, .int (most : Nat), u] ∧ MachT K p A W S mv H ∧ MOk p n A W S ∧ PrgT K P v H ∧
  PrgOk p S.length W.length kept P ∧ P.length ≤ 1000 ∧ RowT K ins i H ∧ (∀ x ∈ ins, 0 ≤ x ∧ x < p) ∧ RowT K m u H ∧ Lin.OkR p n m ∧ most ≤ 1000 ∧ Ret (EndT K p A W S P ins m most) H Q
theorem ok_lrun {f : Addr} {fd : FuncData} (B : Bare mg) (F : Fun K "_law_run" "_law_run" s_law_run f fd) (Gs : Got P w K mg base CX0 1 "_law_stands" p_law_stands (spStands K)) (Gd : Got P w K mg base CX0 3 "_law_deed" p_law_deed (spLDeed K)) : FnOk P w K mg base CX0 4 f fd p_law_run (spLRun K) := by
  refine F.ok sc_law_run (fun vs H Q E h => ?_) (fun cdv Ar outer s H vs Q E hr h => ?_)
  · obtain ⟨p, n, A, W, S, mv, v, i, u, P, ins, m, most, kept, rfl, _⟩ := h
    rfl
  · obtain ⟨p, n, A, W, S, mv, v, i, u, P, ins, m0, most, kept, rfl, hM, M, hP, X, lP, hI, oI, hm0, om0, lm, q⟩ := h
    have hr1 : Room 1 _ := hr.mono (by decide)
    refine ⟨_, pss_cons (ps_asg (pe_tup (pa_cons pe_int (pa_cons (pe_callTy call_list_of (by rfl) B.list (by decide +kernel) (pa_cons (pv 2) pa_nil)) (pa_cons (pe_lst pa_nil) (pa_cons (pe_got Gs hr1 pass0 (pa_cons (pv 1) (pa_cons pe_int pa_nil))) pa_nil)))))
        (pg_tup rfl (pgs_cons (pg_name (i := 5) sc_law_run.nd rfl (Or.inl rfl)) (pgs_cons (pg_name (i := 6) sc_law_run.nd rfl (Or.inl rfl)) (pgs_cons (pg_name (i := 7) sc_law_run.nd rfl (Or.inl rfl)) (pgs_cons (pg_name (i := 8) sc_law_run.nd rfl (Or.inl rfl)) pgs_nil))))))
      (pss_cons (ps_for PassesOwn.never rfl (pi_range1 rfl B.range (pa_cons (pv 3) pa_nil)) (pg_name (i := 9) sc_law_run.nd rfl (Or.inl rfl))
        (pss_cons (ps_if (pt_cmpR op_lt (pv 8) pe_int (nomark _)) (pss_one (ps_ret (pe_tup (pa_cons (pe_callTy call_tuple_of (by rfl) B.tuple (by decide +kernel) (pa_cons (pv 7) pa_nil)) (pa_cons pe_str (pa_cons (pv 9) pa_nil)))))) pss_nil)
        (pss_cons (ps_set (i := 10) sc_law_run.nd rfl (Or.inl rfl) (pe_ix ix_tup (pv 1) (pv 8) (fun _ _ => rfl)))
        (pss_cons (ps_if (pt_cmpR op_eq (pe_ix ix_tup (pv 10) pe_int (fun _ _ => rfl)) pe_str (nomark _)) (pss_one (ps_expr (pe_bm PySem.F.plainAttrs_list PySem.F.slot_list_append PySem.F.type_list_append mt_append (pv 7) (pa_cons (pv 5) pa_nil)))) pss_nil)
        (pss_cons (ps_if (pt_cmpR op_eq (pe_ix ix_tup (pv 10) pe_int (fun _ _ => rfl)) pe_str (nomark _))
          (pss_one (ps_set (i := 5) sc_law_run.nd rfl (Or.inl rfl) (pe_ifExp (pt_cmpR (op_neD hr.units) (pv 6) (pe_lst pa_nil) (nomark _)) (pe_bm PySem.F.plainAttrs_list PySem.F.slot_list_pop PySem.F.type_list_pop mt_popAt (pv 6) (pa_cons pe_int pa_nil)) pe_int))) pss_nil)
        (pss_cons (ps_set (i := 11) sc_law_run.nd rfl (Or.inl rfl) (pe_and (pe_cmpR op_eq (pe_ix ix_tup (pv 10) pe_int (fun _ _ => rfl)) pe_str rfl) (pe_one (pe_cmpR op_eq (pv 5) pe_int rfl))))
        (pss_cons (ps_asg (pe_got Gd hr pass0 (pa_cons (pv 0) (pa_cons (pv 4) (pa_cons (pv 5) (pa_cons (pe_ifExp (pt_cmpR (show OpR _ _ (rIn K false) from op_in_seq) (pe_ix ix_tup (pv 10) pe_int (fun _ _ => rfl)) (pe_lst (pa_cons pe_str (pa_cons pe_str (pa_cons pe_str pa_nil)))) rfl) (pe_tup (pa_cons pe_str pa_nil)) (pv 10)) pa_nil)))))
          (pg_tup rfl (pgs_cons (pg_name (i := 4) sc_law_run.nd rfl (Or.inl rfl)) (pgs_cons (pg_name (i := 5) sc_law_run.nd rfl (Or.inl rfl)) pgs_nil))))
        (pss_one (ps_set (i := 8) sc_law_run.nd rfl (Or.inl rfl) (pe_got Gs hr1 pass0 (pa_cons (pv 1) (pa_cons (pe_ifExp (pt_val (pv 11)) (pe_ix ix_tup (pv 10) pe_int (fun _ _ => rfl)) (pe_op op_add (pv 8) pe_int)) pa_nil))))))))))))
      (pss_one (ps_ret (pe_tup (pa_cons (pe_callTy call_tuple_of (by rfl) B.tuple (by decide +kernel) (pa_cons (pv 7) pa_nil)) (pa_cons (pe_ifExp (pt_cmpR op_lt (pv 8) pe_int (nomark _)) pe_str pe_str) (pa_cons (pv 3) pa_nil))))))), ?_⟩
    obtain ⟨mm, am, wm, sm, rfl, hm, hA, hW, hS⟩ := id hM
    obtain ⟨pa_, xs, rfl, hp, pp⟩ := id hP
    obtain ⟨ia, rfl, hi⟩ := id hI
    have la : xs.length = P.length := by rw [pr_len pp, List.length_map]
    have J := X.jmp
    have p1 := M.p1
    have n4 := M.n4
    refine ⟨_, rfl, ia, _, rfl, .inr hi, fun l nl => ?_⟩
    have q1 := _root_.Evl.Ex.new (o := .lst (ins.map V.int)) nl
    refine ⟨(by show 0 ≤ sizeLine; decide), fun g ng => ?_⟩
    have q2 := _root_.Evl.Ex.new (o := .lst []) ng
    have ngH : H g = none := by
      cases z : H g with
      | none => rfl
      | some o => rw [q1 _ _ z] at ng; cases ng
    have gl : g ≠ l := by rintro rfl; rw [upd_same] at ng; cases ng
    refine ⟨_, rfl, P, .ref pa_, 0, rfl, (hP.ex q1).ex q2, J, lP, Nat.zero_le _, fun z H1 e1 ez => ?_⟩
    cases (show z = _ from ez)
    refine ⟨(by show 4 ≤ sizeLine; decide), fun t nt => ?_⟩
    have q4 := _root_.Evl.Ex.new (o := .tup [.int 0, .ref l, .ref g, .int (landI P 0)]) nt
    have q34 := e1.trans q4
    refine ⟨t, _, rfl, SqT.of upd_same, rfl, _, _, rfl, _, _, rfl, _, _, rfl, _, _, rfl, rfl, ?_⟩
    obtain ⟨N, hN⟩ : ∃ N, N = nth p A W S P ins (start P m0) := ⟨_, rfl⟩
    have N0 : N 0 = start P m0 := by rw [hN]; rfl
    have NS : ∀ t, N (t + 1) = step p A W S P ins (N t) := fun t => by rw [hN]; rfl
    have fin : ∀ (t : Nat) (H' : Hp), Ex H H' → Ends (fun t => (N t).pl) P.length most t → ∀ l, H' l = none → ∀ (wd : Str), (wd = if (N t).pl = P.length then ("stopped" : Str) else ("running" : Str)) → ∀ c, (upd H' l (.tup ((N t).said.map V.int))) c = none →
        Q (.ref c) (upd (upd H' l (.tup ((N t).said.map V.int))) c (.tup [.ref l, .str wd, .int (t : Nat)])) := fun t H' e0 en l nl wd hw c nc => by
      subst hN
      refine q _ _ (e0.trans ((_root_.Evl.Ex.new nl).trans (_root_.Evl.Ex.new nc))) ⟨t, en, c, l, rfl, ?_, _root_.Evl.ex_t (_root_.Evl.Ex.new nc) (SqT.of upd_same)⟩
      rw [← hw]
      exact SqT.of upd_same
    refine ⟨_, rfl, _, rfl, by omega, by omega, ?_⟩
    refine for_range (lo := 0) (n := ((most : Nat) : Int).toNat) (fun i σ' H' => ∃ (u' : V) (y9 y10 y11 : Option V), σ' = [some (.ref mm), some (.ref pa_), some (.ref ia), some (.int (most : Nat)), some u', some (.int (N i).h), some (.ref l), some (.ref g), some (.int (standI P (N i).pl)), y9, y10, y11] ∧ Ex H H' ∧ RowT K (N i).m u' H' ∧
        H' l = some (.lst ((ins.drop (N i).a).map V.int)) ∧ H' g = some (.lst ((N i).said.map V.int)) ∧ StOk p n P (N i) ∧ (N i).said.length ≤ i ∧ ∀ t', t' < i → (N t').pl < P.length)
      ⟨u, none, none, none, by rw [N0]; rfl, (q1.trans q2).trans q34, by rw [N0]; exact hm0.ex ((q1.trans q2).trans q34), by rw [N0]; exact q34 _ _ (q2 _ _ upd_same), by rw [N0]; exact q34 _ _ upd_same, by rw [N0]; exact start_ok (by omega) om0, by rw [N0]; exact Nat.le_refl _, fun t' h => absurd h (Nat.not_lt_zero _)⟩ (fun i σ' H' hi' p' => ?_) fun σ' H' p' => ?_
    · obtain ⟨u', y9, y10, y11, rfl, e0, hu, hl, hg, ok, sl, bef⟩ := p'
      rw [Int.toNat_natCast] at hi'
      rw [Int.zero_add]
      refine ⟨_, rfl, _, _, rfl, rfl, _, rfl, ite2 (fun c => ?_) (fun c => ?_)⟩
      · have pe : (N i).pl = P.length := by
          have := of_decide_eq_true c
          unfold standI at this
          split at this
          · assumption
          · omega
        refine ⟨_, rfl, g, _, rfl, .inl ⟨SqL.of hg, fun c1 nc1 => ?_⟩⟩
        exact ⟨_, rfl, (by show 3 ≤ sizeLine; decide), fun c nc => fin i _ e0 ⟨by omega, bef, .inr (show ¬ (N i).pl < P.length by omega)⟩ c1 nc1 _ (by rw [if_pos pe]) c nc⟩
      · have lt : (N i).pl < P.length := by
          rcases Nat.lt_or_ge (N i).pl P.length with z | z
          · exact z
          · have := ok.pl
            exact absurd (decide_eq_true (by unfold standI; rw [if_pos (by omega)]; omega)) c
        have sI : standI P (N i).pl = ((N i).pl : Nat) := by unfold standI; rw [if_neg (by omega)]
        rw [sI]
        obtain ⟨x, hx⟩ : ∃ x, P[(N i).pl]? = some x := ⟨_, List.getElem?_eq_getElem lt⟩
        have Xx := X _ x hx
        obtain ⟨b, us, gx, hb, g0, g1⟩ := prg_at pp hx
        have okS : StOk p n P (N (i + 1)) := by rw [NS]; exact step_ok (by omega) M.oA M.lA M.oW X oI ok
        have befS : ∀ t', t' < i + 1 → (N t').pl < P.length := fun t' h' => by
          rcases Nat.lt_or_ge t' i with z | z
          · exact bef t' z
          · have : t' = i := by omega
            rw [this]
            exact lt
        refine ⟨_, rfl, _, rfl, pa_, xs, _, _, rfl, rfl, _root_.Evl.ex_t e0 hp, at_of rfl gx, ?_⟩
        refine ⟨_, rfl, b, us, _, _, rfl, rfl, _root_.Evl.ex_t e0 hb, at_of (j := 0) rfl g0, rfl, _, rfl, ite2 (fun c3 => ?_) (fun c3 => ?_)⟩
        · have ex : x.1 = .say := wEq (y := .say) c3
          have mk : mark x.1 = true := by rw [ex]; rfl
          refine ⟨_, rfl, .inl ⟨rfl, _, SqL.of hg⟩, _, rfl, g, _, _, rfl, rfl, hg, Nat.lt_of_le_of_lt (show _ ≤ 100000 by rw [List.length_map]; omega) (by decide), ?_⟩
          have E1 : Ex H (upd H' g (.lst ((N i).said.map V.int ++ [.int (N i).h]))) := e0.mut ngH
          have hu1 := hu.n (ExN.lst (o := .lst ((N i).said.map V.int ++ [.int (N i).h])) hg)
          have hl1 : (upd H' g (.lst ((N i).said.map V.int ++ [.int (N i).h]))) l = some (.lst ((ins.drop (N i).a).map V.int)) := by rw [upd_ne gl.symm]; exact hl
          refine ⟨_, rfl, b, us, _, _, rfl, rfl, _root_.Evl.ex_t E1 hb, at_of (j := 0) rfl g0, rfl, _, rfl, ite2 (fun c4 => absurd (wEq (y := .ask) c4) (by rw [ex]; decide)) (fun _ => ?_)⟩
          refine ⟨_, rfl, b, us, _, _, rfl, rfl, _root_.Evl.ex_t E1 hb, at_of (j := 0) rfl g0, rfl, _, rfl, ite2 (fun c4 => absurd (wEq (y := .zero) c4) (by rw [ex]; decide)) (fun _ => ?_)⟩
          refine ⟨_, rfl, _, rfl, _, rfl, _, rfl, b, us, _, _, rfl, rfl, _root_.Evl.ex_t E1 hb, at_of (j := 0) rfl g0, (by show 3 ≤ sizeLine; decide), fun l1 n1 => ?_⟩
          have e5 := _root_.Evl.Ex.new (o := .lst [.str "say", .str "ask", .str "zero"]) n1
          refine ⟨l1, _, rfl, .inl (SqL.of upd_same), rfl, rfl, _, rfl, ?_⟩
          rw [isSay3, mk]
          generalize upd _ l1 (.lst [.str "say", .str "ask", .str "zero"]) = H5 at e5 ⊢
          refine iteT ?_
          refine ⟨(by show 1 ≤ sizeLine; decide), fun t1 nt1 => ?_⟩
          have e6 := _root_.Evl.Ex.new (o := .tup [.str "wait"]) nt1
          refine ⟨p, n, A, W, S, .ref mm, .ref t1, _, (.wait, 0), _, _, rfl, hM.ex (E1.trans (e5.trans e6)), M, ⟨t1, rfl, SqT.of upd_same⟩, (fun z => absurd z (by decide)), (fun z => absurd z (by decide)), hu1.ex (e5.trans e6), ok.m, ok.h0, ok.h1, fun zz H6 e7 hz2 => ?_⟩
          obtain ⟨tt, y, rfl, htt, hy⟩ := hz2
          refine ⟨tt, _, rfl, htt, rfl, _, _, rfl, _, _, rfl, rfl, ?_⟩
          have e8 := e5.trans (e6.trans e7)
          refine ⟨_, rfl, _, rfl, _, rfl, iteF ⟨_, rfl, _, _, rfl, rfl, P, .ref pa_, (N i).pl + 1, rfl, hP.ex (E1.trans e8), J, lP, by omega, fun z9 H9 e9 ez9 => ?_⟩⟩
          cases (show z9 = _ from ez9)
          have es := (NS i).trans (step_say hx ex)
          refine ⟨y, _, _, _, by rw [es]; rfl, (E1.trans e8).trans e9, by rw [es]; exact hy.ex e9, by rw [es]; exact e9 _ _ (e8 _ _ hl1), by rw [es]; exact e9 _ _ (e8 _ _ (by rw [List.map_append]; exact upd_same)), okS, by rw [es]; show ((N i).said ++ [(N i).h]).length ≤ _; rw [List.length_append, List.length_singleton]; omega, befS⟩
        have n1 : x.1 ≠ .say := wNe (y := .say) c3
        refine ⟨_, rfl, b, us, _, _, rfl, rfl, _root_.Evl.ex_t e0 hb, at_of (j := 0) rfl g0, rfl, _, rfl, ite2 (fun c4 => ?_) (fun c4 => ?_)⟩
        · have ex : x.1 = .ask := wEq (y := .ask) c4
          have mk : mark x.1 = true := by rw [ex]; rfl
          refine ⟨_, rfl, (by show 0 ≤ sizeLine; decide), fun l0 n0 => ?_⟩
          have e3 := _root_.Evl.Ex.new (o := .lst []) n0
          refine ⟨.list ((ins.drop (N i).a).map PyData.int), .list [], .lst (SqL.of (e3 _ _ hl)) (dpInts _), .lst (SqL.of upd_same) .nil, listD_shaped _, rfl, _, rfl, ?_⟩
          rw [listD_nil]
          have E3 := e0.trans e3
          generalize upd H' l0 (.lst []) = H3 at e3 E3 ⊢
          have hl3 := e3 _ _ hl
          have hg3 := e3 _ _ hg
          have hu3 := hu.ex e3
          refine ite2 (fun c5 => ?_) (fun c5 => ?_)
          · have ne : ins.drop (N i).a ≠ [] := of_decide_eq_true c5
            have l5 : (N i).a < ins.length := by
              rcases Nat.lt_or_ge (N i).a ins.length with z | z
              · exact z
              · exact absurd (List.drop_eq_nil_of_le z) ne
            have dr : ins.drop (N i).a = ins.getD (N i).a 0 :: ins.drop ((N i).a + 1) := by
              rw [List.drop_eq_getElem_cons l5, List.getD_eq_getElem?_getD, List.getElem?_eq_getElem l5]
              rfl
            rw [dr] at hl3
            refine ⟨_, rfl, .inl ⟨rfl, _, SqL.of hl3⟩, l, _, 0, 0, .int (ins.getD (N i).a 0), rfl, rfl, hl3, by decide, by decide, by simp [seqIndex?], rfl, ?_⟩
            have E4 : Ex H (upd H3 l (.lst ((ins.drop ((N i).a + 1)).map V.int))) := E3.mut nl
            have hu4 := hu3.n (ExN.lst (o := .lst ((ins.drop ((N i).a + 1)).map V.int)) hl3)
            have hg4 : (upd H3 l (.lst ((ins.drop ((N i).a + 1)).map V.int))) g = some (.lst ((N i).said.map V.int)) := by rw [upd_ne gl]; exact hg3
            have ob : 0 ≤ ins.getD (N i).a 0 ∧ ins.getD (N i).a 0 < p := oI _ (by rw [List.getD_eq_getElem?_getD, List.getElem?_eq_getElem l5]; exact List.getElem_mem l5)
            refine ⟨_, rfl, b, us, _, _, rfl, rfl, _root_.Evl.ex_t E4 hb, at_of (j := 0) rfl g0, rfl, _, rfl, ite2 (fun c4 => absurd (wEq (y := .zero) c4) (by rw [ex]; decide)) (fun _ => ?_)⟩
            refine ⟨_, rfl, _, rfl, _, rfl, _, rfl, b, us, _, _, rfl, rfl, _root_.Evl.ex_t E4 hb, at_of (j := 0) rfl g0, (by show 3 ≤ sizeLine; decide), fun l1 n1 => ?_⟩
            have e5 := _root_.Evl.Ex.new (o := .lst [.str "say", .str "ask", .str "zero"]) n1
            refine ⟨l1, _, rfl, .inl (SqL.of upd_same), rfl, rfl, _, rfl, ?_⟩
            rw [isSay3, mk]
            generalize upd _ l1 (.lst [.str "say", .str "ask", .str "zero"]) = H5 at e5 ⊢
            refine iteT ?_
            refine ⟨(by show 1 ≤ sizeLine; decide), fun t1 nt1 => ?_⟩
            have e6 := _root_.Evl.Ex.new (o := .tup [.str "wait"]) nt1
            refine ⟨p, n, A, W, S, .ref mm, .ref t1, _, (.wait, 0), _, _, rfl, hM.ex (E4.trans (e5.trans e6)), M, ⟨t1, rfl, SqT.of upd_same⟩, (fun z => absurd z (by decide)), (fun z => absurd z (by decide)), hu4.ex (e5.trans e6), ok.m, ob.1, ob.2, fun zz H6 e7 hz2 => ?_⟩
            obtain ⟨tt, y, rfl, htt, hy⟩ := hz2
            refine ⟨tt, _, rfl, htt, rfl, _, _, rfl, _, _, rfl, rfl, ?_⟩
            have e8 := e5.trans (e6.trans e7)
            refine ⟨_, rfl, _, rfl, _, rfl, iteF ⟨_, rfl, _, _, rfl, rfl, P, .ref pa_, (N i).pl + 1, rfl, hP.ex (E4.trans e8), J, lP, by omega, fun z9 H9 e9 ez9 => ?_⟩⟩
            cases (show z9 = _ from ez9)
            have es := (NS i).trans (step_ask hx ex)
            refine ⟨y, _, _, _, by rw [es]; rfl, (E4.trans e8).trans e9, by rw [es]; exact hy.ex e9, by rw [es]; exact e9 _ _ (e8 _ _ upd_same), by rw [es]; exact e9 _ _ (e8 _ _ hg4), okS, by rw [es]; show (N i).said.length ≤ _; omega, befS⟩
          · have ge : ins.length ≤ (N i).a := by
              rcases Nat.lt_or_ge (N i).a ins.length with z | z
              · refine absurd (decide_eq_true ?_) c5
                rw [List.drop_eq_getElem_cons z]
                exact List.cons_ne_nil _ _
              · exact z
            have z0 : ins.getD (N i).a 0 = (0 : Int) := by rw [List.getD_eq_getElem?_getD, List.getElem?_eq_none (by omega)]; rfl
            have hl4 : H3 l = some (.lst ((ins.drop ((N i).a + 1)).map V.int)) := by rw [hl3, List.drop_eq_nil_of_le ge, List.drop_eq_nil_of_le (by omega)]
            refine ⟨_, rfl, b, us, _, _, rfl, rfl, _root_.Evl.ex_t E3 hb, at_of (j := 0) rfl g0, rfl, _, rfl, ite2 (fun c4 => absurd (wEq (y := .zero) c4) (by rw [ex]; decide)) (fun _ => ?_)⟩
            refine ⟨_, rfl, _, rfl, _, rfl, _, rfl, b, us, _, _, rfl, rfl, _root_.Evl.ex_t E3 hb, at_of (j := 0) rfl g0, (by show 3 ≤ sizeLine; decide), fun l1 n1 => ?_⟩
            have e5 := _root_.Evl.Ex.new (o := .lst [.str "say", .str "ask", .str "zero"]) n1
            refine ⟨l1, _, rfl, .inl (SqL.of upd_same), rfl, rfl, _, rfl, ?_⟩
            rw [isSay3, mk]
            generalize upd _ l1 (.lst [.str "say", .str "ask", .str "zero"]) = H5 at e5 ⊢
            refine iteT ?_
            refine ⟨(by show 1 ≤ sizeLine; decide), fun t1 nt1 => ?_⟩
            have e6 := _root_.Evl.Ex.new (o := .tup [.str "wait"]) nt1
            refine ⟨p, n, A, W, S, .ref mm, .ref t1, _, (.wait, 0), _, _, rfl, hM.ex (E3.trans (e5.trans e6)), M, ⟨t1, rfl, SqT.of upd_same⟩, (fun z => absurd z (by decide)), (fun z => absurd z (by decide)), hu3.ex (e5.trans e6), ok.m, Int.le_refl _, by omega, fun zz H6 e7 hz2 => ?_⟩
            obtain ⟨tt, y, rfl, htt, hy⟩ := hz2
            refine ⟨tt, _, rfl, htt, rfl, _, _, rfl, _, _, rfl, rfl, ?_⟩
            have e8 := e5.trans (e6.trans e7)
            refine ⟨_, rfl, _, rfl, _, rfl, iteF ⟨_, rfl, _, _, rfl, rfl, P, .ref pa_, (N i).pl + 1, rfl, hP.ex (E3.trans e8), J, lP, by omega, fun z9 H9 e9 ez9 => ?_⟩⟩
            cases (show z9 = _ from ez9)
            have es := (NS i).trans ((step_ask hx ex).trans (by rw [z0]))
            refine ⟨y, _, _, _, by rw [es]; rfl, (E3.trans e8).trans e9, by rw [es]; exact hy.ex e9, by rw [es]; exact e9 _ _ (e8 _ _ hl4), by rw [es]; exact e9 _ _ (e8 _ _ hg3), okS, by rw [es]; show (N i).said.length ≤ _; omega, befS⟩
        have n2 : x.1 ≠ .ask := wNe (y := .ask) c4
        refine ⟨_, rfl, b, us, _, _, rfl, rfl, _root_.Evl.ex_t e0 hb, at_of (j := 0) rfl g0, rfl, _, rfl, ite2 (fun c5 => ?_) (fun c5 => ?_)⟩
        · have ex : x.1 = .zero := wEq (y := .zero) c5
          have mk : mark x.1 = true := by rw [ex]; rfl
          refine ⟨_, rfl, rfl, ?_⟩
          refine ⟨_, rfl, _, rfl, _, rfl, _, rfl, b, us, _, _, rfl, rfl, _root_.Evl.ex_t e0 hb, at_of (j := 0) rfl g0, (by show 3 ≤ sizeLine; decide), fun l1 n1 => ?_⟩
          have e5 := _root_.Evl.Ex.new (o := .lst [.str "say", .str "ask", .str "zero"]) n1
          refine ⟨l1, _, rfl, .inl (SqL.of upd_same), rfl, rfl, _, rfl, ?_⟩
          rw [isSay3, mk]
          generalize upd _ l1 (.lst [.str "say", .str "ask", .str "zero"]) = H5 at e5 ⊢
          refine iteT ?_
          refine ⟨(by show 1 ≤ sizeLine; decide), fun t1 nt1 => ?_⟩
          have e6 := _root_.Evl.Ex.new (o := .tup [.str "wait"]) nt1
          refine ⟨p, n, A, W, S, .ref mm, .ref t1, _, (.wait, 0), _, _, rfl, hM.ex (e0.trans (e5.trans e6)), M, ⟨t1, rfl, SqT.of upd_same⟩, (fun z => absurd z (by decide)), (fun z => absurd z (by decide)), hu.ex (e5.trans e6), ok.m, ok.h0, ok.h1, fun zz H6 e7 hz2 => ?_⟩
          obtain ⟨tt, y, rfl, htt, hy⟩ := hz2
          refine ⟨tt, _, rfl, htt, rfl, _, _, rfl, _, _, rfl, rfl, ?_⟩
          have e8 := e5.trans (e6.trans e7)
          refine ⟨_, rfl, _, rfl, _, rfl, ite2 (fun c6 => ?_) (fun c6 => ?_)⟩
          · have h0 : (N i).h = 0 := yeq c6
            refine ⟨_, rfl, b, us, _, _, rfl, rfl, _root_.Evl.ex_t (e0.trans e8) hb, at_of (j := 1) rfl (g1 (by rw [ex]; rfl)), P, .ref pa_, x.2, rfl, hP.ex (e0.trans e8), J, lP, Xx.jmp (.inr ex), fun z9 H9 e9 ez9 => ?_⟩
            cases (show z9 = _ from ez9)
            have es := (NS i).trans ((step_zero hx ex).trans (by rw [if_pos h0]))
            refine ⟨y, _, _, _, by rw [es]; rfl, (e0.trans e8).trans e9, by rw [es]; exact hy.ex e9, by rw [es]; exact e9 _ _ (e8 _ _ hl), by rw [es]; exact e9 _ _ (e8 _ _ hg), okS, by rw [es]; show (N i).said.length ≤ _; omega, befS⟩
          · have h0 : (N i).h ≠ 0 := yne c6
            refine ⟨_, rfl, _, _, rfl, rfl, P, .ref pa_, (N i).pl + 1, rfl, hP.ex (e0.trans e8), J, lP, by omega, fun z9 H9 e9 ez9 => ?_⟩
            cases (show z9 = _ from ez9)
            have es := (NS i).trans ((step_zero hx ex).trans (by rw [if_neg h0]))
            refine ⟨y, _, _, _, by rw [es]; rfl, (e0.trans e8).trans e9, by rw [es]; exact hy.ex e9, by rw [es]; exact e9 _ _ (e8 _ _ hl), by rw [es]; exact e9 _ _ (e8 _ _ hg), okS, by rw [es]; show (N i).said.length ≤ _; omega, befS⟩
        have n3 : x.1 ≠ .zero := wNe (y := .zero) c5
        have mk : mark x.1 = false := by
          generalize x.1 = y at n1 n2 n3
          cases y <;> first | rfl | contradiction
        refine ⟨_, rfl, _, rfl, _, rfl, _, rfl, b, us, _, _, rfl, rfl, _root_.Evl.ex_t e0 hb, at_of (j := 0) rfl g0, (by show 3 ≤ sizeLine; decide), fun l1 n1 => ?_⟩
        have e5 := _root_.Evl.Ex.new (o := .lst [.str "say", .str "ask", .str "zero"]) n1
        refine ⟨l1, _, rfl, .inl (SqL.of upd_same), rfl, rfl, _, rfl, ?_⟩
        rw [isSay3, mk]
        generalize upd _ l1 (.lst [.str "say", .str "ask", .str "zero"]) = H5 at e5 ⊢
        refine iteF ?_
        have hIx : IVof K (iv x) (.ref b) H5 := by
          obtain ⟨v', hv', q'⟩ := pr_getR pp (show (P.map iv)[(N i).pl]? = some (iv x) by rw [List.getElem?_map, hx]; rfl)
          rw [gx] at hv'
          rw [Option.some.inj hv']
          exact q'.ex (e0.trans e5)
        refine ⟨_, rfl, p, n, A, W, S, .ref mm, .ref b, u', x, (N i).m, (N i).h, rfl, hM.ex (e0.trans e5), M, hIx, Xx.see, Xx.wri, hu.ex e5, ok.m, ok.h0, ok.h1, fun zz H6 e7 hz2 => ?_⟩
        obtain ⟨tt, y, rfl, htt, hy⟩ := hz2
        refine ⟨tt, _, rfl, htt, rfl, _, _, rfl, _, _, rfl, rfl, ?_⟩
        have e8 := e5.trans e7
        refine ⟨_, rfl, _, rfl, _, rfl, iteF ⟨_, rfl, _, _, rfl, rfl, P, .ref pa_, (N i).pl + 1, rfl, hP.ex (e0.trans e8), J, lP, by omega, fun z9 H9 e9 ez9 => ?_⟩⟩
        cases (show z9 = _ from ez9)
        have es := (NS i).trans (step_else hx (wNe (y := .say) c3) n2 n3)
        refine ⟨y, _, _, _, by rw [es]; rfl, (e0.trans e8).trans e9, by rw [es]; exact hy.ex e9, by rw [es]; exact e9 _ _ (e8 _ _ hl), by rw [es]; exact e9 _ _ (e8 _ _ hg), okS, by rw [es]; show (N i).said.length ≤ _; omega, befS⟩
    · obtain ⟨u', y9, y10, y11, rfl, e0, hu, hl, hg, ok, sl, bef⟩ := p'
      rw [Int.toNat_natCast] at *
      refine ⟨_, rfl, g, _, rfl, .inl ⟨SqL.of hg, fun c1 nc1 => ?_⟩⟩
      refine ⟨_, rfl, _, _, rfl, rfl, _, rfl, ite2 (fun c => ?_) (fun c => ?_)⟩
      · have pe : (N most).pl = P.length := by
          have := of_decide_eq_true c
          unfold standI at this
          split at this
          · assumption
          · omega
        exact ⟨_, rfl, (by show 3 ≤ sizeLine; decide), fun c nc => fin most _ e0 ⟨Nat.le_refl _, bef, .inl rfl⟩ c1 nc1 _ (by rw [if_pos pe]) c nc⟩
      · have pe : (N most).pl ≠ P.length := fun z => c (decide_eq_true (by unfold standI; rw [if_pos z]; omega))
        exact ⟨_, rfl, (by show 3 ≤ sizeLine; decide), fun c nc => fin most _ e0 ⟨Nat.le_refl _, bef, .inl rfl⟩ c1 nc1 _ (by rw [if_neg pe]) c nc⟩
end
end K01


set_option Elab.async false
set_option linter.all false
set_option maxRecDepth 100000
set_option maxHeartbeats 4000000
/-! Drawn programs, the plain machine -/
namespace K01
open PySem PySem.Spec PyProof.Rows L2 Prg
def wd6 : Nat → Wd | 0 => .get | 1 => .plus | 2 => .minus | 3 => .add | 4 => .take | _ => .add
def wd2 : Nat → Wd | 0 => .zero | _ => .go
theorem six_at {j : Nat} (h : j < 6) : ([.str "get", .str "plus", .str "minus", .str "add", .str "take", .str "add"] : List V)[j]? = some (.str (wstr (wd6 j))) := by
  rcases j with _ | _ | _ | _ | _ | _ | j <;> first | rfl | omega
theorem two_at {j : Nat} (h : j < 2) : ([.str "zero", .str "go"] : List V)[j]? = some (.str (wstr (wd2 j))) := by
  rcases j with _ | _ | j <;> first | rfl | omega
theorem wd6_ok {p : Int} {sl n k : Nat} (j : Nat) (h : k < sl) : InsOk p sl sl n false (wd6 j, k) := by
  rcases j with _ | _ | _ | _ | _ | j <;> constructor <;> intro z <;> first | exact h | (simp [wd6, see, wri] at z; done)
theorem wd6_bare (j : Nat) : bare (wd6 j) = false := by rcases j with _ | _ | _ | _ | _ | j <;> rfl
theorem wd2_ok {p : Int} {sl n k : Nat} (j : Nat) (h : k ≤ n) : InsOk p sl sl n false (wd2 j, k) := by
  rcases j with _ | j <;> constructor <;> intro z <;> first | exact h | (simp [wd2, see, wri] at z; done)
theorem wd2_bare (j : Nat) : bare (wd2 j) = false := by rcases j with _ | j <;> rfl
theorem say_ok {p : Int} {sl n : Nat} {w : Wd} (h : w = .say ∨ w = .ask ∨ w = .stop) : InsOk p sl sl n false (w, 0) := by
  rcases h with rfl | rfl | rfl <;> constructor <;> intro z <;> (simp [see, wri] at z; done)
theorem put_ok {p : Int} {sl n k : Nat} (h : ((k : Nat) : Int) < p) : InsOk p sl sl n false (.put, k) := by
  constructor <;> intro z <;> first | exact h | (simp [see, wri] at z; done)
theorem iv_two {w : Wd} {k : Nat} (h : bare w = false) : iv (w, k) = .two w (k : Nat) := by unfold iv; rw [if_neg (by rw [h]; simp)]
section
variable {P : Program} {w : World} {K : PySem.W.Frag} {mg : Str → Option Value} {base : Heap}
theorem Row0.mut {a sc g : Addr} {ns : List Int} {H : Hp} {o : HO} (h : Row0 K a sc ns H) (n : g ≠ a) (off : Off K g sc ns) : Row0 K a sc ns (upd H g o) := by
  obtain ⟨i, sd, gr, h1, h2, h3, h4⟩ := h
  exact ⟨i, sd, gr, by rw [upd_ne n.symm]; exact h1, h2, sql_o (ExB.at (ExB.refl g H)) off h3, h4⟩
/-- what is drawn so far -/
def LPInv (K : PySem.W.Frag) (a sc g : Addr) (ns : List Int) (p m z : Int) (c n : Nat) (H : Hp) (i : Nat) (σ : L2.St) (H' : Hp) : Prop := ∃ (vs : List V) (Q : List Ins) (y6 y7 y8 : Option V), σ = [some (.ref a), some (.int p), some (.int (c : Nat)), some (.int m), some (.int z), some (.ref g), y6, y7, y8] ∧ ExB a H H' ∧ Row0 K a sc ns H' ∧ H' g = some (.lst vs) ∧
  Paired (fun x i => IVof K i x H') vs (Q.map iv) ∧ Q.length = i ∧ ∀ x ∈ Q, InsOk p c c n false x
theorem LPInv.push {a sc g : Addr} {ns : List Int} {p m z : Int} {c n : Nat} {H H2 : Hp} {i : Nat} {vs : List V} {Q : List Ins} {v : V} {x : Ins} {y6 y7 y8 : Option V} (ga : g ≠ a) (ng : H g = none) (off : Off K g sc ns) (e : ExB a H H2) (r : Row0 K a sc ns H2) (hg : H2 g = some (.lst vs))
    (pq : Paired (fun x i => IVof K i x H2) vs (Q.map iv)) (lq : Q.length = i) (oq : ∀ x ∈ Q, InsOk p c c n false x) (hv : IVof K (iv x) v H2) (ox : InsOk p c c n false x) :
    LPInv K a sc g ns p m z c n H (i + 1) [some (.ref a), some (.int p), some (.int (c : Nat)), some (.int m), some (.int z), some (.ref g), y6, y7, y8] (upd H2 g (.lst (vs ++ [v]))) := by
  have en := ExN.lst (o := .lst (vs ++ [v])) hg
  refine ⟨_, Q ++ [x], y6, y7, y8, rfl, e.new ng, r.mut ga off, upd_same, ?_, by rw [List.length_append, lq]; rfl, fun y hy => ?_⟩
  · rw [List.map_append]
    exact pr_snoc (pr_mono pq fun _ _ h => h.n en) (hv.n en)
  · rcases List.mem_append.mp hy with h | h
    · exact oq y h
    · rw [List.mem_singleton.mp h]; exact ox
def spLProg (K : PySem.W.Frag) : Sp := fun vs H Q _ => ∃ (a sc : Addr) (ns : List Int) (p : Int) (c : Nat) (m : Int), vs = [.ref a, .int p, .int (c : Nat), .int m] ∧ Row0 K a sc ns H ∧ 1 < p ∧ p ≤ 100 ∧ 1 ≤ c ∧ c ≤ 100 ∧ 1 ≤ m ∧ m ≤ 500 ∧
  ∀ v H', ExB a H H' → Row0 K a sc ns H' → (∃ P, PrgT K P v H' ∧ 1 ≤ P.length ∧ (P.length : Int) ≤ m ∧ PrgOk p c c false P) → Q v H'
theorem ok_lprog {f : Addr} {fd : FuncData} (B : Bare mg) (F : Fun K "_law_program" "_law_program" s_law_program f fd) (Gt : Got P w K mg base CX0 1 "_law_taken" p_law_taken (spTaken K)) (Gp : Got P w K mg base CX0 2 "_law_pick" p_law_pick (spPick K)) : FnOk P w K mg base CX0 3 f fd p_law_program (spLProg K) := by
  refine F.ok sc_law_program (fun vs H Q E h => ?_) (fun cdv A outer s H vs Q E hr h => ?_)
  · obtain ⟨a, sc, ns, p, c, m, rfl, _⟩ := h
    rfl
  · obtain ⟨a, sc, ns, p, c, m, rfl, hr0, p1, p2, c1, c2, m1, m2, q⟩ := h
    have hr1 : Room 1 _ := hr.mono (by decide)
    refine ⟨_, pss_cons (ps_par (i := 4) (j := 5) rfl sc_law_program.nd rfl rfl (by decide) rfl rfl (pa_cons (pe_op op_add pe_int (pe_got Gt hr1 pass0 (pa_cons (pv 0) (pa_cons (pv 3) pa_nil)))) (pa_cons (pe_lst pa_nil) pa_nil)) (by rfl))
      (pss_cons (ps_for PassesOwn.never rfl (pi_range1 rfl B.range (pa_cons (pv 4) pa_nil)) (pg_name (i := 6) sc_law_program.nd rfl (Or.inl rfl))
        (pss_cons (ps_set (i := 7) sc_law_program.nd rfl (Or.inl rfl) (pe_got Gt hr1 pass0 (pa_cons (pv 0) (pa_cons pe_int pa_nil))))
        (pss_one (ps_if (pt_cmpR op_lt (pv 7) pe_int (nomark _))
          (pss_one (ps_expr (pe_bm PySem.F.plainAttrs_list PySem.F.slot_list_append PySem.F.type_list_append mt_append (pv 5) (pa_cons (pe_tup (pa_cons (pe_ix ix_list (pe_lst (pa_cons pe_str (pa_cons pe_str (pa_cons pe_str (pa_cons pe_str (pa_cons pe_str (pa_cons pe_str pa_nil))))))) (pv 7) (fun _ _ => rfl)) (pa_cons (pe_got Gt hr1 pass0 (pa_cons (pv 0) (pa_cons (pv 2) pa_nil))) pa_nil))) pa_nil))))
          (pss_one (ps_if (pt_cmpR op_lt (pv 7) pe_int (nomark _))
            (pss_one (ps_expr (pe_bm PySem.F.plainAttrs_list PySem.F.slot_list_append PySem.F.type_list_append mt_append (pv 5) (pa_cons (pe_tup (pa_cons (pe_ix ix_list (pe_lst (pa_cons pe_str (pa_cons pe_str pa_nil))) (pe_op op_sub (pv 7) pe_int) (fun _ _ => rfl)) (pa_cons (pe_got Gt hr1 pass0 (pa_cons (pv 0) (pa_cons (pe_op op_add (pv 4) pe_int) pa_nil))) pa_nil))) pa_nil))))
            (pss_cons (ps_set (i := 8) sc_law_program.nd rfl (Or.inl rfl) (pe_lst (pa_cons (pe_tup (pa_cons pe_str pa_nil)) (pa_cons (pe_tup (pa_cons pe_str pa_nil)) (pa_cons (pe_tup (pa_cons pe_str pa_nil)) (pa_cons (pe_tup (pa_cons pe_str pa_nil)) (pa_cons (pe_tup (pa_cons pe_str pa_nil)) pa_nil)))))))
            (pss_one (ps_expr (pe_bm PySem.F.plainAttrs_list PySem.F.slot_list_append PySem.F.type_list_append mt_append (pv 5) (pa_cons (pe_got Gp hr pass0 (pa_cons (pv 0) (pa_cons (pe_op op_cat (pv 8) (pe_lst (pa_cons (pe_tup (pa_cons pe_str (pa_cons (pe_got Gt hr1 pass0 (pa_cons (pv 0) (pa_cons (pv 1) pa_nil))) pa_nil))) pa_nil))) pa_nil))) pa_nil))))))))))) 
      (pss_one (ps_ret (pe_callTy call_tuple_of (by rfl) B.tuple (by decide +kernel) (pa_cons (pv 5) pa_nil))))), ?_⟩
    -- READ
    refine ⟨_, rfl, _, rfl, a, sc, ns, m, rfl, hr0, m1, by omega, fun r H1 b0 b1 e1 r1 => ⟨_, _, rfl, rfl, ?_⟩⟩
    refine ⟨(by show 0 ≤ sizeLine; decide), fun g ng => ?_⟩
    refine ⟨_, _, rfl, ?_⟩
    obtain ⟨n, en⟩ : ∃ n : Nat, 1 + r = (n : Int) := ⟨(1 + r).toNat, by omega⟩
    have hag : g ≠ a := by
      obtain ⟨_, _, _, h1, _⟩ := r1
      rintro rfl
      rw [h1] at ng
      cases ng
    have ngH : H g = none := by
      cases z : H g with
      | none => rfl
      | some o => rw [e1 _ _ hag z] at ng; cases ng
    have off : Off K g sc ns := by
      obtain ⟨_, _, _, _, _, h3, _⟩ := r1
      exact off_of ng h3
    have eN : (1 + r).toNat = n := by omega
    refine ⟨_, rfl, _, rfl, by omega, by omega, ?_⟩
    refine for_range (lo := 0) (n := (1 + r).toNat) (LPInv K a sc g ns p m (1 + r) c n H) ⟨[], [], none, none, none, rfl, e1.new ngH, r1.ex (_root_.Evl.Ex.new ng), upd_same, .nil, rfl, fun x hx => by cases hx⟩ (fun i σ' H' hi p' => ?_) fun σ' H' p' => ?_
    · obtain ⟨vs, Q', y6, y7, y8, rfl, e0, r0, hg, pq, lq, oq⟩ := p'
      rw [eN] at hi
      have sml : vs.length < sizeLine := by
        have : vs.length = i := by rw [pr_len pq, List.length_map, lq]
        exact Nat.lt_of_le_of_lt (show vs.length ≤ 1000 by omega) (by decide)
      refine ⟨_, rfl, a, sc, ns, 12, rfl, r0, by decide, by decide, fun way H2 w0 w1 e2 r2 => ?_⟩
      have hg2 := e2 _ _ hag hg
      have pq2 := pr_mono pq fun _ _ h => h.n (r0.n e2)
      have e02 := e0.trans e2
      refine ⟨_, rfl, _, _, rfl, rfl, _, rfl, ite2 (fun c6 => ?_) (fun c6 => ?_)⟩
      · have w6 := of_decide_eq_true c6
        refine ⟨_, rfl, .inl ⟨rfl, _, SqL.of hg2⟩, (by show 6 ≤ sizeLine; decide), fun l0 n0 => ?_⟩
        have e3 := _root_.Evl.Ex.new (o := .lst [.str "get", .str "plus", .str "minus", .str "add", .str "take", .str "add"]) n0
        refine ⟨_, rfl, l0, _, _, _, rfl, rfl, SqL.of upd_same, at_of (j := way.toNat) (by omega) (six_at (by omega)), ?_⟩
        refine ⟨_, rfl, _, rfl, a, sc, ns, (c : Nat), rfl, r2.ex e3, by omega, by omega, fun k H4 k0 k1 e4 r4 => ?_⟩
        refine ⟨(by show 2 ≤ sizeLine; decide), fun t nt => ?_⟩
        obtain ⟨k', rfl⟩ : ∃ k' : Nat, k = (k' : Int) := ⟨k.toNat, by omega⟩
        have e5 := _root_.Evl.Ex.new (o := .tup [.str (wstr (wd6 way.toNat)), .int (k' : Nat)]) nt
        have hg5 := e5 _ _ (e4 _ _ hag (e3 _ _ hg2))
        refine ⟨g, _, _, rfl, rfl, hg5, sml, ?_⟩
        refine LPInv.push hag ngH off (e02.trans ((ExB.of e3).trans (e4.trans (ExB.of e5)))) (r4.ex e5) hg5 (pr_mono (pr_mono pq2 fun _ _ h => (h.ex e3).n ((r2.ex e3).n e4)) fun _ _ h => h.ex e5) lq oq ?_ (wd6_ok (k := k') way.toNat (by omega))
        rw [iv_two (wd6_bare _)]
        exact ⟨t, rfl, SqT.of upd_same⟩
      · have w6 : ¬ way < 6 := fun z => c6 (decide_eq_true z)
        refine ⟨_, rfl, _, _, rfl, rfl, _, rfl, ite2 (fun c8 => ?_) (fun c8 => ?_)⟩
        · have w8 := of_decide_eq_true c8
          refine ⟨_, rfl, .inl ⟨rfl, _, SqL.of hg2⟩, (by show 2 ≤ sizeLine; decide), fun l0 n0 => ?_⟩
          have e3 := _root_.Evl.Ex.new (o := .lst [.str "zero", .str "go"]) n0
          refine ⟨_, rfl, _, _, rfl, rfl, l0, _, _, _, rfl, rfl, SqL.of upd_same, at_of (j := (way - 6).toNat) (by omega) (two_at (by omega)), ?_⟩
          refine ⟨_, rfl, _, rfl, _, _, rfl, rfl, a, sc, ns, 1 + r + 1, rfl, r2.ex e3, by omega, by omega, fun k H4 k0 k1 e4 r4 => ?_⟩
          refine ⟨(by show 2 ≤ sizeLine; decide), fun t nt => ?_⟩
          obtain ⟨k', rfl⟩ : ∃ k' : Nat, k = (k' : Int) := ⟨k.toNat, by omega⟩
          have e5 := _root_.Evl.Ex.new (o := .tup [.str (wstr (wd2 (way - 6).toNat)), .int (k' : Nat)]) nt
          have hg5 := e5 _ _ (e4 _ _ hag (e3 _ _ hg2))
          refine ⟨g, _, _, rfl, rfl, hg5, sml, ?_⟩
          refine LPInv.push hag ngH off (e02.trans ((ExB.of e3).trans (e4.trans (ExB.of e5)))) (r4.ex e5) hg5 (pr_mono (pr_mono pq2 fun _ _ h => (h.ex e3).n ((r2.ex e3).n e4)) fun _ _ h => h.ex e5) lq oq ?_ (wd2_ok (k := k') (way - 6).toNat (by omega))
          rw [iv_two (wd2_bare _)]
          exact ⟨t, rfl, SqT.of upd_same⟩
        · refine ⟨(by show 1 ≤ sizeLine; decide), fun t1 n1 => ⟨(by show 1 ≤ sizeLine; decide), fun t2 n2 => ⟨(by show 1 ≤ sizeLine; decide), fun t3 n3 => ⟨(by show 1 ≤ sizeLine; decide), fun t4 n4 => ⟨(by show 1 ≤ sizeLine; decide), fun t5 n5 => ⟨(by show 5 ≤ sizeLine; decide), fun l5 n6 => ?_⟩⟩⟩⟩⟩⟩
          have f1 := _root_.Evl.Ex.new (o := .tup [.str "say"]) n1
          have f2 := _root_.Evl.Ex.new (o := .tup [.str "say"]) n2
          have f3 := _root_.Evl.Ex.new (o := .tup [.str "ask"]) n3
          have f4 := _root_.Evl.Ex.new (o := .tup [.str "ask"]) n4
          have f5 := _root_.Evl.Ex.new (o := .tup [.str "stop"]) n5
          have f6 := _root_.Evl.Ex.new (o := .lst [.ref t1, .ref t2, .ref t3, .ref t4, .ref t5]) n6
          have h1 := (f2.trans (f3.trans (f4.trans (f5.trans f6)))) _ _ (upd_same (H := H2) (a := t1) (o := .tup [.str "say"]))
          have h2 := (f3.trans (f4.trans (f5.trans f6))) _ _ (upd_same (a := t2) (o := .tup [.str "say"]))
          have h3 := (f4.trans (f5.trans f6)) _ _ (upd_same (a := t3) (o := .tup [.str "ask"]))
          have h4 := (f5.trans f6) _ _ (upd_same (a := t4) (o := .tup [.str "ask"]))
          have h5 := f6 _ _ (upd_same (a := t5) (o := .tup [.str "stop"]))
          have h6 := (upd_same (a := l5) (o := .lst [.ref t1, .ref t2, .ref t3, .ref t4, .ref t5]) (H := (upd (upd (upd (upd (upd H2 t1 (.tup [.str "say"])) t2 (.tup [.str "say"])) t3 (.tup [.str "ask"])) t4 (.tup [.str "ask"])) t5 (.tup [.str "stop"]))))
          have f16 := f1.trans (f2.trans (f3.trans (f4.trans (f5.trans f6))))
          generalize upd (upd (upd (upd (upd (upd H2 t1 (.tup [.str "say"])) t2 (.tup [.str "say"])) t3 (.tup [.str "ask"])) t4 (.tup [.str "ask"])) t5 (.tup [.str "stop"])) l5 (.lst [.ref t1, .ref t2, .ref t3, .ref t4, .ref t5]) = H3 at h1 h2 h3 h4 h5 h6 f16 ⊢
          have hg3 := f16 _ _ hg2
          have r3 := r2.ex f16
          refine ⟨_, rfl, .inl ⟨rfl, _, SqL.of hg3⟩, _, rfl, _, rfl, ?_⟩
          refine ⟨_, rfl, _, rfl, a, sc, ns, p, rfl, r3, by omega, by omega, fun k H4 k0 k1 e4 r4 => ?_⟩
          obtain ⟨k', rfl⟩ : ∃ k' : Nat, k = (k' : Int) := ⟨k.toNat, by omega⟩
          refine ⟨(by show 2 ≤ sizeLine; decide), fun t6 n7 => ⟨(by show 1 ≤ sizeLine; decide), fun l6 n8 => ?_⟩⟩
          have f7 := _root_.Evl.Ex.new (o := .tup [.str "put", .int (k' : Nat)]) n7
          have f8 := _root_.Evl.Ex.new (o := .lst [.ref t6]) n8
          have la5 : l5 ≠ a := by
            obtain ⟨_, _, _, z, _⟩ := r3
            rintro rfl
            rw [h6] at z
            simp at z
          have h64 := e4 _ _ la5 h6
          have x4 := r3.n e4
          have f78 := f7.trans f8
          have h16 := f78 _ _ (x4 _ _ h1 fun _ z => by cases z)
          have h26 := f78 _ _ (x4 _ _ h2 fun _ z => by cases z)
          have h36 := f78 _ _ (x4 _ _ h3 fun _ z => by cases z)
          have h46 := f78 _ _ (x4 _ _ h4 fun _ z => by cases z)
          have h56 := f78 _ _ (x4 _ _ h5 fun _ z => by cases z)
          have h66 := f8 _ _ (upd_same (H := H4) (a := t6) (o := .tup [.str "put", .int (k' : Nat)]))
          have h56l := f78 _ _ h64
          have h68 := upd_same (H := upd H4 t6 (.tup [.str "put", .int (k' : Nat)])) (a := l6) (o := .lst [.ref t6])
          have hg6 := f78 _ _ (e4 _ _ hag hg3)
          have r6 := r4.ex f78
          have pq6 := pr_mono (pr_mono (pr_mono pq2 fun _ _ h => h.ex f16) fun _ _ h => h.n x4) fun _ _ h => h.ex f78
          have e06 := e02.trans ((ExB.of f16).trans (e4.trans (ExB.of f78)))
          generalize upd (upd H4 t6 (.tup [.str "put", .int (k' : Nat)])) l6 (.lst [.ref t6]) = H6 at h16 h26 h36 h46 h56 h66 h56l h68 hg6 r6 pq6 e06 ⊢
          refine ⟨_, _, _, _, rfl, rfl, h56l, h68, (by show 5 + 1 ≤ sizeLine; decide), fun l7 n9 => ?_⟩
          have f9 := _root_.Evl.Ex.new (o := .lst ([.ref t1, .ref t2, .ref t3, .ref t4, .ref t5] ++ [.ref t6])) n9
          have l7a : l7 ≠ a := by
            obtain ⟨_, _, _, z, _⟩ := r6
            rintro rfl
            rw [z] at n9
            cases n9
          have r7 := r6.ex f9
          refine ⟨a, l7, sc, ns, _, rfl, r7, l7a, SqL.of upd_same, (by show 1 ≤ 6; decide), (by show 6 ≤ 1000; decide), fun j v H8 hj e8 r8 => ?_⟩
          have x8 := r7.n e8
          have hg8 := e8 _ _ hag (f9 _ _ hg6)
          refine ⟨g, _, _, rfl, rfl, hg8, sml, ?_⟩
          have pq8 := pr_mono (pr_mono pq6 fun _ _ h => h.ex f9) fun _ _ h => h.n x8
          have e08 := e06.trans ((ExB.of f9).trans e8)
          have tup : ∀ {t : Addr} {us : List V}, H6 t = some (.tup us) → SqT K H8 t us := fun h => SqT.of (x8 _ _ (f9 _ _ h) fun _ z => by cases z)
          have mem := List.mem_of_getElem? hj
          simp only [List.cons_append, List.nil_append, List.mem_cons, List.not_mem_nil, or_false] at mem
          rcases mem with rfl | rfl | rfl | rfl | rfl | rfl
          · exact LPInv.push (x := (.say, 0)) hag ngH off e08 r8 hg8 pq8 lq oq ⟨t1, rfl, tup h16⟩ (say_ok (.inl rfl))
          · exact LPInv.push (x := (.say, 0)) hag ngH off e08 r8 hg8 pq8 lq oq ⟨t2, rfl, tup h26⟩ (say_ok (.inl rfl))
          · exact LPInv.push (x := (.ask, 0)) hag ngH off e08 r8 hg8 pq8 lq oq ⟨t3, rfl, tup h36⟩ (say_ok (.inr (.inl rfl)))
          · exact LPInv.push (x := (.ask, 0)) hag ngH off e08 r8 hg8 pq8 lq oq ⟨t4, rfl, tup h46⟩ (say_ok (.inr (.inl rfl)))
          · exact LPInv.push (x := (.stop, 0)) hag ngH off e08 r8 hg8 pq8 lq oq ⟨t5, rfl, tup h56⟩ (say_ok (.inr (.inr rfl)))
          · exact LPInv.push (x := (.put, k')) hag ngH off e08 r8 hg8 pq8 lq oq ⟨t6, rfl, tup h66⟩ (put_ok (by omega))
    · obtain ⟨vs, Q', y6, y7, y8, rfl, e0, r0, hg, pq, lq, oq⟩ := p'
      rw [eN] at lq
      refine ⟨_, rfl, g, _, rfl, .inl ⟨SqL.of hg, fun t nt => ?_⟩⟩
      have e9 := _root_.Evl.Ex.new (o := .tup vs) nt
      refine q _ _ (e0.trans (ExB.of e9)) (r0.ex e9) ⟨Q', ⟨t, vs, rfl, SqT.of upd_same, pr_mono pq fun _ _ h => h.ex e9⟩, by omega, by omega, fun i x hx => ?_⟩
      rw [lq]
      exact oq x (List.mem_of_getElem? hx)
end
end K01


set_option Elab.async false
set_option linter.all false
set_option maxRecDepth 100000
set_option maxHeartbeats 4000000
/-! The law's plain machine; where it can go on -/
namespace K01
open PySem PySem.Spec PyProof.Rows L2 Prg
/-- the next places behind an instruction -/
def _root_.Prg.nx (P : List Ins) (i : Nat) : List Nat := if word P i = some .zero then [land P (i + 1), land P (num P i)] else [land P (i + 1)]
section
variable {P : Program} {w : World} {K : PySem.W.Frag} {mg : Str → Option Value} {base : Heap}
theorem ok_plain {f : Addr} {fd : FuncData} (B : Bare mg) (F : Fun K "_law_plain" "_law_plain" s_law_plain f fd) : FnOk P w K mg base CX0 2 f fd p_law_plain (spStillM K) := by
  refine F.ok sc_law_plain (fun vs H Q E h => ?_) (fun cdv Ar outer s H vs Q E hr h => ?_)
  · obtain ⟨p, n, rfl, _⟩ := h
    rfl
  · obtain ⟨p, n, rfl, hn, q⟩ := h
    refine ⟨_, pss_cons (ps_set (i := 2) sc_law_plain.nd rfl (Or.inl rfl) (pe_callTy call_tuple_of (by rfl) B.tuple (by decide +kernel) (pa_cons (pe_lc (own := [("other", 4)]) (g := gName 4) (tt := tYes) rfl sc_law_plain.nd (pi_range1 rfl B.range (pa_cons (pv 1) pa_nil)) (blkOk_by (N := n_law_plain) (sc := defScope s_law_plain) (by decide +kernel)) (fun _ _ _ _ _ => pg_name (i := 4) sc_law_plain.nd rfl (Or.inr rfl)) (fun _ _ _ _ _ => pts_nil)
      (fun _ _ _ _ _ => pe_callTy (show CallR _ (.type "tuple") (rTupK K) from call_tuple_of) (by rfl) B.tuple (by decide +kernel) (pa_cons (pe_lc (own := [("one", 3)]) (g := gName 3) (tt := tYes) rfl sc_law_plain.nd (pi_range1 rfl B.range (pa_cons (pv 1) pa_nil)) (blkOk_by (by rfl)) (fun _ _ _ _ _ => pg_name (i := 3) sc_law_plain.nd rfl (Or.inl rfl)) (fun _ _ _ _ _ => pts_nil)
        (fun _ _ _ _ _ => pe_callTy call_int1 (by rfl) B.int (by decide +kernel) (pa_cons (pe_cmpR op_eq (pv 3) (pv 4) (nomark _)) pa_nil))) pa_nil))) pa_nil)))
      (pss_one (ps_ret (pe_tup (pa_cons (pv 0) (pa_cons (pv 2) (pa_cons (pv 2) (pa_cons (pv 2) pa_nil))))))), ?_⟩
    refine ⟨_, rfl, _, rfl, by omega, by omega, ?_⟩
    refine lc_go (walk_range (lo := 0) (n := ((n : Nat) : Int).toNat)) (by omega) (fun _ _ => trivial) (List.range n) (by rw [List.length_range, Int.toNat_natCast]) (fun _ => true) (fun j => RowT K (Lin.unit n j)) (fun _ => RowT.stb) (fun i j x H1 H2 hj e y C N hC hN => ?_) fun D ys H1 nD e1 hD hy => ?_
    · obtain ⟨rfl, ex⟩ := y
      have ex' : x = V.int ((i : Nat) : Int) := ex.trans (by show V.int _ = V.int _; rw [Int.zero_add])
      subst ex'
      have hi : i < n := by
        have := (List.getElem?_eq_some_iff.mp hj).1
        rwa [List.length_range] at this
      have ej : j = i := by
        rw [List.getElem?_range hi] at hj
        exact (Option.some.inj hj).symm
      subst ej
      refine ⟨rfl, yes_go ⟨_, rfl, _, rfl, by omega, by omega, ?_⟩⟩
      refine lc_go (walk_range (lo := 0) (n := ((n : Nat) : Int).toNat)) (by omega) (fun _ _ => trivial) (List.range n) (by rw [List.length_range, Int.toNat_natCast]) (fun _ => true) (fun m => IsV (.int (if m = j then 1 else 0))) (fun _ _ _ _ _ h => h) (fun m k y H3 H4 hm e3 yy2 C2 N2 hC2 hN2 => ?_) fun D2 ys2 H3 nD2 e3 hD2 hy2 => ?_
      · obtain ⟨rfl, ey⟩ := yy2
        have ey' : y = V.int ((m : Nat) : Int) := ey.trans (by show V.int _ = V.int _; rw [Int.zero_add])
        subst ey'
        have hm2 : m < n := by
          have := (List.getElem?_eq_some_iff.mp hm).1
          rwa [List.length_range] at this
        have em : k = m := by
          rw [List.getElem?_range hm2] at hm
          exact (Option.some.inj hm).symm
        subst em
        refine ⟨rfl, yes_go ⟨_, rfl, _, rfl, rfl, .inr ⟨_, rfl, ?_⟩⟩⟩
        refine hC2 rfl _ _ (_root_.Evl.Ex.refl _) ?_
        show V.int _ = V.int _
        by_cases e : k = j
        · subst e; simp
        · have : ¬ ((k : Int) = (j : Int)) := by omega
          simp [e, this]
      · rw [filter_yes] at hy2
        have ey : ys2 = (Lin.unit n j).map V.int := by
          rw [pr_fun hy2, ← unit_is hi, List.map_map]
          rfl
        subst ey
        exact ⟨D2, _, rfl, .inl ⟨SqL.of hD2, fun l nl => hC rfl _ _ (e3.trans (_root_.Evl.Ex.new nl)) (RowT.new upd_same)⟩⟩
    · rw [filter_yes] at hy
      refine ⟨D, ys, rfl, .inl ⟨SqL.of hD, fun l nl => ?_⟩⟩
      have e9 : Ex H1 (upd H1 l (.tup ys)) := _root_.Evl.Ex.new nl
      have hz : RowsT K (Lin.units n) (.ref l) (upd H1 l (.tup ys)) := ⟨l, ys, rfl, SqT.of upd_same, pr_map (G := fun x r => RowT K r x _) (f := Lin.unit n) hy fun _ _ z => z.ex e9⟩
      refine ⟨_, rfl, _, rfl, _, rfl, _, rfl, (by show 4 ≤ sizeLine; decide), fun l2 nl2 => ?_⟩
      have e10 := _root_.Evl.Ex.new (o := .tup [.int p, .ref l, .ref l, .ref l]) nl2
      exact q _ _ ((e1.trans e9).trans e10) ⟨l2, _, _, _, rfl, SqT.of upd_same, hz.ex e10, hz.ex e10, hz.ex e10⟩
def spNexts (K : PySem.W.Frag) : Sp := fun vs H Q _ => ∃ (P : List Ins) (v : V) (L : Addr) (i : Nat), vs = [v, .ref L, .int (i : Nat)] ∧ PrgT K P v H ∧ Jmp P ∧ H L = some (.lst (landV P)) ∧ i < P.length ∧ Ret (fun z H' => ∃ l, z = .ref l ∧ H' l = some (.lst ((nx P i).map fun j => V.int (j : Nat)))) H Q
theorem ok_nexts {f : Addr} {fd : FuncData} (F : Fun K "nexts" "nexts" s_nexts f fd) : FnOk P w K mg base CX0 1 f fd p_nexts (spNexts K) := by
  refine F.ok sc_nexts (fun vs H Q E h => ?_) (fun cdv Ar outer s H vs Q E hr h => ?_)
  · obtain ⟨P, v, L, i, rfl, _⟩ := h
    rfl
  · obtain ⟨P, v, L, i, rfl, ⟨a, xs, rfl, ha, pa⟩, J, hL, li, q⟩ := h
    refine ⟨_, pss_cons (ps_if (pt_cmpR op_eq (pe_ix ix_tup (pe_ix ix_tup (pv 0) (pv 2) (fun _ _ => rfl)) pe_int (fun _ _ => rfl)) pe_str (nomark _))
        (pss_one (ps_ret (pe_lst (pa_cons (pe_ix ix_list (pv 1) (pe_op op_add (pv 2) pe_int) (fun _ _ => rfl)) (pa_cons (pe_ix ix_list (pv 1) (pe_ix ix_tup (pe_ix ix_tup (pv 0) (pv 2) (fun _ _ => rfl)) pe_int (fun _ _ => rfl)) (fun _ _ => rfl)) pa_nil))))) pss_nil)
      (pss_one (ps_ret (pe_lst (pa_cons (pe_ix ix_list (pv 1) (pe_op op_add (pv 2) pe_int) (fun _ _ => rfl)) pa_nil)))), ?_⟩
    obtain ⟨x, hx⟩ : ∃ x, P[i]? = some x := ⟨_, List.getElem?_eq_getElem li⟩
    obtain ⟨b, us, gx, hb, g0, g1⟩ := prg_at pa hx
    refine ⟨_, rfl, _, rfl, a, xs, _, _, rfl, rfl, ha, at_of rfl gx, b, us, _, _, rfl, rfl, hb, at_of (j := 0) rfl g0, rfl, _, rfl, ite2 (fun c => ?_) (fun c => ?_)⟩
    · have ex : x.1 = .zero := wEq (y := .zero) c
      have en : nx P i = [land P (i + 1), land P x.2] := by unfold nx; rw [word_at hx, if_pos (by rw [ex]), num_at hx]
      refine ⟨_, rfl, _, rfl, _, _, rfl, rfl, L, _, _, _, rfl, rfl, SqL.of hL, at_of (j := i + 1) rfl (landV_at (by omega)), ?_⟩
      refine ⟨_, rfl, _, rfl, _, rfl, a, xs, _, _, rfl, rfl, ha, at_of rfl gx, b, us, _, _, rfl, rfl, hb, at_of (j := 1) rfl (g1 (by rw [ex]; rfl)), L, _, _, _, rfl, rfl, SqL.of hL, at_of rfl (landV_at (J i x hx (.inr ex))), (by show 2 ≤ sizeLine; decide), fun l nl => ?_⟩
      exact q _ _ (_root_.Evl.Ex.new nl) ⟨l, rfl, by rw [en]; exact upd_same⟩
    · have ex : x.1 ≠ .zero := wNe (y := .zero) c
      have en : nx P i = [land P (i + 1)] := by unfold nx; rw [word_at hx, if_neg fun z => ex (Option.some.inj z)]
      refine ⟨_, rfl, _, rfl, _, _, rfl, rfl, L, _, _, _, rfl, rfl, SqL.of hL, at_of (j := i + 1) rfl (landV_at (by omega)), (by show 1 ≤ sizeLine; decide), fun l nl => ?_⟩
      exact q _ _ (_root_.Evl.Ex.new nl) ⟨l, rfl, by rw [en]; exact upd_same⟩
end
end K01


set_option Elab.async false
set_option linter.all false
set_option maxRecDepth 100000
set_option maxHeartbeats 4000000
/-! Where it can come -/
namespace Prg
open PySem PySem.Spec PyProof.Rows L2
variable {P : List Ins}
inductive Met (P : List Ins) : Nat → Prop
  | one : land P 0 < P.length → Met P (land P 0)
  | more {i j : Nat} : Met P i → j ∈ nx P i → j < P.length → Met P j
theorem nx_len (i : Nat) : (nx P i).length ≤ 2 := by unfold nx; split <;> simp
structure MetInv (P : List Ins) (kvs : List (Key × V)) (ws : List Nat) : Prop where
  nd : (kvs.map (·.1)).Nodup
  ks : ∀ k ∈ kvs.map (·.1), ∃ i, i < P.length ∧ k = ky i ∧ Met P i
  wm : ∀ w ∈ ws, w < P.length → Met P w
  cl : ∀ i, (valV kvs (ky i)).isSome = true → ∀ j ∈ nx P i, j < P.length → (valV kvs (ky j)).isSome = true ∨ j ∈ ws
  st : land P 0 < P.length → (valV kvs (ky (land P 0))).isSome = true ∨ land P 0 ∈ ws
theorem MetInv.len {kvs : List (Key × V)} {ws : List Nat} (M : MetInv P kvs ws) : kvs.length ≤ P.length := by
  have := Lin.nd_len (ys := (List.range P.length).map ky) M.nd fun k hk => by
    obtain ⟨i, hi, e, _⟩ := M.ks k hk
    exact List.mem_map.mpr ⟨i, List.mem_range.mpr hi, e.symm⟩
  rw [List.length_map, List.length_map, List.length_range] at this
  exact this
theorem MetInv.start : MetInv P [] [land P 0] :=
  ⟨List.nodup_nil, (fun k hk => by cases hk), (fun w hw h => by rw [List.mem_singleton.mp hw] at h ⊢; exact .one h), (fun i h => by cases h), fun _ => .inr (List.mem_singleton.mpr rfl)⟩
theorem MetInv.skip {kvs : List (Key × V)} {ws : List Nat} {w : Nat} (M : MetInv P kvs (ws ++ [w])) (h : w < P.length → (valV kvs (ky w)).isSome = true) : MetInv P kvs ws := by
  refine ⟨M.nd, M.ks, fun x hx => M.wm x (List.mem_append_left _ hx), fun i hi j hj hl => ?_, fun hl => ?_⟩
  · rcases M.cl i hi j hj hl with z | z
    · exact .inl z
    · rcases List.mem_append.mp z with q | q
      · exact .inr q
      · rw [List.mem_singleton.mp q] at hl ⊢; exact .inl (h hl)
  · rcases M.st hl with z | z
    · exact .inl z
    · rcases List.mem_append.mp z with q | q
      · exact .inr q
      · rw [List.mem_singleton.mp q] at hl ⊢; exact .inl (h hl)
theorem MetInv.put {kvs : List (Key × V)} {ws : List Nat} {w : Nat} {v : V} (M : MetInv P kvs (ws ++ [w])) (hl : w < P.length) (hn : valV kvs (ky w) = none) : MetInv P (putK kvs (ky w) v) (ws ++ nx P w) := by
  have mw := M.wm w (List.mem_append_right _ (List.mem_singleton.mpr rfl)) hl
  have self : (valV (putK kvs (ky w) v) (ky w)).isSome = true := by rw [valV_put, if_pos rfl]; rfl
  refine ⟨nd_putK v M.nd hn, fun k hk => ?_, fun x hx xl => ?_, fun i hi j hj jl => ?_, fun h0 => ?_⟩
  · rw [putK_new v hn, List.map_append] at hk
    rcases List.mem_append.mp hk with z | z
    · exact M.ks k z
    · exact ⟨w, hl, List.mem_singleton.mp z, mw⟩
  · rcases List.mem_append.mp hx with z | z
    · exact M.wm x (List.mem_append_left _ z) xl
    · exact .more mw z xl
  · by_cases e : i = w
    · subst e
      exact .inr (List.mem_append_right _ hj)
    · have hi' : (valV kvs (ky i)).isSome = true := by
        rw [valV_put, if_neg fun z => e (ky_inj z)] at hi
        exact hi
      rcases M.cl i hi' j hj jl with z | z
      · exact .inl (put_has z)
      · rcases List.mem_append.mp z with q | q
        · exact .inr (List.mem_append_left _ q)
        · rw [List.mem_singleton.mp q]; exact .inl self
  · rcases M.st h0 with z | z
    · exact .inl (put_has z)
    · rcases List.mem_append.mp z with q | q
      · exact .inr (List.mem_append_left _ q)
      · rw [List.mem_singleton.mp q]; exact .inl self
theorem MetInv.all {kvs : List (Key × V)} (M : MetInv P kvs []) {i : Nat} (h : Met P i) : (valV kvs (ky i)).isSome = true := by
  induction h with
  | one h0 => rcases M.st h0 with z | z; exact z; cases z
  | more _ hj jl ih => rcases M.cl _ ih _ hj jl with z | z; exact z; cases z
theorem ky_list : ∀ (l : List Key) {Q : Nat → Prop}, (∀ k ∈ l, ∃ i, k = ky i ∧ Q i) → ∃ is : List Nat, l = is.map ky ∧ ∀ i ∈ is, Q i
  | [], _, _ => ⟨[], rfl, fun i hi => by cases hi⟩
  | k :: l, Q, h => by
    obtain ⟨i, e, q⟩ := h k List.mem_cons_self
    obtain ⟨is, e2, q2⟩ := ky_list l (Q := Q) fun x hx => h x (List.mem_cons_of_mem _ hx)
    refine ⟨i :: is, by rw [e, e2]; rfl, fun j hj => ?_⟩
    rcases List.mem_cons.mp hj with z | z
    · rw [z]; exact q
    · exact q2 j z
/-- ascending whole numbers that are a set of places -/
theorem rising_nats {ys : List Int} {is : List Nat} (p : ys.Perm (is.map fun i => ((i : Nat) : Int))) (s : ys.Pairwise (· ≤ ·)) (nd : is.Nodup) : ∃ zs : List Nat, ys = zs.map (fun i => ((i : Nat) : Int)) ∧ zs.Pairwise (· < ·) ∧ ∀ i, i ∈ zs ↔ i ∈ is := by
  have p2 := p.map Int.toNat
  have e1 : (is.map fun i => ((i : Nat) : Int)).map Int.toNat = is := by
    rw [List.map_map]
    conv => rhs; rw [← List.map_id is]
    rfl
  rw [e1] at p2
  have e2 : ys = (ys.map Int.toNat).map fun i => ((i : Nat) : Int) := by
    rw [List.map_map]
    conv => lhs; rw [← List.map_id ys]
    refine List.map_congr_left fun y hy => ?_
    obtain ⟨i, _, rfl⟩ := List.mem_map.mp (p.mem_iff.mp hy)
    rfl
  have nd2 := p2.nodup_iff.mpr nd
  refine ⟨ys.map Int.toNat, e2, ?_, fun i => p2.mem_iff⟩
  rw [e2, List.pairwise_map] at s
  rw [List.Nodup] at nd2
  exact (s.and nd2).imp fun ⟨h1, h2⟩ => by omega
end Prg
namespace K01
open PySem PySem.Spec PyProof.Rows L2 Prg
def MetT (P : List Ins) (v : V) (H : Hp) : Prop := ∃ (L : Addr) (zs : List Nat), v = .ref L ∧ H L = some (.lst (zs.map fun i : Nat => V.int (i : Nat))) ∧ zs.Pairwise (· < ·) ∧ ∀ i, i ∈ zs ↔ Met P i
section
variable {P : Program} {w : World} {K : PySem.W.Frag} {mg : Str → Option Value} {base : Heap}
def spMets (K : PySem.W.Frag) : Sp := fun vs H Q _ => ∃ (P : List Ins) (v : V), vs = [v] ∧ PrgT K P v H ∧ Jmp P ∧ P.length ≤ 60 ∧ Ret (MetT P) H Q
theorem ok_mets {f : Addr} {fd : FuncData} (B : Bare mg) (F : Fun K "places_met" "places_met" s_places_met f fd) (Gl : Got P w K mg base CX0 1 "landings" p_landings (spLand K)) (Gn : Got P w K mg base CX0 1 "nexts" p_nexts (spNexts K)) : FnOk P w K mg base CX0 2 f fd p_places_met (spMets K) := by
  refine F.ok sc_places_met (fun vs H Q E h => ?_) (fun cdv Ar outer s H vs Q E hr h => ?_)
  · obtain ⟨P, v, rfl, _⟩ := h
    rfl
  · obtain ⟨P, v, rfl, hP, J, lP, q⟩ := h
    have hu := hu_of hr
    refine ⟨_, pss_cons (ps_set (i := 1) sc_places_met.nd rfl (Or.inl rfl) (pe_got Gl hr pass0 (pa_cons (pv 0) pa_nil)))
      (pss_cons (ps_set (i := 2) sc_places_met.nd rfl (Or.inl rfl) pe_dnewK)
      (pss_cons (ps_set (i := 3) sc_places_met.nd rfl (Or.inl rfl) (pe_lst (pa_cons (pe_ix ix_list (pv 1) pe_int (fun _ _ => rfl)) pa_nil)))
      (pss_cons (ps_while PassesOwn.never (pt_truth (pv 3) (by intro _; rfl))
        (pss_cons (ps_set (i := 4) sc_places_met.nd rfl (Or.inl rfl) (pe_bm0 PySem.F.plainAttrs_list PySem.F.slot_list_pop PySem.F.type_list_pop mt_pop (pv 3)))
        (pss_one (ps_if (PW.pt (pw_and (pt_cmpR op_lt (pv 4) (pe_callB call_len_seq (by rfl) B.len PySem.boot_len (pa_cons (pv 0) pa_nil)) (nomark _)) (pw_and1 (pt_cmp (pc_dnotin hu (pv 4) (pv 2))))))
          (pss_cons (ps_dput hu (pv 2) (pv 4) pe_bl rfl)
          (pss_one (ps_expr (pe_bm PySem.F.plainAttrs_list PySem.F.slot_list_extend PySem.F.type_list_extend mt_extend (pv 3) (pa_cons (pe_got Gn hr pass0 (pa_cons (pv 0) (pa_cons (pv 1) (pa_cons (pv 4) pa_nil)))) pa_nil))))) pss_nil))))
      (pss_one (ps_ret (pe_callB (call_sortedDI rfl) (by rfl) B.sorted (by decide +kernel) (pa_cons (pv 2) pa_nil))))))), ?_⟩
    obtain ⟨a, xs, rfl, ha, pa⟩ := id hP
    have la : xs.length = P.length := by rw [pr_len pa, List.length_map]
    refine ⟨_, rfl, P, .ref a, rfl, hP, J, by omega, fun lv H1 e1 hL => ?_⟩
    obtain ⟨L, rfl, hL⟩ := hL
    intro d nd
    have ed := _root_.Evl.Ex.new (o := .dK []) nd
    refine ⟨_, rfl, L, _, _, _, rfl, rfl, SqL.of (ed _ _ hL), at_of (j := 0) rfl (landV_at (Nat.zero_le _)), (by show 1 ≤ sizeLine; decide), fun g ng => ?_⟩
    have eg := _root_.Evl.Ex.new (o := .lst [.int (land P 0 : Nat)]) ng
    have gd : g ≠ d := by rintro rfl; rw [upd_same] at ng; cases ng
    have ngH : H1 g = none := by
      cases z : H1 g with
      | none => rfl
      | some o => rw [ed _ _ z] at ng; cases ng
    delta gName tSeq
    dsimp only
    refine while_by (fun σ' H' => ∃ (kvs : List (Key × V)) (ws : List Nat) (y4 : Option V), σ' = [some (.ref a), some (.ref L), some (.ref d), some (.ref g), y4] ∧ Ex H1 H' ∧ H' d = some (.dK kvs) ∧ H' g = some (.lst (ws.map fun i : Nat => V.int (i : Nat))) ∧ MetInv P kvs ws ∧ ws.length ≤ kvs.length + 1)
      (fun _ H' => match H' d, H' g with | some (.dK kvs), some (.lst ws) => 3 * (P.length - kvs.length) + ws.length | _, _ => 0)
      ⟨[], [land P 0], none, rfl, ed.trans eg, by rw [upd_ne gd.symm]; exact upd_same, upd_same, .start, Nat.le_refl _⟩ (fun σ' H' p' => ?_) ?_
    · obtain ⟨kvs, ws, y4, rfl, e0, hd, hg, M, lw⟩ := p'
      have lk := M.len
      rcases List.eq_nil_or_concat ws with rfl | ⟨ws', w', rfl⟩
      · refine ⟨_, rfl, false, .inl ⟨_, SqL.of hg, rfl⟩, iteF ?_⟩
        obtain ⟨is, ei, qi⟩ := ky_list (kvs.map (·.1)) (Q := fun i => Met P i) fun k hk => by
          obtain ⟨i, _, e, m⟩ := M.ks k hk
          exact ⟨i, e, m⟩
        have li : is.length = kvs.length := by
          have := congrArg List.length ei
          rw [List.length_map, List.length_map] at this
          exact this.symm
        refine ⟨_, rfl, d, kvs, is.map (fun i => ((i : Nat) : Int)), rfl, .inl hd, by rw [ei, List.map_map]; rfl, by rw [List.length_map]; omega, fun ys p perm srt np => ?_⟩
        have ndi : is.Nodup := by
          have := M.nd
          rw [ei] at this
          exact (List.pairwise_map.mp this).imp fun h z => h (by rw [z])
        obtain ⟨zs, rfl, rz, mz⟩ := rising_nats perm srt ndi
        refine q _ _ ((e1.trans e0).trans (_root_.Evl.Ex.new np)) ⟨p, zs, rfl, by rw [upd_same, List.map_map]; rfl, rz, fun i => ?_⟩
        rw [mz]
        refine ⟨qi i, fun m => ?_⟩
        have hs := M.all m
        obtain ⟨v, hv⟩ := Option.isSome_iff_exists.mp hs
        have := valV_in hv
        rw [ei] at this
        obtain ⟨j, hj, e⟩ := List.mem_map.mp this
        rw [← ky_inj e]
        exact hj
      · rw [List.concat_eq_append] at hg M lw
        rw [List.map_append] at hg
        have f2 : ∀ {H'' : Hp} {o : HO}, Ex H1 H'' → Ex H1 (upd H'' g o) := fun e => e.mut ngH
        refine ⟨_, rfl, true, .inl ⟨_, SqL.of hg, by simp⟩, iteT ?_⟩
        refine ⟨_, rfl, .inl ⟨rfl, _, SqL.of hg⟩, g, _, .int (w' : Nat), rfl, rfl, hg, by simp, ?_⟩
        rw [show ((ws'.map fun i : Nat => V.int (i : Nat)) ++ [w'].map fun i : Nat => V.int (i : Nat)).dropLast = ws'.map fun i : Nat => V.int (i : Nat) by simp]
        rw [List.length_append, List.length_singleton] at lw
        have e2 := f2 (o := .lst (ws'.map fun i : Nat => V.int (i : Nat))) e0
        have hd2 : (upd H' g (.lst (ws'.map fun i : Nat => V.int (i : Nat)))) d = some (.dK kvs) := by rw [upd_ne gd.symm]; exact hd
        have hg2 := upd_same (H := H') (a := g) (o := .lst (ws'.map fun i : Nat => V.int (i : Nat)))
        have mold : (match H' d, H' g with | some (.dK kvs), some (.lst ws) => 3 * (P.length - kvs.length) + ws.length | _, _ => 0) = 3 * (P.length - kvs.length) + (ws'.length + 1) := by
          rw [hd, hg]
          show 3 * (P.length - kvs.length) + List.length _ = _
          rw [List.length_append, List.length_map, List.length_map, List.length_singleton]
        generalize upd H' g (.lst (ws'.map fun i : Nat => V.int (i : Nat))) = H2 at e2 hd2 hg2 ⊢
        have skip : (w' < P.length → (valV kvs (ky w')).isSome = true) → (∃ (kvs : List (Key × V)) (ws : List Nat) (y4 : Option V), [some (V.ref a), some (V.ref L), some (V.ref d), some (V.ref g), some (V.int (w' : Nat))] = [some (.ref a), some (.ref L), some (.ref d), some (.ref g), y4] ∧ Ex H1 H2 ∧ H2 d = some (.dK kvs) ∧ H2 g = some (.lst (ws.map fun i : Nat => V.int (i : Nat))) ∧ MetInv P kvs ws ∧ ws.length ≤ kvs.length + 1) ∧
            (match H2 d, H2 g with | some (.dK kvs), some (.lst ws) => 3 * (P.length - kvs.length) + ws.length | _, _ => 0) < (match H' d, H' g with | some (.dK kvs), some (.lst ws) => 3 * (P.length - kvs.length) + ws.length | _, _ => 0) := fun h => by
          refine ⟨⟨kvs, ws', _, rfl, e2, hd2, hg2, M.skip h, by omega⟩, ?_⟩
          rw [mold, hd2, hg2]
          show 3 * (P.length - kvs.length) + List.length _ < _
          rw [List.length_map]
          omega
        refine ⟨_, rfl, _, rfl, a, xs, rfl, .inr (_root_.Evl.ex_t (e1.trans e2) ha), _, _, rfl, rfl, _, rfl, ite2 (fun c => ?_) (fun c => ?_)⟩
        · have lt : w' < P.length := by have := of_decide_eq_true c; omega
          refine ⟨_, rfl, _, rfl, d, _, rfl, DGet.k (k := ky w') hd2, _, rfl, ?_⟩
          cases e : valV kvs (ky w') with
          | some v => exact iteF (skip fun _ => by rw [e]; rfl)
          | none =>
            refine iteT ?_
            refine ⟨_, rfl, _, rfl, d, _, rfl, DPut.k (k := ky w') hd2 (Nat.lt_of_le_of_lt (show kvs.length ≤ 1000 by omega) (by decide)), ?_⟩
            have hg3 : (upd H2 d (.dK (putK kvs (ky w') (.bl true)))) g = some (.lst (ws'.map fun i : Nat => V.int (i : Nat))) := by rw [upd_ne gd]; exact hg2
            have e3 : Ex H1 (upd H2 d (.dK (putK kvs (ky w') (.bl true)))) := e2.mut nd
            have hd3 := upd_same (H := H2) (a := d) (o := .dK (putK kvs (ky w') (.bl true)))
            generalize upd H2 d (.dK (putK kvs (ky w') (.bl true))) = H3 at hg3 e3 hd3 ⊢
            refine ⟨_, rfl, .inl ⟨rfl, _, SqL.of hg3⟩, _, rfl, _, rfl, _, rfl, P, .ref a, L, w', rfl, hP.ex (e1.trans e3), J, e3 _ _ hL, lt, fun z H4 e4 hz => ?_⟩
            obtain ⟨l, rfl, hl⟩ := hz
            have ln := nx_len (P := P) w'
            refine ⟨g, l, _, _, rfl, rfl, e4 _ _ hg3, hl, Nat.le_of_lt (Nat.lt_of_le_of_lt (show _ ≤ 1000 by rw [List.length_map, List.length_map]; omega) (by decide)), ?_⟩
            have pl1 : (putK kvs (ky w') (.bl true)).length = kvs.length + 1 := by rw [putK_new _ e, List.length_append, List.length_singleton]
            have M3 := M.put (v := .bl true) lt e
            have lk3 := M3.len
            refine ⟨⟨_, ws' ++ nx P w', _, rfl, f2 (e3.trans e4), by rw [upd_ne gd.symm]; exact e4 _ _ hd3, by rw [List.map_append]; exact upd_same, M3, by rw [List.length_append, pl1]; omega⟩, ?_⟩
            rw [mold]
            show (match (upd H4 g _) d, (upd H4 g _) g with | some (.dK kvs), some (.lst ws) => 3 * (P.length - kvs.length) + ws.length | _, _ => 0) < _
            rw [upd_same, upd_ne gd.symm, e4 _ _ hd3]
            show 3 * (P.length - List.length _) + List.length _ < _
            rw [pl1, List.length_append, List.length_map, List.length_map]
            omega
        · exact iteF (skip fun z => absurd (decide_eq_true (by omega)) c)
    · intro σ' H' Q1 Q2 i h
      obtain ⟨v1, z1, k, t1, r⟩ := h
      exact ⟨v1, z1, k, t1, i _ _ r⟩
end
end K01


set_option Elab.async false
set_option linter.all false
set_option maxRecDepth 100000
set_option maxHeartbeats 4000000
/-! {e for x in xs if t} over any kind of tracked set: O says what stands at the set's address, z what a new one is, put what an item makes of it -/
namespace K01
open PySem PySem.Spec PyProof.Rows L2
variable {τ : Type}
/-- set.add, as the set's kind has it -/
def rPut (O : Addr → τ → HO) (put : τ → V → τ → Prop) : V → List V → Hp → VK → Prop := fun x xs H Q => ∃ a y t t', x = V.ref a ∧ xs = [y] ∧ H a = some (O a t) ∧ put t y t' ∧ Q .non (upd H a (O a t'))
/-- the comprehension's promise -/
def tSetC (O : Addr → τ → HO) (z : τ) (put : τ → V → τ → Prop) (wi : TI) (g : TG) (tt : TT) (te : TE) (vs : List Nat) : TE := fun σ H Q => wi σ H fun J H1 => ∀ D, H1 D = none → ∃ W : Nat → Nat → Hp → Prop, (∃ m, W 0 m (upd H1 D (O D z))) ∧ ∀ i m H, W i m H →
  (J.stop i H ∧ Q (.ref D) H) ∨ (J.go i H ∧ ∃ Nx : Hp → Prop, (∀ H', Nx H' → ∃ m', m' < m ∧ W (i + 1) m' H') ∧ ∀ x H', J.yld i H x H' → g x (wipe σ vs) H' fun σ2 H2 => wipe σ2 vs = wipe σ vs ∧ tt σ2 H2 fun b H3 =>
    if b = true then te σ2 H3 fun y H4 => ∃ t t', H4 D = some (O D t) ∧ put t y t' ∧ Nx (upd H4 D (O D t')) else Nx H3)
section
variable {X : Cx} {O : Addr → τ → HO} {z : τ} {put : τ → V → τ → Prop}
abbrev noSet (w : World) : Obj := { cls := .type "set", dict := none, data := .set #[] 0 (.fresh 0 0 (!w.params.followText "set-order")) }
theorem pe_setC {elt tg iter : Expr} {ifs : List Expr} {scope : Scope} {own : List (PySem.Str × Nat)} {pos : Pos} {wi : TI} {g : TG} {tt : TT} {te : TE} (hc : X.calm = true) (hN : X.N.Nodup) (hi : PI X tg iter wi) (ok : BlkOk X.N X.env.scope scope own)
    (fresh : ∀ (H : Hp) (h : Heap), ObjOk X.prog X.w H (h.push (noSet X.w)) h.objs.size (O h.objs.size z))
    (add : ∀ (s : Shared) (H : Hp) (ce : Env) (fp : List Addr), MtR (X.blk s H scope ce fp) "set.add" (rPut O put))
    (hg : ∀ (s : Shared) (H : Hp) (C : Addr) (cl : List (PySem.Str × Addr)) (fp : List Addr), PG (X.blk s H scope (compEnvC scope cl C X.env) fp) tg g) (ht : ∀ (s : Shared) (H : Hp) (C : Addr) (cl : List (PySem.Str × Addr)) (fp : List Addr), PTs (X.blk s H scope (compEnvC scope cl C X.env) fp) ifs tt)
    (he : ∀ (s : Shared) (H : Hp) (C : Addr) (cl : List (PySem.Str × Addr)) (fp : List Addr), PE (X.blk s H scope (compEnvC scope cl C X.env) fp) elt te) (hs : ∀ x, foldedSetIterable iter X.env x = pure x := by intro _; rfl) :
    PE X (.SetComp elt [⟨tg, iter, ifs, 0⟩] scope pos) (tSetC O z put wi g tt te (own.map (·.2))) := by
  refine ⟨fun pins s σ H Q I h => ?_⟩
  rw [PpSet.eval_SetComp]
  have cells : ∀ y ∈ scope.names, y.2 = .free → ∃ c, X.env.cells.lookup y.1 = some c := fun y hy e => (ok.free y hy e).elim (fun k => I.ok.has _ (.inl k)) fun k => I.ok.has _ (.inr k)
  refine wpAny_comprehension_free rfl hs (closure_ok cells) ok.kind (fun y hy e => by rw [ok.uniq y hy, e]) (thn (hi.run pins s σ H _ I h) fun xv s1 hx => thn hx fun itv s2 h2 => ?_)
  obtain ⟨it, fp, tn, J, H2, rfl, I2, T, st2, f2, q⟩ := h2
  refine PpSet.newSet_ok (newEnv_comp ?_)
  -- the new set at D
  generalize hD : s2.heap.objs.size = D
  obtain ⟨W, ⟨m0, w0⟩, turn⟩ := q D (I2.hok.fresh (Nat.le_of_eq hD))
  obtain ⟨s3, hs3⟩ : ∃ s3 : Shared, { s2 with heap := s2.heap.push (noSet X.w) } = s3 := ⟨_, rfl⟩
  have grown : s3.heap = s2.heap.push (noSet X.w) := by rw [← hs3]
  obtain ⟨H3, hH3⟩ : ∃ H3, upd H2 D (O D z) = H3 := ⟨_, rfl⟩
  have I3 : Inv X pins σ H3 s3 := by
    rw [← hs3, ← hH3]
    exact I2.laid (t' := s2.toks) (fun b o e => Heap.get?_push_of_some _ e) (Nat.le_of_eq hD) (by rw [← hD]; exact fresh _ _)
  have f3 : ∀ b ∈ fp, FpOk X pins H3 b ∧ b < s3.heap.objs.size := fun b hb => by
    obtain ⟨o, e, _⟩ := T.obj _ _ st2 b hb
    have lt := Heap.lt_size e
    rw [← hH3, grown, Heap.size_push]
    exact ⟨⟨by rw [upd_ne (by rw [← hD]; exact Nat.ne_of_lt lt)]; exact (f2 b hb).1, (f2 b hb).2⟩, Nat.lt_succ_of_lt lt⟩
  have st3 : tn 0 s3.heap := T.keep _ _ _ st2 fun b _ o e => by rw [grown]; exact Heap.get?_push_of_some _ e
  -- the block's own frame
  obtain ⟨ce, hce⟩ : ∃ ce, compEnvC scope (cellsFrom (s3.heap.objs.size + 1) scope.names (cloFrom X.env.cells scope.names [])) s3.heap.objs.size X.env = ce := ⟨_, rfl⟩
  obtain ⟨s4, hs4⟩ : ∃ s4 : Shared, { s3 with heap := pushCells (s3.heap.push { cls := .type "dict", data := .dict #[] }) scope.names } = s4 := ⟨_, rfl⟩
  have pg : PG (X.blk s3 H3 scope ce fp) tg g := by rw [← hce]; exact hg _ _ _ _ _
  have pt : PTs (X.blk s3 H3 scope ce fp) ifs tt := by rw [← hce]; exact ht _ _ _ _ _
  have pe : PE (X.blk s3 H3 scope ce fp) elt te := by rw [← hce]; exact he _ _ _ _ _
  have I4 : Inv (X.blk s3 H3 scope ce fp) [] (wipe σ (own.map (·.2))) H3 s4 := by rw [← hce, ← hs4]; exact block_start I3 ok hN f3
  have at_ : ce.locals = s3.heap.objs.size := by rw [← hce]; rfl
  have st4 : tn 0 s4.heap := T.keep _ _ _ st3 fun b _ o e => by rw [← hs4]; exact pushCells_keeps _ _ _ _ (Heap.get?_push_of_some _ e)
  rw [hs3]
  show codeAny _ _ (.compStart (.SetComp elt [⟨tg, iter, ifs, 0⟩] scope pos) 0 (.ref it) (.ref D) (compEnvC scope (cellsFrom (s3.heap.objs.size + 1) scope.names (cloFrom X.env.cells scope.names [])) s3.heap.objs.size X.env)) (compPost (model X.prog X.w) X.A X.xe none (EP X pins σ Q) (.ref D) s3.heap.objs.size) { s3 with heap := pushCells (s3.heap.push { cls := .type "dict", data := .dict #[] }) scope.names }
  rw [hce, hs4]
  -- what the iterator asks at every turn
  have still : ∀ {σ' : L2.St} {H' : Hp} {s' : Shared}, Inv (X.blk s3 H3 scope ce fp) [] σ' H' s' → (∀ b ∈ fp, H' b = none) → ∀ b ∈ fp, FpOk (X.blk s3 H3 scope ce fp) [] H' b := fun I' no b hb =>
    ⟨no b hb, (I'.ok.exf b hb).1, I'.ok.exfs b hb, .inl hb, fun x c e => (I'.ok.exf b hb).2 x c e, fun p hp => by cases hp⟩
  have loop : codeAny (model X.prog X.w) X.A (.compLoop (.SetComp elt [⟨tg, iter, ifs, 0⟩] scope pos) 0 (.ref it) (.ref D) ce) (compPost (model X.prog X.w) X.A X.xe none (EP X pins σ Q) (.ref D) s3.heap.objs.size) s4 := by
    refine PpSet.compLoopS_any (fun n s' => ∃ i H', Inv (X.blk s3 H3 scope ce fp) [] (wipe σ (own.map (·.2))) H' s' ∧ tn i s'.heap ∧ (∀ b ∈ fp, H' b = none) ∧ W i n H') ?_ m0 ⟨0, H3, I4, st4, fun b hb => (f3 b hb).1.1, by rw [← hH3]; exact w0⟩
    rintro n s5 ⟨i, H5, I5, st5, no5, w5⟩
    rcases turn i n H5 w5 with ⟨stop, last⟩ | ⟨go, Nx, less, next⟩
    · refine thnF (T.done (X.blk s3 H3 scope ce fp) rfl rfl rfl hc i [] s5 _ H5 (fun _ _ => False) I5 (still I5 no5) st5 stop) fun r s6 ⟨hr, I6⟩ => ?_
      subst hr
      have I7 : Inv X pins σ H5 s6 := I3.call' (ch := fp) I6.os I6.base I6.hok I6.bare fun b hb => ⟨(f3 b hb).1.2.2.2.1, (f3 b hb).1.2.1, (f3 b hb).1.2.2.2.2.1, (f3 b hb).1.2.2.2.2.2⟩
      obtain ⟨m, hn, _⟩ := I6.loc
      have free := I6.free
      rw [show (X.blk s3 H3 scope ce fp).env.locals = ce.locals from rfl, at_] at hn free
      obtain ⟨k0, k1, k2, k3, k4, k5⟩ := I3.fpOk (Nat.le_refl _) free
      exact ⟨m, hn, fun h'' sb => ⟨.ref D, H5, I7.turned (t' := s6.toks) (fun b o hb e => (sb.2 b hb).trans e) k0 k1 k3 k4 k5, rfl, last⟩⟩
    · refine thnF (T.item (X.blk s3 H3 scope ce fp) rfl rfl rfl hc i [] s5 _ H5 (fun _ _ => False) I5 (still I5 no5) st5 go) fun r s6 ⟨u, hr, h6⟩ => ?_
      subst hr
      refine thnF h6 fun _ s7 ⟨x, H7, I7, r7, y7, st7, no7⟩ => ?_
      refine thnF (pg.run _ s7 _ H7 x u _ (I7.pinned (still I7 no7) (T.obj _ _ st7)) r7 (next x H7 y7)) fun _ s8 ⟨σ8, H8, I8, hw, q8⟩ => ?_
      refine thnF (pt.run _ s8 σ8 H8 _ I8 q8) fun b s9 ⟨H9, I9, q9⟩ => ?_
      have again : ∀ {s' : Shared} {H' : Hp}, Inv (X.blk s3 H3 scope ce fp) ([] ++ pinsAt fp s7.heap) σ8 H' s' → Nx H' → ∃ m, m < n ∧ ∃ i H', Inv (X.blk s3 H3 scope ce fp) [] (wipe σ (own.map (·.2))) H' s' ∧ tn i s'.heap ∧ (∀ b ∈ fp, H' b = none) ∧ W i m H' := fun {s' H'} I' nx => by
        obtain ⟨m', lt, w'⟩ := less H' nx
        have pin : ∀ b ∈ fp, ∀ o, s7.heap.get? b = some o → s'.heap.get? b = some o ∧ H' b = none := fun b hb o e =>
          ⟨(I'.pin (b, o) (List.mem_append_right _ (List.mem_append_right _ (mem_pinsAt hb e)))).1, (I'.pin (b, o) (List.mem_append_right _ (List.mem_append_right _ (mem_pinsAt hb e)))).2.1⟩
        refine ⟨m', lt, i + 1, H', (I'.unpinned (pins := [])).weak (by rw [← hw, wipe_length]) (fun j v e => ?_), T.keep _ _ _ st7 fun b hb o e => (pin b hb o e).1, fun b hb => ?_, w'⟩
        · rw [← hw] at e
          exact (wipe_some e).1
        · obtain ⟨o, e, _⟩ := T.obj _ _ st7 b hb
          exact (pin b hb o e).2
      cases b with
      | false => exact again I9 q9
      | true =>
        refine thnF (pe.run _ s9 σ8 H9 _ I9 q9) fun v s10 ⟨y, H10, I10, r10, t, t', h10, pu, nx⟩ => ?_
        refine thnF (add s3 H3 ce fp _ s10 σ8 H10 (.ref D) [y] (.ref D) [v] (fun v' H' => v' = .non ∧ Nx H') I10 rfl (.cons r10 .nil) ⟨D, y, t, t', rfl, rfl, h10, pu, rfl, nx⟩) fun _ s11 h11 => ?_
        obtain ⟨_, H11, I11, _, _, nx'⟩ := h11
        exact again I11 nx'
  exact PpSet.codeAny_compStart_set loop (T.self X.A 0 _ _ _ st4 loop)
end
end K01


set_option Elab.async false
set_option linter.all false
set_option maxRecDepth 100000
set_option maxHeartbeats 4000000
/-! The values that are named -/
namespace K01
open PySem PySem.Spec PyProof.Rows L2 Prg
section
variable {τ : Type} {O : Addr → τ → HO} {z : τ} {put : τ → V → τ → Prop} {J : It} {n : Nat} {G : Hp → Prop} {Y : Nat → Hp → V → Hp → Prop}
theorem setc_it (w : Walk J n G Y) {g : TG} {tt : TT} {te : TE} {vs : List Nat} {σ : L2.St} {H1 : Hp} {D : Addr} {Qd : Hp → Prop} (Pv : Nat → Hp → Prop) (h0 : Pv 0 (upd H1 D (O D z))) (hG : ∀ i H, i ≤ n → Pv i H → G H)
    (hs : ∀ i x H H', i < n → Pv i H → Y i H x H' → g x (wipe σ vs) H' fun σ2 H2 => wipe σ2 vs = wipe σ vs ∧ tt σ2 H2 fun b H3 => if b = true then te σ2 H3 fun y H4 => ∃ t t', H4 D = some (O D t) ∧ put t y t' ∧ Pv (i + 1) (upd H4 D (O D t')) else Pv (i + 1) H3) (hd : ∀ H, Pv n H → Qd H) :
    ∃ W : Nat → Nat → Hp → Prop, (∃ m, W 0 m (upd H1 D (O D z))) ∧ ∀ i m H, W i m H → (J.stop i H ∧ Qd H) ∨ (J.go i H ∧ ∃ Nx : Hp → Prop, (∀ H', Nx H' → ∃ m', m' < m ∧ W (i + 1) m' H') ∧ ∀ x H', J.yld i H x H' → g x (wipe σ vs) H' fun σ2 H2 => wipe σ2 vs = wipe σ vs ∧ tt σ2 H2 fun b H3 =>
      if b = true then te σ2 H3 fun y H4 => ∃ t t', H4 D = some (O D t) ∧ put t y t' ∧ Nx (upd H4 D (O D t')) else Nx H3) := by
  refine ⟨fun i m H => i + m = n ∧ Pv i H, ⟨n, Nat.zero_add n, h0⟩, fun i m H h => ?_⟩
  obtain ⟨e, p⟩ := h
  cases m with
  | zero =>
    have e : i = n := e
    subst e
    exact .inl ⟨w.stops H (hG i H (Nat.le_refl _) p), hd H p⟩
  | succ m =>
    have q := hG i H (by omega) p
    exact .inr ⟨w.goes i H (by omega) q, Pv (i + 1), fun H' p' => ⟨m, Nat.lt_succ_self m, by omega, p'⟩, fun x H' y => hs i x H H' (by omega) p (w.yields i H x H' (by omega) q y)⟩
end
/-- sets of whole numbers -/
abbrev IntSet := (Int → Bool) × Nat
def SetI (w : World) (a : Addr) (t : IntSet) : HO := SetO w a t.1 t.2
def putI (t : IntSet) (y : V) (t' : IntSet) : Prop := ∃ k : Int, y = .int k ∧ t.2 + 1 < scanBound ∧ t' = (fun j => t.1 j || decide (j = k), if t.1 k = true then t.2 else t.2 + 1)
theorem mt_putI {X : Cx} {w : World} (e : X.w = w) : MtR X "set.add" (rPut (SetI w) putI) := by
  subst e
  intro pins s σ H x xs v us Q I rx rxs h
  obtain ⟨a, y, t, t', rfl, rfl, ha, ⟨k, rfl, room, rfl⟩, q⟩ := h
  exact mt_sadd pins s σ H _ _ v us Q I rx rxs ⟨a, k, t.1, t.2, rfl, rfl, ha, room, q⟩
theorem fresh_putI {P : Program} {w : World} (H : Hp) (h : Heap) : ObjOk P w H (h.push (noSet w)) h.objs.size (SetI w h.objs.size (fun _ => false, 0)) := setO_new (setR_fresh w)
/-- ascending lists with the same members are the same -/
theorem asc_ext : ∀ {a b : List Int}, a.Pairwise (· < ·) → b.Pairwise (· < ·) → (∀ k, k ∈ a ↔ k ∈ b) → a = b
  | [], [], _, _, _ => rfl
  | [], y :: _, _, _, h => absurd ((h y).2 List.mem_cons_self) (by simp)
  | x :: _, [], _, _, h => absurd ((h x).1 List.mem_cons_self) (by simp)
  | x :: a, y :: b, ha, hb, h => by
    obtain ⟨h1, h2⟩ := List.pairwise_cons.mp ha
    obtain ⟨h3, h4⟩ := List.pairwise_cons.mp hb
    have e : x = y := by
      rcases List.mem_cons.mp ((h x).1 List.mem_cons_self) with z | z
      · exact z
      · rcases List.mem_cons.mp ((h y).2 List.mem_cons_self) with q | q
        · exact q.symm
        · have := h1 y q; have := h3 x z; omega
    subst e
    rw [asc_ext h2 h4 fun k => ⟨fun m => ?_, fun m => ?_⟩]
    · rcases List.mem_cons.mp ((h k).1 (List.mem_cons_of_mem _ m)) with z | z
      · have := h1 k m; omega
      · exact z
    · rcases List.mem_cons.mp ((h k).2 (List.mem_cons_of_mem _ m)) with z | z
      · have := h3 k m; omega
      · exact z
/-- named by some instruction to which it can come -/
def Named (P : List Ins) (k : Int) : Prop := ∃ (i : Nat) (x : Ins), Met P i ∧ P[i]? = some x ∧ (see x.1 || wri x.1) = true ∧ k = (x.2 : Nat)
def NamesT (K : PySem.W.Frag) (P : List Ins) (v : V) (H : Hp) : Prop := ∃ zs : List Int, RowT K zs v H ∧ zs.Pairwise (· < ·) ∧ ∀ k, k ∈ zs ↔ Named P k
theorem _root_.Prg.Met.lt {P : List Ins} {i : Nat} (h : Met P i) : i < P.length := by
  cases h with
  | one h => exact h
  | more _ _ h => exact h
section
variable {P : Program} {w : World} {K : PySem.W.Frag} {mg : Str → Option Value} {base : Heap}
def spNames (K : PySem.W.Frag) : Sp := fun vs H Q _ => ∃ (P : List Ins) (v : V), vs = [v] ∧ PrgT K P v H ∧ Jmp P ∧ P.length ≤ 60 ∧ Ret (NamesT K P) H Q
theorem ok_names {f aS aW : Addr} {fd : FuncData} (B : Bare mg) (F : Fun K "names_met" "names_met" s_names_met f fd) (Gm : Got P w K mg base CX0 2 "places_met" p_places_met (spMets K)) (gS : mg "SEEING" = some (.ref aS)) (hS : ∀ H : Hp, SqT K H aS [.str "get", .str "plus", .str "minus"]) (gW : mg "WRITING" = some (.ref aW)) (hW : ∀ H : Hp, SqT K H aW [.str "add", .str "take"]) :
    FnOk P w K mg base CX0 3 f fd p_names_met (spNames K) := by
  refine F.ok sc_names_met (fun vs H Q E h => ?_) (fun cdv Ar outer s H vs Q E hr h => ?_)
  · obtain ⟨P, v, rfl, _⟩ := h
    rfl
  · obtain ⟨P, v, rfl, hP, J, lP, q⟩ := h
    refine ⟨_, pss_cons (ps_setLc (i := 1) (own := [("place", 2)]) (g := gName 2) (tt := tYes) rfl sc_names_met.nd rfl rfl (sw_true rfl rfl rfl (by decide +kernel)) (pi_list (pe_got Gm hr pass0 (pa_cons (pv 0) pa_nil))) (blkOk_by (N := n_names_met) (sc := defScope s_names_met) (by decide +kernel)) (fun _ _ _ _ _ => pg_name (i := 2) sc_names_met.nd rfl (Or.inl rfl)) (fun _ _ _ _ _ => pts_nil)
        (fun _ _ _ _ _ => pe_ix (show IxR _ (rIxT K) from ix_tup) (pv 0) (pv 2) (fun _ _ => rfl)))
      (pss_one (ps_ret (pe_callTy call_tuple_of (by rfl) B.tuple (by decide +kernel) (pa_cons (pe_callB (cr_sortedSet rfl) (by rfl) B.sorted (by decide +kernel) (pa_cons (pe_setC (O := SetI w) (z := (fun _ => false, 0)) (put := putI) (own := [("deed", 3)]) (g := gName 3) rfl sc_names_met.nd (pi_list (pv 1)) (blkOk_by (N := n_names_met) (sc := defScope s_names_met) (by decide +kernel))
        fresh_putI (fun _ _ _ _ => mt_putI rfl) (fun _ _ _ _ _ => pg_name (i := 3) sc_names_met.nd rfl (Or.inl rfl))
        (fun _ _ _ _ _ => pts_one (PW.pt (pw_or (pt_cmpR (show OpR _ _ (rIn K false) from op_in_seq) (pe_ix (show IxR _ (rIxT K) from ix_tup) (pv 3) pe_int (fun _ _ => rfl)) (pe_glob (by rfl) gS (v := .ref aS) rfl) rfl) (pw_or1 (pt_cmpR (show OpR _ _ (rIn K false) from op_in_seq) (pe_ix (show IxR _ (rIxT K) from ix_tup) (pv 3) pe_int (fun _ _ => rfl)) (pe_glob (by rfl) gW (v := .ref aW) rfl) rfl)))))
        (fun _ _ _ _ _ => pe_ix (show IxR _ (rIxT K) from ix_tup) (pv 3) pe_int (fun _ _ => rfl))) pa_nil)) pa_nil)))), ?_⟩
    obtain ⟨a, xs, rfl, ha, pa⟩ := id hP
    refine ⟨_, rfl, P, .ref a, rfl, hP, J, lP, fun lv H1 e1 hL => ?_⟩
    obtain ⟨L, zs, rfl, hL, az, mz⟩ := hL
    have zl : zs.length ≤ P.length := by
      have := Lin.nd_len (xs := zs) (ys := List.range P.length) (az.imp fun h => Nat.ne_of_lt h) fun i hi => List.mem_range.mpr ((mz i).1 hi).lt
      rwa [List.length_range] at this
    refine ⟨L, rfl, ⟨_, SqL.of hL⟩, ?_⟩
    refine lc_go (walk_list (xs := zs.map fun i : Nat => V.int (i : Nat))) (by rw [List.length_map]; omega) (fun H' e => SqL.of (e _ _ hL)) zs (by rw [List.length_map]) (fun _ => true) (fun i y G => ∃ x : Ins, P[i]? = some x ∧ IVof K (iv x) y G) (fun i y G1 G2 e h => by obtain ⟨x, h1, h2⟩ := h; exact ⟨x, h1, h2.n e⟩) (fun i j y G1 G2 hj e yy C N hC hN => ?_) fun D ys G1 nD eD hD hy => ?_
    · obtain ⟨rfl, gy⟩ := yy
      rw [List.getElem?_map, hj] at gy
      obtain rfl := Option.some.inj gy
      obtain ⟨x, hx⟩ : ∃ x, P[j]? = some x := ⟨_, List.getElem?_eq_getElem ((mz j).1 (List.mem_of_getElem? hj)).lt⟩
      obtain ⟨v', hv', q'⟩ := pr_getR pa (show (P.map iv)[j]? = some (iv x) by rw [List.getElem?_map, hx]; rfl)
      refine ⟨rfl, yes_go ⟨_, rfl, _, rfl, a, xs, _, v', rfl, rfl, _root_.Evl.ex_t (e1.trans e) ha, at_of rfl hv', hC rfl _ _ (_root_.Evl.Ex.refl _) ⟨x, hx, q'.ex (e1.trans e)⟩⟩⟩
    · rw [filter_yes] at hy
      have ly := pr_len hy
      refine ⟨_, rfl, D, rfl, ⟨_, SqL.of hD⟩, fun A nA => ?_⟩
      refine setc_it (O := SetI w) (z := (fun _ => false, 0)) (put := putI) (walk_list (xs := ys)) (fun i H' => ∃ S n, H' A = some (SetO w A S n) ∧ n ≤ i ∧ Ex G1 H' ∧ ∀ k, S k = true ↔ ∃ (j m : Nat) (x : Ins), j < i ∧ zs[j]? = some m ∧ P[m]? = some x ∧ (see x.1 || wri x.1) = true ∧ k = (x.2 : Nat))
        ⟨fun _ => false, 0, upd_same, Nat.le_refl _, _root_.Evl.Ex.new nA, fun k => ⟨(fun z => by cases z), (fun ⟨j, m, x, h, _⟩ => by omega)⟩⟩ (fun i H' _ ⟨_, _, _, _, e, _⟩ => SqL.of (e _ _ hD)) (fun i y H2 H3 hi p' yy => ?_) fun H2 p' => ?_
      · obtain ⟨S, n, hA, ni, e2, hS'⟩ := p'
        obtain ⟨rfl, gy⟩ := yy
        obtain ⟨m, hm, x, hx, hv⟩ := pr_get hy gy
        obtain ⟨b, us, rfl, hb, g0, g1⟩ := ins_at (hv.ex e2)
        have small : n + 1 < scanBound := by unfold scanBound; have := (List.getElem?_eq_some_iff.mp gy).1; omega
        have yes : (see x.1 || wri x.1) = true → ∃ t t' : IntSet, H3 A = some (SetI w A t) ∧ putI t (.int (x.2 : Nat)) t' ∧ ∃ S n, (upd H3 A (SetI w A t')) A = some (SetO w A S n) ∧ n ≤ i + 1 ∧ Ex G1 (upd H3 A (SetI w A t')) ∧ ∀ k, S k = true ↔ ∃ (j m : Nat) (x : Ins), j < i + 1 ∧ zs[j]? = some m ∧ P[m]? = some x ∧ (see x.1 || wri x.1) = true ∧ k = (x.2 : Nat) := fun sw => by
          refine ⟨(S, n), _, hA, ⟨(x.2 : Nat), rfl, small, rfl⟩, _, _, upd_same, ?_, e2.mut nA, fun k => ?_⟩
          · split <;> omega
          · rw [Bool.or_eq_true, decide_eq_true_eq, hS']
            constructor
            · rintro (⟨j, m', x', h1, h2⟩ | h)
              · exact ⟨j, m', x', Nat.lt_succ_of_lt h1, h2⟩
              · exact ⟨i, m, x, Nat.lt_succ_self i, hm, hx, sw, h⟩
            · rintro ⟨j, m', x', h1, h2, h3, h4, h5⟩
              rcases Nat.lt_or_ge j i with z | z
              · exact .inl ⟨j, m', x', z, h2, h3, h4, h5⟩
              · have : j = i := by omega
                subst this
                rw [hm] at h2
                obtain rfl := Option.some.inj h2
                rw [hx] at h3
                obtain rfl := Option.some.inj h3
                exact .inr h5
        refine ⟨rfl, _, rfl, b, us, _, _, rfl, rfl, hb, at_of (j := 0) rfl g0, aS, _, rfl, .inr (hS _), rfl, rfl, _, rfl, ?_⟩
        rw [isSee]
        cases es : see x.1 with
        | true =>
          have nb : bare x.1 = false := by revert es; cases x.1 <;> intro es <;> first | rfl | cases es
          exact iteT (iteT ⟨_, rfl, b, us, _, _, rfl, rfl, hb, at_of (j := 1) rfl (g1 nb), yes (by rw [es]; rfl)⟩)
        | false =>
          refine iteF ⟨_, rfl, b, us, _, _, rfl, rfl, hb, at_of (j := 0) rfl g0, aW, _, rfl, .inr (hW _), rfl, rfl, _, rfl, ?_⟩
          rw [isWri]
          cases ew : wri x.1 with
          | true =>
            have nb : bare x.1 = false := by revert ew; cases x.1 <;> intro ew <;> first | rfl | cases ew
            exact iteT ⟨_, rfl, b, us, _, _, rfl, rfl, hb, at_of (j := 1) rfl (g1 nb), yes (by rw [ew, Bool.or_true])⟩
          | false =>
            refine iteF ⟨S, n, hA, by omega, e2, fun k => ?_⟩
            rw [hS']
            constructor
            · rintro ⟨j, m', x', h1, h2⟩
              exact ⟨j, m', x', Nat.lt_succ_of_lt h1, h2⟩
            · rintro ⟨j, m', x', h1, h2, h3, h4, h5⟩
              rcases Nat.lt_or_ge j i with z | z
              · exact ⟨j, m', x', z, h2, h3, h4, h5⟩
              · have : j = i := by omega
                subst this
                rw [hm] at h2
                obtain rfl := Option.some.inj h2
                rw [hx] at h3
                obtain rfl := Option.some.inj h3
                rw [es, ew] at h4
                cases h4
      · obtain ⟨S, n, hA, ni, e2, hS'⟩ := p'
        refine ⟨A, S, n, rfl, hA, by omega, fun ns p asc mem ln np => ?_⟩
        refine ⟨p, _, rfl, .inl ⟨SqL.of upd_same, fun l nl => ?_⟩⟩
        refine q _ _ (((e1.trans eD).trans e2).trans ((_root_.Evl.Ex.new np).trans (_root_.Evl.Ex.new nl))) ⟨ns, RowT.new upd_same, asc, fun k => ?_⟩
        rw [mem, hS']
        constructor
        · rintro ⟨j, m, x, h1, h2, h3, h4, h5⟩
          exact ⟨m, x, (mz m).1 (List.mem_of_getElem? h2), h3, h4, h5⟩
        · rintro ⟨m, x, h1, h3, h4, h5⟩
          obtain ⟨j, hj⟩ := List.mem_iff_getElem?.mp ((mz m).2 h1)
          exact ⟨j, m, x, by rw [ly]; exact (List.getElem?_eq_some_iff.mp hj).1, hj, h3, h4, h5⟩
end
end K01


set_option Elab.async false
set_option linter.all false
set_option maxRecDepth 100000
set_option maxHeartbeats 4000000
/-! used; what the law counts as used -/
namespace Prg
open K01 (standI Named)
variable {P : List Ins}
structure UInv (P : List Ins) (F C : List Int) (t : Nat) : Prop where
  nd : F.Nodup
  mem : ∀ v ∈ F, v = -1 ∨ ∃ i : Nat, v = (i : Nat) ∧ Met P i
  st : standI P (land P 0) ∈ F
  cl : ∀ (j i : Nat), j < t → F[j]? = some ((i : Nat) : Int) → ∀ m ∈ nx P i, standI P m ∈ F
  nm : ∀ k, k ∈ C ↔ ∃ (j i : Nat) (x : Ins), j < t ∧ F[j]? = some ((i : Nat) : Int) ∧ P[i]? = some x ∧ (see x.1 || wri x.1) = true ∧ k = (x.2 : Nat)
  cn : C.length ≤ t
theorem stand_met {m : Nat} (h : m < P.length → Met P m) (hm : m ≤ P.length) : standI P m = -1 ∨ ∃ i : Nat, standI P m = (i : Nat) ∧ Met P i := by
  unfold standI
  split
  · exact .inl rfl
  · exact .inr ⟨m, rfl, h (by omega)⟩
theorem nx_le {i m : Nat} (h : m ∈ nx P i) : m ≤ P.length := by
  unfold nx at h
  split at h
  · rcases List.mem_cons.mp h with z | z
    · rw [z]; exact land_le _
    · rw [List.mem_singleton.mp z]; exact land_le _
  · rw [List.mem_singleton.mp h]; exact land_le _
theorem UInv.start : UInv P [standI P (land P 0)] [] 0 :=
  ⟨by simp, (fun v hv => by rw [List.mem_singleton.mp hv]; exact stand_met (fun h => .one h) (land_le _)), List.mem_singleton.mpr rfl, (fun j i h => by omega), (fun k => ⟨(fun h => by cases h), fun ⟨j, _, _, h, _⟩ => by omega⟩), Nat.le_refl _⟩
theorem UInv.len {F C : List Int} {t : Nat} (U : UInv P F C t) : F.length ≤ P.length + 1 := by
  have := Lin.nd_len (ys := (-1 : Int) :: (List.range P.length).map fun i => ((i : Nat) : Int)) U.nd fun v hv => by
    rcases U.mem v hv with z | ⟨i, z, m⟩
    · rw [z]; exact List.mem_cons_self
    · rw [z]; exact List.mem_cons_of_mem _ (List.mem_map.mpr ⟨i, List.mem_range.mpr m.lt, rfl⟩)
  rw [List.length_cons, List.length_map, List.length_range] at this
  exact this
theorem UInv.skip {F C : List Int} {t : Nat} (U : UInv P F C t) (h : ∀ i : Nat, F[t]? ≠ some ((i : Nat) : Int)) : UInv P F C (t + 1) := by
  refine ⟨U.nd, U.mem, U.st, fun j i hj hF => ?_, fun k => ?_, Nat.le_succ_of_le U.cn⟩
  · rcases Nat.lt_or_ge j t with z | z
    · exact U.cl j i z hF
    · have : j = t := by omega
      subst this
      exact absurd hF (h i)
  · rw [U.nm]
    constructor
    · rintro ⟨j, i, x, h1, h2⟩
      exact ⟨j, i, x, Nat.lt_succ_of_lt h1, h2⟩
    · rintro ⟨j, i, x, h1, h2, h3⟩
      rcases Nat.lt_or_ge j t with z | z
      · exact ⟨j, i, x, z, h2, h3⟩
      · have : j = t := by omega
        subst this
        exact absurd h2 (h i)
theorem UInv.step {F C G C' : List Int} {t i : Nat} {x : Ins} (U : UInv P F C t) (hi : F[t]? = some ((i : Nat) : Int)) (hx : P[i]? = some x) (mi : Met P i) (ng : G.Nodup) (hG : ∀ v ∈ G, v ∉ F ∧ ∃ m ∈ nx P i, v = standI P m) (cG : ∀ m ∈ nx P i, standI P m ∈ F ∨ standI P m ∈ G)
    (hC : ∀ k, k ∈ C' ↔ k ∈ C ∨ ((see x.1 || wri x.1) = true ∧ k = (x.2 : Nat))) (lC : C'.length ≤ C.length + 1) : UInv P (F ++ G) C' (t + 1) := by
  have lt : t < F.length := (List.getElem?_eq_some_iff.mp hi).1
  have old : ∀ {j : Nat}, j < t + 1 → (F ++ G)[j]? = F[j]? := fun h => List.getElem?_append_left (by omega)
  refine ⟨?_, fun v hv => ?_, List.mem_append_left _ U.st, fun j i' hj hF m hm => ?_, fun k => ?_, by have := U.cn; omega⟩
  · rw [List.nodup_append]
    exact ⟨U.nd, ng, fun a ha b hb z => (hG b hb).1 (z ▸ ha)⟩
  · rcases List.mem_append.mp hv with z | z
    · exact U.mem v z
    · obtain ⟨_, m, hm, rfl⟩ := hG v z
      exact stand_met (fun h => .more mi hm h) (nx_le hm)
  · rw [old hj] at hF
    rcases Nat.lt_or_ge j t with z | z
    · exact List.mem_append_left _ (U.cl j i' z hF m hm)
    · have : j = t := by omega
      subst this
      rw [hi] at hF
      have : i = i' := by have := Option.some.inj hF; omega
      subst this
      exact List.mem_append.mpr (cG m hm)
  · rw [hC, U.nm]
    constructor
    · rintro (⟨j, i', x', h1, h2, h3⟩ | ⟨h1, h2⟩)
      · exact ⟨j, i', x', Nat.lt_succ_of_lt h1, by rw [old (by omega)]; exact h2, h3⟩
      · exact ⟨t, i, x, Nat.lt_succ_self t, by rw [old (by omega)]; exact hi, hx, h1, h2⟩
    · rintro ⟨j, i', x', h1, h2, h3, h4, h5⟩
      rw [old h1] at h2
      rcases Nat.lt_or_ge j t with z | z
      · exact .inl ⟨j, i', x', z, h2, h3, h4, h5⟩
      · have : j = t := by omega
        subst this
        rw [hi] at h2
        have : i = i' := by have := Option.some.inj h2; omega
        subst this
        rw [hx] at h3
        obtain rfl := Option.some.inj h3
        exact .inr ⟨h4, h5⟩
theorem UInv.fin {F C : List Int} {t : Nat} (U : UInv P F C t) (ht : P.length + 1 ≤ t) : ∀ k, k ∈ C ↔ Named P k := by
  have fl := U.len
  have all : ∀ {i : Nat}, Met P i → ((i : Nat) : Int) ∈ F := fun {i} h => by
    induction h with
    | one h => have := U.st; unfold standI at this; rwa [if_neg (by omega)] at this
    | more hi hm hl ih =>
      obtain ⟨j, hj⟩ := List.mem_iff_getElem?.mp ih
      have := U.cl j _ (by have := (List.getElem?_eq_some_iff.mp hj).1; omega) hj _ hm
      unfold standI at this
      rwa [if_neg (by omega)] at this
  intro k
  rw [U.nm]
  constructor
  · rintro ⟨j, i, x, h1, h2, h3, h4, h5⟩
    rcases U.mem _ (List.mem_of_getElem? h2) with z | ⟨i', z, m⟩
    · omega
    · have : i = i' := by omega
      rw [this] at h3
      exact ⟨i', x, m, h3, h4, h5⟩
  · rintro ⟨i, x, m, h3, h4, h5⟩
    obtain ⟨j, hj⟩ := List.mem_iff_getElem?.mp (all m)
    exact ⟨j, i, x, by have := (List.getElem?_eq_some_iff.mp hj).1; omega, hj, h3, h4, h5⟩
end Prg
namespace K01
open PySem PySem.Spec PyProof.Rows L2 Prg
section
variable {P : Program} {w : World} {K : PySem.W.Frag} {mg : Str → Option Value} {base : Heap}
def spUsed (K : PySem.W.Frag) : Sp := fun vs H Q _ => ∃ (p : Int) (c : Nat) (v : V) (P : List Ins), vs = [.int p, .int (c : Nat), v] ∧ isPrm (.int p) = true ∧ 1 ≤ c ∧ c ≤ 4 ∧ PrgT K P v H ∧ PrgOk p c c false P ∧ 1 ≤ P.length ∧ P.length ≤ 20 ∧ Ret (NamesT K P) H Q
theorem ok_used {f CP CN : Addr} {fd : FuncData} (F : Fun K "used" "used" s_used f fd) (G1 : Got P w K mg base (L2.CX P w) 3 "check_prime" p_check_prime (spCheckP CN)) (G2 : Got P w K mg base (L2.CX P w) 4 "check_values" p_check_values spCheckVal) (G3 : Got P w K mg base (L2.CX P w) 4 "check_program" p_check_program (spCheckPr K CP))
    (G4 : Got P w K mg base CX0 3 "names_met" p_names_met (spNames K)) : FnOk P w K mg base (L2.CX P w) 5 f fd p_used (spUsed K) := by
  refine F.okX sc_used (fun vs H Q E h => ?_) (fun cdv Ar outer s H vs Q E hr h => ?_)
  · obtain ⟨p, c, v, P, rfl, _⟩ := h
    rfl
  · obtain ⟨p, c, v, P, rfl, hp, c1, c4, hP, X, l1, l2, q⟩ := h
    refine ⟨_, pss_cons (ps_expr (pe_got G1 (hr.mono (by decide)) (passes_call (takes_of rfl rfl rfl rfl) fun _ _ _ _ z => z) (pa_cons (pv 0) pa_nil)))
      (pss_cons (ps_expr (pe_got G2 (hr.mono (by decide)) (passes_call (takes_of rfl rfl rfl rfl) fun _ _ _ _ z => z) (pa_cons (pv 1) pa_nil)))
      (pss_cons (ps_expr (pe_got G3 (hr.mono (by decide)) (passes_call (takes_of rfl rfl rfl rfl) fun _ _ _ _ z => z) (pa_cons (pv 0) (pa_cons (pv 1) (pa_cons (pv 2) pa_nil)))))
      (pss_one (ps_ret (pe_got G4 (hr.mono (by decide)) pass0 (pa_cons (pv 2) pa_nil)))))), ?_⟩
    refine ⟨_, rfl, .int p, rfl, .int _, fun _ z1 H1 e1 ez1 => ?_, fun no => by rw [hp] at no; cases no⟩
    refine ⟨_, rfl, (c : Nat), rfl, by omega, by omega, fun z2 H2 e2 ez2 => ?_⟩
    have e12 := e1.trans e2
    refine ⟨_, rfl, _, rfl, _, rfl, P.map iv, v, p, (c : Nat), rfl, hP.ex e12, by rw [List.length_map]; exact l1, by rw [List.length_map]; exact l2, .inl ⟨fun j y hj => by rw [List.length_map]; exact allOk_of X j y hj, fun z3 H3 e3 ez3 => ?_⟩⟩
    have e13 := e12.trans e3
    exact ⟨_, rfl, P, v, rfl, hP.ex e13, X.jmp, by omega, q.go e13⟩
end
end K01


set_option Elab.async false
set_option linter.all false
set_option maxRecDepth 100000
set_option maxHeartbeats 4000000
namespace K01
open PySem PySem.Spec PyProof.Rows L2 Prg
theorem isSW (x : Wd) : inV (.str (wstr x)) [.str "get", .str "plus", .str "minus", .str "add", .str "take"] = (see x || wri x) := by cases x <;> decide +kernel
section
variable {P : Program} {w : World} {K : PySem.W.Frag} {mg : Str → Option Value} {base : Heap}
def spNamesL (K : PySem.W.Frag) : Sp := fun vs H Q _ => ∃ (P : List Ins) (v : V), vs = [v] ∧ PrgT K P v H ∧ Jmp P ∧ P.length ≤ 29 ∧ Ret (NamesT K P) H Q
theorem cut1 (F : List Int) (t : Nat) : cutV (F.map V.int) (some ((t : Nat) : Int)) (some (((t : Nat) : Int) + 1)) = match F[t]? with | none => [] | some v => [V.int v] := by
  unfold cutV
  rw [show ((t : Nat) : Int) + 1 = ((t + 1 : Nat) : Int) from rfl, HT.sIx_nat, HT.sIx_nat, List.length_map]
  rcases Nat.lt_or_ge t F.length with h | h
  · rw [Nat.min_eq_left (by omega), Nat.min_eq_left (by omega), show t + 1 - t = 1 by omega, List.getElem?_eq_getElem h, ← List.map_drop, ← List.map_take, List.drop_eq_getElem_cons h]
    rfl
  · rw [Nat.min_eq_right (by omega), Nat.min_eq_right (by omega), Nat.sub_self, List.take_zero, List.getElem?_eq_none h]
theorem flat_ints : ∀ F : List Int, (F.map V.int).all flatV = true
  | [] => rfl
  | _ :: F => flat_ints F
/-- the frame and the heap ahead of a turn -/
def LUInv (P : List Ins) (a : Addr) (H : Hp) (t : Nat) (σ : L2.St) (H' : Hp) : Prop := ∃ (F C : List Int) (f c : Addr) (y3 y4 y5 y6 y7 y8 : Option V), σ = [some (.ref a), some (.ref f), some (.ref c), y3, y4, y5, y6, y7, y8] ∧ Ex H H' ∧ H' f = some (.lst (F.map V.int)) ∧ H' c = some (.lst (C.map V.int)) ∧ UInv P F C t
theorem ok_lused {f : Addr} {fd : FuncData} (B : Bare mg) (F : Fun K "_law_used" "_law_used" s_law_used f fd) (Gs : Got P w K mg base CX0 1 "_law_stands" p_law_stands (spStands K)) : FnOk P w K mg base CX0 2 f fd p_law_used (spNamesL K) := by
  refine F.ok sc_law_used (fun vs H Q E h => ?_) (fun cdv Ar outer s H vs Q E hr h => ?_)
  · obtain ⟨P, v, rfl, _⟩ := h
    rfl
  · obtain ⟨P, v, rfl, hP, J, lP, q⟩ := h
    have hu := hu_of hr
    refine ⟨_, pss_cons (ps_asg (pe_tup (pa_cons (pe_lst (pa_cons (pe_got Gs hr pass0 (pa_cons (pv 0) (pa_cons pe_int pa_nil))) pa_nil)) (pa_cons (pe_lst pa_nil) pa_nil))) (pg_tup rfl (pgs_cons (pg_name (i := 1) sc_law_used.nd rfl (Or.inr rfl)) (pgs_cons (pg_name (i := 2) sc_law_used.nd rfl (Or.inl rfl)) pgs_nil))))
      (pss_cons (ps_for PassesOwn.never rfl (pi_range1 rfl B.range (pa_cons pe_int pa_nil)) (pg_name (i := 3) sc_law_used.nd rfl (Or.inl rfl))
        (pss_one (ps_for PassesOwn.never rfl (pi_list (pe_slice sl_list (pv 1) (po_some (pv 3)) (po_some (pe_op op_add (pv 3) pe_int)))) (pg_name (i := 4) sc_law_used.nd rfl (Or.inl rfl))
          (pss_one (ps_if (pt_cmpR op_ge (pv 4) pe_int (nomark _))
            (pss_cons (ps_set (i := 5) sc_law_used.nd rfl (Or.inl rfl) (pe_ix ix_tup (pv 0) (pv 4) (fun _ _ => rfl)))
            (pss_cons (ps_set (i := 2) sc_law_used.nd rfl (Or.inl rfl) (pe_op op_cat (pv 2) (pe_ifExp (pt_cmpR (show OpR _ _ (rIn K false) from op_in_seq) (pe_ix ix_tup (pv 5) pe_int (fun _ _ => rfl)) (pe_lst (pa_cons pe_str (pa_cons pe_str (pa_cons pe_str (pa_cons pe_str (pa_cons pe_str pa_nil)))))) rfl) (pe_lst (pa_cons (pe_ix ix_tup (pv 5) pe_int (fun _ _ => rfl)) pa_nil)) (pe_lst pa_nil))))
            (pss_cons (ps_setLc (i := 6) (own := [("place", 7)]) (g := gName 7) (tt := tYes) rfl sc_law_used.nd rfl rfl (sw_true rfl rfl rfl (by decide +kernel)) (pi_list (pe_op op_cat (pe_lst (pa_cons (pe_op op_add (pv 4) pe_int) pa_nil)) (pe_op op_mul_lb (pe_lst (pa_cons (pe_ix ix_tup (pv 5) (pe_un un_neg pe_int) (fun _ _ => rfl)) pa_nil)) (pe_cmpR op_eq (pe_ix ix_tup (pv 5) pe_int (fun _ _ => rfl)) pe_str (nomark _))))) (blkOk_by (N := n_law_used) (sc := defScope s_law_used) (by decide +kernel))
              (fun _ _ _ _ _ => pg_name (i := 7) sc_law_used.nd rfl (Or.inl rfl)) (fun _ _ _ _ _ => pts_nil) (fun _ _ _ _ _ => pe_got Gs hr pass0 (pa_cons (pv 0) (pa_cons (pv 7) pa_nil))))
            (pss_one (ps_set (i := 1) sc_law_used.nd rfl (Or.inr rfl) (pe_op op_cat (pv 1) (pe_lc (own := [("other", 8)]) (g := gName 8) rfl sc_law_used.nd (pi_list (pe_callB (cr_sortedSet rfl) (by rfl) B.sorted (by decide +kernel) (pa_cons (pe_callTy (cr_setF rfl) (by rfl) B.set (by decide +kernel) (pa_cons (pv 6) pa_nil)) pa_nil))) (blkOk_by (N := n_law_used) (sc := defScope s_law_used) (by decide +kernel))
              (fun _ _ _ _ _ => pg_name (i := 8) sc_law_used.nd rfl (Or.inl rfl)) (fun _ _ _ _ _ => pts_one (pt_cmpR (show OpR _ _ (rIn K true) from op_notIn_seq) (pv 8) (pv 1) rfl)) (fun _ _ _ _ _ => pv 8)))))))) pss_nil)))))
      (pss_one (ps_ret (pe_callTy call_tuple_of (by rfl) B.tuple (by decide +kernel) (pa_cons (pe_callB (cr_sortedSet rfl) (by rfl) B.sorted (by decide +kernel) (pa_cons (pe_callTy (cr_setF rfl) (by rfl) B.set (by decide +kernel) (pa_cons (pv 2) pa_nil)) pa_nil)) pa_nil))))), ?_⟩
    obtain ⟨a, xs, rfl, ha, pa⟩ := id hP
    have la : xs.length = P.length := by rw [pr_len pa, List.length_map]
    refine ⟨_, rfl, P, .ref a, 0, rfl, hP, J, by omega, Nat.zero_le _, fun z H1 e1 ez => ?_⟩
    cases (show z = _ from ez)
    refine ⟨(by show 1 ≤ sizeLine; decide), fun f nf => ⟨(by show 0 ≤ sizeLine; decide), fun c nc => ⟨(by show 2 ≤ sizeLine; decide), fun t nt => ?_⟩⟩⟩
    have q1 := _root_.Evl.Ex.new (o := .lst [.int (landI P 0)]) nf
    have q2 := _root_.Evl.Ex.new (o := .lst []) nc
    have q3 := _root_.Evl.Ex.new (o := .tup [.ref f, .ref c]) nt
    refine ⟨t, _, rfl, SqT.of upd_same, rfl, _, _, rfl, _, _, rfl, rfl, ?_⟩
    refine ⟨30, rfl, by decide, by decide, ?_⟩
    refine for_range (lo := 0) (n := 30) (LUInv P a H) ⟨[standI P (land P 0)], [], f, c, none, none, none, none, none, none, rfl, e1.trans (q1.trans (q2.trans q3)), q3 _ _ (q2 _ _ upd_same), q3 _ _ upd_same, .start⟩ (fun t σ' H' ht p' => ?_) fun σ' H' p' => ?_
    · obtain ⟨F, C, f, c, y3, y4, y5, y6, y7, y8, rfl, e0, hf, hc, U⟩ := p'
      rw [Int.zero_add]
      refine ⟨_, rfl, _, rfl, _, rfl, _, rfl, _, _, rfl, rfl, _, rfl, f, _, rfl, SqL.of hf, fun s ns => ?_⟩
      rw [cut1]
      cases hF : F[t]? with
      | none =>
        have eS := e0.trans (_root_.Evl.Ex.new (o := .lst []) ns)
        have g0 := _root_.Evl.Ex.new (o := .lst []) ns
        refine ⟨s, rfl, ⟨_, SqL.of upd_same⟩, ?_⟩
        refine for_list (K := K) (a := s) (xs := []) (fun _ σ' G => σ' = [some (.ref a), some (.ref f), some (.ref c), some (.int (t : Nat)), y4, y5, y6, y7, y8] ∧ G = upd H' s (.lst [])) ⟨rfl, rfl⟩ (fun i σ' G _ p => by rw [p.2]; exact SqL.of upd_same) (fun i x σ' G hx _ => by simp at hx) fun σ' G p => ?_
        obtain ⟨rfl, rfl⟩ := p
        exact ⟨F, C, f, c, _, _, _, _, _, _, rfl, eS, g0 _ _ hf, g0 _ _ hc, U.skip fun i z => by rw [hF] at z; cases z⟩
      | some v =>
        have q0 := _root_.Evl.Ex.new (o := .lst [.int v]) ns
        have eS := e0.trans q0
        have hs := upd_same (H := H') (a := s) (o := .lst [.int v])
        have hf := q0 _ _ hf
        have hc := q0 _ _ hc
        refine ⟨s, rfl, ⟨_, SqL.of upd_same⟩, ?_⟩
        refine for_list (K := K) (a := s) (xs := [.int v]) (fun j σ' G => (j = 0 ∧ σ' = [some (.ref a), some (.ref f), some (.ref c), some (.int (t : Nat)), y4, y5, y6, y7, y8] ∧ G = upd H' s (.lst [.int v])) ∨ (j = 1 ∧ Ex (upd H' s (.lst [.int v])) G ∧ LUInv P a H (t + 1) σ' G)) (.inl ⟨rfl, rfl, rfl⟩)
          (fun j σ' G _ p => by rcases p with ⟨_, _, rfl⟩ | ⟨_, e, _⟩; exact SqL.of upd_same; exact SqL.of (e _ _ upd_same)) (fun j y σ' G hy p => ?_) fun σ' G p => ?_
        · rcases p with ⟨rfl, rfl, rfl⟩ | ⟨rfl, _⟩
          · obtain rfl : V.int v = y := Option.some.inj hy
            generalize upd H' s (.lst [.int v]) = Hs at q0 eS hs hf hc ⊢
            refine ⟨_, rfl, _, _, rfl, rfl, _, rfl, ite2 (fun c0 => ?_) (fun c0 => ?_)⟩
            · have v0 := of_decide_eq_true c0
              rcases U.mem v (List.mem_of_getElem? hF) with z | ⟨i, rfl, mi⟩
              · omega
              · obtain ⟨x, hx⟩ : ∃ x, P[i]? = some x := ⟨_, List.getElem?_eq_getElem mi.lt⟩
                obtain ⟨v', hv', qv⟩ := pr_getR pa (show (P.map iv)[i]? = some (iv x) by rw [List.getElem?_map, hx]; rfl)
                obtain ⟨b, us, lst, rfl, hb, g0, gl, ln, g1⟩ : ∃ b us lst, v' = .ref b ∧ SqT K H b us ∧ us[0]? = some (.str (wstr x.1)) ∧ atI us (-1) = some lst ∧ (bare x.1 = false → lst = .int (x.2 : Nat)) ∧ (bare x.1 = false → us[1]? = some (.int (x.2 : Nat))) := by
                  unfold iv at qv
                  split at qv
                  · rename_i z
                    obtain ⟨b, rfl, h⟩ := qv
                    exact ⟨b, _, _, rfl, h, rfl, rfl, (fun e => by rw [z] at e; cases e), fun e => by rw [z] at e; cases e⟩
                  · obtain ⟨b, rfl, h⟩ := qv
                    exact ⟨b, _, _, rfl, h, rfl, rfl, (fun _ => rfl), fun _ => rfl⟩
                obtain ⟨N, hN⟩ : ∃ N : List Nat, N = if x.1 = .zero then [i + 1, x.2] else [i + 1] := ⟨_, rfl⟩
                have lN : N.length ≤ 2 := by rw [hN]; split <;> simp
                have nxr : [V.int ((i : Nat) + 1)] ++ (if decide (V.str (wstr x.1) = V.str "zero") = true then [lst] else []) = N.map fun j : Nat => V.int (j : Nat) := by
                  rw [hN]
                  by_cases z : x.1 = .zero
                  · rw [if_pos z, if_pos (decide_eq_true (by rw [z]; rfl)), ln (by rw [z]; rfl)]
                    rfl
                  · rw [if_neg z, if_neg (show ¬ decide (V.str (wstr x.1) = V.str "zero") = true from fun q => z (wEq (y := .zero) q))]
                    rfl
                have Nle : ∀ j ∈ N, j ≤ P.length := fun j hj => by
                  rw [hN] at hj
                  have := mi.lt
                  split at hj
                  · rename_i z
                    rcases List.mem_cons.mp hj with q | q
                    · omega
                    · rw [List.mem_singleton.mp q]; exact J i x hx (.inr z)
                  · rw [List.mem_singleton.mp hj]; omega
                have nxE : nx P i = N.map (land P) := by
                  unfold nx
                  rw [hN, word_at hx, num_at hx]
                  by_cases z : x.1 = .zero
                  · rw [if_pos (by rw [z]), if_pos z]; rfl
                  · rw [if_neg (fun q => z (Option.some.inj q)), if_neg z]; rfl
                refine ⟨_, rfl, _, rfl, a, xs, _, _, rfl, rfl, _root_.Evl.ex_t eS ha, at_of rfl hv', ?_⟩
                refine ⟨_, rfl, _, rfl, b, us, _, _, rfl, rfl, _root_.Evl.ex_t eS hb, at_of (j := 0) rfl g0, (by show 5 ≤ sizeLine; decide), fun l1 n1 => ?_⟩
                have e5 := _root_.Evl.Ex.new (o := .lst [.str "get", .str "plus", .str "minus", .str "add", .str "take"]) n1
                refine ⟨l1, _, rfl, .inl (SqL.of upd_same), rfl, rfl, _, rfl, ?_⟩
                rw [isSW]
                generalize upd Hs l1 (.lst [.str "get", .str "plus", .str "minus", .str "add", .str "take"]) = H5 at e5 ⊢
                cases sw : (see x.1 || wri x.1) with
                | true =>
                  have nb : bare x.1 = false := by revert sw; cases x.1 <;> intro sw <;> first | rfl | cases sw
                  refine iteT ⟨_, rfl, b, us, _, _, rfl, rfl, _root_.Evl.ex_t (eS.trans e5) hb, at_of (j := 1) rfl (g1 nb), (by show 1 ≤ sizeLine; decide), fun l2 n2 => ?_⟩
                  have f2 := _root_.Evl.Ex.new (o := .lst [V.int (x.2 : Nat)]) n2
                  have h2 := upd_same (H := H5) (a := l2) (o := .lst [V.int (x.2 : Nat)])
                  generalize upd H5 l2 (.lst [V.int (x.2 : Nat)]) = H6 at f2 h2 ⊢
                  have e6 := e5.trans f2
                  refine ⟨c, l2, _, _, rfl, rfl, e6 _ _ hc, h2, Nat.le_of_lt (Nat.lt_of_le_of_lt (show (C.map V.int).length + 1 ≤ 1000 by rw [List.length_map]; have := U.cn; omega) (by decide)), fun c' nc' => ?_⟩
                  have f3 := _root_.Evl.Ex.new (o := .lst (C.map V.int ++ [V.int (x.2 : Nat)])) nc'
                  have hc3 := upd_same (H := H6) (a := c') (o := .lst (C.map V.int ++ [V.int (x.2 : Nat)]))
                  rw [show C.map V.int ++ [V.int (x.2 : Nat)] = (C ++ [((x.2 : Nat) : Int)]).map V.int by rw [List.map_append]; rfl] at f3 hc3 ⊢
                  generalize upd H6 c' (.lst ((C ++ [((x.2 : Nat) : Int)]).map V.int)) = H7 at f3 hc3 ⊢
                  have e7 := e6.trans f3
                  refine ⟨_, rfl, _, _, rfl, rfl, (by show 1 ≤ sizeLine; decide), fun l3 n3 => ?_⟩
                  have g3 := _root_.Evl.Ex.new (o := .lst [.int ((i : Nat) + 1)]) n3
                  have k3 := upd_same (H := H7) (a := l3) (o := .lst [.int ((i : Nat) + 1)])
                  have e8 := e7.trans g3
                  refine ⟨_, rfl, _, rfl, b, us, _, _, rfl, rfl, _root_.Evl.ex_t (eS.trans e8) hb, gl, (by show 1 ≤ sizeLine; decide), fun l4 n4 => ?_⟩
                  have g4 := _root_.Evl.Ex.new (o := .lst [lst]) n4
                  have e9 := e8.trans g4
                  refine ⟨_, rfl, b, us, _, _, rfl, rfl, _root_.Evl.ex_t (eS.trans e9) hb, at_of (j := 0) rfl g0, rfl, ?_⟩
                  refine ⟨l4, _, _, rfl, rfl, SqL.of upd_same, fun l5 n5 => ?_⟩
                  have g5 := _root_.Evl.Ex.new (o := .lst (if decide (V.str (wstr x.1) = V.str "zero") = true then [lst] else [])) n5
                  have e10 := e9.trans g5
                  refine ⟨l3, l5, _, _, rfl, rfl, g5 _ _ (g4 _ _ k3), upd_same, (by split; (show 2 ≤ sizeLine; decide); (show 1 ≤ sizeLine; decide)), fun l6 n6 => ?_⟩
                  rw [nxr]
                  have g6 := _root_.Evl.Ex.new (o := .lst (N.map fun j : Nat => V.int (j : Nat))) n6
                  have e11 := e10.trans g6
                  have k6 := upd_same (a := l6) (o := .lst (N.map fun j : Nat => V.int (j : Nat))) (H := upd (upd (upd H7 l3 (.lst [.int ((i : Nat) + 1)])) l4 (.lst [lst])) l5 (.lst (if decide (V.str (wstr x.1) = V.str "zero") = true then [lst] else [])))
                  generalize upd (upd (upd (upd H7 l3 (.lst [.int ((i : Nat) + 1)])) l4 (.lst [lst])) l5 (.lst (if decide (V.str (wstr x.1) = V.str "zero") = true then [lst] else []))) l6 (.lst (N.map fun j : Nat => V.int (j : Nat))) = H8 at g6 e11 k6 ⊢
                  refine ⟨l6, rfl, ⟨_, SqL.of k6⟩, ?_⟩
                  refine lc_go (walk_list (xs := N.map fun j : Nat => V.int (j : Nat))) (by rw [List.length_map]; omega) (fun H' e => SqL.of (e _ _ k6)) N (by rw [List.length_map]) (fun _ => true) (fun j => IsV (.int (landI P j))) (fun _ _ _ _ _ h => h) (fun m j y G1 G2 hj e yy C_ N_ hC_ hN_ => ?_) fun D ys H9 nD eD hD hy => ?_
                  · obtain ⟨rfl, gy⟩ := yy
                    rw [List.getElem?_map, hj] at gy
                    obtain rfl := Option.some.inj gy
                    exact ⟨rfl, yes_go ⟨_, rfl, _, rfl, P, .ref a, j, rfl, hP.ex (eS.trans (e11.trans e)), J, by omega, Nle j (List.mem_of_getElem? hj), fun z G3 e3 ez => hC_ rfl z G3 e3 ez⟩⟩
                  · rw [filter_yes] at hy
                    have ey : ys = (N.map (landI P)).map V.int := by rw [pr_fun hy, List.map_map]; rfl
                    subst ey
                    have e12 := e11.trans eD
                    refine ⟨_, rfl, _, rfl, D, _, rfl, SqL.of hD, by rw [List.length_map]; omega, fun s1 c1 ns1 few => ?_⟩
                    have g7 := _root_.Evl.Ex.new (o := SetO w s1 (fun j => decide (j ∈ N.map (landI P))) c1) ns1
                    have lc1 := few (N.map (landI P)) fun k h => h
                    rw [List.length_map] at lc1
                    refine ⟨s1, _, _, rfl, upd_same, by omega, fun ns p2 asc mem ln np => ?_⟩
                    have g8 := _root_.Evl.Ex.new (o := .lst (ns.map V.int)) np
                    have k8 := upd_same (H := upd H9 s1 (SetO w s1 (fun j => decide (j ∈ N.map (landI P))) c1)) (a := p2) (o := .lst (ns.map V.int))
                    have e13 := e12.trans (g7.trans g8)
                    refine ⟨p2, rfl, ⟨_, SqL.of k8⟩, ?_⟩
                    refine lc_go (walk_list (xs := ns.map V.int)) (by rw [List.length_map]; omega) (fun H' e => SqL.of (e _ _ k8)) ns (by rw [List.length_map]) (fun v => decide (v ∉ F)) (fun v => IsV (.int v)) (fun _ _ _ _ _ h => h) (fun m v2 y G1 G2 hj e yy C_ N_ hC_ hN_ => ?_) fun D2 ys2 H11 nD2 eD2 hD2 hy2 => ?_
                    · obtain ⟨rfl, gy⟩ := yy
                      rw [List.getElem?_map, hj] at gy
                      obtain rfl := Option.some.inj gy
                      refine ⟨rfl, _, rfl, _, rfl, f, _, rfl, .inl (SqL.of ((e13.trans e) _ _ hf)), rfl, flat_ints F, _, rfl, ?_⟩
                      rw [inV_ints]
                      by_cases m2 : v2 ∈ F
                      · rw [show (if true = true then !F.contains v2 else F.contains v2) = false by simp [m2]]
                        exact iteF (hN_ (by simp [m2]) _ (_root_.Evl.Ex.refl _))
                      · rw [show (if true = true then !F.contains v2 else F.contains v2) = true by simp [m2]]
                        exact iteT ⟨_, rfl, hC_ (by simp [m2]) _ _ (_root_.Evl.Ex.refl _) rfl⟩
                    · have ey2 : ys2 = (ns.filter fun v => decide (v ∉ F)).map V.int := pr_fun hy2
                      subst ey2
                      have e14 := e13.trans eD2
                      have fl := U.len
                      have gl2 : (ns.filter fun v => decide (v ∉ F)).length ≤ ns.length := List.length_filter_le _ _
                      refine ⟨f, D2, _, _, rfl, rfl, e14 _ _ hf, hD2, Nat.le_of_lt (Nat.lt_of_le_of_lt (show _ ≤ 1000 by rw [List.length_map, List.length_map]; omega) (by decide)), fun f' nf' => ?_⟩
                      have g9 := _root_.Evl.Ex.new (o := .lst (F.map V.int ++ (ns.filter fun v => decide (v ∉ F)).map V.int)) nf'
                      refine .inr ⟨rfl, e14.trans g9, F ++ ns.filter (fun v => decide (v ∉ F)), C ++ [((x.2 : Nat) : Int)], f', c', _, _, _, _, _, _, rfl, eS.trans (e14.trans g9), by rw [List.map_append]; exact upd_same, (((eD.trans (g7.trans g8)).trans eD2).trans g9) _ _ (((((g3.trans g4).trans g5).trans g6)) _ _ hc3), ?_⟩
                      refine U.step hF hx mi ((asc.imp fun h => Int.ne_of_lt h).filter _) (fun v2 hv2 => ?_) (fun m hm => ?_) (fun k => by rw [List.mem_append, List.mem_singleton, sw]; simp) (by rw [List.length_append]; show _ + 1 ≤ _; omega)
                      · obtain ⟨h1, h2⟩ := List.mem_filter.mp hv2
                        have := of_decide_eq_true ((mem v2).1 h1)
                        obtain ⟨j, hj, rfl⟩ := List.mem_map.mp this
                        exact ⟨of_decide_eq_true h2, land P j, by rw [nxE]; exact List.mem_map.mpr ⟨j, hj, rfl⟩, rfl⟩
                      · rw [nxE] at hm
                        obtain ⟨j, hj, rfl⟩ := List.mem_map.mp hm
                        by_cases z : standI P (land P j) ∈ F
                        · exact .inl z
                        · exact .inr (List.mem_filter.mpr ⟨(mem _).2 (decide_eq_true (List.mem_map.mpr ⟨j, hj, rfl⟩)), decide_eq_true z⟩)
                | false =>
                  refine iteF ⟨(by show 0 ≤ sizeLine; decide), fun l2 n2 => ?_⟩
                  have f2 := _root_.Evl.Ex.new (o := .lst ([] : List V)) n2
                  have h2 := upd_same (H := H5) (a := l2) (o := .lst ([] : List V))
                  generalize upd H5 l2 (.lst ([] : List V)) = H6 at f2 h2 ⊢
                  have e6 := e5.trans f2
                  refine ⟨c, l2, _, _, rfl, rfl, e6 _ _ hc, h2, Nat.le_of_lt (Nat.lt_of_le_of_lt (show (C.map V.int).length + 0 ≤ 1000 by rw [List.length_map]; have := U.cn; omega) (by decide)), fun c' nc' => ?_⟩
                  have f3 := _root_.Evl.Ex.new (o := .lst (C.map V.int ++ ([] : List V))) nc'
                  have hc3 := upd_same (H := H6) (a := c') (o := .lst (C.map V.int ++ ([] : List V)))
                  rw [show C.map V.int ++ ([] : List V) = (C ++ ([] : List Int)).map V.int by rw [List.map_append]; rfl] at f3 hc3 ⊢
                  generalize upd H6 c' (.lst ((C ++ ([] : List Int)).map V.int)) = H7 at f3 hc3 ⊢
                  have e7 := e6.trans f3
                  refine ⟨_, rfl, _, _, rfl, rfl, (by show 1 ≤ sizeLine; decide), fun l3 n3 => ?_⟩
                  have g3 := _root_.Evl.Ex.new (o := .lst [.int ((i : Nat) + 1)]) n3
                  have k3 := upd_same (H := H7) (a := l3) (o := .lst [.int ((i : Nat) + 1)])
                  have e8 := e7.trans g3
                  refine ⟨_, rfl, _, rfl, b, us, _, _, rfl, rfl, _root_.Evl.ex_t (eS.trans e8) hb, gl, (by show 1 ≤ sizeLine; decide), fun l4 n4 => ?_⟩
                  have g4 := _root_.Evl.Ex.new (o := .lst [lst]) n4
                  have e9 := e8.trans g4
                  refine ⟨_, rfl, b, us, _, _, rfl, rfl, _root_.Evl.ex_t (eS.trans e9) hb, at_of (j := 0) rfl g0, rfl, ?_⟩
                  refine ⟨l4, _, _, rfl, rfl, SqL.of upd_same, fun l5 n5 => ?_⟩
                  have g5 := _root_.Evl.Ex.new (o := .lst (if decide (V.str (wstr x.1) = V.str "zero") = true then [lst] else [])) n5
                  have e10 := e9.trans g5
                  refine ⟨l3, l5, _, _, rfl, rfl, g5 _ _ (g4 _ _ k3), upd_same, (by split; (show 2 ≤ sizeLine; decide); (show 1 ≤ sizeLine; decide)), fun l6 n6 => ?_⟩
                  rw [nxr]
                  have g6 := _root_.Evl.Ex.new (o := .lst (N.map fun j : Nat => V.int (j : Nat))) n6
                  have e11 := e10.trans g6
                  have k6 := upd_same (a := l6) (o := .lst (N.map fun j : Nat => V.int (j : Nat))) (H := upd (upd (upd H7 l3 (.lst [.int ((i : Nat) + 1)])) l4 (.lst [lst])) l5 (.lst (if decide (V.str (wstr x.1) = V.str "zero") = true then [lst] else [])))
                  generalize upd (upd (upd (upd H7 l3 (.lst [.int ((i : Nat) + 1)])) l4 (.lst [lst])) l5 (.lst (if decide (V.str (wstr x.1) = V.str "zero") = true then [lst] else []))) l6 (.lst (N.map fun j : Nat => V.int (j : Nat))) = H8 at g6 e11 k6 ⊢
                  refine ⟨l6, rfl, ⟨_, SqL.of k6⟩, ?_⟩
                  refine lc_go (walk_list (xs := N.map fun j : Nat => V.int (j : Nat))) (by rw [List.length_map]; omega) (fun H' e => SqL.of (e _ _ k6)) N (by rw [List.length_map]) (fun _ => true) (fun j => IsV (.int (landI P j))) (fun _ _ _ _ _ h => h) (fun m j y G1 G2 hj e yy C_ N_ hC_ hN_ => ?_) fun D ys H9 nD eD hD hy => ?_
                  · obtain ⟨rfl, gy⟩ := yy
                    rw [List.getElem?_map, hj] at gy
                    obtain rfl := Option.some.inj gy
                    exact ⟨rfl, yes_go ⟨_, rfl, _, rfl, P, .ref a, j, rfl, hP.ex (eS.trans (e11.trans e)), J, by omega, Nle j (List.mem_of_getElem? hj), fun z G3 e3 ez => hC_ rfl z G3 e3 ez⟩⟩
                  · rw [filter_yes] at hy
                    have ey : ys = (N.map (landI P)).map V.int := by rw [pr_fun hy, List.map_map]; rfl
                    subst ey
                    have e12 := e11.trans eD
                    refine ⟨_, rfl, _, rfl, D, _, rfl, SqL.of hD, by rw [List.length_map]; omega, fun s1 c1 ns1 few => ?_⟩
                    have g7 := _root_.Evl.Ex.new (o := SetO w s1 (fun j => decide (j ∈ N.map (landI P))) c1) ns1
                    have lc1 := few (N.map (landI P)) fun k h => h
                    rw [List.length_map] at lc1
                    refine ⟨s1, _, _, rfl, upd_same, by omega, fun ns p2 asc mem ln np => ?_⟩
                    have g8 := _root_.Evl.Ex.new (o := .lst (ns.map V.int)) np
                    have k8 := upd_same (H := upd H9 s1 (SetO w s1 (fun j => decide (j ∈ N.map (landI P))) c1)) (a := p2) (o := .lst (ns.map V.int))
                    have e13 := e12.trans (g7.trans g8)
                    refine ⟨p2, rfl, ⟨_, SqL.of k8⟩, ?_⟩
                    refine lc_go (walk_list (xs := ns.map V.int)) (by rw [List.length_map]; omega) (fun H' e => SqL.of (e _ _ k8)) ns (by rw [List.length_map]) (fun v => decide (v ∉ F)) (fun v => IsV (.int v)) (fun _ _ _ _ _ h => h) (fun m v2 y G1 G2 hj e yy C_ N_ hC_ hN_ => ?_) fun D2 ys2 H11 nD2 eD2 hD2 hy2 => ?_
                    · obtain ⟨rfl, gy⟩ := yy
                      rw [List.getElem?_map, hj] at gy
                      obtain rfl := Option.some.inj gy
                      refine ⟨rfl, _, rfl, _, rfl, f, _, rfl, .inl (SqL.of ((e13.trans e) _ _ hf)), rfl, flat_ints F, _, rfl, ?_⟩
                      rw [inV_ints]
                      by_cases m2 : v2 ∈ F
                      · rw [show (if true = true then !F.contains v2 else F.contains v2) = false by simp [m2]]
                        exact iteF (hN_ (by simp [m2]) _ (_root_.Evl.Ex.refl _))
                      · rw [show (if true = true then !F.contains v2 else F.contains v2) = true by simp [m2]]
                        exact iteT ⟨_, rfl, hC_ (by simp [m2]) _ _ (_root_.Evl.Ex.refl _) rfl⟩
                    · have ey2 : ys2 = (ns.filter fun v => decide (v ∉ F)).map V.int := pr_fun hy2
                      subst ey2
                      have e14 := e13.trans eD2
                      have fl := U.len
                      have gl2 : (ns.filter fun v => decide (v ∉ F)).length ≤ ns.length := List.length_filter_le _ _
                      refine ⟨f, D2, _, _, rfl, rfl, e14 _ _ hf, hD2, Nat.le_of_lt (Nat.lt_of_le_of_lt (show _ ≤ 1000 by rw [List.length_map, List.length_map]; omega) (by decide)), fun f' nf' => ?_⟩
                      have g9 := _root_.Evl.Ex.new (o := .lst (F.map V.int ++ (ns.filter fun v => decide (v ∉ F)).map V.int)) nf'
                      refine .inr ⟨rfl, e14.trans g9, F ++ ns.filter (fun v => decide (v ∉ F)), C ++ ([] : List Int), f', c', _, _, _, _, _, _, rfl, eS.trans (e14.trans g9), by rw [List.map_append]; exact upd_same, (((eD.trans (g7.trans g8)).trans eD2).trans g9) _ _ (((((g3.trans g4).trans g5).trans g6)) _ _ hc3), ?_⟩
                      refine U.step hF hx mi ((asc.imp fun h => Int.ne_of_lt h).filter _) (fun v2 hv2 => ?_) (fun m hm => ?_) (fun k => by rw [List.append_nil, sw]; simp) (by rw [List.length_append]; show _ + 0 ≤ _; omega)
                      · obtain ⟨h1, h2⟩ := List.mem_filter.mp hv2
                        have := of_decide_eq_true ((mem v2).1 h1)
                        obtain ⟨j, hj, rfl⟩ := List.mem_map.mp this
                        exact ⟨of_decide_eq_true h2, land P j, by rw [nxE]; exact List.mem_map.mpr ⟨j, hj, rfl⟩, rfl⟩
                      · rw [nxE] at hm
                        obtain ⟨j, hj, rfl⟩ := List.mem_map.mp hm
                        by_cases z : standI P (land P j) ∈ F
                        · exact .inl z
                        · exact .inr (List.mem_filter.mpr ⟨(mem _).2 (decide_eq_true (List.mem_map.mpr ⟨j, hj, rfl⟩)), decide_eq_true z⟩)
            · have neg : ¬ (0 ≤ v) := fun z => c0 (decide_eq_true z)
              exact .inr ⟨rfl, _root_.Evl.Ex.refl _, F, C, f, c, _, _, _, _, _, _, rfl, eS, hf, hc, U.skip fun i z => by rw [hF] at z; have := Option.some.inj z; omega⟩
          · simp at hy
        · rcases p with ⟨z, _⟩ | ⟨_, _, p⟩
          · cases z
          · exact p
    · obtain ⟨F, C, f, c, y3, y4, y5, y6, y7, y8, rfl, e0, hf, hc, U⟩ := p'
      have lc := U.cn
      refine ⟨_, rfl, c, C, rfl, SqL.of hc, by omega, fun s1 c1 ns1 few => ?_⟩
      have lc1 := few C fun k h => h
      have g7 := _root_.Evl.Ex.new (o := SetO w s1 (fun j => decide (j ∈ C)) c1) ns1
      refine ⟨s1, _, _, rfl, upd_same, by omega, fun ns p2 asc mem ln np => ?_⟩
      refine ⟨p2, _, rfl, .inl ⟨SqL.of upd_same, fun l nl => ?_⟩⟩
      refine q _ _ ((e0.trans g7).trans ((_root_.Evl.Ex.new np).trans (_root_.Evl.Ex.new nl))) ⟨ns, RowT.new upd_same, asc, fun k => ?_⟩
      rw [mem, decide_eq_true_eq]
      exact U.fin (by omega) k
end
end K01


set_option Elab.async false
set_option linter.all false
set_option maxRecDepth 100000
set_option maxHeartbeats 4000000
/-! Alike, with texts -/
namespace K01
open PySem PySem.Spec PyProof.Rows L2 Prg
/-- data of one shape and one content: whole numbers, texts, tuples of such -/
def AlikeT (K : PySem.W.Frag) : Nat → V → V → Hp → Prop
  | 0, x, y, _ => (∃ i : Int, x = .int i ∧ y = .int i) ∨ ∃ z : Str, x = .str z ∧ y = .str z
  | k + 1, x, y, H => (∃ i : Int, x = .int i ∧ y = .int i) ∨ (∃ z : Str, x = .str z ∧ y = .str z) ∨ ∃ a b xs ys, x = .ref a ∧ y = .ref b ∧ SqT K H a xs ∧ SqT K H b ys ∧ xs.length = ys.length ∧ ys.length ≤ 1000 ∧ ∀ (i : Nat) (u v : V), xs[i]? = some u → ys[i]? = some v → AlikeT K k u v H
theorem AlikeT.ex {K : PySem.W.Frag} {H H' : Hp} (e : Ex H H') : ∀ {k : Nat} {x y : V}, AlikeT K k x y H → AlikeT K k x y H'
  | 0, _, _, h => h
  | k + 1, _, _, h => by
    rcases h with h | h | ⟨a, b, xs, ys, h1, h2, h3, h4, h5, h6, h7⟩
    · exact .inl h
    · exact .inr (.inl h)
    · exact .inr (.inr ⟨a, b, xs, ys, h1, h2, _root_.Evl.ex_t e h3, _root_.Evl.ex_t e h4, h5, h6, fun i u v e1 e2 => AlikeT.ex e (h7 i u v e1 e2)⟩)
def spAlikeT (K : PySem.W.Frag) (k : Nat) : Sp := fun vs H Q _ => ∃ x y, vs = [x, y] ∧ AlikeT K k x y H ∧ Ret (IsV (.bl true)) H Q
def spAT (K : PySem.W.Frag) : Nat → Sp
  | 0 => fun _ _ _ _ => False
  | k + 1 => spAlikeT K k
section
variable {P : Program} {w : World} {K : PySem.W.Frag} {mg : Str → Option Value} {base : Heap}
theorem any_intT : PySem.W.kitAny K (.type "int") [.type "tuple", .type "list"] = some false := kitAny_cons (b := false) (kit_ty (by decide +kernel)) (fun _ => kitAny_cons (b := false) (kit_ty (by decide +kernel)) (fun _ => kitAny_nil) (fun z => nomatch z)) (fun z => nomatch z)
theorem any_strT : PySem.W.kitAny K (.type "str") [.type "tuple", .type "list"] = some false := kitAny_cons (b := false) (kit_ty (by decide +kernel)) (fun _ => kitAny_cons (b := false) (kit_ty (by decide +kernel)) (fun _ => kitAny_nil) (fun z => nomatch z)) (fun z => nomatch z)
theorem any_tupT : PySem.W.kitAny K (.type "tuple") [.type "tuple", .type "list"] = some true := kitAny_cons (b := true) (kit_ty (by decide +kernel)) (fun z => nomatch z) (fun _ => rfl)
theorem ok_alikeT0 {f : Addr} {fd : FuncData} : FnOk P w K mg base CX0 0 f fd p_law_alike (spAT K 0) := ⟨fun _ _ _ _ h => h.elim, fun _ _ _ _ _ _ _ _ _ _ _ _ _ h => h.elim⟩
theorem ok_alikeT {f : Addr} {fd : FuncData} (B : Bare mg) (F : Fun K "_law_alike" "_law_alike" s_law_alike f fd) (k : Nat) (Gs : Got P w K mg base CX0 k "_law_alike" p_law_alike (spAT K k)) : FnOk P w K mg base CX0 (k + 1) f fd p_law_alike (spAlikeT K k) := by
  refine F.ok sc_law_alike (fun vs H Q E h => ?_) (fun cdv A outer s H vs Q E hr h => ?_)
  · obtain ⟨x, y, rfl, _⟩ := h
    rfl
  · obtain ⟨x, y, rfl, hal, q⟩ := h
    have hr1 : Room k _ := hr
    refine ⟨_, pss_cons (ps_if (pt_val (pe_callB call_isiT (by rfl) B.isinstance (by decide +kernel) (pa_cons (pv 1) (pa_cons (pe_tup (pa_cons (pe_bltn (v := .ty "tuple") (by rfl) B.tuple (by decide +kernel) rfl) (pa_cons (pe_bltn (v := .ty "list") (by rfl) B.list (by decide +kernel) rfl) pa_nil))) pa_nil))))
        (pss_cons (ps_if (PW.pt (pw_or (pt_not (pt_val (pe_callB call_isiT (by rfl) B.isinstance (by decide +kernel) (pa_cons (pv 0) (pa_cons (pe_tup (pa_cons (pe_bltn (v := .ty "tuple") (by rfl) B.tuple (by decide +kernel) rfl) (pa_cons (pe_bltn (v := .ty "list") (by rfl) B.list (by decide +kernel) rfl) pa_nil))) pa_nil)))))
            (pw_or1 (pt_cmpR op_ne (pe_callB call_isi (by rfl) B.isinstance (by decide +kernel) (pa_cons (pv 0) (pa_cons (pe_bltn (v := .ty "list") (by rfl) B.list (by decide +kernel) rfl) pa_nil))) (pe_callB call_isi (by rfl) B.isinstance (by decide +kernel) (pa_cons (pv 1) (pa_cons (pe_bltn (v := .ty "list") (by rfl) B.list (by decide +kernel) rfl) pa_nil))) rfl))))
            (pss_one (ps_ret pe_bl)) pss_nil)
        (pss_cons (ps_if (pt_cmpR op_ne (pe_callB call_len_seq (by rfl) B.len PySem.boot_len (pa_cons (pv 0) pa_nil)) (pe_callB call_len_seq (by rfl) B.len PySem.boot_len (pa_cons (pv 1) pa_nil)) rfl) (pss_one (ps_ret pe_bl)) pss_nil)
        (pss_one (ps_ret (pe_cmpR (op_eqD hr.units) (pe_lc (own := [("k", 2)]) (g := gName 2) rfl sc_law_alike.nd (pi_range1 rfl B.range (pa_cons (pe_callB call_len_seq (by rfl) B.len PySem.boot_len (pa_cons (pv 1) pa_nil)) pa_nil)) (blkOk_by (N := n_law_alike) (sc := defScope s_law_alike) (by decide +kernel)) (fun _ _ _ _ _ => pg_name (i := 2) sc_law_alike.nd rfl (Or.inl rfl))
          (fun _ _ _ _ _ => pts_one (pt_not (pt_val (pe_got Gs hr1 pass0 (pa_cons (pe_ix (show IxR _ (rIxT K) from ix_tup) (pv 0) (pv 2) (fun _ _ => rfl)) (pa_cons (pe_ix (show IxR _ (rIxT K) from ix_tup) (pv 1) (pv 2) (fun _ _ => rfl)) pa_nil)))))) (fun _ _ _ _ _ => pv 2)) (pe_lst pa_nil) (nomark _)))))) pss_nil)
      (pss_cons (ps_if (PW.pt (pw_or (pt_cmp (pc_isN (pv 1))) (pw_or1 (pt_val (pe_callB call_isi (by rfl) B.isinstance (by decide +kernel) (pa_cons (pv 1) (pa_cons (pe_bltn (v := .ty "str") (by rfl) B.str (by decide +kernel) rfl) pa_nil)))))))
        (pss_one (ps_ret (pe_and (pe_cmpR op_eq (pv 0) (pv 1) rfl) (pe_one (pe_cmpR op_eq (pe_callB call_isi (by rfl) B.isinstance (by decide +kernel) (pa_cons (pv 0) (pa_cons (pe_bltn (v := .ty "str") (by rfl) B.str (by decide +kernel) rfl) pa_nil))) (pe_callB call_isi (by rfl) B.isinstance (by decide +kernel) (pa_cons (pv 1) (pa_cons (pe_bltn (v := .ty "str") (by rfl) B.str (by decide +kernel) rfl) pa_nil))) rfl))))) pss_nil)
      (pss_one (ps_ret (pe_and (pe_callB call_isi (by rfl) B.isinstance (by decide +kernel) (pa_cons (pv 0) (pa_cons (pe_bltn (v := .ty "int") (by rfl) B.int (by decide +kernel) rfl) pa_nil)))
        (pe_and (pe_cmpR op_eq (pe_callB call_isi (by rfl) B.isinstance (by decide +kernel) (pa_cons (pv 0) (pa_cons (pe_bltn (v := .ty "bool") (by rfl) B.bool (by decide +kernel) rfl) pa_nil))) (pe_callB call_isi (by rfl) B.isinstance (by decide +kernel) (pa_cons (pv 1) (pa_cons (pe_bltn (v := .ty "bool") (by rfl) B.bool (by decide +kernel) rfl) pa_nil))) rfl)
          (pe_one (pe_cmpR op_eq (pv 0) (pv 1) rfl))))))), ?_⟩
    have hh : (∃ i : Int, x = .int i ∧ y = .int i) ∨ (∃ z : Str, x = .str z ∧ y = .str z) ∨ ∃ j a b xs ys, k = j + 1 ∧ x = .ref a ∧ y = .ref b ∧ SqT K H a xs ∧ SqT K H b ys ∧ xs.length = ys.length ∧ ys.length ≤ 1000 ∧ ∀ (i : Nat) (u v : V), xs[i]? = some u → ys[i]? = some v → AlikeT K j u v H := by
      cases k with
      | zero => exact hal.elim .inl fun h => .inr (.inl h)
      | succ j =>
        rcases hal with h | h | ⟨a, b, xs, ys, h⟩
        · exact .inl h
        · exact .inr (.inl h)
        · exact .inr (.inr ⟨j, a, b, xs, ys, rfl, h⟩)
    have two : Paired ClsV [V.ty "tuple", V.ty "list"] [.type "tuple", .type "list"] := .cons (.ty _) (.cons (.ty _) .nil)
    rcases hh with ⟨i, rfl, rfl⟩ | ⟨z, rfl, rfl⟩ | ⟨j, a, b, xs, ys, rfl, rfl, rfl, ha, hb, hl, hz, hi⟩
    · refine ⟨_, rfl, (by show 2 ≤ sizeLine; decide), fun tp np => ?_⟩
      refine ⟨.int i, tp, _, .type "int", _, false, rfl, upd_same, two, .base (.int i), any_intT, false, rfl, iteF ?_⟩
      refine ⟨_, rfl, _, rfl, iteF ?_⟩
      refine ⟨_, rfl, .int i, .ty "str", .type "int", .type "str", false, rfl, .ty _, .base (.int i), kit_ty (by decide +kernel), false, rfl, iteF ?_⟩
      refine ⟨_, rfl, .int i, .ty "int", .type "int", .type "int", true, rfl, .ty _, .base (.int i), kit_ty (by decide +kernel), _, rfl, iteT ?_⟩
      refine ⟨_, rfl, .int i, .ty "bool", .type "int", .type "bool", false, rfl, .ty _, .base (.int i), kit_ty (by decide +kernel), ?_⟩
      refine ⟨_, rfl, .int i, .ty "bool", .type "int", .type "bool", false, rfl, .ty _, .base (.int i), kit_ty (by decide +kernel), rfl, ?_⟩
      refine ⟨_, rfl, iteT ?_⟩
      refine ⟨_, rfl, _, rfl, rfl, ?_⟩
      exact q _ _ (_root_.Evl.Ex.new np) (by show V.bl _ = V.bl _; simp)
    · refine ⟨_, rfl, (by show 2 ≤ sizeLine; decide), fun tp np => ?_⟩
      refine ⟨.str z, tp, _, .type "str", _, false, rfl, upd_same, two, .base (.str z), any_strT, false, rfl, iteF ?_⟩
      refine ⟨_, rfl, _, rfl, iteF ?_⟩
      refine ⟨_, rfl, .str z, .ty "str", .type "str", .type "str", true, rfl, .ty _, .base (.str z), kit_ty (by decide +kernel), true, rfl, iteT ?_⟩
      refine ⟨_, rfl, _, rfl, rfl, _, rfl, ite2 (fun _ => ?_) (fun c => absurd (decide_eq_true rfl) c)⟩
      refine ⟨_, rfl, .str z, .ty "str", .type "str", .type "str", true, rfl, .ty _, .base (.str z), kit_ty (by decide +kernel), ?_⟩
      refine ⟨_, rfl, .str z, .ty "str", .type "str", .type "str", true, rfl, .ty _, .base (.str z), kit_ty (by decide +kernel), rfl, ?_⟩
      exact q _ _ (_root_.Evl.Ex.new np) rfl
    · refine ⟨_, rfl, (by show 2 ≤ sizeLine; decide), fun tp np => ?_⟩
      have e1 : Ex H (upd H tp (.tup [.ty "tuple", .ty "list"])) := _root_.Evl.Ex.new np
      refine ⟨.ref b, tp, _, .type "tuple", _, true, rfl, upd_same, two, tyx_t (_root_.Evl.ex_t e1 hb), any_tupT, true, rfl, iteT ?_⟩
      refine ⟨_, rfl, (by show 2 ≤ sizeLine; decide), fun tp2 np2 => ?_⟩
      have e2 : Ex (upd H tp (.tup [.ty "tuple", .ty "list"])) (upd (upd H tp (.tup [.ty "tuple", .ty "list"])) tp2 (.tup [.ty "tuple", .ty "list"])) := _root_.Evl.Ex.new np2
      have e12 := e1.trans e2
      refine ⟨.ref a, tp2, _, .type "tuple", _, true, rfl, upd_same, two, tyx_t (_root_.Evl.ex_t e12 ha), any_tupT, true, rfl, iteF ?_⟩
      refine ⟨_, rfl, .ref a, .ty "list", .type "tuple", .type "list", false, rfl, .ty _, tyx_t (_root_.Evl.ex_t e12 ha), kit_ty (by decide +kernel), ?_⟩
      refine ⟨_, rfl, .ref b, .ty "list", .type "tuple", .type "list", false, rfl, .ty _, tyx_t (_root_.Evl.ex_t e12 hb), kit_ty (by decide +kernel), rfl, ?_⟩
      refine ⟨_, rfl, iteF ?_⟩
      refine ⟨_, rfl, a, xs, rfl, .inr (_root_.Evl.ex_t e12 ha), _, rfl, b, ys, rfl, .inr (_root_.Evl.ex_t e12 hb), rfl, _, rfl, ?_⟩
      refine ite2 (fun c => absurd (by rw [hl]) (dne c)) (fun _ => ?_)
      refine ⟨_, rfl, b, ys, rfl, .inr (_root_.Evl.ex_t e12 hb), _, rfl, by omega, by omega, ?_⟩
      refine lc_go (walk_range (lo := 0) (n := ((ys.length : Nat) : Int).toNat)) (by omega) (fun _ _ => trivial) (List.range ys.length) (by rw [List.length_range, Int.toNat_natCast]) (fun _ => false) (fun _ _ _ => True) (fun _ _ _ _ _ h => h) (fun i m x H3 H4 hn3 e3 yy C N hC hN => ?_) fun D zs H3 nD e3 hD hz0 => ?_
      · obtain ⟨rfl, ex⟩ := yy
        have ex' : x = V.int ((i : Nat) : Int) := ex.trans (by show V.int _ = V.int _; rw [Int.zero_add])
        subst ex'
        have hi0 : i < ys.length := by
          have := (List.getElem?_eq_some_iff.mp hn3).1
          rwa [List.length_range] at this
        have hi1 : i < xs.length := by omega
        refine ⟨rfl, _, rfl, _, rfl, a, xs, _, xs[i], rfl, rfl, _root_.Evl.ex_t (e12.trans e3) ha, at_of rfl (List.getElem?_eq_getElem hi1), _, rfl, _, rfl, b, ys, _, ys[i], rfl, rfl, _root_.Evl.ex_t (e12.trans e3) hb, at_of rfl (List.getElem?_eq_getElem hi0), xs[i], ys[i], rfl, (hi i _ _ (List.getElem?_eq_getElem hi1) (List.getElem?_eq_getElem hi0)).ex (e12.trans e3), fun z H5 e5 ez => ?_⟩
        cases (show z = _ from ez)
        exact ⟨_, rfl, hN rfl _ e5⟩
      · have hz1 : Paired (fun y d => True) zs ((List.range ys.length).filter fun _ => false) := hz0
        have l0 : zs.length = 0 := by
          rw [pr_len hz1]
          simp
        have : zs = [] := List.length_eq_zero_iff.mp l0
        subst this
        refine ⟨Nat.zero_le _, fun g1 ng1 => ?_⟩
        have e4 : Ex H3 (upd H3 g1 (.lst [])) := _root_.Evl.Ex.new ng1
        refine ⟨.list [], .list [], .lst (SqL.of (e4 _ _ hD)) .nil, .lst (SqL.of upd_same) .nil, rfl, rfl, ?_⟩
        exact q _ _ ((e12.trans e3).trans e4) rfl
end
end K01


set_option Elab.async false
set_option linter.all false
set_option maxRecDepth 100000
set_option maxHeartbeats 4000000
/-! What the law holds side by side -/
namespace Prg
theorem InsOk.up {p : Int} {sl wl n sl' wl' n' : Nat} {kept kept' : Bool} {x : Ins} (X : InsOk p sl wl n kept x) (h1 : sl ≤ sl') (h2 : wl ≤ wl') (h3 : n ≤ n') (h4 : kept = true → kept' = true) : InsOk p sl' wl' n' kept' x :=
  ⟨fun z => Nat.lt_of_lt_of_le (X.see z) h1, fun z => Nat.lt_of_lt_of_le (X.wri z) h2, X.put, fun z => Nat.le_trans (X.jmp z) h3, fun z => h4 (X.wait z)⟩
theorem PrgOk.wait {p : Int} {c sl wl : Nat} {P : List Ins} (X : PrgOk p c c false P) (h1 : c ≤ sl) (h2 : c ≤ wl) : PrgOk p sl wl true (P ++ [(.wait, 0)]) := fun i x hx => by
  rw [List.length_append, List.length_singleton]
  rcases Nat.lt_or_ge i P.length with z | z
  · rw [List.getElem?_append_left z] at hx
    exact (X i x hx).up h1 h2 (Nat.le_succ _) fun z => by cases z
  · rw [List.getElem?_append_right z] at hx
    have : x = (.wait, 0) := by
      cases e : i - P.length with
      | zero => rw [e] at hx; exact (Option.some.inj hx).symm
      | succ m => rw [e] at hx; cases hx
    subst this
    exact ⟨fun z => absurd z (by decide), fun z => absurd z (by decide), fun z => absurd z (by decide), fun z => absurd z (by decide), fun _ => rfl⟩
theorem nth_said {p : Int} {A W S : List Lin.Row} {P : List Ins} {ins : List Int} {s : St} : ∀ t, (nth p A W S P ins s t).said.length ≤ s.said.length + t
  | 0 => Nat.le_refl _
  | t + 1 => by
    have ih := nth_said (p := p) (A := A) (W := W) (S := S) (P := P) (ins := ins) (s := s) t
    show (step p A W S P ins (nth p A W S P ins s t)).said.length ≤ _
    generalize nth p A W S P ins s t = u at ih ⊢
    unfold step
    cases P[u.pl]? with
    | none => show u.said.length ≤ _; omega
    | some x =>
      obtain ⟨w, k⟩ := x
      cases w with
      | say => show (u.said ++ [u.h]).length ≤ _; rw [List.length_append, List.length_singleton]; omega
      | _ => show u.said.length ≤ _; omega
end Prg
namespace K01
open PySem PySem.Spec PyProof.Rows L2 Prg
section
variable {K : PySem.W.Frag} {H : Hp}
theorem alikeT_row {r : Row} {v u : V} (h : RowT K r v H) (h' : RowT K r u H) (hl : r.length ≤ 1000) : AlikeT K 1 v u H := by
  obtain ⟨a, rfl, ha⟩ := h
  obtain ⟨b, rfl, hb⟩ := h'
  refine .inr (.inr ⟨a, b, _, _, rfl, rfl, ha, hb, rfl, by rw [List.length_map]; exact hl, fun i u v e1 e2 => ?_⟩)
  obtain ⟨x, hx, rfl⟩ := map_get e1
  obtain ⟨y, hy, rfl⟩ := map_get e2
  rw [hx] at hy
  exact .inl ⟨x, rfl, by rw [Option.some.inj hy]⟩
theorem alikeT_run {said : List Int} {word : Str} {T : Nat} {v u : V} (h : RunV K said word T v H) (h' : RunV K said word T u H) (hl : said.length ≤ 1000) : AlikeT K 2 v u H := by
  obtain ⟨a, s, rfl, ha, hs⟩ := h
  obtain ⟨b, t, rfl, hb, ht⟩ := h'
  refine .inr (.inr ⟨a, b, _, _, rfl, rfl, ha, hb, rfl, (by show 3 ≤ 1000; decide), fun i u v e1 e2 => ?_⟩)
  match i, e1, e2 with
  | 0, e1, e2 => obtain rfl := Option.some.inj e1; obtain rfl := Option.some.inj e2; exact alikeT_row ⟨s, rfl, hs⟩ ⟨t, rfl, ht⟩ hl
  | 1, e1, e2 => obtain rfl := Option.some.inj e1; obtain rfl := Option.some.inj e2; exact .inr (.inl ⟨word, rfl, rfl⟩)
  | 2, e1, e2 => obtain rfl := Option.some.inj e1; obtain rfl := Option.some.inj e2; exact .inl ⟨_, rfl, rfl⟩
theorem alikeT_end {p : Int} {A W S : List Row} {P : List Ins} {ins : List Int} {m : Row} {most : Nat} {v u : V} (h : EndT K p A W S P ins m most v H) (h' : EndT K p A W S P ins m most u H) (hl : most ≤ 1000) : AlikeT K 2 v u H := by
  obtain ⟨T, e1, r1⟩ := h
  obtain ⟨T', e2, r2⟩ := h'
  have := e1.one e2
  subst this
  refine alikeT_run r1 r2 ?_
  have := nth_said (p := p) (A := A) (W := W) (S := S) (P := P) (ins := ins) (s := start P m) T
  have h2 := e1.1
  have : (start P m).said.length = 0 := rfl
  omega
theorem alikeT_names {P : List Ins} {v u : V} (h : NamesT K P v H) (h' : NamesT K P u H) {n : Nat} (hn : n ≤ 1000) (hb : ∀ k, Named P k → 0 ≤ k ∧ k < (n : Nat)) : AlikeT K 1 v u H := by
  obtain ⟨zs, r1, a1, m1⟩ := h
  obtain ⟨ws, r2, a2, m2⟩ := h'
  have := asc_ext a1 a2 fun k => (m1 k).trans (m2 k).symm
  subst this
  refine alikeT_row r1 r2 ?_
  have := Lin.nd_len (xs := zs) (ys := (List.range n).map fun i => ((i : Nat) : Int)) (a1.imp fun h => Int.ne_of_lt h) fun k hk => by
    have := hb k ((m1 k).1 hk)
    exact List.mem_map.mpr ⟨k.toNat, List.mem_range.mpr (by omega), by omega⟩
  rw [List.length_map, List.length_range] at this
  omega
theorem named_lt {p : Int} {c : Nat} {kept : Bool} {P : List Ins} (X : PrgOk p c c kept P) {k : Int} (h : Named P k) : 0 ≤ k ∧ k < (c : Nat) := by
  obtain ⟨i, x, m, hx, sw, rfl⟩ := h
  have := X i x hx
  cases es : see x.1 with
  | true => have := this.see es; omega
  | false =>
    rw [es, Bool.false_or] at sw
    have := this.wri sw
    omega
theorem prgT_wait {P : List Ins} {a : Addr} {xs : List V} {t : Addr} (p : Paired (fun x i => IVof K i x H) xs (P.map iv)) (ht : SqT K H t [.str "wait"]) : Paired (fun x i => IVof K i x H) (xs ++ [.ref t]) ((P ++ [((.wait : Wd), 0)]).map iv) := by
  rw [List.map_append]
  exact pr_snoc p ⟨t, rfl, ht⟩
end
end K01


set_option Elab.async false
set_option linter.all false
set_option maxRecDepth 100000
set_option maxHeartbeats 4000000
/-! How long a round can be -/
namespace Lin
section
variable {p : Int} {n : Nat} {S A : List Row} {v : Row}
theorem comes_round_le (hp : 1 < p) (hA : Oks p n A) (hl : A.length = n) (hS : Rref p n S) (hn : S.length = n) (sS : Same p n S A) (hv : OkR p n v) : ∃ t, 1 ≤ t ∧ t ≤ p.toNat ^ n ∧ it p A t v = v := by
  have hp0 : 0 < p := by omega
  refine Classical.byContradiction fun no => ?_
  have ne : ∀ i j, i < j → j ≤ p.toNat ^ n → it p A i v ≠ it p A j v := fun i j hij hj e => by
    refine no ⟨j - i, by omega, by omega, ?_⟩
    rw [show j = i + (j - i) by omega, it_add] at e
    exact (it_inj hp hA hl hS hn sS i hv (it_ok hp0 hl hv _) e).symm
  have nd : ((List.range (p.toNat ^ n + 1)).map fun t => it p A t v).Nodup := by
    rw [List.Nodup, List.pairwise_map]
    refine (List.pairwise_lt_range (n := p.toNat ^ n + 1)).imp_of_mem fun {a b} ha hb h => ne a b h ?_
    have := List.mem_range.mp hb
    omega
  have := nd_len nd (ys := allRows p n) fun x hx => (mem_all hp0).2 (by
    obtain ⟨t, _, e⟩ := List.mem_map.mp hx
    rw [← e]
    exact it_ok hp0 hl hv t)
  rw [List.length_map, List.length_range, all_len] at this
  omega
theorem all_round_le (hp : 1 < p) (hA : Oks p n A) (hl : A.length = n) (hS : Rref p n S) (hn : S.length = n) (sS : Same p n S A) : ∀ {vs : List Row}, Oks p n vs → ∃ t, 1 ≤ t ∧ t ≤ (p.toNat ^ n) ^ vs.length ∧ ∀ v ∈ vs, it p A t v = v
  | [], _ => ⟨1, Nat.le_refl _, by simp, fun v hv => by cases hv⟩
  | v :: l, h => by
    obtain ⟨t, h1, h2, h3⟩ := all_round_le hp hA hl hS hn sS (vs := l) fun x hx => h x (List.mem_cons_of_mem _ hx)
    obtain ⟨s, g1, g2, g3⟩ := comes_round_le hp hA hl hS hn sS (h v List.mem_cons_self)
    refine ⟨t * s, Nat.mul_pos h1 g1, ?_, fun x hx => ?_⟩
    · rw [List.length_cons, Nat.pow_succ]
      exact Nat.mul_le_mul h2 g2
    · rcases List.mem_cons.mp hx with z | z
      · rw [z, Nat.mul_comm]; exact it_mul g3 t
      · exact it_mul (h3 x z) s
theorem round_le (hp : 1 < p) (hA : Oks p n A) (hl : A.length = n) (hS : Rref p n S) (hn : S.length = n) (sS : Same p n S A) : ∃ t, 1 ≤ t ∧ t ≤ (p.toNat ^ n) ^ n ∧ pw p n A t = units n := by
  obtain ⟨t, h1, h2, h3⟩ := all_round_le hp hA hl hS hn sS (units_ok (n := n) hp)
  rw [units_len] at h2
  exact ⟨t, h1, h2, (pw_still hp hA hl t).2 h3⟩
end
end Lin
namespace K01
theorem full_round_le {p : Int} {n : Nat} {A : List Row} (hp : 1 < p) (P_ : Lin.Prm p) (oA : Lin.Oks p n A) (lA : A.length = n) (f : Lin.Full p n A) {T : Nat} (h3 : ∀ s, 1 ≤ s → s < T → Lin.pw p n A s ≠ Lin.units n) : T ≤ (p.toNat ^ n) ^ n := by
  obtain ⟨S, rS, sS⟩ := Lin.exists_rref hp P_ oA
  obtain ⟨t, t1, t2, t3⟩ := Lin.round_le hp oA lA rS ((Lin.full_rank hp rS sS).1 f) sS
  rcases Nat.lt_or_ge t T with z | z
  · exact absurd t3 (h3 t t1 z)
  · omega
theorem small_round {p : Int} {n : Nat} (h : p = 2 ∨ p = 3 ∨ p = 5 ∨ p = 7) (hn : n ≤ 3) : (p.toNat ^ n) ^ n ≤ 40353607 := by
  rw [← Nat.pow_mul]
  have h9 : n * n ≤ 9 := Nat.mul_le_mul hn hn
  have : ∀ b : Nat, 0 < b → b ≤ 7 → b ^ (n * n) ≤ 40353607 := fun b b0 b7 => Nat.le_trans (Nat.pow_le_pow_left b7 _) (Nat.le_trans (Nat.pow_le_pow_right (n := 7) (by decide) h9) (by decide))
  rcases h with rfl | rfl | rfl | rfl
  · exact this 2 (by decide) (by decide)
  · exact this 3 (by decide) (by decide)
  · exact this 5 (by decide) (by decide)
  · exact this 7 (by decide) (by decide)
theorem AlikeT.up {K : PySem.W.Frag} {H : L2.Hp} : ∀ {k : Nat} {x y : L2.V}, AlikeT K k x y H → AlikeT K (k + 1) x y H
  | 0, _, _, h => h.elim .inl fun h => .inr (.inl h)
  | k + 1, _, _, h => by
    rcases h with h | h | ⟨a, b, xs, ys, h1, h2, h3, h4, h5, h6, h7⟩
    · exact .inl h
    · exact .inr (.inl h)
    · exact .inr (.inr ⟨a, b, xs, ys, h1, h2, h3, h4, h5, h6, fun i u v e1 e2 => AlikeT.up (h7 i u v e1 e2)⟩)
end K01


set_option Elab.async false
set_option linter.all false
set_option maxRecDepth 100000
set_option maxHeartbeats 8000000
namespace K01
open PySem PySem.Spec PyProof.Rows L2 Prg
section
variable {P : Program} {w : World} {K : PySem.W.Frag} {mg : Str → Option Value} {base : Heap}
structure Defs (P : Program) (w : World) (K : PySem.W.Frag) (mg : Str → Option Value) (base : Heap) (CB CM CI CP : Addr) : Prop where
  taken : Got P w K mg base CX0 1 "_law_taken" p_law_taken (spTaken K)
  pickW : Got P w K mg base CX0 2 "_law_pick" p_law_pick (spPickW K)
  row : Got P w K mg base CX0 2 "_law_row" p_law_row (spRow K)
  machine : Got P w K mg base CX0 3 "_law_machine" p_law_machine (spMachine K)
  stirred : Got P w K mg base CX0 2 "_law_stirred" p_law_stirred (spStirred K)
  alike : Got P w K mg base CX0 3 "_law_alike" p_law_alike (spAlikeT K 2)
  program : Got P w K mg base CX0 3 "_law_program" p_law_program (spLProg K)
  lrun : Got P w K mg base CX0 4 "_law_run" p_law_run (spLRun K)
  plain : Got P w K mg base CX0 2 "_law_plain" p_law_plain (spStillM K)
  lused : Got P w K mg base CX0 2 "_law_used" p_law_used (spNamesL K)
  behind : Got P w K mg base (L2.CX P w) 9 "behind_ticks" p_behind_ticks (spBehind K CM)
  turns : Got P w K mg base (L2.CX P w) 9 "turns" p_turns (AsksF K CB rTurns)
  runSl : Got P w K mg base (L2.CX P w) 5 "run_still" p_run_still (spRunSl K CP)
  used : Got P w K mg base (L2.CX P w) 5 "used" p_used (spUsed K)
  runSt : Got P w K mg base (L2.CX P w) 9 "run_stirred" p_run_stirred (spRunSt K CI)
theorem listT_eqv (rs ss : List Row) : PyData.eqv (.list (rs.map rowD)) (.list (ss.map rowD)) = decide (rs = ss) := by
  rw [PyData.eqv, tabD_all]
theorem map_self {α : Type} {f : α → α} : ∀ {l : List α}, l.map f = l ↔ ∀ v ∈ l, f v = v
  | [] => ⟨(fun _ v hv => by cases hv), fun _ => rfl⟩
  | x :: l => by
    rw [List.map_cons, List.cons.injEq, map_self, List.forall_mem_cons]
theorem RunV.ex {said : List Int} {wd : Str} {T : Nat} {v : V} {H H' : Hp} (e : Ex H H') (h : RunV K said wd T v H) : RunV K said wd T v H' := by
  obtain ⟨c, s, z, h1, h2⟩ := h
  exact ⟨c, s, z, _root_.Evl.ex_t e h1, _root_.Evl.ex_t e h2⟩
theorem EndT.ex {p : Int} {A W S : List Row} {P : List Ins} {ins : List Int} {m : Row} {most : Nat} {v : V} {H H' : Hp} (e : Ex H H') (h : EndT K p A W S P ins m most v H) : EndT K p A W S P ins m most v H' := by
  obtain ⟨T, h1, h2⟩ := h
  exact ⟨T, h1, h2.ex e⟩
theorem NamesT.ex {P : List Ins} {v : V} {H H' : Hp} (e : Ex H H') (h : NamesT K P v H) : NamesT K P v H' := by
  obtain ⟨zs, h1, h2⟩ := h
  exact ⟨zs, h1.ex e, h2⟩
theorem ints_all {p : Int} : ∀ {ys : List V}, (∀ y ∈ ys, ∃ i : Int, y = .int i ∧ 0 ≤ i ∧ i < p) → ∃ ins : List Int, ys = ins.map V.int ∧ ∀ x ∈ ins, 0 ≤ x ∧ x < p
  | [], _ => ⟨[], rfl, fun x hx => by cases hx⟩
  | y :: l, h => by
    obtain ⟨i, e, h1⟩ := h y List.mem_cons_self
    obtain ⟨ins, e2, h2⟩ := ints_all (ys := l) fun z hz => h z (List.mem_cons_of_mem _ hz)
    refine ⟨i :: ins, by rw [e, e2]; rfl, fun x hx => ?_⟩
    rcases List.mem_cons.mp hx with z | z
    · rw [z]; exact h1
    · exact h2 x z
end
end K01


set_option Elab.async false
set_option linter.all false
set_option maxRecDepth 100000
set_option maxHeartbeats 4000000
/-! The five odd machines -/
namespace K01
open PySem PySem.Spec PyProof.Rows L2 Prg
theorem sp_nought {p : Int} {v : Row} (h : Lin.Sp p 1 [[0]] v) : v = [0] := by
  induction h with
  | zero => rfl
  | step c _ hr ih =>
    rw [ih, List.mem_singleton.mp hr]
    simp [Lin.add]
section
variable {K : PySem.W.Frag} {H : Hp} {p : Int} {n : Nat} {A : List Row} {a w s : V} {t b c : Addr}
theorem wp_none : WP K H .non (some "machine") := .noTup fun H' _ => ⟨"NoneType", .base .non, by decide +kernel⟩
theorem wp_four (h : SqT K H t [.int 4, a, w, s]) : WP K H (.ref t) (some "prime") := .prime h (.int 4) (by decide)
theorem wp_flat (prm : isPrm (.int p) = true) (h : SqT K H t [.int p, .ref b, w, s]) (hb : SqT K H b [.ref c]) (hc : SqT K H c [.int 0]) : WP K H (.ref t) (some "stir") := by
  have pb := prm_bd prm
  refine .flat (n := 1) (A := [[0]]) h prm ⟨b, _, rfl, hb, .cons ⟨c, rfl, hc⟩ .nil⟩ (fun r hr => ?_) rfl (by decide) (by decide) fun f => ?_
  · rw [List.mem_singleton.mp hr]
    exact ⟨rfl, fun x hx => by rw [List.mem_singleton.mp hx]; omega⟩
  · have := sp_nought (f [1] ⟨rfl, fun x hx => by rw [List.mem_singleton.mp hx]; omega⟩)
    simp at this
theorem wp_writes (prm : isPrm (.int p) = true) (st : StirOk K H p n A a) (h : SqT K H t [.int p, a, .ref b, s]) (hb : SqT K H b []) : WP K H (.ref t) (some "writes") :=
  .writes (fss := []) h prm st ⟨b, [], rfl, hb, .nil⟩ ⟨Nat.zero_le _, fun _ z => by cases z⟩ rfl
theorem wp_sights {W : List Row} (prm : isPrm (.int p) = true) (st : StirOk K H p n A a) (hW : RowsT K W w H) (oW : Lin.Oks p n W) (w1 : 1 ≤ W.length) (w4 : W.length ≤ 4) (h : SqT K H t [.int p, a, w, .ref b]) (hb : SqT K H b [.ref c]) (hc : SqT K H c (List.replicate n (.int p))) : WP K H (.ref t) (some "sights") := by
  have n1 := st.n1
  have n4 := st.n4
  refine .sights (fss := [List.replicate n (.int p)]) h prm st hW oW w1 w4 ⟨b, _, rfl, hb, .cons ⟨c, rfl, hc⟩ .nil⟩ ⟨(by show 1 ≤ 1000; decide), fun fs hfs => ?_⟩ ?_
  · rw [List.mem_singleton.mp hfs]
    exact ⟨by rw [List.length_replicate]; omega, fun f hf => by rw [(List.mem_replicate.mp hf).2]; exact .int p⟩
  · obtain ⟨m, rfl⟩ : ∃ m, n = m + 1 := ⟨n - 1, by omega⟩
    simp [isRowsB, isRowB, isNum, List.replicate_succ]
    omega
end
end K01


set_option Elab.async false
set_option linter.all false
set_option maxRecDepth 100000
set_option maxHeartbeats 4000000
/-! All but lists and tables stands; slots by number; the lambdas of a text -/
namespace K01
open PySem PySem.Spec PyProof.Rows L2 LamX
/-- all but the lists and the tables of code objects stands -/
def Kp (H H' : Hp) : Prop := ∀ a o, H a = some o → (∀ xs, o ≠ .lst xs) → (∀ ps, o ≠ .tbl ps) → H' a = some o
theorem Kp.refl (H : Hp) : Kp H H := fun _ _ h _ _ => h
theorem Kp.trans {H H1 H2 : Hp} (a : Kp H H1) (b : Kp H1 H2) : Kp H H2 := fun c o h n t => b c o (a c o h n t) n t
theorem ExN.k {H H' : Hp} (e : ExN H H') : Kp H H' := fun a o h n _ => e a o h n
theorem Ex.k {H H' : Hp} (e : Ex H H') : Kp H H' := fun a o h _ _ => e a o h
theorem ExtN.k {H H' : Hp} (e : ExtN H H') : Kp H H' := fun a o h _ t => e a o h t
theorem kp_new {H : Hp} {a : Addr} {o : HO} (n : H a = none) : Kp H (upd H a o) := (ExtN.k (extN_new n))
theorem kp_lst {H : Hp} {a : Addr} {xs : List V} {o : HO} (h : H a = some (.lst xs)) : Kp H (upd H a o) := fun b u e nl _ => by
  rw [upd_ne (fun z => by rw [z, h] at e; exact nl xs (Option.some.inj e).symm)]
  exact e
section
variable {K : PySem.W.Frag} {H H' : Hp}
theorem sqt_k {a : Addr} {xs : List V} (e : Kp H H') (h : SqT K H a xs) : SqT K H' a xs := by
  rcases h with (h | ⟨o, h⟩) | h
  · exact .inl (.inl (e _ _ h (fun _ z => by cases z) (fun _ z => by cases z)))
  · exact .inl (.inr ⟨o, e _ _ h (fun _ z => by cases z) (fun _ z => by cases z)⟩)
  · exact .inr h
theorem RowT.k {r : Row} {v : V} (e : Kp H H') (h : RowT K r v H) : RowT K r v H' := by
  obtain ⟨a, z, q⟩ := h
  exact ⟨a, z, sqt_k e q⟩
theorem RowsT.k {rs : List Row} {v : V} (e : Kp H H') (h : RowsT K rs v H) : RowsT K rs v H' := by
  obtain ⟨a, vs, z, q, p⟩ := h
  exact ⟨a, vs, z, sqt_k e q, pr_mono p fun _ _ x => x.k e⟩
theorem TupF.k {fs : List V} {v : V} (e : Kp H H') (h : TupF K fs v H) : TupF K fs v H' := by
  obtain ⟨a, z, q⟩ := h
  exact ⟨a, z, sqt_k e q⟩
theorem MachT.k {p : Int} {A W S : List Row} {v : V} (e : Kp H H') (h : MachT K p A W S v H) : MachT K p A W S v H' := by
  obtain ⟨m, a, w, s, h1, h2, h3, h4, h5⟩ := h
  exact ⟨m, a, w, s, h1, sqt_k e h2, h3.k e, h4.k e, h5.k e⟩
theorem IsLam.k {env : Env} {ps : Arguments} {b : Expr} {sc0 : Scope} {dd : Option Int} {f : Addr} (k : Kp H H') (h : IsLam env ps b sc0 dd f H) : IsLam env ps b sc0 dd f H' := by
  obtain ⟨c', dV, pm, ct, h1, h2, h3⟩ := h
  refine ⟨c', dV, pm, ct, k _ _ h1 (fun xs z => by unfold FunO at z; cases z) (fun xs z => by unfold FunO at z; cases z), k _ _ h2 (fun xs z => by unfold CodeO at z; cases z) (fun xs z => by unfold CodeO at z; cases z), ?_⟩
  cases dd with
  | none => exact h3
  | some i =>
    obtain ⟨t, h4, h5⟩ := h3
    exact ⟨t, h4, k _ _ h5 (fun _ z => by cases z) (fun _ z => by cases z)⟩
theorem tabs_n {T : List (Addr × Str)} (k : ExN H H') (h : Tabs T H) : Tabs T H' := by
  intro q hq
  obtain ⟨ps, h1, h2, h3⟩ := h q hq
  refine ⟨ps, k _ _ h1 (fun _ z => by cases z), h2, fun pos cv hc => ?_⟩
  obtain ⟨c, e1, e2⟩ := h3 pos cv hc
  exact ⟨c, e1, k _ _ e2 fun xs z => by unfold CodeO at z; cases z⟩
theorem sql_xt {a : Addr} {xs : List V} (e : ExtN H H') (h : SqL K H a xs) : SqL K H' a xs := by
  rcases h with (h | ⟨o, h⟩) | h
  · exact .inl (.inl (e _ _ h fun _ z => by cases z))
  · exact .inl (.inr ⟨o, e _ _ h fun _ z => by cases z⟩)
  · exact .inr h
theorem Row0.xt {a sc : Addr} {ns : List Int} (e : ExtN H H') (h : Row0 K a sc ns H) : Row0 K a sc ns H' := by
  obtain ⟨i, sd, gr, h1, h2, h3, h4⟩ := h
  exact ⟨i, sd, gr, e _ _ h1 fun _ z => (by cases z), h2, sql_xt e h3, h4⟩
end
/-! ### slots -/
def Keep (n : Nat) (L : List (Nat × V)) (σ : L2.St) : Prop := σ.length = n ∧ ∀ i v, (i, v) ∈ L → σ[i]? = some (some v)
section
variable {n : Nat} {L : List (Nat × V)} {σ : L2.St}
theorem lookup_mem : ∀ {L : List (Nat × V)} {i : Nat} {v : V}, L.lookup i = some v → (i, v) ∈ L
  | [], _, _, h => by cases h
  | (j, u) :: L, i, v, h => by
    rw [List.lookup_cons] at h
    by_cases e : i = j
    · subst e
      rw [show (i == i) = true by simp] at h
      cases h
      exact List.mem_cons_self
    · rw [show (i == j) = false by simp [e]] at h
      exact List.mem_cons_of_mem _ (lookup_mem h)
theorem Keep.get (h : Keep n L σ) {i : Nat} {v : V} (m : L.lookup i = some v) : σ[i]? = some (some v) := h.2 i v (lookup_mem m)
theorem not_in {i : Nat} (d : (L.map (·.1)).contains i = false) : i ∉ L.map (·.1) := fun z => by
  rw [List.contains_iff_mem.mpr z] at d
  cases d
theorem Keep.put {i : Nat} (x : Option V) (h : Keep n L σ) (d : (L.map (·.1)).contains i = false) : Keep n L (σ.set i x) := by
  have d := not_in d
  refine ⟨by rw [List.length_set]; exact h.1, fun j v m => ?_⟩
  rw [List.getElem?_set_ne (fun z => d (by rw [z]; exact List.mem_map_of_mem (f := (·.1)) m))]
  exact h.2 j v m
theorem Keep.add {i : Nat} {v : V} (h : Keep n L σ) (hi : i < n) (d : (L.map (·.1)).contains i = false) : Keep n ((i, v) :: L) (σ.set i (some v)) := by
  have h2 := h.put (some v) d
  refine ⟨h2.1, fun j u m => ?_⟩
  rcases List.mem_cons.mp m with z | z
  · cases z
    exact List.getElem?_set_self (by rw [h.1]; exact hi)
  · exact h2.2 j u z
theorem Keep.sub {L' : List (Nat × V)} (h : Keep n L σ) (s : ∀ x ∈ L', x ∈ L) : Keep n L' σ := ⟨h.1, fun i v m => h.2 i v (s _ m)⟩
theorem Keep.at_ {i : Nat} {x : Option V} (h : Keep n L σ) (hi : i < n) : (σ.set i x)[i]? = some x := List.getElem?_set_self (by rw [h.1]; exact hi)
end
/-! ### lambdas -/
def noLam : Arguments × Expr × Scope := (⟨[], [], none, [], [], none, []⟩, .Constant .none 0 ⟨0, 0, 0, 0⟩, ⟨.function, [], false, false, []⟩)
def lamOf : Option Expr → Arguments × Expr × Scope
  | some (.Lambda a b c _) => (a, b, c)
  | _ => noLam
def lamWB (out sc : Scope) (N : List Str) : Bool :=
  decide (sc.kind = .function) && !sc.isCoroutine && !sc.isGenerator && sc.names.all fun y => !decide (y.2 = .cell) && (!decide (y.2 = .local) || !N.contains y.1) && (!decide (y.2 = .free) || decide (out.names.lookup y.1 = some .cell) || decide (out.names.lookup y.1 = some .free))
theorem lamW_by {out sc : Scope} {N : List Str} (h : lamWB out sc N = true) : LamW out sc N := by
  unfold lamWB at h
  simp only [Bool.and_eq_true, Bool.or_eq_true, Bool.not_eq_true', decide_eq_true_eq, decide_eq_false_iff_not, List.all_eq_true] at h
  obtain ⟨⟨⟨h1, h2⟩, h3⟩, h4⟩ := h
  refine ⟨h1, h2, h3, fun y hy => ⟨(h4 y hy).1.1, fun e hm => ?_⟩, fun y hy e => ?_⟩
  · rcases (h4 y hy).1.2 with z | z
    · exact z e
    · rw [List.contains_iff_mem.mpr hm] at z
      cases z
  · rcases (h4 y hy).2 with (z | z) | z
    · exact absurd e z
    · exact .inl z
    · exact .inr z
end K01


set_option Elab.async false
set_option linter.all false
set_option maxRecDepth 100000
set_option maxHeartbeats 8000000
namespace K01
open PySem PySem.Spec PyProof.Rows L2 LamX Prg
abbrev LX (P : Program) (w : World) (K : PySem.W.Frag) (mg : Str → Option Value) (base : Heap) (f c : Addr) (A : Around) (outer : List Env) (s : Shared) (H : Hp) (E : XK) : Cx := cxOf (L2.CX P w) P w K mg base n_law "law" (defScope s_law) f (.ref c) A outer s H E
def bodyAt (i : Nat) : Stmt := (defBody s_law).getD i (.Pass ⟨0, 0, 0, 0⟩)
def tryO : List Stmt := match bodyAt 20 with | .For _ _ b _ _ => b | _ => []
section
variable {P : Program} {w : World} {K : PySem.W.Frag} {mg : Str → Option Value} {base : Heap}
theorem oddTry {f c CB CM CI CP : Addr} (gB : mg "BadMachine" = some (.ref CB)) (xB : XfC K CB) (noB : PySem.W.findIn K (.ref CB) "part" = some none) (bb : PySem.W.exmOne K (.ref CB) (.ref CB) = some true) (G : Defs P w K mg base CB CM CI CP) {A : Around} {outer : List Env} {s0 : Shared} {H0 : Hp} {Ez : XK}
    (hr : Room 9 (LX P w K mg base f c A outer s0 H0 Ez).A) : ∃ tB : TS, PSs (LX P w K mg base f c A outer s0 H0 Ez) tryO tB ∧
    ∀ (D : Ends) (σ : L2.St) (G0 : Hp) (v : V) (z : Str), Keep 28 [(21, v), (22, .str z)] σ → WP K G0 v (some z) → (∀ x y G', Ex G0 G' → D.nx ((σ.set 23 x).set 23 y) G') → tB D σ G0 := by
  refine ⟨_, (show PSs _ tryO _ from pss_one (ps_try_as (i := 23) rfl rfl sc_law.nd rfl rfl ⟨rfl, by decide, .inl gB⟩ (takes_of rfl rfl rfl rfl)
          (fun W pn xe tk _ => pss_cons (ps_expr (pe_gotS G.turns hr (fun σ => passAt tk σ) (pa_cons (pv 21) pa_nil))) (pss_one (ps_ret pe_bl)))
          (fun a oe cls d pn hz hf => pss_one (ps_if (pt_cmpR op_ne (pe_xf xB noB hz hf (pv 23)) (pv 22) (nomark _)) (pss_one (ps_ret pe_bl)) pss_nil)))), fun D σ G0 v z hk hw q => ?_⟩
  refine ⟨_, hk.get rfl, v, rfl, .inl ⟨z, hw, fun d H' e' hd => ?_⟩⟩
  refine ⟨true, bb, (fun _ ae hae => ?_), fun q => Bool.noConfusion q⟩
  have k2 := hk.put (i := 23) (some (.ref ae)) rfl
  refine ⟨_, hk.at_ (by decide), rfl, rfl, _, _, _, rfl, hd, rfl, _, k2.get rfl, rfl, _, rfl, ite2 (fun c => by simp at c) (fun _ => ?_)⟩
  exact q _ _ _ e'
end
end K01


set_option Elab.async false
set_option linter.all false
set_option maxRecDepth 100000
set_option maxHeartbeats 8000000
namespace K01
open PySem PySem.Spec PyProof.Rows L2 LamX Prg
theorem IVof.k {K : PySem.W.Frag} {H H' : Hp} (e : Kp H H') : ∀ {i : IV} {v : V}, IVof K i v H → IVof K i v H'
  | .num _, _, h => h
  | .one _, _, h => TupF.k e h
  | .two _ _, _, h => TupF.k e h
theorem IVsT.k {K : PySem.W.Frag} {H H' : Hp} (e : Kp H H') {is : List IV} {v : V} (h : IVsT K is v H) : IVsT K is v H' := by
  obtain ⟨a, vs, z, q, p⟩ := h
  exact ⟨a, vs, z, sqt_k e q, pr_mono p fun _ _ x => x.k e⟩
/-- the three lambdas of the text -/
def lamA : Arguments × Expr × Scope := lamOf (match bodyAt 22 with | .Assign _ (.List es _) _ => es[0]? | _ => none)
def lamB : Arguments × Expr × Scope := lamOf (match bodyAt 23 with | .Expr (.Call _ es _ _) _ => es[0]? | _ => none)
def lamC : Arguments × Expr × Scope := lamOf (match bodyAt 25 with | .For _ (.BinOp _ _ (.List es _) _) _ _ _ => es[0]? | _ => none)
abbrev psA : Arguments := lamA.1
abbrev bA : Expr := lamA.2.1
abbrev scA : Scope := lamA.2.2
abbrev psB : Arguments := lamB.1
abbrev bB : Expr := lamB.2.1
abbrev scB : Scope := lamB.2.2
abbrev psC : Arguments := lamC.1
abbrev bC : Expr := lamC.2.1
abbrev scC : Scope := lamC.2.2
theorem lwA : LamW (defScope s_law) scA n_law := lamW_by (by decide +kernel)
theorem lwB : LamW (defScope s_law) scB n_law := lamW_by (by decide +kernel)
theorem lwC : LamW (defScope s_law) scC n_law := lamW_by (by decide +kernel)
theorem bindA : BindW psA bA scA none := fun _ _ _ _ _ => rfl
theorem bindB : BindW psB bB scB (some 0) := ⟨"a", rfl, fun _ _ _ _ _ _ _ => ⟨_, rfl, rfl⟩⟩
theorem bindC : BindW psC bC scC (some 0) := ⟨"b", rfl, fun _ _ _ _ _ _ _ => ⟨_, rfl, rfl⟩⟩
def qLam : Str := "law.<locals>.<lambda>"
section
variable {P : Program} {w : World} {K : PySem.W.Frag} {mg : Str → Option Value} {base : Heap}
abbrev TXx (P : Program) (w : World) (K : PySem.W.Frag) (mg : Str → Option Value) (base : Heap) (f c : Addr) (A : Around) (outer : List Env) (s : Shared) (H : Hp) (E : XK) (pn : List (Addr × Obj)) (xe : Value → Shared → Prop) : Cx := (LX P w K mg base f c A outer s H E).tr pn xe
theorem bodyA {f c CB CM CI CP : Addr} (G : Defs P w K mg base CB CM CI CP) {A : Around} {outer : List Env} {s0 : Shared} {H0 : Hp} {Ez : XK} : ∃ tb : XK → TE,
    (∀ (E : XK) (pn : List (Addr × Obj)) (xe : Value → Shared → Prop) (f' c' : Addr) (s : Shared) (H : Hp), Room 9 ((TXx P w K mg base f c A outer s0 H0 Ez pn xe).A.deeper (lamEnv (TXx P w K mg base f c A outer s0 H0 Ez pn xe) scA s.heap.objs.size f' c')) →
      PE (lamCx (TXx P w K mg base f c A outer s0 H0 Ez pn xe) (TXx P w K mg base f c A outer s0 H0 Ez pn xe).A (TXx P w K mg base f c A outer s0 H0 Ez pn xe).stack s H E scA f' c') bA (tb E)) ∧
    ∀ (E : XK) (t : L2.St) (H : Hp) (Q : VK) (p : Int) (n : Nat) (mm mv : V) (A W S : List Row) (r : Row), t[2]? = some (some mm) → t[5]? = some (some mv) → MachT K p A W S mm H → MOk p n A W S → (∀ G, MachT K p A W S mm G → WP K G mm none) → RowT K r mv H → Lin.OkR p n r → (∀ H', Ex H H' → E (.ref CM) none H') → tb E t H Q := by
  refine ⟨_, fun E pn xe f' c' s H hr => pe_got G.behind hr (passes_call (takes_of rfl rfl rfl rfl) fun _ _ _ _ z => z) (pa_cons (pv 2) (pa_cons (pe_op (show OpR _ _ (rCatT K) from op_catT) (pv 5) (pe_tup (pa_cons pe_int pa_nil))) (pa_cons pe_int pa_nil))), fun E t H Q p n mm mv A W S r h2 h5 hM M wp hm oR q => ?_⟩
  obtain ⟨b, rfl, hb⟩ := hm
  have n1 := M.n1
  have n4 := M.n4
  refine ⟨_, h2, _, h5, (by show 1 ≤ sizeLine; decide), fun t1 nt1 => ?_⟩
  have e1 := _root_.Evl.Ex.new (o := .tup [.int 0]) nt1
  refine ⟨b, t1, _, _, rfl, rfl, _root_.Evl.ex_t e1 hb, SqT.of upd_same, (fun z => by have := congrArg List.length z; rw [List.length_map, oR.1] at this; simp at this; omega), Nat.le_of_lt (Nat.lt_of_le_of_lt (show _ ≤ 1000 by rw [List.length_map, oR.1]; show n + 1 ≤ 1000; omega) (by decide)), (fun z => by cases z), fun _ t2 nt2 => ?_⟩
  have e2 := _root_.Evl.Ex.new (o := .tup (r.map V.int ++ [.int 0])) nt2
  have e12 := e1.trans e2
  have hM2 := hM.ex e12
  refine ⟨p, n, mm, .ref t2, A, W, S, _, 1, rfl, wp _ hM2, hM2, M, ⟨t2, rfl, SqT.of upd_same⟩, (fun x hx => ?_), by rw [List.length_append, List.length_map, oR.1]; show n + 1 ≤ 1000; omega, .inl ⟨?_, fun H' e' => q H' (e12.trans e')⟩⟩
  · rcases List.mem_append.mp hx with z | z
    · obtain ⟨y, _, rfl⟩ := List.mem_map.mp z; exact .int y
    · rw [List.mem_singleton.mp z]; exact .int 0
  · unfold isRowB
    rw [List.length_append, List.length_map, oR.1]
    simp
    omega
theorem bodyB {f c CB CM CI CP : Addr} (G : Defs P w K mg base CB CM CI CP) {A : Around} {outer : List Env} {s0 : Shared} {H0 : Hp} {Ez : XK} : ∃ tb : XK → TE,
    (∀ (E : XK) (pn : List (Addr × Obj)) (xe : Value → Shared → Prop) (f' c' : Addr) (s : Shared) (H : Hp), Room 9 ((TXx P w K mg base f c A outer s0 H0 Ez pn xe).A.deeper (lamEnv (TXx P w K mg base f c A outer s0 H0 Ez pn xe) scB s.heap.objs.size f' c')) →
      PE (lamCx (TXx P w K mg base f c A outer s0 H0 Ez pn xe) (TXx P w K mg base f c A outer s0 H0 Ez pn xe).A (TXx P w K mg base f c A outer s0 H0 Ez pn xe).stack s H E scB f' c') bB (tb E)) ∧
    ∀ (E : XK) (t : L2.St) (H : Hp) (Q : VK) (p : Int) (n : Nat) (mm mv ov : V) (A W S : List Row) (r : Row) (P : List Ins), t[2]? = some (some mm) → t[3]? = some (some (.int p)) → t[5]? = some (some mv) → t[12]? = some (some ov) → MachT K p A W S mm H → MOk p n A W S → (∀ G, MachT K p A W S mm G → WP K G mm none) → RowT K r mv H → Lin.OkR p n r →
      PrgT K P ov H → PrgOk p S.length W.length true P → 1 ≤ P.length → P.length ≤ 6000 → (∀ H', Ex H H' → E (.ref CI) none H') → tb E t H Q := by
  refine ⟨_, fun E pn xe f' c' s H hr => pe_got G.runSt hr (passes_call (takes_of rfl rfl rfl rfl) fun _ _ _ _ z => z) (pa_cons (pv 2) (pa_cons (pv 12) (pa_cons (pe_tup (pa_cons (pv 3) pa_nil)) (pa_cons pe_int (pa_cons (pv 5) pa_nil))))), fun E t H Q p n mm mv ov A W S r P h2 h3 h5 h12 hM M wp hm oR hP Y l1 l2 q => ?_⟩
  refine ⟨_, h2, _, h12, _, h3, (by show 1 ≤ sizeLine; decide), fun t1 nt1 => ⟨_, h5, ?_⟩⟩
  have e1 := _root_.Evl.Ex.new (o := .tup [.int p]) nt1
  have hM2 := hM.ex e1
  refine ⟨p, n, A, W, S, mm, ov, .ref t1, mv, P, [.int p], r, 1, rfl, wp _ hM2, hM2, M, hP.ex e1, Y, l1, l2, ⟨t1, rfl, SqT.of upd_same⟩, (fun x hx => by rw [List.mem_singleton.mp hx]; exact .int p), (by show 1 ≤ 50; decide), hm.ex e1, oR, by decide, .inl ⟨?_, fun H' e' => q H' (e1.trans e')⟩⟩
  simp [isNum]
  omega
theorem bodyC {f c CB CM CI CP : Addr} (G : Defs P w K mg base CB CM CI CP) {A : Around} {outer : List Env} {s0 : Shared} {H0 : Hp} {Ez : XK} : ∃ tb : XK → TE,
    (∀ (E : XK) (pn : List (Addr × Obj)) (xe : Value → Shared → Prop) (f' c' : Addr) (s : Shared) (H : Hp), Room 9 ((TXx P w K mg base f c A outer s0 H0 Ez pn xe).A.deeper (lamEnv (TXx P w K mg base f c A outer s0 H0 Ez pn xe) scC s.heap.objs.size f' c')) →
      PE (lamCx (TXx P w K mg base f c A outer s0 H0 Ez pn xe) (TXx P w K mg base f c A outer s0 H0 Ez pn xe).A (TXx P w K mg base f c A outer s0 H0 Ez pn xe).stack s H E scC f' c') bC (tb E)) ∧
    ∀ (E : XK) (t : L2.St) (H : Hp) (Q : VK) (p : Int) (wv : V) (is : List IV) (n : Nat) (x : IV), t[3]? = some (some (.int p)) → t[26]? = some (some wv) → isPrm (.int p) = true → IVsT K is wv H → 1 ≤ is.length → is.length ≤ 20 → is[n]? = some x → insOk false (mostN p (2 : Nat) (2 : Nat) (is.length : Nat)) x = false →
      (∀ (j : Nat) y, j < n → is[j]? = some y → insOk false (mostN p (2 : Nat) (2 : Nat) (is.length : Nat)) y = true) → BadAt CP E H n → tb E t H Q := by
  refine ⟨_, fun E pn xe f' c' s H hr => pe_got G.runSl (hr.mono (by decide)) (passes_call (takes_of rfl rfl rfl rfl) fun _ _ _ _ z => z) (pa_cons (pv 3) (pa_cons pe_int (pa_cons (pv 26) (pa_cons (pe_tup pa_nil) (pa_cons pe_int pa_nil))))), fun E t H Q p wv is n x h3 h26 prm hI l1 l2 hx bad ok q => ?_⟩
  refine ⟨_, h3, _, h26, (by show 0 ≤ sizeLine; decide), fun t1 nt1 => ?_⟩
  have e1 := _root_.Evl.Ex.new (o := .tup []) nt1
  exact ⟨p, 2, wv, .ref t1, is, 1, rfl, prm, by decide, by decide, hI.ex e1, l1, l2, .inl ⟨n, x, hx, bad, ok, q.go e1⟩⟩
end
end K01


set_option Elab.async false
set_option linter.all false
set_option maxRecDepth 100000
set_option maxHeartbeats 8000000
namespace K01
open PySem PySem.Spec PyProof.Rows L2 LamX Prg
def tryT : List Stmt := match bodyAt 25 with | .For _ _ b _ _ => b | _ => []
structure ErrL (K : PySem.W.Frag) (mg : Str → Option Value) (CM CI CP : Addr) : Prop where
  gM : mg "BadMemory" = some (.ref CM)
  gI : mg "BadInputs" = some (.ref CI)
  gP : mg "BadProgram" = some (.ref CP)
  xP : XfC K CP
  noP : PySem.W.findIn K (.ref CP) "index" = some none
  mm : PySem.W.exmOne K (.ref CM) (.ref CM) = some true
  im : PySem.W.exmOne K (.ref CI) (.ref CM) = some false
  ii : PySem.W.exmOne K (.ref CI) (.ref CI) = some true
  pm : PySem.W.exmOne K (.ref CP) (.ref CM) = some false
  pi : PySem.W.exmOne K (.ref CP) (.ref CI) = some false
  pp : PySem.W.exmOne K (.ref CP) (.ref CP) = some true
structure WkF (K : PySem.W.Frag) (p : Int) (A W S : List Row) (mm mv ov wv : V) (r : Row) (P : List Ins) (is : List IV) (G : Hp) : Prop where
  mach : MachT K p A W S mm G
  mem : RowT K r mv G
  oth : PrgT K P ov G
  wrong : IVsT K is wv G
theorem WkF.k {K : PySem.W.Frag} {p : Int} {A W S : List Row} {mm mv ov wv : V} {r : Row} {P : List Ins} {is : List IV} {G G' : Hp} (e : Kp G G') (h : WkF K p A W S mm mv ov wv r P is G) : WkF K p A W S mm mv ov wv r P is G' :=
  ⟨h.mach.k e, h.mem.k e, IVsT.k e h.oth, h.wrong.k e⟩
def rAddS : V → V → Hp → VK → Prop := fun x y H Q => ∃ i j, x = .str i ∧ y = .str j ∧ i.length + j.length ≤ sizeLine ∧ Q (.str (i ++ j)) H
def rStrI : List V → Hp → VK → Prop := fun xs H Q => ∃ i : Int, xs = [.int i] ∧ i.natAbs.log2 < 1920 ∧ Q (.str (toString i)) H
abbrev suiT (K : PySem.W.Frag) (z : Str) : Sui := fun _ _ _ => tDrop (tBM K "list" rAppend (tVar 24) (tCons (tC (.str z)) tNil))
abbrev suiP (K : PySem.W.Frag) (CP : Addr) : Sui := fun a cls d => tDrop (tBM K "list" rAppend (tVar 24) (tCons (tOp rAddS (tC (.str "program ")) (tCB rStrI (tCons (tXf a cls d CP "index" (tVar 23)) tNil))) tNil))
/-- how it goes on behind a call that raised -/
def Nx (D : Ends) (σ : L2.St) (G : Hp) (wa : Addr) (xs : List V) (z : Str) : Prop := ∀ x G', Kp G G' → (∀ b ys, b ≠ wa → G b = some (.lst ys) → G' b = some (.lst ys)) → G' wa = some (.lst (xs ++ [.str z])) → D.nx ((σ.set 23 x).set 23 none) G'
section
variable {P : Program} {w : World} {K : PySem.W.Frag} {mg : Str → Option Value} {base : Heap}
theorem callTry {f c CB CM CI CP : Addr} (B : Bare mg) (Er : ErrL K mg CM CI CP) (G : Defs P w K mg base CB CM CI CP) {A : Around} {outer : List Env} {s0 : Shared} {H0 : Hp} {Ez : XK}
    (hr : Room (9 + 1) (LX P w K mg base f c A outer s0 H0 Ez).A) : ∃ tB : TS, PSs (LX P w K mg base f c A outer s0 H0 Ez) tryT tB ∧
    ∀ (D : Ends) (σ : L2.St) (G0 : Hp) (f1 wa : Addr) (xs : List V) (p : Int) (n : Nat) (mm mv ov wv : V) (A' W S : List Row) (r : Row) (P2 : List Ins) (is : List IV) (m : Nat),
      Keep 28 [(27, .ref f1), (2, mm), (3, .int p), (5, mv), (12, ov), (24, .ref wa), (26, wv)] σ → MOk p n A' W S → isPrm (.int p) = true → (∀ G, MachT K p A' W S mm G → WP K G mm none) → WkF K p A' W S mm mv ov wv r P2 is G0 → Lin.OkR p n r → PrgOk p S.length W.length true P2 → 1 ≤ P2.length → P2.length ≤ 6000 →
      1 ≤ is.length → is.length ≤ 20 → (∃ x, is[m]? = some x ∧ insOk false (mostN p (2 : Nat) (2 : Nat) (is.length : Nat)) x = false) → (∀ (j : Nat) y, j < m → is[j]? = some y → insOk false (mostN p (2 : Nat) (2 : Nat) (is.length : Nat)) y = true) → m < 20 →
      G0 wa = some (.lst xs) → xs.length < 10 →
      ((IsLam (LX P w K mg base f c A outer s0 H0 Ez).env psA bA scA none f1 G0 ∧ Nx D σ G0 wa xs "memory") ∨ (IsLam (LX P w K mg base f c A outer s0 H0 Ez).env psB bB scB (some 0) f1 G0 ∧ Nx D σ G0 wa xs "inputs") ∨ (IsLam (LX P w K mg base f c A outer s0 H0 Ez).env psC bC scC (some 0) f1 G0 ∧ Nx D σ G0 wa xs ("program " ++ toString (m : Int)))) → tB D σ G0 := by
  obtain ⟨ta, pa1, pa2⟩ := bodyA (c := c) (f := f) G (A := A) (outer := outer) (s0 := s0) (H0 := H0) (Ez := Ez)
  obtain ⟨tB, pb1, pb2⟩ := bodyB (c := c) (f := f) G (A := A) (outer := outer) (s0 := s0) (H0 := H0) (Ez := Ez)
  obtain ⟨tC, pc1, pc2⟩ := bodyC (c := c) (f := f) G (A := A) (outer := outer) (s0 := s0) (H0 := H0) (Ez := Ez)
  refine ⟨_, (show PSs _ tryT _ from pss_one (ps_try_each (n := "e") (i := 23) (l := [(.ref CM, suiT K "memory"), (.ref CI, suiT K "inputs"), (.ref CP, suiP K CP)]) rfl rfl sc_law.nd rfl rfl (takes_of rfl rfl rfl rfl) (tb := fun W => tDrop (fun t G Q => tWork (LX P w K mg base f c A outer s0 H0 Ez).env psA bA scA none 27 ta W t G Q ∨ (tWork (LX P w K mg base f c A outer s0 H0 Ez).env psB bB scB (some 0) 27 tB W t G Q ∨ tWork (LX P w K mg base f c A outer s0 H0 Ez).env psC bC scC (some 0) 27 tC W t G Q)))
      (fun W pn xe tk _ => pss_one (ps_expr (pe_either (pe_work (i := 27) (a := "work") lwA bindA tk hr (fun E f' c' s H hr => pa1 E pn xe f' c' s H hr) rfl (Or.inl rfl)) (pe_either (pe_work (i := 27) (a := "work") lwB bindB tk hr (fun E f' c' s H hr => pb1 E pn xe f' c' s H hr) rfl (Or.inl rfl)) (pe_work (i := 27) (a := "work") lwC bindC tk hr (fun E f' c' s H hr => pc1 E pn xe f' c' s H hr) rfl (Or.inl rfl))))))
      (.cons ⟨rfl, by decide, .inl Er.gM⟩ (fun a o cls d pn _ _ => (show PSs _ _ (suiT K "memory" a cls d) from pss_one (ps_expr (pe_bm PySem.F.plainAttrs_list PySem.F.slot_list_append PySem.F.type_list_append mt_append (pv 24) (pa_cons pe_str pa_nil)))))
      (.cons ⟨rfl, by decide, .inl Er.gI⟩ (fun a o cls d pn _ _ => (show PSs _ _ (suiT K "inputs" a cls d) from pss_one (ps_expr (pe_bm PySem.F.plainAttrs_list PySem.F.slot_list_append PySem.F.type_list_append mt_append (pv 24) (pa_cons pe_str pa_nil)))))
      (.cons ⟨rfl, by decide, .inl Er.gP⟩ (fun a o cls d pn hz hf => (show PSs _ _ (suiP K CP a cls d) from pss_one (ps_expr (pe_bm PySem.F.plainAttrs_list PySem.F.slot_list_append PySem.F.type_list_append mt_append (pv 24) (pa_cons (pe_op op_add_str pe_str (pe_callTy call_str_int (by rfl) B.str (by decide +kernel) (pa_cons (pe_xf Er.xP Er.noP hz hf (pv 23)) pa_nil))) pa_nil))))) .nil))))),
    fun D σ G0 f1 wa xs p n mm mv ov wv A' W S r P2 is m hk M prm wp hW oR Y l1 l2 k1 k2 bad ok m20 hx hl h => ?_⟩
  have lst : ∀ {G1 : Hp}, Ex G0 G1 → G1 wa = some (.lst xs) := fun e => e _ _ hx
  have step : ∀ (z : Str) {G1 : Hp}, Ex G0 G1 → Nx D σ G0 wa xs z → ∀ x, D.nx ((σ.set 23 x).set 23 none) (upd G1 wa (.lst (xs ++ [.str z]))) := fun z G1 e nx x =>
    nx x _ ((Ex.k e).trans (kp_lst (lst e))) (fun b ys nb hb => by rw [upd_ne nb]; exact e _ _ hb) upd_same
  have szl : xs.length < sizeLine := Nat.lt_trans hl (by decide)
  rcases h with ⟨lam, nx⟩ | ⟨lam, nx⟩ | ⟨lam, nx⟩
  · refine .inl ⟨f1, fun cls _ G' => cls = .ref CM ∧ Ex G0 G', hk.get rfl, lam, fun cls d G' ⟨ec, eG⟩ => ?_, pa2 _ _ _ _ p n mm mv A' W S r (hk.get rfl) (hk.get rfl) hW.mach M wp hW.mem oR fun G' e => ⟨rfl, e⟩⟩
    subst ec
    refine ⟨true, Er.mm, fun _ e _ => ?_, fun z => nomatch z⟩
    have k2 := hk.put (i := 23) (some (.ref e)) rfl
    exact ⟨_, k2.get rfl, .inl ⟨rfl, _, SqL.of (lst eG)⟩, wa, _, _, rfl, rfl, lst eG, szl, step _ eG nx _⟩
  · refine .inr (.inl ⟨f1, fun cls _ G' => cls = .ref CI ∧ Ex G0 G', hk.get rfl, lam, fun cls d G' ⟨ec, eG⟩ => ?_, pb2 _ _ _ _ p n mm mv ov A' W S r P2 (hk.get rfl) (hk.get rfl) (hk.get rfl) (hk.get rfl) hW.mach M wp hW.mem oR hW.oth Y l1 l2 fun G' e => ⟨rfl, e⟩⟩)
    subst ec
    refine ⟨false, Er.im, (fun z => nomatch z), fun _ => ⟨true, Er.ii, fun _ e _ => ?_, fun z => nomatch z⟩⟩
    have k2 := hk.put (i := 23) (some (.ref e)) rfl
    exact ⟨_, k2.get rfl, .inl ⟨rfl, _, SqL.of (lst eG)⟩, wa, _, _, rfl, rfl, lst eG, szl, step _ eG nx _⟩
  · obtain ⟨x, hxi, hbad⟩ := bad
    refine .inr (.inr ⟨f1, fun cls d G' => cls = .ref CP ∧ Ex G0 G' ∧ ∃ dd, d = some dd ∧ G' dd = some (.xd [("index", .int (m : Nat))]), hk.get rfl, lam, fun cls d G' ⟨ec, eG, dd, ed, hd⟩ => ?_, pc2 _ _ _ _ p wv is m x (hk.get rfl) (hk.get rfl) prm hW.wrong k1 k2 hxi hbad ok fun d G' e hd => ⟨rfl, e, d, rfl, hd⟩⟩)
    subst ec
    subst ed
    refine ⟨false, Er.pm, (fun z => nomatch z), fun _ => ⟨false, Er.pi, (fun z => nomatch z), fun _ => ⟨true, Er.pp, fun _ e _ => ?_, fun z => nomatch z⟩⟩⟩
    have k2 := hk.put (i := 23) (some (.ref e)) rfl
    refine ⟨_, k2.get rfl, .inl ⟨rfl, _, SqL.of (lst eG)⟩, _, hk.at_ (by decide), rfl, rfl, dd, _, _, rfl, hd, rfl, (m : Nat), rfl, ?_, _, _, rfl, rfl, ?_, wa, _, _, rfl, rfl, lst eG, szl, step _ eG nx _⟩
    · have : ∀ k : Nat, k < 20 → ((k : Int).natAbs.log2) ≤ 5 := by decide +kernel
      exact Nat.lt_of_le_of_lt (this m m20) (by decide)
    · have : ∀ k : Nat, k < 20 → (("program " : Str).length + (toString (k : Int) : Str).length) ≤ 20 := by decide +kernel
      exact Nat.le_of_lt (Nat.lt_of_le_of_lt (this m m20) (by decide))
end
end K01


set_option Elab.async false
set_option linter.all false
set_option maxRecDepth 100000
set_option maxHeartbeats 8000000
namespace K01
open PySem PySem.Spec PyProof.Rows L2 LamX Prg
def restT : List Stmt := (defBody s_law).drop 21
theorem insOk_more {p : Int} {n n' : Nat} (h : n ≤ n') {x : Ins} (X : InsOk p 2 2 n false x) : InsOk p 2 2 n' false x := ⟨X.see, X.wri, X.put, fun z => Nat.le_trans (X.jmp z) h, X.wait⟩
/-- what a wrong last instruction may be -/
theorem wrongs {p : Int} {k : Nat} : ∀ x ∈ [IV.one .wait, .two .get 2, .two .put p, .num 3], insOk false (mostN p (2 : Nat) (2 : Nat) (k : Nat)) x = false := by
  intro x hx
  simp only [List.mem_cons, List.not_mem_nil, or_false] at hx
  rcases hx with rfl | rfl | rfl | rfl
  · rfl
  · simp [insOk, mostN]
  · simp [insOk, mostN]
    omega
  · rfl
def wds (m : Nat) (i : Nat) : List V := ([.str "memory", .str "inputs", .str ("program " ++ toString (m : Int))] : List V).take i
section
variable {P : Program} {w : World} {K : PySem.W.Frag} {mg : Str → Option Value} {base : Heap}
theorem restOk {f c Pt CB CM CI CP : Addr} (B : Bare mg) (TB : TabB base mg c Pt) (Er : ErrL K mg CM CI CP) (G : Defs P w K mg base CB CM CI CP) {A : Around} {outer : List Env} {s0 : Shared} {H0 : Hp} {Ez : XK}
    (hr : Room (9 + 1) (LX P w K mg base f c A outer s0 H0 Ez).A) : ∃ tB : TS, PSs (LX P w K mg base f c A outer s0 H0 Ez) restT tB ∧
    ∀ (D : Ends) (σ : L2.St) (G0 : Hp) (a sc : Addr) (ns : List Int) (p : Int) (n : Nat) (mm mv ov pv14 : V) (A' W S : List Row) (r : Row) (P0 P2 : List Ins),
      Keep 28 [(1, .ref a), (2, mm), (3, .int p), (5, mv), (12, ov), (14, pv14)] σ → Row0 K a sc ns G0 → Tabs [(Pt, qLam)] G0 → MachT K p A' W S mm G0 → MOk p n A' W S → isPrm (.int p) = true → (∀ G, MachT K p A' W S mm G → WP K G mm none) → RowT K r mv G0 → Lin.OkR p n r →
      PrgT K P2 ov G0 → PrgOk p S.length W.length true P2 → 1 ≤ P2.length → P2.length ≤ 6000 → PrgT K P0 pv14 G0 → PrgOk p 2 2 false P0 → 1 ≤ P0.length → P0.length ≤ 8 → (∀ H', D.rt (.bl true) H') → tB D σ G0 := by
  have hr2 : Room 2 (LX P w K mg base f c A outer s0 H0 Ez).A := hr.mono (by decide)
  obtain ⟨tY, pY, wY⟩ := callTry (c := c) (f := f) B Er G (A := A) (outer := outer) (s0 := s0) (H0 := H0) (Ez := Ez) hr
  refine ⟨_, (show PSs _ restT _ from pss_cons (ps_set (i := 24) sc_law.nd rfl (Or.inl rfl) (pe_lst pa_nil))
      (pss_cons (ps_set (i := 25) sc_law.nd rfl (Or.inl rfl) (pe_lst (pa_cons (pe_lamb0 (T := [(Pt, qLam)]) (ps := psA) (b := bA) (sc := scA) TB rfl (List.mem_singleton.mpr rfl) (fun p hp _ => by rw [List.mem_singleton.mp hp]; rfl) lwA.free rfl) pa_nil)))
      (pss_cons (ps_expr (pe_bm PySem.F.plainAttrs_list PySem.F.slot_list_append PySem.F.type_list_append mt_append (pv 25) (pa_cons (pe_lamb1 (T := [(Pt, qLam)]) (ps := psB) (b := bB) (sc := scB) (i := 0) TB rfl (List.mem_singleton.mpr rfl) (fun p hp _ => by rw [List.mem_singleton.mp hp]; rfl) lwB.free rfl rfl) pa_nil)))
      (pss_cons (ps_set (i := 26) sc_law.nd rfl (Or.inr rfl) (pe_op op_catT (pv 14) (pe_tup (pa_cons (pe_got G.pickW hr2 pass0 (pa_cons (pv 1) (pa_cons (pe_lst (pa_cons (pe_tup (pa_cons pe_str pa_nil)) (pa_cons (pe_tup (pa_cons pe_str (pa_cons pe_int pa_nil))) (pa_cons (pe_tup (pa_cons pe_str (pa_cons (pv 3) pa_nil))) (pa_cons pe_int pa_nil))))) pa_nil))) pa_nil))))
      (pss_cons (ps_for (passes_of rfl) rfl (pi_list (pe_op op_cat (pv 25) (pe_lst (pa_cons (pe_lamb1 (T := [(Pt, qLam)]) (ps := psC) (b := bC) (sc := scC) (i := 0) TB rfl (List.mem_singleton.mpr rfl) (fun p hp _ => by rw [List.mem_singleton.mp hp]; rfl) lwC.free rfl rfl) pa_nil)))) (pg_name (i := 27) sc_law.nd rfl (Or.inl rfl)) pY)
      (pss_one (ps_ret (pe_cmpR (op_eqD hr.units) (pv 24) (pe_lst (pa_cons pe_str (pa_cons pe_str (pa_cons (pe_op op_add_str pe_str (pe_callTy call_str_int (by rfl) B.str (by decide +kernel) (pa_cons (pe_callB call_len_seq (by rfl) B.len PySem.boot_len (pa_cons (pv 14) pa_nil)) pa_nil))) pa_nil)))) (nomark _))))))))),
    fun D σ G0 a sc ns p n mm mv ov v14 A' W S r P0 P2 hk hrow hT hM M prm wp hm oR hQ Y l1 l2 hP X k1 k8 q => ?_⟩
  -- the words
  refine ⟨(by show 0 ≤ sizeLine; decide), fun wa nwa => ?_⟩
  have e1 := _root_.Evl.Ex.new (o := .lst []) nwa
  have offW : Off K wa sc ns := off_of nwa hrow.sql
  have wa_a : wa ≠ a := fun z => by
    obtain ⟨_, _, _, ha, _⟩ := hrow
    rw [z, ha] at nwa
    cases nwa
  have hw1 := upd_same (H := G0) (a := wa) (o := .lst [])
  have k1_ := hk.add (i := 24) (v := .ref wa) (by decide) rfl
  have r1 := hrow.ex e1
  have T1 := hT.ext e1
  have K1 := Ex.k e1
  generalize upd G0 wa (.lst []) = G1 at e1 hw1 r1 T1 K1 ⊢
  -- the first lambda
  refine ⟨T1, fun f1 G2 x2 T2 lam1 => ⟨(by show 1 ≤ sizeLine; decide), fun wl nwl => ?_⟩⟩
  have r2 := r1.xt x2
  have K2 := K1.trans (ExtN.k x2)
  have hw2 := x2 _ _ hw1 fun _ z => by cases z
  have e3 := _root_.Evl.Ex.new (o := .lst [.ref f1]) nwl
  have hl3 := upd_same (H := G2) (a := wl) (o := .lst [.ref f1])
  have nwlwa : wl ≠ wa := fun z => by rw [z, hw2] at nwl; cases nwl
  have nwla : wl ≠ a := fun z => by
    obtain ⟨_, _, _, ha, _⟩ := r2
    rw [z, ha] at nwl
    cases nwl
  have offL : Off K wl sc ns := off_of nwl r2.sql
  have hw3 := e3 _ _ hw2
  have r3 := r2.ex e3
  have T3 := T2.ext e3
  have K3 := K2.trans (Ex.k e3)
  have lam13 := lam1.k (Ex.k e3)
  have k2_ := k1_.add (i := 25) (v := .ref wl) (by decide) rfl
  generalize upd G2 wl (.lst [.ref f1]) = G3 at e3 hl3 hw3 r3 T3 K3 lam13 ⊢
  -- the second
  refine ⟨_, k2_.get rfl, .inl ⟨rfl, _, SqL.of hl3⟩, T3, fun f2 G4 x4 T4 lam2 => ?_⟩
  have hl4 := x4 _ _ hl3 fun _ z => by cases z
  have hw4 := x4 _ _ hw3 fun _ z => by cases z
  have r4 := r3.xt x4
  have K4 := K3.trans (ExtN.k x4)
  have lam14 := lam13.k (ExtN.k x4)
  refine ⟨wl, _, _, rfl, rfl, hl4, (by show 1 < sizeLine; decide), ?_⟩
  have kk5 := kp_lst (o := .lst ([.ref f1] ++ [.ref f2])) hl4
  have hl5 : (upd G4 wl (.lst ([.ref f1] ++ [.ref f2]))) wl = some (.lst [.ref f1, .ref f2]) := upd_same
  have hw5 : (upd G4 wl (.lst ([.ref f1] ++ [.ref f2]))) wa = some (.lst []) := by rw [upd_ne nwlwa.symm]; exact hw4
  have r5 : Row0 K a sc ns (upd G4 wl (.lst ([.ref f1] ++ [.ref f2]))) := by
    obtain ⟨i, sd, gr, h1, h2, h3, h4⟩ := r4
    exact ⟨i, sd, gr, by rw [upd_ne nwla.symm]; exact h1, h2, sql_o (ExB.at (ExB.refl wl G4)) offL h3, h4⟩
  have T5 : Tabs [(Pt, qLam)] (upd G4 wl (.lst ([.ref f1] ++ [.ref f2]))) := tabs_n (fun b u e nl => by rw [upd_ne (fun z => nl [.ref f1] (Option.some.inj (e.symm.trans (by rw [z]; exact hl4))))]; exact e) T4
  have K5 := K4.trans kk5
  have lam15 := lam14.k kk5
  have lam25 := lam2.k kk5
  generalize upd G4 wl (.lst ([.ref f1] ++ [.ref f2])) = G5 at hl5 hw5 r5 T5 K5 lam15 lam25 ⊢
  clear kk5 hl4 hw4 r4 K4 lam14 lam2 T4 x4 e3 hl3 hw3 r3 T3 K3 lam13 x2 T2 lam1 r2 K2 hw2 e1 hw1 r1 T1 K1
  -- the wrong program
  obtain ⟨pa0, xs0, rfl, hpa, ppa⟩ := hP.k K5
  have lx0 : xs0.length = P0.length := by rw [pr_len ppa, List.length_map]
  refine ⟨_, k2_.get rfl, _, k2_.get rfl, ?_⟩
  refine ⟨(by show 1 ≤ sizeLine; decide), fun t1 nt1 => ?_⟩
  have g1 := _root_.Evl.Ex.new (o := .tup [.str "wait"]) nt1
  have h1 := upd_same (H := G5) (a := t1) (o := .tup [.str "wait"])
  generalize upd G5 t1 (.tup [.str "wait"]) = G6 at g1 h1 ⊢
  refine ⟨(by show 2 ≤ sizeLine; decide), fun t2 nt2 => ?_⟩
  have g2 := _root_.Evl.Ex.new (o := .tup [.str "get", .int 2]) nt2
  have h2 := upd_same (H := G6) (a := t2) (o := .tup [.str "get", .int 2])
  generalize upd G6 t2 (.tup [.str "get", .int 2]) = G7 at g2 h2 ⊢
  refine ⟨_, k2_.get rfl, (by show 2 ≤ sizeLine; decide), fun t3 nt3 => ?_⟩
  have g3 := _root_.Evl.Ex.new (o := .tup [.str "put", .int p]) nt3
  have h3 := upd_same (H := G7) (a := t3) (o := .tup [.str "put", .int p])
  generalize upd G7 t3 (.tup [.str "put", .int p]) = G8 at g3 h3 ⊢
  have g13 := (g1.trans g2).trans g3
  refine ⟨(by show 4 ≤ sizeLine; decide), fun l4 nl4 => ?_⟩
  have g4 := _root_.Evl.Ex.new (o := .lst [.ref t1, .ref t2, .ref t3, .int 3]) nl4
  have h4 := upd_same (H := G8) (a := l4) (o := .lst [.ref t1, .ref t2, .ref t3, .int 3])
  have l4a : l4 ≠ a := fun z => by
    obtain ⟨_, _, _, ha, _⟩ := r5.ex g13
    rw [z, ha] at nl4
    cases nl4
  generalize upd G8 l4 (.lst [.ref t1, .ref t2, .ref t3, .int 3]) = G9 at g4 h4 ⊢
  have g14 := g13.trans g4
  have k1_ := ((g2.trans g3).trans g4) _ _ h1
  have k2' := (g3.trans g4) _ _ h2
  have k3' := g4 _ _ h3
  refine ⟨a, l4, sc, ns, _, rfl, r5.ex g14, .inl l4a, SqL.of h4, (by show 1 ≤ 4; decide), (by show 4 ≤ 1000; decide), fun j v H' hj eB rB => ?_⟩
  have kB := (r5.ex g14).n eB
  obtain ⟨it, itm, hit⟩ : ∃ it, it ∈ [IV.one .wait, .two .get 2, .two .put p, .num 3] ∧ IVof K it v H' := by
    match j, hj with
    | 0, hj => cases hj; exact ⟨.one .wait, by simp, t1, rfl, SqT.of (kB _ _ k1_ fun _ z => by cases z)⟩
    | 1, hj => cases hj; exact ⟨.two .get 2, by simp, t2, rfl, SqT.of (kB _ _ k2' fun _ z => by cases z)⟩
    | 2, hj => cases hj; exact ⟨.two .put p, by simp, t3, rfl, SqT.of (kB _ _ k3' fun _ z => by cases z)⟩
    | 3, hj => cases hj; exact ⟨.num 3, by simp, rfl⟩
    | j + 4, hj => simp at hj
  have K6 := (Ex.k g14).trans (ExN.k kB)
  have hl6 := eB _ _ nwla (g14 _ _ hl5)
  have hw6 := eB _ _ wa_a (g14 _ _ hw5)
  have T6 := tabs_n kB (T5.ext g14)
  have lam16 := lam15.k K6
  have lam26 := lam25.k K6
  have hpa6 := sqt_k K6 hpa
  have ppa6 := pr_mono ppa fun _ _ z => IVof.k K6 z
  have K7 := K5.trans K6
  clear K5 K6 kB k1_ k2' k3' h1 h2 h3 h4 g1 g2 g3 g4 g13 g14 hl5 hw5 T5 lam15 lam25 r5 hpa ppa
  refine ⟨(by show 1 ≤ sizeLine; decide), fun t5 nt5 => ?_⟩
  have e7 := _root_.Evl.Ex.new (o := .tup [v]) nt5
  have h5 := upd_same (H := H') (a := t5) (o := .tup [v])
  generalize upd H' t5 (.tup [v]) = G10 at e7 h5 ⊢
  refine ⟨pa0, t5, xs0, [v], rfl, rfl, _root_.Evl.ex_t e7 hpa6, SqT.of h5, (fun z => by rw [z] at lx0; simp at lx0; omega), Nat.le_of_lt (Nat.lt_of_le_of_lt (show xs0.length + 1 ≤ 1000 by omega) (by decide)), (fun z => by cases z), fun _ wv nwv => ?_⟩
  have e8 := _root_.Evl.Ex.new (o := .tup (xs0 ++ [v])) nwv
  have h6 := upd_same (H := G10) (a := wv) (o := .tup (xs0 ++ [v]))
  generalize upd G10 wv (.tup (xs0 ++ [v])) = G11 at e8 h6 ⊢
  have e78 := e7.trans e8
  have hW11 : IVsT K (P0.map iv ++ [it]) (.ref wv) G11 := ⟨wv, _, rfl, SqT.of h6, pr_snoc (pr_mono ppa6 fun _ _ z => z.ex e78) (hit.ex e78)⟩
  have K8 := K7.trans (Ex.k e78)
  have hl11 := e78 _ _ hl6
  have hw11 := e78 _ _ hw6
  have T11 := T6.ext e78
  have lam111 := lam16.k (Ex.k e78)
  have lam211 := lam26.k (Ex.k e78)
  have k3_ := k2_.add (i := 26) (v := .ref wv) (by decide) rfl
  clear K7 e78 e7 e8 hl6 hw6 T6 lam16 lam26 hpa6 ppa6 h5 h6
  -- the loop over the three
  refine ⟨_, k3_.get rfl, T11, fun f3 G12 x12 T12 lam3 => ⟨(by show 1 ≤ sizeLine; decide), fun l5 nl5 => ?_⟩⟩
  have e13 := _root_.Evl.Ex.new (o := .lst [.ref f3]) nl5
  have hl13 := e13 _ _ (x12 _ _ hl11 fun _ z => by cases z)
  have hw13 := e13 _ _ (x12 _ _ hw11 fun _ z => by cases z)
  have h7 := upd_same (H := G12) (a := l5) (o := .lst [.ref f3])
  have K13 := (ExtN.k x12).trans (Ex.k e13)
  have lam33 := lam3.k (Ex.k e13)
  generalize upd G12 l5 (.lst [.ref f3]) = G13 at e13 hl13 hw13 h7 K13 lam33 ⊢
  refine ⟨wl, l5, _, _, rfl, rfl, hl13, h7, (by show 2 + 1 ≤ sizeLine; decide), fun l6 nl6 => ?_⟩
  rw [show [V.ref f1, V.ref f2] ++ [V.ref f3] = [V.ref f1, V.ref f2, V.ref f3] from rfl]
  have e14 := _root_.Evl.Ex.new (o := .lst [.ref f1, .ref f2, .ref f3]) nl6
  have h8 := upd_same (H := G13) (a := l6) (o := .lst [.ref f1, .ref f2, .ref f3])
  have hw14 := e14 _ _ hw13
  have l6wa : l6 ≠ wa := fun z => by rw [z, hw13] at nl6; cases nl6
  generalize upd G13 l6 (.lst [.ref f1, .ref f2, .ref f3]) = G14 at e14 h8 hw14 ⊢
  have K14 := K13.trans (Ex.k e14)
  have L1 := lam111.k K14
  have L2 := lam211.k K14
  have L3 := lam33.k (Ex.k e14)
  have K15 := K8.trans K14
  have hF : WkF K p A' W S mm mv ov (.ref wv) r P2 (P0.map iv ++ [it]) G14 := ⟨hM.k K15, hm.k K15, IVsT.k K15 hQ, hW11.k K14⟩
  have li : (P0.map iv ++ [it]).length = P0.length + 1 := by rw [List.length_append, List.length_map]; rfl
  refine ⟨l6, rfl, ⟨_, SqL.of h8⟩, ?_⟩
  refine for_list (K := K) (a := l6) (xs := [.ref f1, .ref f2, .ref f3]) (fun i t G => Keep 28 [(2, mm), (3, .int p), (5, mv), (12, ov), (24, .ref wa), (26, .ref wv), (14, .ref pa0)] t ∧ Kp G14 G ∧ G l6 = some (.lst [.ref f1, .ref f2, .ref f3]) ∧ G wa = some (.lst (wds P0.length i)))
    ?_ (fun i t G _ ⟨_, _, h, _⟩ => SqL.of h) (fun i x t G hx p' => ?_) (fun t G p' => ?_)
  · exact ⟨k3_.sub (by intro x hx; simp only [List.mem_cons, List.not_mem_nil, or_false] at hx ⊢; grind), Kp.refl _, h8, hw14⟩
  · obtain ⟨kt, kG, hG, wG⟩ := p'
    have hi : i < 3 := (List.getElem?_eq_some_iff.mp hx).1
    have go : ∀ (fx : Addr) (z : Str), x = .ref fx → wds P0.length i ++ [.str z] = wds P0.length (i + 1) → ∀ (D' : Ends), (D'.nx = fun t G => Keep 28 [(2, mm), (3, .int p), (5, mv), (12, ov), (24, .ref wa), (26, .ref wv), (14, .ref pa0)] t ∧ Kp G14 G ∧ G l6 = some (.lst [.ref f1, .ref f2, .ref f3]) ∧ G wa = some (.lst (wds P0.length (i + 1)))) →
        (Nx D' (t.set 27 (some x)) G wa (wds P0.length i) z) := fun fx z ex ez D' eD x' G' kk ll hw => by
      rw [eD]
      have a1 := kt.put (i := 27) (some x) rfl
      have a2 := a1.put (i := 23) x' rfl
      have a3 := a2.put (i := 23) none rfl
      exact ⟨a3, kG.trans kk, ll l6 _ l6wa hG, by rw [← ez]; exact hw⟩
    obtain ⟨fx, rfl⟩ : ∃ fx, x = .ref fx := by
      rcases (show i = 0 ∨ i = 1 ∨ i = 2 by omega) with rfl | rfl | rfl <;> exact ⟨_, (Option.some.inj hx).symm⟩
    refine wY _ _ _ fx wa (wds P0.length i) p n mm mv ov (.ref wv) A' W S r P2 (P0.map iv ++ [it]) P0.length ?_ M prm wp (hF.k kG) oR Y l1 l2 (by omega) (by omega) ⟨it, by rw [List.getElem?_append_right (by rw [List.length_map]; omega), List.length_map, Nat.sub_self]; rfl, wrongs it itm⟩ (fun j y hj hy => ?_) (by omega) wG (by unfold wds; rw [List.length_take]; show min i 3 < 10; omega) ?_
    · exact (kt.add (i := 27) (v := .ref fx) (by decide) rfl).sub (by intro x hx; simp only [List.mem_cons, List.not_mem_nil, or_false] at hx ⊢; grind)
    · rw [List.getElem?_append_left (by rw [List.length_map]; exact hj), List.getElem?_map] at hy
      cases e : P0[j]? with
      | none => rw [e] at hy; cases hy
      | some z =>
        rw [e] at hy
        obtain rfl : iv z = y := Option.some.inj hy
        have Z := insOk_more (n := P0.length) (n' := (P0.map iv ++ [it]).length) (by omega) (X j z e)
        exact insOk_of Z Z.wait
    · rcases (show i = 0 ∨ i = 1 ∨ i = 2 by omega) with rfl | rfl | rfl
      · cases hx
        exact .inl ⟨L1.k kG, go _ _ rfl rfl _ rfl⟩
      · cases hx
        exact .inr (.inl ⟨L2.k kG, go _ _ rfl rfl _ rfl⟩)
      · cases hx
        exact .inr (.inr ⟨L3.k kG, go _ _ rfl rfl _ rfl⟩)
  · obtain ⟨kt, kG, hG, wG⟩ := p'
    obtain ⟨pa1, xs1, ez, hpa1, ppa1⟩ := IVsT.k ((K8.trans K14).trans kG) hP
    cases ez
    have lx1 : xs1.length = P0.length := by rw [pr_len ppa1, List.length_map]
    refine ⟨_, kt.get rfl, _, kt.get rfl, pa0, xs1, rfl, .inr hpa1, (xs1.length : Nat), rfl, ?_⟩
    rw [lx1]
    have m20 : P0.length < 20 := by omega
    refine ⟨?_, _, _, rfl, rfl, ?_, (by show 3 ≤ sizeLine; decide), fun g ng => ?_⟩
    · have : ∀ k : Nat, k < 20 → ((k : Int).natAbs.log2) ≤ 5 := by decide +kernel
      exact Nat.lt_of_le_of_lt (this _ m20) (by decide)
    · have : ∀ k : Nat, k < 20 → (("program " : Str).length + (toString (k : Int) : Str).length) ≤ 20 := by decide +kernel
      exact Nat.le_of_lt (Nat.lt_of_le_of_lt (this _ m20) (by decide))
    have e9 := _root_.Evl.Ex.new (o := .lst [.str "memory", .str "inputs", .str ("program " ++ toString (P0.length : Int))]) ng
    have shp : ∀ k : Nat, k < 20 → SeqAt.shaped (.list [.str "memory", .str "inputs", .str ("program " ++ toString (k : Int))]) = true := by decide +kernel
    refine ⟨.list [.str "memory", .str "inputs", .str ("program " ++ toString (P0.length : Int))], .list [.str "memory", .str "inputs", .str ("program " ++ toString (P0.length : Int))], .lst (SqL.of (e9 _ _ wG)) (.cons (.str _) (.cons (.str _) (.cons (.str _) .nil))), .lst (SqL.of upd_same) (.cons (.str _) (.cons (.str _) (.cons (.str _) .nil))), shp _ m20, shp _ m20, ?_⟩
    have eq : ∀ k : Nat, k < 20 → PyData.eqv (.list [.str "memory", .str "inputs", .str ("program " ++ toString (k : Int))]) (.list [.str "memory", .str "inputs", .str ("program " ++ toString (k : Int))]) = true := by decide +kernel
    rw [eq _ m20]
    exact q _
end
end K01


set_option Elab.async false
set_option linter.all false
set_option maxRecDepth 100000
set_option maxHeartbeats 8000000
namespace K01
open PySem PySem.Spec PyProof.Rows L2 LamX Prg
section
variable {P : Program} {w : World} {K : PySem.W.Frag} {mg : Str → Option Value} {base : Heap}
theorem rep_p {p : Int} : ∀ c : Nat, (List.replicate c [V.int p]).flatten = List.replicate c (.int p)
  | 0 => rfl
  | c + 1 => by rw [List.replicate_succ, List.flatten_cons, rep_p c]; rfl
def spLaw (K : PySem.W.Frag) (Pt : Addr) : Sp := fun vs H Q _ => ∃ (sc : Addr) (ns : List Int), vs = [.ref sc] ∧ SqL K H sc (ns.map V.int) ∧ Tabs [(Pt, qLam)] H ∧ ∀ H', Q (.bl true) H'
/-- the law's def, its code object at c -/
structure FunC (K : PySem.W.Frag) (c : Addr) (f : Addr) (fd : FuncData) : Prop where
  ex : ∃ (oc : Value) (od : Option Addr) (kV doc pm : Value) (an : Option Addr) (ct : Value) (osl : Array (Option Value)),
    fd = PySem.W.fnOf "law" "law" (defArgs s_law) (defBody s_law) (defScope s_law) .none kV doc pm an (.ref c) ct ∧ K.lookup f = some ⟨oc, od, .func fd, osl⟩ ∧ PySem.W.codeIn K (.ref c) "law" = true
theorem ok_law {f c Pt CB CM CI CP : Addr} {fd : FuncData} (B : Bare mg) (mn : mg "min" = none) (gB : mg "BadMachine" = some (.ref CB)) (xB : XfC K CB) (noB : PySem.W.findIn K (.ref CB) "part" = some none) (bb : PySem.W.exmOne K (.ref CB) (.ref CB) = some true) (F : FunC K c f fd) (TB : TabB base mg c Pt) (Er : ErrL K mg CM CI CP) (G : Defs P w K mg base CB CM CI CP) : FnOk P w K mg base (L2.CX P w) 11 f fd p_law (spLaw K Pt) := by
  obtain ⟨oc, od, kV, doc, pm, an, ct, osl, rfl, lk, hcd⟩ := F.ex
  refine fn_of (N := n_law) lk hcd sc_law (fun vs H Q E h => ?_) (fun Ar outer s H vs Q E hr h => ?_)
  · obtain ⟨sc, ns, rfl, _⟩ := h
    rfl
  · obtain ⟨sc, ns, rfl, hsc, hT, q⟩ := h
    obtain ⟨tO, pO, wO⟩ := oddTry (c := c) (f := f) gB xB noB bb G (A := Ar) (outer := outer) (s0 := s) (H0 := H) (Ez := E) (hr.mono (by decide))
    obtain ⟨tR, pR, wR⟩ := restOk (c := c) (f := f) B TB Er G (A := Ar) (outer := outer) (s0 := s) (H0 := H) (Ez := E) hr
    have hr1 : Room 1 _ := hr.mono (by decide)
    have hr2 : Room 2 _ := hr.mono (by decide)
    have hr3 : Room 3 _ := hr.mono (by decide)
    have hr4 : Room 4 _ := hr.mono (by decide)
    have hr5 : Room 5 _ := hr.mono (by decide)
    have hr9 : Room 9 _ := hr.mono (by decide)
    refine ⟨_, pss_cons (ps_set (i := 1) sc_law.nd rfl (Or.inr rfl) (pe_lst (pa_cons (pv 0) (pa_cons pe_int (pa_cons pe_int (pa_cons pe_int pa_nil))))))
      (pss_cons (ps_set (i := 2) sc_law.nd rfl (Or.inr rfl) (pe_got G.machine hr3 pass0 (pa_cons (pv 1) (pa_cons (pe_lst (pa_cons pe_int (pa_cons pe_int (pa_cons pe_int (pa_cons pe_int pa_nil))))) (pa_cons pe_int (pa_cons pe_int pa_nil))))))
      (pss_cons (ps_asg (pe_tup (pa_cons (pe_ix ix_tup (pv 2) pe_int (fun _ _ => rfl)) (pa_cons (pe_callB call_len_seq (by rfl) B.len PySem.boot_len (pa_cons (pe_ix ix_tup (pv 2) pe_int (fun _ _ => rfl)) pa_nil)) pa_nil))) (pg_tup rfl (pgs_cons (pg_name (i := 3) sc_law.nd rfl (Or.inr rfl)) (pgs_cons (pg_name (i := 4) sc_law.nd rfl (Or.inr rfl)) pgs_nil))))
      (pss_cons (ps_asg (pe_tup (pa_cons (pe_got G.row hr2 pass0 (pa_cons (pv 1) (pa_cons (pv 3) (pa_cons (pv 4) pa_nil)))) (pa_cons (pe_got G.taken hr1 pass0 (pa_cons (pv 1) (pa_cons pe_int pa_nil))) pa_nil))) (pg_tup rfl (pgs_cons (pg_name (i := 5) sc_law.nd rfl (Or.inr rfl)) (pgs_cons (pg_name (i := 6) sc_law.nd rfl (Or.inl rfl)) pgs_nil))))
      (pss_cons (ps_set (i := 7) sc_law.nd rfl (Or.inl rfl) (pv 5))
      (pss_cons (ps_for (passes_of rfl) rfl (pi_range1 rfl B.range (pa_cons (pv 6) pa_nil)) (pg_name (i := 8) sc_law.nd rfl (Or.inl rfl)) (pss_one (ps_set (i := 7) sc_law.nd rfl (Or.inl rfl) (pe_got G.stirred hr2 pass0 (pa_cons (pv 2) (pa_cons (pv 7) pa_nil))))))
      (pss_cons (ps_if (pt_not (pt_val (pe_got G.alike hr3 pass0 (pa_cons (pe_got G.behind hr9 (passes_call (takes_of rfl rfl rfl rfl) fun _ _ _ _ z => z) (pa_cons (pv 2) (pa_cons (pv 5) (pa_cons (pv 6) pa_nil)))) (pa_cons (pv 7) pa_nil))))) (pss_one (ps_ret pe_bl)) pss_nil)
      (pss_cons (ps_par (i := 9) (j := 10) rfl sc_law.nd rfl rfl (by decide) rfl rfl (pa_cons (pe_got G.turns hr9 (passes_call (takes_of rfl rfl rfl rfl) fun _ _ _ _ z => z) (pa_cons (pv 2) pa_nil)) (pa_cons (pe_lc (own := [("other", 12)]) (g := gName 12) (tt := tYes) rfl sc_law.nd (pi_range1 rfl B.range (pa_cons (pv 4) pa_nil)) (blkOk_by (N := n_law) (sc := defScope s_law) (by decide +kernel)) (fun _ _ _ _ _ => pg_name (i := 12) sc_law.nd rfl (Or.inr rfl)) (fun _ _ _ _ _ => pts_nil)
          (fun _ _ _ _ _ => pe_callTy (show CallR _ (.type "tuple") (rTupK K) from call_tuple_of) (by rfl) B.tuple (by decide +kernel) (pa_cons (pe_lc (own := [("one", 11)]) (g := gName 11) (tt := tYes) rfl sc_law.nd (pi_range1 rfl B.range (pa_cons (pv 4) pa_nil)) (blkOk_by (by rfl)) (fun _ _ _ _ _ => pg_name (i := 11) sc_law.nd rfl (Or.inl rfl)) (fun _ _ _ _ _ => pts_nil)
            (fun _ _ _ _ _ => pe_callTy call_int1 (by rfl) B.int (by decide +kernel) (pa_cons (pe_cmpR op_eq (pv 11) (pv 12) (nomark _)) pa_nil))) pa_nil))) pa_nil)) (by rfl))
      (pss_cons (ps_set (i := 13) sc_law.nd rfl (Or.inl rfl) (pv 10))
      (pss_cons (ps_for (passes_of rfl) rfl (pi_range1 rfl B.range (pa_cons (pv 9) pa_nil)) (pg_name (i := 8) sc_law.nd rfl (Or.inl rfl))
        (pss_cons (ps_setLc (i := 13) (own := [("one", 11)]) (g := gName 11) (tt := tYes) rfl sc_law.nd rfl rfl (sw_true rfl rfl rfl (by decide +kernel)) (pi_list (pv 13)) (blkOk_by (N := n_law) (sc := defScope s_law) (by decide +kernel)) (fun _ _ _ _ _ => pg_name (i := 11) sc_law.nd rfl (Or.inl rfl)) (fun _ _ _ _ _ => pts_nil) (fun _ _ _ _ _ => pe_got G.stirred hr2 pass0 (pa_cons (pv 2) (pa_cons (pv 11) pa_nil))))
        (pss_one (ps_if (pt_cmpR op_ne (pe_cmpR (op_eqD hr.units) (pv 13) (pv 10) (nomark _)) (pe_cmpR op_eq (pv 8) (pe_op op_sub (pv 9) pe_int) rfl) rfl) (pss_one (ps_ret pe_bl)) pss_nil))))
      (pss_cons (ps_set (i := 14) sc_law.nd rfl (Or.inl rfl) (pe_got G.program hr3 pass0 (pa_cons (pv 1) (pa_cons (pv 3) (pa_cons pe_int (pa_cons pe_int pa_nil))))))
      (pss_cons (ps_par (i := 15) (j := 16) rfl sc_law.nd rfl rfl (by decide) rfl rfl (pa_cons (pe_callTy call_tuple_of (by rfl) B.tuple (by decide +kernel) (pa_cons (pe_lc (own := [("turn", 17)]) (g := gName 17) (tt := tYes) rfl sc_law.nd (pi_range1 rfl B.range (pa_cons (pe_got G.taken hr1 pass0 (pa_cons (pv 1) (pa_cons pe_int pa_nil))) pa_nil)) (blkOk_by (N := n_law) (sc := defScope s_law) (by decide +kernel)) (fun _ _ _ _ _ => pg_name (i := 17) sc_law.nd rfl (Or.inl rfl)) (fun _ _ _ _ _ => pts_nil)
          (fun _ _ _ _ _ => pe_got G.taken hr1 pass0 (pa_cons (pv 1) (pa_cons (pv 3) pa_nil)))) pa_nil)) (pa_cons (pe_got G.taken hr1 pass0 (pa_cons (pv 1) (pa_cons pe_int pa_nil))) pa_nil)) (by rfl))
      (pss_cons (ps_set (i := 18) sc_law.nd rfl (Or.inl rfl) (pe_got G.lrun hr4 pass0 (pa_cons (pe_got G.plain hr2 pass0 (pa_cons (pv 3) (pa_cons pe_int pa_nil))) (pa_cons (pv 14) (pa_cons (pv 15) (pa_cons (pv 16) (pa_cons (pe_tup (pa_cons pe_int (pa_cons pe_int pa_nil))) pa_nil)))))))
      (pss_cons (ps_if (pt_not (pt_val (pe_got G.alike hr3 pass0 (pa_cons (pe_got G.runSl hr5 (passes_call (takes_of rfl rfl rfl rfl) fun _ _ _ _ z => z) (pa_cons (pv 3) (pa_cons pe_int (pa_cons (pv 14) (pa_cons (pv 15) (pa_cons (pv 16) pa_nil)))))) (pa_cons (pv 18) pa_nil))))) (pss_one (ps_ret pe_bl)) pss_nil)
      (pss_cons (ps_if (pt_not (pt_val (pe_got G.alike hr3 pass0 (pa_cons (pe_got G.used hr5 (passes_call (takes_of rfl rfl rfl rfl) fun _ _ _ _ z => z) (pa_cons (pv 3) (pa_cons pe_int (pa_cons (pv 14) pa_nil)))) (pa_cons (pe_got G.lused hr2 pass0 (pa_cons (pv 14) pa_nil)) pa_nil))))) (pss_one (ps_ret pe_bl)) pss_nil)
      (pss_cons (ps_set (i := 12) sc_law.nd rfl (Or.inr rfl) (pe_op op_catT (pe_got G.program hr3 pass0 (pa_cons (pv 1) (pa_cons (pv 3) (pa_cons (pe_callB (call_min2 rfl) (by rfl) mn (by decide +kernel) (pa_cons (pe_callB call_len_seq (by rfl) B.len PySem.boot_len (pa_cons (pe_ix ix_tup (pv 2) pe_int (fun _ _ => rfl)) pa_nil)) (pa_cons (pe_callB call_len_seq (by rfl) B.len PySem.boot_len (pa_cons (pe_ix ix_tup (pv 2) pe_int (fun _ _ => rfl)) pa_nil)) pa_nil))) (pa_cons pe_int pa_nil))))) (pe_tup (pa_cons (pe_tup (pa_cons pe_str pa_nil)) pa_nil))))
      (pss_cons (ps_set (i := 19) sc_law.nd rfl (Or.inl rfl) (pe_got G.lrun hr4 pass0 (pa_cons (pv 2) (pa_cons (pv 12) (pa_cons (pv 15) (pa_cons (pv 16) (pa_cons (pv 5) pa_nil)))))))
      (pss_cons (ps_if (pt_not (pt_val (pe_got G.alike hr3 pass0 (pa_cons (pe_got G.runSt hr9 (passes_call (takes_of rfl rfl rfl rfl) fun _ _ _ _ z => z) (pa_cons (pv 2) (pa_cons (pv 12) (pa_cons (pv 15) (pa_cons (pv 16) (pa_cons (pv 5) pa_nil)))))) (pa_cons (pv 19) pa_nil))))) (pss_one (ps_ret pe_bl)) pss_nil)
      (pss_cons (ps_set (i := 20) sc_law.nd rfl (Or.inl rfl) (pe_lst (pa_cons (pe_tup (pa_cons pe_non (pa_cons pe_str pa_nil))) (pa_cons (pe_tup (pa_cons (pe_op (show OpR _ _ (rCatT K) from op_catT) (pe_tup (pa_cons pe_int pa_nil)) (pe_slice (show SlR _ (rSlT K) from sl_tup) (pv 2) (po_some pe_int) po_none)) (pa_cons pe_str pa_nil)))
          (pa_cons (pe_tup (pa_cons (pe_op (show OpR _ _ (rCatT K) from op_catT) (pe_tup (pa_cons (pv 3) (pa_cons (pe_tup (pa_cons (pe_tup (pa_cons pe_int pa_nil)) pa_nil)) pa_nil))) (pe_slice (show SlR _ (rSlT K) from sl_tup) (pv 2) (po_some pe_int) po_none)) (pa_cons pe_str pa_nil))) pa_nil)))))
      (pss_cons (ps_set (i := 20) sc_law.nd rfl (Or.inl rfl) (pe_op op_cat (pv 20) (pe_lst (pa_cons (pe_tup (pa_cons (pe_op (show OpR _ _ (rCatT K) from op_catT) (pe_op (show OpR _ _ (rCatT K) from op_catT) (pe_slice (show SlR _ (rSlT K) from sl_tup) (pv 2) po_none (po_some pe_int)) (pe_tup (pa_cons (pe_tup pa_nil) pa_nil))) (pe_slice (show SlR _ (rSlT K) from sl_tup) (pv 2) (po_some pe_int) po_none)) (pa_cons pe_str pa_nil)))
          (pa_cons (pe_tup (pa_cons (pe_op (show OpR _ _ (rCatT K) from op_catT) (pe_slice (show SlR _ (rSlT K) from sl_tup) (pv 2) po_none (po_some pe_int)) (pe_tup (pa_cons (pe_tup (pa_cons (pe_op (show OpR _ _ (rRepA K) from op_repA) (pe_tup (pa_cons (pv 3) pa_nil)) (pv 4)) pa_nil)) pa_nil))) (pa_cons pe_str pa_nil))) pa_nil)))))
      (pss_cons (ps_for (passes_of rfl) rfl (pi_list (pv 20)) (pg_tup rfl (pgs_cons (pg_name (i := 21) sc_law.nd rfl (Or.inl rfl)) (pgs_cons (pg_name (i := 22) sc_law.nd rfl (Or.inl rfl)) pgs_nil))) pO)
      pR)))))))))))))))))))), ?_⟩
    -- the drawer's row
    refine ⟨_, rfl, (by show 4 ≤ sizeLine; decide), fun a na => ?_⟩
    have r1 : Row0 K a sc ns (upd H a (.lst [.ref sc, .int 0, .int 7602, .int 0])) := row0_new (off_of na hsc) hsc (by decide) (by decide) (by decide)
    have Tb1 : Tabs [(Pt, qLam)] (upd H a (.lst [.ref sc, .int 0, .int 7602, .int 0])) := hT.ext (_root_.Evl.Ex.new na)
    generalize upd H a (.lst [.ref sc, .int 0, .int 7602, .int 0]) = H1 at r1 Tb1 ⊢
    -- the machine
    refine ⟨_, rfl, (by show 4 ≤ sizeLine; decide), fun t nt => ?_⟩
    have e2 : Ex H1 (upd H1 t (.lst [.int 2, .int 3, .int 5, .int 7])) := _root_.Evl.Ex.new nt
    have ta_ : t ≠ a := fun z => by
      obtain ⟨_, _, _, ha, _⟩ := r1
      rw [z, ha] at nt
      cases nt
    refine ⟨a, t, sc, ns, [2, 3, 5, 7], 3, 3, rfl, r1.ex e2, ta_, SqL.of upd_same, (fun p hp => ?_), by decide, by decide, by decide, by decide, by decide, by decide, fun v2 H2 eB2 r2 hD => ?_⟩
    · simp only [List.mem_cons, List.not_mem_nil, or_false] at hp
      rcases hp with rfl | rfl | rfl | rfl <;> decide
    obtain ⟨p, n, A, W, S, hp, n1, n3, hM2, oA, lA, fA, oW, oS, neW, lW, neS, lS⟩ := hD
    have hp' : p = 2 ∨ p = 3 ∨ p = 5 ∨ p = 7 := by
      simp only [List.mem_cons, List.not_mem_nil, or_false] at hp
      omega
    have prm : isPrm (.int p) = true := by rcases hp' with rfl | rfl | rfl | rfl <;> rfl
    have pb := prm_bd prm
    have M : MOk p n A W S := ⟨pb.1, pb.2, prmI prm, n1, by omega, oA, lA, oW, by omega, oS, by omega⟩
    have p1 := M.p1
    have p2 := M.p2
    have w1 := List.length_pos_iff.mpr neW
    have s1 := List.length_pos_iff.mpr neS
    have wp : ∀ {v : V} {G : Hp}, MachT K p A W S v G → WP K G v none := fun h => wp_good M prm fA w1 (by omega) s1 (by omega) h
    have Tb2 := tabs_n ((r1.ex e2).n eB2) (Tb1.ext e2)
    clear nt ta_ e2 eB2 r1
    obtain ⟨m, av, wv, sv, rfl, hm2, hA2, hW2, hS2⟩ := id hM2
    obtain ⟨ab, aus, rfl, hab, pab⟩ := id hA2
    have lau : aus.length = n := (pr_len pab).trans lA
    refine ⟨_, rfl, m, _, _, _, rfl, rfl, hm2, at_of (j := 0) rfl rfl, _, rfl, m, _, _, _, rfl, rfl, hm2, at_of (j := 1) rfl rfl, ab, aus, rfl, .inr hab, (by show 2 ≤ sizeLine; decide), fun t2 nt2 => ?_⟩
    rw [lau]
    have e3 := _root_.Evl.Ex.new (o := .tup [.int p, .int (n : Nat)]) nt2
    refine ⟨t2, _, rfl, SqT.of upd_same, rfl, _, _, rfl, _, _, rfl, rfl, ?_⟩
    have r3 := r2.ex e3
    have hM3 := hM2.ex e3
    have Tb3 := Tb2.ext e3
    generalize upd H2 t2 (.tup [.int p, .int (n : Nat)]) = H3 at r3 hM3 Tb3 ⊢
    clear hm2 hA2 hW2 hS2 hM2 r2 e3 hab pab
    -- the memory and the ticks
    refine ⟨_, rfl, _, rfl, _, rfl, a, sc, ns, p, n, rfl, r3, p1, p2, by omega, fun mv H4 e4 r4 hr0 => ?_⟩
    obtain ⟨r0, hm4, or0⟩ := hr0
    have hM4 := hM3.n (r3.n e4)
    have Tb4 := tabs_n (r3.n e4) Tb3
    refine ⟨_, rfl, a, sc, ns, 20, rfl, r4, by decide, by decide, fun tk H5 tk0 tk1 e5 r5 => ?_⟩
    have hM5 := hM4.n (r4.n e5)
    have Tb5 := tabs_n (r4.n e5) Tb4
    have hm5 := hm4.n (r4.n e5)
    refine ⟨(by show 2 ≤ sizeLine; decide), fun t3 nt3 => ?_⟩
    obtain ⟨tk', rfl⟩ : ∃ k : Nat, tk = (k : Int) := ⟨tk.toNat, by omega⟩
    have e6 := _root_.Evl.Ex.new (o := .tup [mv, .int (tk' : Nat)]) nt3
    refine ⟨t3, _, rfl, SqT.of upd_same, rfl, _, _, rfl, _, _, rfl, rfl, ?_⟩
    have r6 := r5.ex e6
    have hM6 := hM5.ex e6
    have Tb6 := Tb5.ext e6
    have hm6 := hm5.ex e6
    generalize upd H5 t3 (.tup [mv, .int (tk' : Nat)]) = H6 at r6 hM6 Tb6 hm6 ⊢
    clear hM3 r3 hM4 r4 hM5 r5 hm4 hm5 e4 e5 e6 nt3
    -- later
    refine ⟨_, rfl, ?_⟩
    refine ⟨_, rfl, _, rfl, by omega, by omega, ?_⟩
    refine for_range (lo := 0) (n := ((tk' : Nat) : Int).toNat) (fun i σ' G => ∃ (y8 : Option V) (u : V), σ' = ([some (.ref sc), some (.ref a), some (.ref m), some (.int p), some (.int (n : Nat)), some mv, some (.int (tk' : Nat)), some u, y8] ++ List.replicate 19 none) ∧ Ex H6 G ∧ RowT K (Lin.it p A i r0) u G)
      ⟨none, mv, rfl, _root_.Evl.Ex.refl _, hm6⟩ (fun i σ' G hi p' => ?_) fun σ' G p' => ?_
    · obtain ⟨y8, u, rfl, eG, hu⟩ := p'
      refine ⟨_, rfl, _, rfl, p, n, .ref m, u, A, W, S, _, rfl, hM6.ex eG, hu, p1, p2, by omega, oA, lA, Lin.it_ok (by omega) lA or0 i, fun z G2 e2 hz => ?_⟩
      exact ⟨_, z, rfl, eG.trans e2, hz⟩
    obtain ⟨y8, u, rfl, eG, hu⟩ := p'
    rw [Int.toNat_natCast] at hu
    have hM7 := hM6.ex eG
    have Tb7 := Tb6.ext eG
    have hm7 := hm6.ex eG
    have r7 := r6.ex eG
    clear hM6 hm6 r6 eG
    -- beside behind_ticks
    have M4 := M.n4
    refine ⟨_, rfl, _, rfl, _, rfl, p, n, .ref m, mv, A, W, S, r0.map V.int, tk', rfl, wp hM7, hM7, M, hm7, (fun x hx => by obtain ⟨y, _, rfl⟩ := List.mem_map.mp hx; exact .int y), by rw [List.length_map, or0.1]; omega, .inr ⟨r0, rfl, or0, by omega, fun z G1 e1 hz => ?_⟩⟩
    have hM8 := hM7.ex e1
    have Tb8 := Tb7.ext e1
    have hm8 := hm7.ex e1
    have r8 := r7.ex e1
    have oit := Lin.it_ok (p := p) (A := A) (v := r0) (by omega) lA or0 tk'
    refine ⟨_, rfl, z, u, rfl, (alikeT_row hz (hu.ex e1) (by rw [oit.1]; omega)).up, fun z2 G2 e2 ez2 => ?_⟩
    cases (show z2 = _ from ez2)
    refine ⟨true, rfl, iteF ?_⟩
    have hM9 := hM8.ex e2
    have Tb9 := Tb8.ext e2
    have hm9 := hm8.ex e2
    have r9 := r8.ex e2
    clear hM7 hm7 r7 hM8 hm8 r8 hz hu
    -- the round
    refine ⟨_, rfl, .ref m, rfl, .inr ⟨p, n, A, W, S, wp hM9, hM9, M, fA, fun zT H10 e10 hT => ?_⟩⟩
    obtain ⟨T, rfl, T1, T2, T3⟩ := hT
    have Tb : T ≤ 40353607 := Nat.le_trans (full_round_le p1 (prm_of M.prm) oA lA fA T3) (small_round hp' (by omega))
    have hM10 := hM9.ex e10
    have Tb10 := Tb9.ext e10
    have hm10 := hm9.ex e10
    have r10 := r9.ex e10
    clear hM9 hm9 r9 e10 e1 e2
    refine ⟨_, rfl, _, rfl, by omega, by omega, ?_⟩
    refine lc_go (walk_range (lo := 0) (n := ((n : Nat) : Int).toNat)) (by omega) (fun _ _ => trivial) (List.range n) (by rw [List.length_range, Int.toNat_natCast]) (fun _ => true) (fun j => RowT K (Lin.unit n j)) (fun _ => RowT.stb) (fun i j x G1 G2 hj e y C N hC hN => ?_) fun D ys H11 nD e11 hD hy => ?_
    · obtain ⟨rfl, ex⟩ := y
      have ex' : x = V.int ((i : Nat) : Int) := ex.trans (by show V.int _ = V.int _; rw [Int.zero_add])
      subst ex'
      have hi : i < n := by
        have := (List.getElem?_eq_some_iff.mp hj).1
        rwa [List.length_range] at this
      have ej : j = i := by
        rw [List.getElem?_range hi] at hj
        exact (Option.some.inj hj).symm
      subst ej
      refine ⟨rfl, yes_go ⟨_, rfl, _, rfl, by omega, by omega, ?_⟩⟩
      refine lc_go (walk_range (lo := 0) (n := ((n : Nat) : Int).toNat)) (by omega) (fun _ _ => trivial) (List.range n) (by rw [List.length_range, Int.toNat_natCast]) (fun _ => true) (fun m => IsV (.int (if m = j then 1 else 0))) (fun _ _ _ _ _ h => h) (fun m k y H3 H4 hm e3 yy2 C2 N2 hC2 hN2 => ?_) fun D2 ys2 H3 nD2 e3 hD2 hy2 => ?_
      · obtain ⟨rfl, ey⟩ := yy2
        have ey' : y = V.int ((m : Nat) : Int) := ey.trans (by show V.int _ = V.int _; rw [Int.zero_add])
        subst ey'
        have hm2 : m < n := by
          have := (List.getElem?_eq_some_iff.mp hm).1
          rwa [List.length_range] at this
        have em : k = m := by
          rw [List.getElem?_range hm2] at hm
          exact (Option.some.inj hm).symm
        subst em
        refine ⟨rfl, yes_go ⟨_, rfl, _, rfl, rfl, .inr ⟨_, rfl, ?_⟩⟩⟩
        refine hC2 rfl _ _ (_root_.Evl.Ex.refl _) ?_
        show V.int _ = V.int _
        by_cases e : k = j
        · subst e; simp
        · have : ¬ ((k : Int) = (j : Int)) := by omega
          simp [e, this]
      · rw [filter_yes] at hy2
        have ey : ys2 = (Lin.unit n j).map V.int := by
          rw [pr_fun hy2, ← unit_is hi, List.map_map]
          rfl
        subst ey
        exact ⟨D2, _, rfl, .inl ⟨SqL.of hD2, fun l nl => hC rfl _ _ (e3.trans (_root_.Evl.Ex.new nl)) (RowT.new upd_same)⟩⟩
    rw [filter_yes] at hy
    have hM11 := hM10.ex e11
    have Tb11 := Tb10.ext e11
    have hm11 := hm10.ex e11
    have r11 := r10.ex e11
    have hU : RowsL K (Lin.units n) (.ref D) H11 := ⟨D, ys, rfl, SqL.of hD, pr_map (G := fun x r => RowT K r x _) (f := Lin.unit n) hy fun _ _ z => z⟩
    clear hM10 hm10 r10 e11 hy
    refine ⟨_, _, rfl, ?_⟩
    refine ⟨_, rfl, ?_⟩
    refine ⟨_, rfl, _, rfl, by omega, by omega, ?_⟩
    have u0 : (Lin.units n).map (Lin.it p A 0) = Lin.units n := by rw [show Lin.it p A 0 = id from funext fun _ => rfl, List.map_id]
    refine for_range (lo := 0) (n := ((T : Nat) : Int).toNat) (fun i σ' G => ∃ (y8 : Option V) (dv : V), σ' = [some (.ref sc), some (.ref a), some (.ref m), some (.int p), some (.int (n : Nat)), some mv, some (.int (tk' : Nat)), some u, y8, some (.int (T : Nat)), some (.ref D), none, none, some dv] ++ List.replicate 14 none ∧ Ex H11 G ∧ RowsL K ((Lin.units n).map (Lin.it p A i)) dv G)
      ⟨y8, .ref D, rfl, _root_.Evl.Ex.refl _, by rw [u0]; exact hU⟩ (fun i σ' G hi p' => ?_) fun σ' G p' => ?_
    · obtain ⟨y8, dv, rfl, eG, hdv⟩ := p'
      rw [Int.toNat_natCast] at hi
      rw [Int.zero_add]
      obtain ⟨db, dus, rfl, hdb, pdb⟩ := id hdv
      have ul : (Lin.units n).length = n := Lin.units_len
      have ld := pr_len pdb
      rw [List.length_map, ul] at ld
      refine ⟨_, rfl, db, rfl, ⟨_, hdb⟩, ?_⟩
      refine lc_go (walk_list (xs := dus)) (by omega) (fun H' e => _root_.Evl.ex_l e hdb) ((Lin.units n).map (Lin.it p A i)) (by rw [List.length_map, ul, ld]) (fun _ => true) (fun r => RowT K (Lin.app p A r)) (fun _ => RowT.stb) (fun j d x G1 G2 hj e y C N hC hN => ?_) fun D2 ys2 G2 nD2 eD2 hD2 hy2 => ?_
      · obtain ⟨rfl, gy⟩ := y
        obtain ⟨d', hd', rd⟩ := pr_get pdb gy
        obtain rfl : d' = d := Option.some.inj (hd'.symm.trans hj)
        have od : Lin.OkR p n d' := by
          obtain ⟨v0, hv0, rfl⟩ := List.mem_map.mp (List.mem_of_getElem? hj)
          exact Lin.it_ok (by omega) lA (Lin.units_ok p1 v0 hv0) i
        exact ⟨rfl, yes_go ⟨_, rfl, _, rfl, p, n, .ref m, x, A, W, S, d', rfl, hM11.ex (eG.trans e), rd.ex e, p1, p2, by omega, oA, lA, od, fun z G3 e3 hz => hC rfl z G3 e3 hz⟩⟩
      · rw [filter_yes] at hy2
        have hN2 : RowsL K ((Lin.units n).map (Lin.it p A (i + 1))) (.ref D2) G2 := by
          refine ⟨D2, ys2, rfl, SqL.of hD2, ?_⟩
          have := pr_map (G := fun x r => RowT K r x G2) (f := Lin.app p A) hy2 fun _ _ z => z
          rw [List.map_map] at this
          exact this
        obtain ⟨ub, uus, hub, hub2, pub⟩ := hU.ex (eG.trans eD2)
        obtain ⟨nb, nus, hnb, hnb2, pnb⟩ := id hN2
        cases hub
        cases hnb
        refine ⟨_, rfl, _, rfl, _, _, .lst hnb2 (rowsD_dp pnb), .lst hub2 (rowsD_dp pub), rowsD_shaped _, rowsD_shaped _, ?_⟩
        rw [listT_eqv]
        refine ⟨_, rfl, _, rfl, _, _, rfl, rfl, rfl, rfl, _, rfl, ?_⟩
        have key : decide ((Lin.units n).map (Lin.it p A (i + 1)) = Lin.units n) = decide (V.int (i : Nat) = V.int (((T : Nat) : Int) - 1)) := by
          refine decide_eq_decide.mpr ?_
          rw [map_self, ← Lin.pw_still p1 oA lA (i + 1)]
          constructor
          · intro h
            have : i + 1 = T := by
              rcases Nat.lt_or_ge (i + 1) T with z | z
              · exact absurd h (T3 (i + 1) (by omega) z)
              · omega
            rw [← this]
            show V.int _ = V.int _
            congr 1
            omega
          · intro h
            have h' : (i : Int) = (T : Int) - 1 := V.int.inj h
            rw [show i + 1 = T by omega]
            exact T2
        rw [key]
        refine ite2 (fun c => by simp at c) (fun _ => ?_)
        exact ⟨_, _, rfl, eG.trans eD2, hN2⟩
    obtain ⟨y8', dv, rfl, eG, hdv⟩ := p'
    have hM12 := hM11.ex eG
    have Tb12 := Tb11.ext eG
    have hm12 := hm11.ex eG
    have r12 := r11.ex eG
    clear hM11 hm11 r11 eG hU hdv hD nD
    -- a program, inputs, how many
    refine ⟨_, rfl, _, rfl, a, sc, ns, p, 2, 8, rfl, r12, p1, p2, by decide, by decide, by decide, by decide, fun v14 H13 e13 r13 hP => ?_⟩
    obtain ⟨P0, hP13, l1, l2, X⟩ := hP
    have hM13 := hM12.n (r12.n e13)
    have Tb13 := tabs_n (r12.n e13) Tb12
    have hm13 := hm12.n (r12.n e13)
    clear hM12 hm12 r12 e13
    refine ⟨_, rfl, a, sc, ns, 5, rfl, r13, by decide, by decide, fun k5 H14 k0 k1 e14 r14 => ⟨_, rfl, by omega, by omega, ?_⟩⟩
    have hP14 := hP13.n (r13.n e14)
    have hM14 := hM13.n (r13.n e14)
    have Tb14 := tabs_n (r13.n e14) Tb13
    have hm14 := hm13.n (r13.n e14)
    clear hP13 hM13 hm13 r13 e14
    refine lc_row (a := a) (n := k5.toNat) (by omega) r14 (fun y H' => ∃ i : Int, y = .int i ∧ 0 ≤ i ∧ i < p) (fun y G G' e h => h) (fun i x G hi ex eG rG C N hC => ?_) fun D ys H15 nD e15 r15 hD hl hy => ?_
    · exact ⟨rfl, yes_go ⟨_, rfl, _, rfl, a, sc, ns, p, rfl, rG, by omega, by omega, fun r G' q0 q1 e' rG' => hC _ G' e' rG' ⟨r, rfl, q0, q1⟩⟩⟩
    obtain ⟨ins, rfl, oI⟩ := ints_all hy
    rw [List.length_map] at hl
    have hP15 := hP14.n (r14.n e15)
    have hM15 := hM14.n (r14.n e15)
    have Tb15 := tabs_n (r14.n e15) Tb14
    have hm15 := hm14.n (r14.n e15)
    clear hP14 hM14 hm14 r14 e15 hy
    refine ⟨D, _, rfl, .inl ⟨SqL.of hD, fun l nl => ?_⟩⟩
    have e16 := _root_.Evl.Ex.new (o := .tup (ins.map V.int)) nl
    have hI16 : RowT K ins (.ref l) (upd H15 l (.tup (ins.map V.int))) := RowT.new upd_same
    have hP16 := hP15.ex e16
    have hM16 := hM15.ex e16
    have Tb16 := Tb15.ext e16
    have hm16 := hm15.ex e16
    have r16 := r15.ex e16
    generalize upd H15 l (.tup (ins.map V.int)) = H16 at hI16 hP16 hM16 Tb16 hm16 r16 ⊢
    clear hP15 hM15 hm15 r15 e16 hD nD nl
    refine ⟨_, rfl, a, sc, ns, 25, rfl, r16, by decide, by decide, fun mo H17 m0 m1 e17 r17 => ⟨_, _, rfl, ?_⟩⟩
    obtain ⟨most, rfl⟩ : ∃ k : Nat, mo = (k : Int) := ⟨mo.toNat, by omega⟩
    have hI17 := hI16.n (r16.n e17)
    have hP17 := hP16.n (r16.n e17)
    have hM17 := hM16.n (r16.n e17)
    have Tb17 := tabs_n (r16.n e17) Tb16
    have hm17 := hm16.n (r16.n e17)
    clear hI16 hP16 hM16 hm16 r16 e17
    -- on the plain machine
    have ul : (Lin.units 2).length = 2 := Lin.units_len
    have M2 : MOk p 2 (Lin.units 2) (Lin.units 2) (Lin.units 2) := mok_still prm (by decide) (by decide)
    refine ⟨_, rfl, p, 2, rfl, by decide, fun pm H18 e18 hPM => ?_⟩
    refine ⟨_, rfl, _, rfl, _, rfl, (by show 2 ≤ sizeLine; decide), fun t5 nt5 => ?_⟩
    have e19 := _root_.Evl.Ex.new (o := .tup [.int 0, .int 0]) nt5
    have h00 : RowT K [0, 0] (.ref t5) (upd H18 t5 (.tup [.int 0, .int 0])) := RowT.new upd_same
    have e189 := e18.trans e19
    refine ⟨p, 2, _, _, _, pm, v14, .ref l, .ref t5, P0, ins, [0, 0], most, false, rfl, hPM.ex e19, M2, hP17.ex e189, by rw [ul]; exact X, by omega, hI17.ex e189, oI, h00, Lin.ok_zero (p := p) 2 (by omega), by omega, fun pl H20 e20 hE => ?_⟩
    have E20 := e189.trans e20
    have hI20 := hI17.ex E20
    have hP20 := hP17.ex E20
    have hM20 := hM17.ex E20
    have Tb20 := Tb17.ext E20
    have hm20 := hm17.ex E20
    have r20 := r17.ex E20
    clear hI17 hP17 hM17 hm17 r17 E20 e189 e18 e19 e20 hPM h00 nt5
    refine ⟨_, rfl, _, rfl, _, rfl, _, rfl, p, 2, v14, .ref l, P0.map iv, most, rfl, prm, by decide, by decide, hP20, by rw [List.length_map]; exact l1, by rw [List.length_map]; omega, .inr ⟨P0, ins, rfl, X, hI20, oI, by omega, by omega, fun z H21 e21 hz => ?_⟩⟩
    refine ⟨_, rfl, z, pl, rfl, alikeT_end hz (hE.ex e21) (by omega), fun z2 H22 e22 ez2 => ?_⟩
    cases (show z2 = _ from ez2)
    refine ⟨true, rfl, iteF ?_⟩
    have E22 := e21.trans e22
    have hI22 := hI20.ex E22
    have hP22 := hP20.ex E22
    have hM22 := hM20.ex E22
    have Tb22 := Tb20.ext E22
    have hm22 := hm20.ex E22
    have r22 := r20.ex E22
    clear hI20 hP20 hM20 hm20 r20 E22 e21 e22 hE hz
    -- used
    refine ⟨_, rfl, _, rfl, p, 2, v14, P0, rfl, prm, by decide, by decide, hP22, X, l1, by omega, fun z H23 e23 hz => ?_⟩
    refine ⟨_, rfl, P0, v14, rfl, hP22.ex e23, X.jmp, by omega, fun z2 H24 e24 hz2 => ?_⟩
    refine ⟨z, z2, rfl, (alikeT_names (hz.ex e24) hz2 (n := 2) (by decide) fun k hk => named_lt X hk).up, fun z3 H25 e25 ez3 => ?_⟩
    cases (show z3 = _ from ez3)
    refine ⟨true, rfl, iteF ?_⟩
    have E25 := (e23.trans e24).trans e25
    have hI25 := hI22.ex E25
    have hP25 := hP22.ex E25
    have hM25 := hM22.ex E25
    have Tb25 := Tb22.ext E25
    have hm25 := hm22.ex E25
    have r25 := r22.ex E25
    clear hI22 hP22 hM22 hm22 r22 E25 e23 e24 e25 hz hz2
    -- another program, on the machine drawn
    obtain ⟨m', av', wv', sv', hmm', hmt, hAt, ⟨wb, wus, rfl, hwb, pwb⟩, ⟨sb, sus, rfl, hsb, psb⟩⟩ := id hM25
    cases hmm'
    have lw := pr_len pwb
    have ls := pr_len psb
    refine ⟨_, rfl, _, rfl, _, rfl, m, _, _, _, rfl, rfl, hmt, at_of (j := 2) rfl rfl, wb, wus, rfl, .inr hwb, _, rfl, m, _, _, _, rfl, rfl, hmt, at_of (j := 3) rfl rfl, sb, sus, rfl, .inr hsb, _, _, rfl, ?_⟩
    obtain ⟨c, hc, c1, cw, cs⟩ : ∃ c : Nat, (if ((sus.length : Nat) : Int) < (wus.length : Nat) then ((sus.length : Nat) : Int) else (wus.length : Nat)) = (c : Nat) ∧ 1 ≤ c ∧ c ≤ W.length ∧ c ≤ S.length := by
      by_cases z : sus.length < wus.length
      · exact ⟨sus.length, by rw [if_pos (by omega)], by omega, by omega, by omega⟩
      · exact ⟨wus.length, by rw [if_neg (by omega)], by omega, by omega, by omega⟩
    rw [hc]
    refine ⟨a, sc, ns, p, c, 8, rfl, r25, p1, p2, c1, by omega, by decide, by decide, fun v12 H26 e26 r26 hQ => ?_⟩
    obtain ⟨P1, hQ26, k1', k2', Y⟩ := hQ
    have hI26 := hI25.n (r25.n e26)
    have hP26 := hP25.n (r25.n e26)
    have hM26 := hM25.n (r25.n e26)
    have Tb26 := tabs_n (r25.n e26) Tb25
    have hm26 := hm25.n (r25.n e26)
    clear hI25 hP25 hM25 hm25 r25 e26 hmt hAt hwb hsb pwb psb
    obtain ⟨qa, qus, rfl, hqa, pqa⟩ := id hQ26
    refine ⟨(by show 1 ≤ sizeLine; decide), fun t6 nt6 => ⟨(by show 1 ≤ sizeLine; decide), fun t7 nt7 => ?_⟩⟩
    have g6 := _root_.Evl.Ex.new (o := .tup [.str "wait"]) nt6
    have g7 := _root_.Evl.Ex.new (o := .tup [.ref t6]) nt7
    have k6 := g7 _ _ (upd_same (H := H26) (a := t6) (o := .tup [.str "wait"]))
    have k7 := upd_same (H := upd H26 t6 (.tup [.str "wait"])) (a := t7) (o := .tup [.ref t6])
    have g67 := g6.trans g7
    generalize upd (upd H26 t6 (.tup [.str "wait"])) t7 (.tup [.ref t6]) = H27 at g67 k6 k7 ⊢
    have lq : qus.length = P1.length := by rw [pr_len pqa, List.length_map]
    refine ⟨qa, t7, qus, [.ref t6], rfl, rfl, _root_.Evl.ex_t g67 hqa, SqT.of k7, (fun z => by rw [z] at lq; simp at lq; omega), Nat.le_of_lt (Nat.lt_of_le_of_lt (show qus.length + 1 ≤ 1000 by omega) (by decide)), (fun z => by cases z), fun _ q8 nq8 => ?_⟩
    have g8 := _root_.Evl.Ex.new (o := .tup (qus ++ [.ref t6])) nq8
    have G8 := g67.trans g8
    have hQ28 : PrgT K (P1 ++ [((.wait : Wd), 0)]) (.ref q8) (upd H27 q8 (.tup (qus ++ [.ref t6]))) := ⟨q8, _, rfl, SqT.of upd_same, prgT_wait (a := q8) (pr_mono pqa fun _ _ h => h.ex G8) (SqT.of (g8 _ _ k6))⟩
    have Y2 := Y.wait cs cw
    have hI28 := hI26.ex G8
    have hP28 := hP26.ex G8
    have hM28 := hM26.ex G8
    have Tb28 := Tb26.ext G8
    have hm28 := hm26.ex G8
    have r28 := r26.ex G8
    generalize upd H27 q8 (.tup (qus ++ [.ref t6])) = H28 at hQ28 hI28 hP28 hM28 Tb28 hm28 r28 ⊢
    clear hI26 hP26 hM26 hm26 r26 G8 g8 g67 g6 g7 k6 k7 hQ26 hqa pqa nq8 nt6 nt7 Y
    have lP1 : (P1 ++ [((.wait : Wd), 0)]).length ≤ 9 := by rw [List.length_append, List.length_singleton]; omega
    have lP1' : 1 ≤ (P1 ++ [((.wait : Wd), 0)]).length := by rw [List.length_append, List.length_singleton]; omega
    generalize P1 ++ [((.wait : Wd), 0)] = P2 at hQ28 Y2 lP1 lP1'
    refine ⟨_, rfl, _, rfl, _, rfl, _, rfl, _, rfl, p, n, A, W, S, .ref m, .ref q8, .ref l, mv, P2, ins, r0, most, true, rfl, hM28, M, hQ28, Y2, by omega, hI28, oI, hm28, or0, by omega, fun fr H29 e29 hF => ?_⟩
    have hI29 := hI28.ex e29
    have hM29 := hM28.ex e29
    have Tb29 := Tb28.ext e29
    have hm29 := hm28.ex e29
    have hQ29 := hQ28.ex e29
    refine ⟨_, rfl, _, rfl, _, rfl, _, rfl, _, rfl, p, n, A, W, S, .ref m, .ref q8, .ref l, mv, P2, ins.map V.int, r0, most, rfl, wp hM29, hM29, M, hQ29, Y2, lP1', by omega, hI29, (fun x hx => by obtain ⟨y, _, rfl⟩ := List.mem_map.mp hx; exact .int y), by rw [List.length_map]; omega, hm29, or0, by omega, .inr ⟨ins, rfl, oI, fun z H30 e30 hz => ?_⟩⟩
    refine ⟨_, rfl, z, fr, rfl, alikeT_end hz (hF.ex e30) (by omega), fun z2 H31 e31 ez2 => ?_⟩
    cases (show z2 = _ from ez2)
    refine ⟨true, rfl, iteF ?_⟩
    have E31 := (e29.trans e30).trans e31
    have hI31 := hI28.ex E31
    have hP31 := hP28.ex E31
    have hM31 := hM28.ex E31
    have Tb31 := Tb28.ext E31
    have hm31 := hm28.ex E31
    have hQ31 := hQ28.ex E31
    have r31 := r28.ex E31
    clear hI28 hP28 hM28 hm28 r28 hQ28 hI29 hM29 hm29 hQ29 hF hz E31 e29 e30 e31
    -- the odd machines
    obtain ⟨m9, av9, wv9, sv9, hm9, hmt, hAt, hWt, hSt⟩ := id hM31
    cases hm9
    have stO : ∀ {G : Hp}, RowsT K A av9 G → StirOk K G p n A av9 := fun h => ⟨h, oA, lA, n1, M4, fA⟩
    refine ⟨(by show 2 ≤ sizeLine; decide), fun o1 no1 => ?_⟩
    have xG1 := _root_.Evl.Ex.new (o := .tup [.non, .str "machine"]) no1
    have ko1 := upd_same (H := H31) (a := o1) (o := .tup [.non, .str "machine"])
    have eX := xG1
    generalize upd H31 o1 (.tup [.non, .str "machine"]) = G1 at eX ko1 ⊢
    clear xG1
    refine ⟨(by show 1 ≤ sizeLine; decide), fun a1 na1 => ?_⟩
    have xG2 := _root_.Evl.Ex.new (o := .tup [.int 4]) na1
    have ka1 := upd_same (H := G1) (a := a1) (o := .tup [.int 4])
    have ko1 := xG2 _ _ ko1
    have eX := eX.trans xG2
    generalize upd G1 a1 (.tup [.int 4]) = G2 at eX ko1 ka1 ⊢
    clear xG2
    refine ⟨_, rfl, _, rfl, m, _, rfl, (_root_.Evl.ex_t eX hmt), (by show ¬ (HT.sIx 4 0 (some 1) = 0 ∧ HT.sIx 4 4 none = 4); decide), fun s1 ns1 => ?_⟩
    rw [show cutV [.int p, av9, wv9, sv9] (some 1) none = [av9, wv9, sv9] from rfl]
    have xG3 := _root_.Evl.Ex.new (o := .tup [av9, wv9, sv9]) ns1
    have ks1 := upd_same (H := G2) (a := s1) (o := .tup [av9, wv9, sv9])
    have ko1 := xG3 _ _ ko1
    have ka1 := xG3 _ _ ka1
    have eX := eX.trans xG3
    generalize upd G2 s1 (.tup [av9, wv9, sv9]) = G3 at eX ko1 ka1 ks1 ⊢
    clear xG3
    refine ⟨a1, s1, [.int 4], [av9, wv9, sv9], rfl, rfl, SqT.of ka1, SqT.of ks1, by simp, (by show 1 + 3 ≤ sizeLine; decide), (fun z => by simp at z), fun _ c2 nc2 => ?_⟩
    rw [show [.int 4] ++ [av9, wv9, sv9] = [.int 4, av9, wv9, sv9] from rfl]
    have xG4 := _root_.Evl.Ex.new (o := .tup [.int 4, av9, wv9, sv9]) nc2
    have kc2 := upd_same (H := G3) (a := c2) (o := .tup [.int 4, av9, wv9, sv9])
    have ko1 := xG4 _ _ ko1
    have ka1 := xG4 _ _ ka1
    have ks1 := xG4 _ _ ks1
    have eX := eX.trans xG4
    generalize upd G3 c2 (.tup [.int 4, av9, wv9, sv9]) = G4 at eX ko1 ka1 ks1 kc2 ⊢
    clear xG4
    refine ⟨(by show 2 ≤ sizeLine; decide), fun o2 no2 => ?_⟩
    have xG5 := _root_.Evl.Ex.new (o := .tup [.ref c2, .str "prime"]) no2
    have ko2 := upd_same (H := G4) (a := o2) (o := .tup [.ref c2, .str "prime"])
    have ko1 := xG5 _ _ ko1
    have ka1 := xG5 _ _ ka1
    have ks1 := xG5 _ _ ks1
    have kc2 := xG5 _ _ kc2
    have eX := eX.trans xG5
    generalize upd G4 o2 (.tup [.ref c2, .str "prime"]) = G5 at eX ko1 ka1 ks1 kc2 ko2 ⊢
    clear xG5
    refine ⟨_, rfl, (by show 1 ≤ sizeLine; decide), fun r3 nr3 => ?_⟩
    have xG6 := _root_.Evl.Ex.new (o := .tup [.int 0]) nr3
    have kr3 := upd_same (H := G5) (a := r3) (o := .tup [.int 0])
    have ko1 := xG6 _ _ ko1
    have ka1 := xG6 _ _ ka1
    have ks1 := xG6 _ _ ks1
    have kc2 := xG6 _ _ kc2
    have ko2 := xG6 _ _ ko2
    have eX := eX.trans xG6
    generalize upd G5 r3 (.tup [.int 0]) = G6 at eX ko1 ka1 ks1 kc2 ko2 kr3 ⊢
    clear xG6
    refine ⟨(by show 1 ≤ sizeLine; decide), fun b3 nb3 => ?_⟩
    have xG7 := _root_.Evl.Ex.new (o := .tup [.ref r3]) nb3
    have kb3 := upd_same (H := G6) (a := b3) (o := .tup [.ref r3])
    have ko1 := xG7 _ _ ko1
    have ka1 := xG7 _ _ ka1
    have ks1 := xG7 _ _ ks1
    have kc2 := xG7 _ _ kc2
    have ko2 := xG7 _ _ ko2
    have kr3 := xG7 _ _ kr3
    have eX := eX.trans xG7
    generalize upd G6 b3 (.tup [.ref r3]) = G7 at eX ko1 ka1 ks1 kc2 ko2 kr3 kb3 ⊢
    clear xG7
    refine ⟨(by show 2 ≤ sizeLine; decide), fun a3 na3 => ?_⟩
    have xG8 := _root_.Evl.Ex.new (o := .tup [.int p, .ref b3]) na3
    have ka3 := upd_same (H := G7) (a := a3) (o := .tup [.int p, .ref b3])
    have ko1 := xG8 _ _ ko1
    have ka1 := xG8 _ _ ka1
    have ks1 := xG8 _ _ ks1
    have kc2 := xG8 _ _ kc2
    have ko2 := xG8 _ _ ko2
    have kr3 := xG8 _ _ kr3
    have kb3 := xG8 _ _ kb3
    have eX := eX.trans xG8
    generalize upd G7 a3 (.tup [.int p, .ref b3]) = G8 at eX ko1 ka1 ks1 kc2 ko2 kr3 kb3 ka3 ⊢
    clear xG8
    refine ⟨_, rfl, _, rfl, m, _, rfl, (_root_.Evl.ex_t eX hmt), (by show ¬ (HT.sIx 4 0 (some 2) = 0 ∧ HT.sIx 4 4 none = 4); decide), fun s3 ns3 => ?_⟩
    rw [show cutV [.int p, av9, wv9, sv9] (some 2) none = [wv9, sv9] from rfl]
    have xG9 := _root_.Evl.Ex.new (o := .tup [wv9, sv9]) ns3
    have ks3 := upd_same (H := G8) (a := s3) (o := .tup [wv9, sv9])
    have ko1 := xG9 _ _ ko1
    have ka1 := xG9 _ _ ka1
    have ks1 := xG9 _ _ ks1
    have kc2 := xG9 _ _ kc2
    have ko2 := xG9 _ _ ko2
    have kr3 := xG9 _ _ kr3
    have kb3 := xG9 _ _ kb3
    have ka3 := xG9 _ _ ka3
    have eX := eX.trans xG9
    generalize upd G8 s3 (.tup [wv9, sv9]) = G9 at eX ko1 ka1 ks1 kc2 ko2 kr3 kb3 ka3 ks3 ⊢
    clear xG9
    refine ⟨a3, s3, [.int p, .ref b3], [wv9, sv9], rfl, rfl, SqT.of ka3, SqT.of ks3, by simp, (by show 2 + 2 ≤ sizeLine; decide), (fun z => by simp at z), fun _ c3 nc3 => ?_⟩
    rw [show [.int p, .ref b3] ++ [wv9, sv9] = [.int p, .ref b3, wv9, sv9] from rfl]
    have xG10 := _root_.Evl.Ex.new (o := .tup [.int p, .ref b3, wv9, sv9]) nc3
    have kc3 := upd_same (H := G9) (a := c3) (o := .tup [.int p, .ref b3, wv9, sv9])
    have ko1 := xG10 _ _ ko1
    have ka1 := xG10 _ _ ka1
    have ks1 := xG10 _ _ ks1
    have kc2 := xG10 _ _ kc2
    have ko2 := xG10 _ _ ko2
    have kr3 := xG10 _ _ kr3
    have kb3 := xG10 _ _ kb3
    have ka3 := xG10 _ _ ka3
    have ks3 := xG10 _ _ ks3
    have eX := eX.trans xG10
    generalize upd G9 c3 (.tup [.int p, .ref b3, wv9, sv9]) = G10 at eX ko1 ka1 ks1 kc2 ko2 kr3 kb3 ka3 ks3 kc3 ⊢
    clear xG10
    refine ⟨(by show 2 ≤ sizeLine; decide), fun o3 no3 => ?_⟩
    have xG11 := _root_.Evl.Ex.new (o := .tup [.ref c3, .str "stir"]) no3
    have ko3 := upd_same (H := G10) (a := o3) (o := .tup [.ref c3, .str "stir"])
    have ko1 := xG11 _ _ ko1
    have ka1 := xG11 _ _ ka1
    have ks1 := xG11 _ _ ks1
    have kc2 := xG11 _ _ kc2
    have ko2 := xG11 _ _ ko2
    have kr3 := xG11 _ _ kr3
    have kb3 := xG11 _ _ kb3
    have ka3 := xG11 _ _ ka3
    have ks3 := xG11 _ _ ks3
    have kc3 := xG11 _ _ kc3
    have eX := eX.trans xG11
    generalize upd G10 o3 (.tup [.ref c3, .str "stir"]) = G11 at eX ko1 ka1 ks1 kc2 ko2 kr3 kb3 ka3 ks3 kc3 ko3 ⊢
    clear xG11
    refine ⟨(by show 3 ≤ sizeLine; decide), fun l19 nl19 => ?_⟩
    have xG12 := _root_.Evl.Ex.new (o := .lst [.ref o1, .ref o2, .ref o3]) nl19
    have kl19 := upd_same (H := G11) (a := l19) (o := .lst [.ref o1, .ref o2, .ref o3])
    have ko1 := xG12 _ _ ko1
    have ka1 := xG12 _ _ ka1
    have ks1 := xG12 _ _ ks1
    have kc2 := xG12 _ _ kc2
    have ko2 := xG12 _ _ ko2
    have kr3 := xG12 _ _ kr3
    have kb3 := xG12 _ _ kb3
    have ka3 := xG12 _ _ ka3
    have ks3 := xG12 _ _ ks3
    have kc3 := xG12 _ _ kc3
    have ko3 := xG12 _ _ ko3
    have eX := eX.trans xG12
    generalize upd G11 l19 (.lst [.ref o1, .ref o2, .ref o3]) = G12 at eX ko1 ka1 ks1 kc2 ko2 kr3 kb3 ka3 ks3 kc3 ko3 kl19 ⊢
    clear xG12
    refine ⟨_, rfl, _, rfl, _, rfl, m, _, rfl, (_root_.Evl.ex_t eX hmt), (by show ¬ (HT.sIx 4 0 none = 0 ∧ HT.sIx 4 4 (some 2) = 4); decide), fun s4 ns4 => ?_⟩
    rw [show cutV [.int p, av9, wv9, sv9] none (some 2) = [.int p, av9] from rfl]
    have xG13 := _root_.Evl.Ex.new (o := .tup [.int p, av9]) ns4
    have ks4 := upd_same (H := G12) (a := s4) (o := .tup [.int p, av9])
    have ko1 := xG13 _ _ ko1
    have ka1 := xG13 _ _ ka1
    have ks1 := xG13 _ _ ks1
    have kc2 := xG13 _ _ kc2
    have ko2 := xG13 _ _ ko2
    have kr3 := xG13 _ _ kr3
    have kb3 := xG13 _ _ kb3
    have ka3 := xG13 _ _ ka3
    have ks3 := xG13 _ _ ks3
    have kc3 := xG13 _ _ kc3
    have ko3 := xG13 _ _ ko3
    have kl19 := xG13 _ _ kl19
    have eX := eX.trans xG13
    generalize upd G12 s4 (.tup [.int p, av9]) = G13 at eX ko1 ka1 ks1 kc2 ko2 kr3 kb3 ka3 ks3 kc3 ko3 kl19 ks4 ⊢
    clear xG13
    refine ⟨(by show 0 ≤ sizeLine; decide), fun b4 nb4 => ?_⟩
    have xG14 := _root_.Evl.Ex.new (o := .tup []) nb4
    have kb4 := upd_same (H := G13) (a := b4) (o := .tup [])
    have ko1 := xG14 _ _ ko1
    have ka1 := xG14 _ _ ka1
    have ks1 := xG14 _ _ ks1
    have kc2 := xG14 _ _ kc2
    have ko2 := xG14 _ _ ko2
    have kr3 := xG14 _ _ kr3
    have kb3 := xG14 _ _ kb3
    have ka3 := xG14 _ _ ka3
    have ks3 := xG14 _ _ ks3
    have kc3 := xG14 _ _ kc3
    have ko3 := xG14 _ _ ko3
    have kl19 := xG14 _ _ kl19
    have ks4 := xG14 _ _ ks4
    have eX := eX.trans xG14
    generalize upd G13 b4 (.tup []) = G14 at eX ko1 ka1 ks1 kc2 ko2 kr3 kb3 ka3 ks3 kc3 ko3 kl19 ks4 kb4 ⊢
    clear xG14
    refine ⟨(by show 1 ≤ sizeLine; decide), fun a4 na4 => ?_⟩
    have xG15 := _root_.Evl.Ex.new (o := .tup [.ref b4]) na4
    have ka4 := upd_same (H := G14) (a := a4) (o := .tup [.ref b4])
    have ko1 := xG15 _ _ ko1
    have ka1 := xG15 _ _ ka1
    have ks1 := xG15 _ _ ks1
    have kc2 := xG15 _ _ kc2
    have ko2 := xG15 _ _ ko2
    have kr3 := xG15 _ _ kr3
    have kb3 := xG15 _ _ kb3
    have ka3 := xG15 _ _ ka3
    have ks3 := xG15 _ _ ks3
    have kc3 := xG15 _ _ kc3
    have ko3 := xG15 _ _ ko3
    have kl19 := xG15 _ _ kl19
    have ks4 := xG15 _ _ ks4
    have kb4 := xG15 _ _ kb4
    have eX := eX.trans xG15
    generalize upd G14 a4 (.tup [.ref b4]) = G15 at eX ko1 ka1 ks1 kc2 ko2 kr3 kb3 ka3 ks3 kc3 ko3 kl19 ks4 kb4 ka4 ⊢
    clear xG15
    refine ⟨s4, a4, [.int p, av9], [.ref b4], rfl, rfl, SqT.of ks4, SqT.of ka4, by simp, (by show 2 + 1 ≤ sizeLine; decide), (fun z => by simp at z), fun _ c4a nc4a => ?_⟩
    rw [show [.int p, av9] ++ [.ref b4] = [.int p, av9, .ref b4] from rfl]
    have xG16 := _root_.Evl.Ex.new (o := .tup [.int p, av9, .ref b4]) nc4a
    have kc4a := upd_same (H := G15) (a := c4a) (o := .tup [.int p, av9, .ref b4])
    have ko1 := xG16 _ _ ko1
    have ka1 := xG16 _ _ ka1
    have ks1 := xG16 _ _ ks1
    have kc2 := xG16 _ _ kc2
    have ko2 := xG16 _ _ ko2
    have kr3 := xG16 _ _ kr3
    have kb3 := xG16 _ _ kb3
    have ka3 := xG16 _ _ ka3
    have ks3 := xG16 _ _ ks3
    have kc3 := xG16 _ _ kc3
    have ko3 := xG16 _ _ ko3
    have kl19 := xG16 _ _ kl19
    have ks4 := xG16 _ _ ks4
    have kb4 := xG16 _ _ kb4
    have ka4 := xG16 _ _ ka4
    have eX := eX.trans xG16
    generalize upd G15 c4a (.tup [.int p, av9, .ref b4]) = G16 at eX ko1 ka1 ks1 kc2 ko2 kr3 kb3 ka3 ks3 kc3 ko3 kl19 ks4 kb4 ka4 kc4a ⊢
    clear xG16
    refine ⟨_, rfl, _, rfl, m, _, rfl, (_root_.Evl.ex_t eX hmt), (by show ¬ (HT.sIx 4 0 (some 3) = 0 ∧ HT.sIx 4 4 none = 4); decide), fun s4b ns4b => ?_⟩
    rw [show cutV [.int p, av9, wv9, sv9] (some 3) none = [sv9] from rfl]
    have xG17 := _root_.Evl.Ex.new (o := .tup [sv9]) ns4b
    have ks4b := upd_same (H := G16) (a := s4b) (o := .tup [sv9])
    have ko1 := xG17 _ _ ko1
    have ka1 := xG17 _ _ ka1
    have ks1 := xG17 _ _ ks1
    have kc2 := xG17 _ _ kc2
    have ko2 := xG17 _ _ ko2
    have kr3 := xG17 _ _ kr3
    have kb3 := xG17 _ _ kb3
    have ka3 := xG17 _ _ ka3
    have ks3 := xG17 _ _ ks3
    have kc3 := xG17 _ _ kc3
    have ko3 := xG17 _ _ ko3
    have kl19 := xG17 _ _ kl19
    have ks4 := xG17 _ _ ks4
    have kb4 := xG17 _ _ kb4
    have ka4 := xG17 _ _ ka4
    have kc4a := xG17 _ _ kc4a
    have eX := eX.trans xG17
    generalize upd G16 s4b (.tup [sv9]) = G17 at eX ko1 ka1 ks1 kc2 ko2 kr3 kb3 ka3 ks3 kc3 ko3 kl19 ks4 kb4 ka4 kc4a ks4b ⊢
    clear xG17
    refine ⟨c4a, s4b, [.int p, av9, .ref b4], [sv9], rfl, rfl, SqT.of kc4a, SqT.of ks4b, by simp, (by show 3 + 1 ≤ sizeLine; decide), (fun z => by simp at z), fun _ c4 nc4 => ?_⟩
    rw [show [.int p, av9, .ref b4] ++ [sv9] = [.int p, av9, .ref b4, sv9] from rfl]
    have xG18 := _root_.Evl.Ex.new (o := .tup [.int p, av9, .ref b4, sv9]) nc4
    have kc4 := upd_same (H := G17) (a := c4) (o := .tup [.int p, av9, .ref b4, sv9])
    have ko1 := xG18 _ _ ko1
    have ka1 := xG18 _ _ ka1
    have ks1 := xG18 _ _ ks1
    have kc2 := xG18 _ _ kc2
    have ko2 := xG18 _ _ ko2
    have kr3 := xG18 _ _ kr3
    have kb3 := xG18 _ _ kb3
    have ka3 := xG18 _ _ ka3
    have ks3 := xG18 _ _ ks3
    have kc3 := xG18 _ _ kc3
    have ko3 := xG18 _ _ ko3
    have kl19 := xG18 _ _ kl19
    have ks4 := xG18 _ _ ks4
    have kb4 := xG18 _ _ kb4
    have ka4 := xG18 _ _ ka4
    have kc4a := xG18 _ _ kc4a
    have ks4b := xG18 _ _ ks4b
    have eX := eX.trans xG18
    generalize upd G17 c4 (.tup [.int p, av9, .ref b4, sv9]) = G18 at eX ko1 ka1 ks1 kc2 ko2 kr3 kb3 ka3 ks3 kc3 ko3 kl19 ks4 kb4 ka4 kc4a ks4b kc4 ⊢
    clear xG18
    refine ⟨(by show 2 ≤ sizeLine; decide), fun o4 no4 => ?_⟩
    have xG19 := _root_.Evl.Ex.new (o := .tup [.ref c4, .str "writes"]) no4
    have ko4 := upd_same (H := G18) (a := o4) (o := .tup [.ref c4, .str "writes"])
    have ko1 := xG19 _ _ ko1
    have ka1 := xG19 _ _ ka1
    have ks1 := xG19 _ _ ks1
    have kc2 := xG19 _ _ kc2
    have ko2 := xG19 _ _ ko2
    have kr3 := xG19 _ _ kr3
    have kb3 := xG19 _ _ kb3
    have ka3 := xG19 _ _ ka3
    have ks3 := xG19 _ _ ks3
    have kc3 := xG19 _ _ kc3
    have ko3 := xG19 _ _ ko3
    have kl19 := xG19 _ _ kl19
    have ks4 := xG19 _ _ ks4
    have kb4 := xG19 _ _ kb4
    have ka4 := xG19 _ _ ka4
    have kc4a := xG19 _ _ kc4a
    have ks4b := xG19 _ _ ks4b
    have kc4 := xG19 _ _ kc4
    have eX := eX.trans xG19
    generalize upd G18 o4 (.tup [.ref c4, .str "writes"]) = G19 at eX ko1 ka1 ks1 kc2 ko2 kr3 kb3 ka3 ks3 kc3 ko3 kl19 ks4 kb4 ka4 kc4a ks4b kc4 ko4 ⊢
    clear xG19
    refine ⟨_, rfl, _, rfl, m, _, rfl, (_root_.Evl.ex_t eX hmt), (by show ¬ (HT.sIx 4 0 none = 0 ∧ HT.sIx 4 4 (some 3) = 4); decide), fun s5 ns5 => ?_⟩
    rw [show cutV [.int p, av9, wv9, sv9] none (some 3) = [.int p, av9, wv9] from rfl]
    have xG20 := _root_.Evl.Ex.new (o := .tup [.int p, av9, wv9]) ns5
    have ks5 := upd_same (H := G19) (a := s5) (o := .tup [.int p, av9, wv9])
    have ko1 := xG20 _ _ ko1
    have ka1 := xG20 _ _ ka1
    have ks1 := xG20 _ _ ks1
    have kc2 := xG20 _ _ kc2
    have ko2 := xG20 _ _ ko2
    have kr3 := xG20 _ _ kr3
    have kb3 := xG20 _ _ kb3
    have ka3 := xG20 _ _ ka3
    have ks3 := xG20 _ _ ks3
    have kc3 := xG20 _ _ kc3
    have ko3 := xG20 _ _ ko3
    have kl19 := xG20 _ _ kl19
    have ks4 := xG20 _ _ ks4
    have kb4 := xG20 _ _ kb4
    have ka4 := xG20 _ _ ka4
    have kc4a := xG20 _ _ kc4a
    have ks4b := xG20 _ _ ks4b
    have kc4 := xG20 _ _ kc4
    have ko4 := xG20 _ _ ko4
    have eX := eX.trans xG20
    generalize upd G19 s5 (.tup [.int p, av9, wv9]) = G20 at eX ko1 ka1 ks1 kc2 ko2 kr3 kb3 ka3 ks3 kc3 ko3 kl19 ks4 kb4 ka4 kc4a ks4b kc4 ko4 ks5 ⊢
    clear xG20
    refine ⟨_, rfl, (by show 1 ≤ sizeLine; decide), fun q5 nq5 => ?_⟩
    have xG21 := _root_.Evl.Ex.new (o := .tup [.int p]) nq5
    have kq5 := upd_same (H := G20) (a := q5) (o := .tup [.int p])
    have ko1 := xG21 _ _ ko1
    have ka1 := xG21 _ _ ka1
    have ks1 := xG21 _ _ ks1
    have kc2 := xG21 _ _ kc2
    have ko2 := xG21 _ _ ko2
    have kr3 := xG21 _ _ kr3
    have kb3 := xG21 _ _ kb3
    have ka3 := xG21 _ _ ka3
    have ks3 := xG21 _ _ ks3
    have kc3 := xG21 _ _ kc3
    have ko3 := xG21 _ _ ko3
    have kl19 := xG21 _ _ kl19
    have ks4 := xG21 _ _ ks4
    have kb4 := xG21 _ _ kb4
    have ka4 := xG21 _ _ ka4
    have kc4a := xG21 _ _ kc4a
    have ks4b := xG21 _ _ ks4b
    have kc4 := xG21 _ _ kc4
    have ko4 := xG21 _ _ ko4
    have ks5 := xG21 _ _ ks5
    have eX := eX.trans xG21
    generalize upd G20 q5 (.tup [.int p]) = G21 at eX ko1 ka1 ks1 kc2 ko2 kr3 kb3 ka3 ks3 kc3 ko3 kl19 ks4 kb4 ka4 kc4a ks4b kc4 ko4 ks5 kq5 ⊢
    clear xG21
    refine ⟨_, rfl, q5, (n : Nat), [.int p], rfl, rfl, SqT.of kq5, by simp, by omega, by omega, (by show 1 ≤ 1000; decide), fun r5 GR xR hr5 => ?_⟩
    rw [Int.toNat_natCast, rep_p] at hr5
    have ko1 := xR _ _ ko1
    have ka1 := xR _ _ ka1
    have ks1 := xR _ _ ks1
    have kc2 := xR _ _ kc2
    have ko2 := xR _ _ ko2
    have kr3 := xR _ _ kr3
    have kb3 := xR _ _ kb3
    have ka3 := xR _ _ ka3
    have ks3 := xR _ _ ks3
    have kc3 := xR _ _ kc3
    have ko3 := xR _ _ ko3
    have kl19 := xR _ _ kl19
    have ks4 := xR _ _ ks4
    have kb4 := xR _ _ kb4
    have ka4 := xR _ _ ka4
    have kc4a := xR _ _ kc4a
    have ks4b := xR _ _ ks4b
    have kc4 := xR _ _ kc4
    have ko4 := xR _ _ ko4
    have ks5 := xR _ _ ks5
    have kq5 := xR _ _ kq5
    have eX := eX.trans xR
    clear xR
    refine ⟨(by show 1 ≤ sizeLine; decide), fun b5 nb5 => ?_⟩
    have xG22 := _root_.Evl.Ex.new (o := .tup [.ref r5]) nb5
    have kb5 := upd_same (H := GR) (a := b5) (o := .tup [.ref r5])
    have ko1 := xG22 _ _ ko1
    have ka1 := xG22 _ _ ka1
    have ks1 := xG22 _ _ ks1
    have kc2 := xG22 _ _ kc2
    have ko2 := xG22 _ _ ko2
    have kr3 := xG22 _ _ kr3
    have kb3 := xG22 _ _ kb3
    have ka3 := xG22 _ _ ka3
    have ks3 := xG22 _ _ ks3
    have kc3 := xG22 _ _ kc3
    have ko3 := xG22 _ _ ko3
    have kl19 := xG22 _ _ kl19
    have ks4 := xG22 _ _ ks4
    have kb4 := xG22 _ _ kb4
    have ka4 := xG22 _ _ ka4
    have kc4a := xG22 _ _ kc4a
    have ks4b := xG22 _ _ ks4b
    have kc4 := xG22 _ _ kc4
    have ko4 := xG22 _ _ ko4
    have ks5 := xG22 _ _ ks5
    have kq5 := xG22 _ _ kq5
    have hr5 := _root_.Evl.ex_t xG22 hr5
    have eX := eX.trans xG22
    generalize upd GR b5 (.tup [.ref r5]) = G22 at eX ko1 ka1 ks1 kc2 ko2 kr3 kb3 ka3 ks3 kc3 ko3 kl19 ks4 kb4 ka4 kc4a ks4b kc4 ko4 ks5 kq5 kb5 hr5 ⊢
    clear xG22
    refine ⟨(by show 1 ≤ sizeLine; decide), fun a5 na5 => ?_⟩
    have xG23 := _root_.Evl.Ex.new (o := .tup [.ref b5]) na5
    have ka5 := upd_same (H := G22) (a := a5) (o := .tup [.ref b5])
    have ko1 := xG23 _ _ ko1
    have ka1 := xG23 _ _ ka1
    have ks1 := xG23 _ _ ks1
    have kc2 := xG23 _ _ kc2
    have ko2 := xG23 _ _ ko2
    have kr3 := xG23 _ _ kr3
    have kb3 := xG23 _ _ kb3
    have ka3 := xG23 _ _ ka3
    have ks3 := xG23 _ _ ks3
    have kc3 := xG23 _ _ kc3
    have ko3 := xG23 _ _ ko3
    have kl19 := xG23 _ _ kl19
    have ks4 := xG23 _ _ ks4
    have kb4 := xG23 _ _ kb4
    have ka4 := xG23 _ _ ka4
    have kc4a := xG23 _ _ kc4a
    have ks4b := xG23 _ _ ks4b
    have kc4 := xG23 _ _ kc4
    have ko4 := xG23 _ _ ko4
    have ks5 := xG23 _ _ ks5
    have kq5 := xG23 _ _ kq5
    have kb5 := xG23 _ _ kb5
    have hr5 := _root_.Evl.ex_t xG23 hr5
    have eX := eX.trans xG23
    generalize upd G22 a5 (.tup [.ref b5]) = G23 at eX ko1 ka1 ks1 kc2 ko2 kr3 kb3 ka3 ks3 kc3 ko3 kl19 ks4 kb4 ka4 kc4a ks4b kc4 ko4 ks5 kq5 kb5 ka5 hr5 ⊢
    clear xG23
    refine ⟨s5, a5, [.int p, av9, wv9], [.ref b5], rfl, rfl, SqT.of ks5, SqT.of ka5, by simp, (by show 3 + 1 ≤ sizeLine; decide), (fun z => by simp at z), fun _ c5 nc5 => ?_⟩
    rw [show [.int p, av9, wv9] ++ [.ref b5] = [.int p, av9, wv9, .ref b5] from rfl]
    have xG24 := _root_.Evl.Ex.new (o := .tup [.int p, av9, wv9, .ref b5]) nc5
    have kc5 := upd_same (H := G23) (a := c5) (o := .tup [.int p, av9, wv9, .ref b5])
    have ko1 := xG24 _ _ ko1
    have ka1 := xG24 _ _ ka1
    have ks1 := xG24 _ _ ks1
    have kc2 := xG24 _ _ kc2
    have ko2 := xG24 _ _ ko2
    have kr3 := xG24 _ _ kr3
    have kb3 := xG24 _ _ kb3
    have ka3 := xG24 _ _ ka3
    have ks3 := xG24 _ _ ks3
    have kc3 := xG24 _ _ kc3
    have ko3 := xG24 _ _ ko3
    have kl19 := xG24 _ _ kl19
    have ks4 := xG24 _ _ ks4
    have kb4 := xG24 _ _ kb4
    have ka4 := xG24 _ _ ka4
    have kc4a := xG24 _ _ kc4a
    have ks4b := xG24 _ _ ks4b
    have kc4 := xG24 _ _ kc4
    have ko4 := xG24 _ _ ko4
    have ks5 := xG24 _ _ ks5
    have kq5 := xG24 _ _ kq5
    have kb5 := xG24 _ _ kb5
    have ka5 := xG24 _ _ ka5
    have hr5 := _root_.Evl.ex_t xG24 hr5
    have eX := eX.trans xG24
    generalize upd G23 c5 (.tup [.int p, av9, wv9, .ref b5]) = G24 at eX ko1 ka1 ks1 kc2 ko2 kr3 kb3 ka3 ks3 kc3 ko3 kl19 ks4 kb4 ka4 kc4a ks4b kc4 ko4 ks5 kq5 kb5 ka5 kc5 hr5 ⊢
    clear xG24
    refine ⟨(by show 2 ≤ sizeLine; decide), fun o5 no5 => ?_⟩
    have xG25 := _root_.Evl.Ex.new (o := .tup [.ref c5, .str "sights"]) no5
    have ko5 := upd_same (H := G24) (a := o5) (o := .tup [.ref c5, .str "sights"])
    have ko1 := xG25 _ _ ko1
    have ka1 := xG25 _ _ ka1
    have ks1 := xG25 _ _ ks1
    have kc2 := xG25 _ _ kc2
    have ko2 := xG25 _ _ ko2
    have kr3 := xG25 _ _ kr3
    have kb3 := xG25 _ _ kb3
    have ka3 := xG25 _ _ ka3
    have ks3 := xG25 _ _ ks3
    have kc3 := xG25 _ _ kc3
    have ko3 := xG25 _ _ ko3
    have kl19 := xG25 _ _ kl19
    have ks4 := xG25 _ _ ks4
    have kb4 := xG25 _ _ kb4
    have ka4 := xG25 _ _ ka4
    have kc4a := xG25 _ _ kc4a
    have ks4b := xG25 _ _ ks4b
    have kc4 := xG25 _ _ kc4
    have ko4 := xG25 _ _ ko4
    have ks5 := xG25 _ _ ks5
    have kq5 := xG25 _ _ kq5
    have kb5 := xG25 _ _ kb5
    have ka5 := xG25 _ _ ka5
    have kc5 := xG25 _ _ kc5
    have hr5 := _root_.Evl.ex_t xG25 hr5
    have eX := eX.trans xG25
    generalize upd G24 o5 (.tup [.ref c5, .str "sights"]) = G25 at eX ko1 ka1 ks1 kc2 ko2 kr3 kb3 ka3 ks3 kc3 ko3 kl19 ks4 kb4 ka4 kc4a ks4b kc4 ko4 ks5 kq5 kb5 ka5 kc5 ko5 hr5 ⊢
    clear xG25
    refine ⟨(by show 2 ≤ sizeLine; decide), fun l20 nl20 => ?_⟩
    have xG26 := _root_.Evl.Ex.new (o := .lst [.ref o4, .ref o5]) nl20
    have kl20 := upd_same (H := G25) (a := l20) (o := .lst [.ref o4, .ref o5])
    have ko1 := xG26 _ _ ko1
    have ka1 := xG26 _ _ ka1
    have ks1 := xG26 _ _ ks1
    have kc2 := xG26 _ _ kc2
    have ko2 := xG26 _ _ ko2
    have kr3 := xG26 _ _ kr3
    have kb3 := xG26 _ _ kb3
    have ka3 := xG26 _ _ ka3
    have ks3 := xG26 _ _ ks3
    have kc3 := xG26 _ _ kc3
    have ko3 := xG26 _ _ ko3
    have kl19 := xG26 _ _ kl19
    have ks4 := xG26 _ _ ks4
    have kb4 := xG26 _ _ kb4
    have ka4 := xG26 _ _ ka4
    have kc4a := xG26 _ _ kc4a
    have ks4b := xG26 _ _ ks4b
    have kc4 := xG26 _ _ kc4
    have ko4 := xG26 _ _ ko4
    have ks5 := xG26 _ _ ks5
    have kq5 := xG26 _ _ kq5
    have kb5 := xG26 _ _ kb5
    have ka5 := xG26 _ _ ka5
    have kc5 := xG26 _ _ kc5
    have ko5 := xG26 _ _ ko5
    have hr5 := _root_.Evl.ex_t xG26 hr5
    have eX := eX.trans xG26
    generalize upd G25 l20 (.lst [.ref o4, .ref o5]) = G26 at eX ko1 ka1 ks1 kc2 ko2 kr3 kb3 ka3 ks3 kc3 ko3 kl19 ks4 kb4 ka4 kc4a ks4b kc4 ko4 ks5 kq5 kb5 ka5 kc5 ko5 kl20 hr5 ⊢
    clear xG26
    refine ⟨l19, l20, _, _, rfl, rfl, kl19, kl20, (by show 3 + 2 ≤ sizeLine; decide), fun l21 nl21 => ?_⟩
    rw [show [V.ref o1, V.ref o2, V.ref o3] ++ [V.ref o4, V.ref o5] = [V.ref o1, V.ref o2, V.ref o3, V.ref o4, V.ref o5] from rfl]
    have xG27 := _root_.Evl.Ex.new (o := .lst [.ref o1, .ref o2, .ref o3, .ref o4, .ref o5]) nl21
    have kl21 := upd_same (H := G26) (a := l21) (o := .lst [.ref o1, .ref o2, .ref o3, .ref o4, .ref o5])
    have ko1 := xG27 _ _ ko1
    have ka1 := xG27 _ _ ka1
    have ks1 := xG27 _ _ ks1
    have kc2 := xG27 _ _ kc2
    have ko2 := xG27 _ _ ko2
    have kr3 := xG27 _ _ kr3
    have kb3 := xG27 _ _ kb3
    have ka3 := xG27 _ _ ka3
    have ks3 := xG27 _ _ ks3
    have kc3 := xG27 _ _ kc3
    have ko3 := xG27 _ _ ko3
    have kl19 := xG27 _ _ kl19
    have ks4 := xG27 _ _ ks4
    have kb4 := xG27 _ _ kb4
    have ka4 := xG27 _ _ ka4
    have kc4a := xG27 _ _ kc4a
    have ks4b := xG27 _ _ ks4b
    have kc4 := xG27 _ _ kc4
    have ko4 := xG27 _ _ ko4
    have ks5 := xG27 _ _ ks5
    have kq5 := xG27 _ _ kq5
    have kb5 := xG27 _ _ kb5
    have ka5 := xG27 _ _ ka5
    have kc5 := xG27 _ _ kc5
    have ko5 := xG27 _ _ ko5
    have kl20 := xG27 _ _ kl20
    have hr5 := _root_.Evl.ex_t xG27 hr5
    have eX := eX.trans xG27
    generalize upd G26 l21 (.lst [.ref o1, .ref o2, .ref o3, .ref o4, .ref o5]) = G27 at eX ko1 ka1 ks1 kc2 ko2 kr3 kb3 ka3 ks3 kc3 ko3 kl19 ks4 kb4 ka4 kc4a ks4b kc4 ko4 ks5 kq5 kb5 ka5 kc5 ko5 kl20 kl21 hr5 ⊢
    clear xG27
    have hM32 := hM31.ex eX
    have hA32 := hAt.ex eX
    have hW32 := hWt.ex eX
    have hm32 := hm31.ex eX
    have hP32 := hP31.ex eX
    have hQ32 := hQ31.ex eX
    have r32 := r31.ex eX
    have Tb32 := Tb31.ext eX
    have five : ∀ (i : Nat) (x : V), ([.ref o1, .ref o2, .ref o3, .ref o4, .ref o5] : List V)[i]? = some x → ∃ (o : Addr) (v : V) (z : Str), x = .ref o ∧ ∀ G, Ex G27 G → SqT K G o [v, .str z] ∧ WP K G v (some z) := fun i x hx => by
      match i, hx with
      | 0, hx => exact ⟨o1, _, _, (Option.some.inj hx).symm, fun G e => ⟨SqT.of (e _ _ ko1), wp_none⟩⟩
      | 1, hx => exact ⟨o2, _, _, (Option.some.inj hx).symm, fun G e => ⟨SqT.of (e _ _ ko2), wp_four (SqT.of (e _ _ kc2))⟩⟩
      | 2, hx => exact ⟨o3, _, _, (Option.some.inj hx).symm, fun G e => ⟨SqT.of (e _ _ ko3), wp_flat prm (SqT.of (e _ _ kc3)) (SqT.of (e _ _ kb3)) (SqT.of (e _ _ kr3))⟩⟩
      | 3, hx => exact ⟨o4, _, _, (Option.some.inj hx).symm, fun G e => ⟨SqT.of (e _ _ ko4), wp_writes prm (stO (hA32.ex e)) (SqT.of (e _ _ kc4)) (SqT.of (e _ _ kb4))⟩⟩
      | 4, hx => exact ⟨o5, _, _, (Option.some.inj hx).symm, fun G e => ⟨SqT.of (e _ _ ko5), wp_sights prm (stO (hA32.ex e)) (hW32.ex e) oW w1 (by omega) (SqT.of (e _ _ kc5)) (SqT.of (e _ _ kb5)) (_root_.Evl.ex_t e hr5)⟩⟩
      | i + 5, hx => simp at hx
    refine ⟨_, rfl, l21, rfl, ⟨_, SqL.of kl21⟩, ?_⟩
    refine for_list (K := K) (a := l21) (xs := [.ref o1, .ref o2, .ref o3, .ref o4, .ref o5]) (fun i σ' G => Keep 28 [(1, .ref a), (2, .ref m), (3, .int p), (5, mv), (12, .ref q8), (14, v14)] σ' ∧ Ex G27 G)
      ⟨⟨rfl, fun i v mm => by
        simp only [List.mem_cons, List.not_mem_nil, or_false, Prod.mk.injEq] at mm
        rcases mm with ⟨rfl, rfl⟩ | ⟨rfl, rfl⟩ | ⟨rfl, rfl⟩ | ⟨rfl, rfl⟩ | ⟨rfl, rfl⟩ | ⟨rfl, rfl⟩ <;> rfl⟩, _root_.Evl.Ex.refl _⟩ (fun i σ' G _ p => SqL.of (p.2 _ _ kl21)) (fun i x σ' G hx p => ?_) fun σ' G p => ?_
    · obtain ⟨kk, eG⟩ := p
      obtain ⟨o, v, z, rfl, hov⟩ := five i x hx
      obtain ⟨ho, hw⟩ := hov G eG
      refine ⟨o, _, rfl, ho, rfl, _, _, rfl, _, _, rfl, rfl, ?_⟩
      have kk2 := (kk.add (i := 21) (v := v) (by decide) rfl).add (i := 22) (v := .str z) (by decide) rfl
      refine wO _ _ _ v z (kk2.sub (by intro x hx; simp only [List.mem_cons, List.not_mem_nil, or_false] at hx ⊢; grind)) hw fun x y G' e => ?_
      exact ⟨((((kk.put (i := 21) (some v) rfl).put (i := 22) (some (.str z)) rfl).put (i := 23) x rfl).put (i := 23) y rfl), eG.trans e⟩
    · obtain ⟨kk, eG⟩ := p
      exact wR _ _ _ a sc ns p n (.ref m) mv (.ref q8) v14 A W S r0 P0 P2 kk (r32.ex eG) (Tb32.ext eG) (hM32.ex eG) M prm (fun _ h => wp h) (hm32.ex eG) or0 (hQ32.ex eG) Y2 lP1' (by omega) (hP32.ex eG) X l1 (by omega) q
end
end K01


set_option Elab.async false
set_option linter.all false
set_option maxRecDepth 100000
set_option maxHeartbeats 4000000
/-! What the top has written; the end -/
namespace K01
open PySem PySem.Spec PyProof.Rows L2
structure DefK (K : PySem.W.Frag) (x : Str) (st : Stmt) : Prop where
  ex : ∃ (f : Addr) (od an : Option Addr) (oc kV dc pm cd ct : Value) (sl : Array (Option Value)), PySem.W.nsIn K mainGlobals x = some (some (.ref f)) ∧
    K.lookup f = some ⟨oc, od, .func (PySem.W.fnOf x x (defArgs st) (defBody st) (defScope st) .none kV dc pm an cd ct), sl⟩ ∧ PySem.W.codeIn K cd x = true ∧ PySem.W.keepIn K (.ref f) = true
structure ErrK (K : PySem.W.Frag) (x : Str) (C : Addr) : Prop where
  a : PySem.W.nsIn K mainGlobals x = some (some (.ref C))
  x : PySem.W.excIn K C [.type "ValueError", .type "Exception", .type "BaseException", .type "object"] "ValueError.__new__" = true
  k : PySem.W.keepIn K (.ref C) = true
  b : PySem.W.subIn K (.ref C) (.type "BaseException") = some true
  t : PySem.W.typeIn K (.ref C) = some (.type "type")
structure IntK (K : PySem.W.Frag) (x : Str) (i : Int) : Prop where
  ex : ∃ t, PySem.W.nsIn K mainGlobals x = some (some (.int i t))
structure PrimesK (K : PySem.W.Frag) : Prop where
  ex : ∃ (a : Addr) (dd : Option Addr) (t1 t2 t3 t4 : Tok) (n : Nat) (sl : Array (Option Value)), PySem.W.nsIn K mainGlobals "PRIMES" = some (some (.ref a)) ∧ K.lookup a = some ⟨.type "tuple", dd, .seq #[.int 2 t1, .int 3 t2, .int 5 t3, .int 7 t4] n, sl⟩
structure TupK_BARE_WORDS (K : PySem.W.Frag) : Prop where
  ex : ∃ (a : Addr) (dd : Option Addr) (t0 t1 t2 : Tok) (n : Nat) (sl : Array (Option Value)), PySem.W.nsIn K mainGlobals "BARE_WORDS" = some (some (.ref a)) ∧ K.lookup a = some ⟨.type "tuple", dd, .seq #[.str "say" t0, .str "ask" t1, .str "stop" t2] n, sl⟩
theorem mkTup_BARE_WORDS {K : PySem.W.Frag} {a : Addr} {dd : Option Addr} {t0 t1 t2 : Tok} {n : Nat} {sl : Array (Option Value)} (h : PySem.W.nsIn K mainGlobals "BARE_WORDS" = some (some (.ref a))) (l : K.lookup a = some ⟨.type "tuple", dd, .seq #[.str "say" t0, .str "ask" t1, .str "stop" t2] n, sl⟩) : TupK_BARE_WORDS K :=
  ⟨⟨a, dd, t0, t1, t2, n, sl, h, l⟩⟩
structure TupK_KEPT_BARE_WORDS (K : PySem.W.Frag) : Prop where
  ex : ∃ (a : Addr) (dd : Option Addr) (t0 t1 t2 t3 : Tok) (n : Nat) (sl : Array (Option Value)), PySem.W.nsIn K mainGlobals "KEPT_BARE_WORDS" = some (some (.ref a)) ∧ K.lookup a = some ⟨.type "tuple", dd, .seq #[.str "say" t0, .str "ask" t1, .str "stop" t2, .str "wait" t3] n, sl⟩
theorem mkTup_KEPT_BARE_WORDS {K : PySem.W.Frag} {a : Addr} {dd : Option Addr} {t0 t1 t2 t3 : Tok} {n : Nat} {sl : Array (Option Value)} (h : PySem.W.nsIn K mainGlobals "KEPT_BARE_WORDS" = some (some (.ref a))) (l : K.lookup a = some ⟨.type "tuple", dd, .seq #[.str "say" t0, .str "ask" t1, .str "stop" t2, .str "wait" t3] n, sl⟩) : TupK_KEPT_BARE_WORDS K :=
  ⟨⟨a, dd, t0, t1, t2, t3, n, sl, h, l⟩⟩
structure TupK_MARKS (K : PySem.W.Frag) : Prop where
  ex : ∃ (a : Addr) (dd : Option Addr) (t0 t1 t2 : Tok) (n : Nat) (sl : Array (Option Value)), PySem.W.nsIn K mainGlobals "MARKS" = some (some (.ref a)) ∧ K.lookup a = some ⟨.type "tuple", dd, .seq #[.str "say" t0, .str "ask" t1, .str "zero" t2] n, sl⟩
theorem mkTup_MARKS {K : PySem.W.Frag} {a : Addr} {dd : Option Addr} {t0 t1 t2 : Tok} {n : Nat} {sl : Array (Option Value)} (h : PySem.W.nsIn K mainGlobals "MARKS" = some (some (.ref a))) (l : K.lookup a = some ⟨.type "tuple", dd, .seq #[.str "say" t0, .str "ask" t1, .str "zero" t2] n, sl⟩) : TupK_MARKS K :=
  ⟨⟨a, dd, t0, t1, t2, n, sl, h, l⟩⟩
structure TupK_SEEING (K : PySem.W.Frag) : Prop where
  ex : ∃ (a : Addr) (dd : Option Addr) (t0 t1 t2 : Tok) (n : Nat) (sl : Array (Option Value)), PySem.W.nsIn K mainGlobals "SEEING" = some (some (.ref a)) ∧ K.lookup a = some ⟨.type "tuple", dd, .seq #[.str "get" t0, .str "plus" t1, .str "minus" t2] n, sl⟩
theorem mkTup_SEEING {K : PySem.W.Frag} {a : Addr} {dd : Option Addr} {t0 t1 t2 : Tok} {n : Nat} {sl : Array (Option Value)} (h : PySem.W.nsIn K mainGlobals "SEEING" = some (some (.ref a))) (l : K.lookup a = some ⟨.type "tuple", dd, .seq #[.str "get" t0, .str "plus" t1, .str "minus" t2] n, sl⟩) : TupK_SEEING K :=
  ⟨⟨a, dd, t0, t1, t2, n, sl, h, l⟩⟩
structure TupK_WRITING (K : PySem.W.Frag) : Prop where
  ex : ∃ (a : Addr) (dd : Option Addr) (t0 t1 : Tok) (n : Nat) (sl : Array (Option Value)), PySem.W.nsIn K mainGlobals "WRITING" = some (some (.ref a)) ∧ K.lookup a = some ⟨.type "tuple", dd, .seq #[.str "add" t0, .str "take" t1] n, sl⟩
theorem mkTup_WRITING {K : PySem.W.Frag} {a : Addr} {dd : Option Addr} {t0 t1 : Tok} {n : Nat} {sl : Array (Option Value)} (h : PySem.W.nsIn K mainGlobals "WRITING" = some (some (.ref a))) (l : K.lookup a = some ⟨.type "tuple", dd, .seq #[.str "add" t0, .str "take" t1] n, sl⟩) : TupK_WRITING K :=
  ⟨⟨a, dd, t0, t1, n, sl, h, l⟩⟩
structure OexK (K : PySem.W.Frag) (x fld : Str) (st : Stmt) (qual : Str) (C fI : Addr) : Prop where
  a : PySem.W.nsIn K mainGlobals x = some (some (.ref C))
  ex : OexC K C
  no : PySem.W.findIn K (.ref C) fld = some none
  ini : PySem.W.findIn K (.ref C) "__init__" = some (some (.ref fI))
  tyI : PySem.W.typeIn K (.ref fI) = some (.type "function")
  fd : ∃ (od an : Option Addr) (oc kV dc pm cd ct : Value) (sl : Array (Option Value)), K.lookup fI = some ⟨oc, od, .func (PySem.W.fnOf "__init__" qual (defArgs st) (defBody st) (defScope st) .none kV dc pm an cd ct), sl⟩ ∧ PySem.W.codeIn K cd qual = true ∧ PySem.W.keepIn K (.ref fI) = true
theorem mkOex {K : PySem.W.Frag} {x fld qual : Str} {st : Stmt} {C fI : Addr} {nm q N bs bm sn sub ab col dd k0 k1 k2 k3 k5} {od an : Option Addr} {oc kV dc pm cd ct : Value} {sl : Array (Option Value)} (a : PySem.W.nsIn K mainGlobals x = some (some (.ref C)))
    (l : K.lookup C = some (excClassObj nm q C N bs bm true sn sub ab col dd k0 k1 k2 k3 k5 "ValueError.__new__")) (r : PySem.HandSPX.refsVE bm = true) (sa : PySem.W.findIn K (.ref C) "__setattr__" = some (some (.builtin "object.__setattr__"))) (exC : PySem.W.subIn K (.ref C) (.type "BaseException") = some true)
    (tyC : PySem.W.typeIn K (.ref C) = some (.type "type")) (kC : PySem.W.keepIn K (.ref C) = true) (no : PySem.W.findIn K (.ref C) fld = some none) (ini : PySem.W.findIn K (.ref C) "__init__" = some (some (.ref fI))) (tyI : PySem.W.typeIn K (.ref fI) = some (.type "function"))
    (lf : K.lookup fI = some ⟨oc, od, .func (PySem.W.fnOf "__init__" qual (defArgs st) (defBody st) (defScope st) .none kV dc pm an cd ct), sl⟩) (cf : PySem.W.codeIn K cd qual = true) (kf : PySem.W.keepIn K (.ref fI) = true) : OexK K x fld st qual C fI :=
  ⟨a, ⟨⟨nm, q, N, bs, bm, sn, sub, ab, col, dd, k0, k1, k2, k3, k5, l, r⟩, sa, exC, tyC, kC⟩, no, ini, tyI, ⟨od, an, oc, kV, dc, pm, cd, ct, sl, lf, cf, kf⟩⟩
structure LawK (K : PySem.W.Frag) (c Pt : Addr) : Prop where
  ex : ∃ (f : Addr) (od an : Option Addr) (oc kV dc pm ct : Value) (sl : Array (Option Value)), PySem.W.nsIn K mainGlobals "law" = some (some (.ref f)) ∧
    K.lookup f = some ⟨oc, od, .func (PySem.W.fnOf "law" "law" (defArgs s_law) (defBody s_law) (defScope s_law) .none kV dc pm an (.ref c) ct), sl⟩ ∧ PySem.W.codeIn K (.ref c) "law" = true
  hd : PySem.W.codeHdIn K c Pt = true
  no : K.lookup Pt = none
theorem mkLaw {K : PySem.W.Frag} {cA Pt f : Addr} {od an : Option Addr} {oc kV dc pm ct : Value} {sl : Array (Option Value)} (a : PySem.W.nsIn K mainGlobals "law" = some (some (.ref f)))
    (l : K.lookup f = some ⟨oc, od, .func (PySem.W.fnOf "law" "law" (defArgs s_law) (defBody s_law) (defScope s_law) .none kV dc pm an (.ref cA) ct), sl⟩) (c : PySem.W.codeIn K (.ref cA) "law" = true) (hd : PySem.W.codeHdIn K cA Pt = true) (no : K.lookup Pt = none) : LawK K cA Pt := ⟨⟨f, od, an, oc, kV, dc, pm, ct, sl, a, l, c⟩, hd, no⟩
structure TopK (K : PySem.W.Frag) (c Pt CN CM CI CB CP fI_CB fI_CP : Addr) : Prop where
  d_is_number : DefK K "is_number" s_is_number
  d_is_prime : DefK K "is_prime" s_is_prime
  d_is_row : DefK K "is_row" s_is_row
  d_is_rows : DefK K "is_rows" s_is_rows
  d_meet : DefK K "meet" s_meet
  d_inverse : DefK K "inverse" s_inverse
  d_times : DefK K "times" s_times
  d_less : DefK K "less" s_less
  d_first_place : DefK K "first_place" s_first_place
  d_remainder : DefK K "remainder" s_remainder
  d_with_row : DefK K "with_row" s_with_row
  d_staircase : DefK K "staircase" s_staircase
  d_is_stir : DefK K "is_stir" s_is_stir
  d_wrong_part : DefK K "wrong_part" s_wrong_part
  d_check_machine : DefK K "check_machine" s_check_machine
  d_check_number : DefK K "check_number" s_check_number
  d_check_prime : DefK K "check_prime" s_check_prime
  d_check_memory : DefK K "check_memory" s_check_memory
  d_stirred : DefK K "stirred" s_stirred
  d_stirred_by_both : DefK K "stirred_by_both" s_stirred_by_both
  d_still : DefK K "still" s_still
  d_still_machine : DefK K "still_machine" s_still_machine
  d_stirred_often : DefK K "stirred_often" s_stirred_often
  d_behind_ticks : DefK K "behind_ticks" s_behind_ticks
  d_turns : DefK K "turns" s_turns
  d_most_numbers : DefK K "most_numbers" s_most_numbers
  d_is_instruction : DefK K "is_instruction" s_is_instruction
  d_check_many : DefK K "check_many" s_check_many
  d_check_instructions : DefK K "check_instructions" s_check_instructions
  d_check_values : DefK K "check_values" s_check_values
  d_check_program : DefK K "check_program" s_check_program
  d_check_kept : DefK K "check_kept" s_check_kept
  d_landings : DefK K "landings" s_landings
  d_nexts : DefK K "nexts" s_nexts
  d_places_met : DefK K "places_met" s_places_met
  d_names_met : DefK K "names_met" s_names_met
  d_used : DefK K "used" s_used
  d_check_inputs : DefK K "check_inputs" s_check_inputs
  d_done : DefK K "done" s_done
  d_run : DefK K "run" s_run
  d_run_stirred : DefK K "run_stirred" s_run_stirred
  d_run_still : DefK K "run_still" s_run_still
  d_law_taken : DefK K "_law_taken" s_law_taken
  d_law_pick : DefK K "_law_pick" s_law_pick
  d_law_row : DefK K "_law_row" s_law_row
  d_law_stir : DefK K "_law_stir" s_law_stir
  d_law_machine : DefK K "_law_machine" s_law_machine
  d_law_met : DefK K "_law_met" s_law_met
  d_law_added : DefK K "_law_added" s_law_added
  d_law_stirred : DefK K "_law_stirred" s_law_stirred
  d_law_stands : DefK K "_law_stands" s_law_stands
  d_law_program : DefK K "_law_program" s_law_program
  d_law_deed : DefK K "_law_deed" s_law_deed
  d_law_run : DefK K "_law_run" s_law_run
  d_law_plain : DefK K "_law_plain" s_law_plain
  d_law_used : DefK K "_law_used" s_law_used
  d_law_alike : DefK K "_law_alike" s_law_alike
  law : LawK K c Pt
  e_CN : ErrK K "BadNumber" CN
  e_CM : ErrK K "BadMemory" CM
  e_CI : ErrK K "BadInputs" CI
  e_CB : OexK K "BadMachine" "part" s_badinit "BadMachine.__init__" CB fI_CB
  e_CP : OexK K "BadProgram" "index" s_badprog "BadProgram.__init__" CP fI_CP
  x_CBCB : PySem.W.exmOne K (.ref CB) (.ref CB) = some true
  x_CMCM : PySem.W.exmOne K (.ref CM) (.ref CM) = some true
  x_CICM : PySem.W.exmOne K (.ref CI) (.ref CM) = some false
  x_CICI : PySem.W.exmOne K (.ref CI) (.ref CI) = some true
  x_CPCM : PySem.W.exmOne K (.ref CP) (.ref CM) = some false
  x_CPCI : PySem.W.exmOne K (.ref CP) (.ref CI) = some false
  x_CPCP : PySem.W.exmOne K (.ref CP) (.ref CP) = some true
  fga_CB : PySem.W.findIn K (.ref CB) "__getattribute__" = some (some (.builtin "BaseException.__getattribute__"))
  fgg_CB : PySem.W.findIn K (.ref CB) "__getattr__" = some none
  fsb_CB : PySem.W.subIn K (.ref CB) (.type "BaseException") = some true
  fhd_CB : PySem.W.hasDictIn K CB = true
  fga_CP : PySem.W.findIn K (.ref CP) "__getattribute__" = some (some (.builtin "BaseException.__getattribute__"))
  fgg_CP : PySem.W.findIn K (.ref CP) "__getattr__" = some none
  fsb_CP : PySem.W.subIn K (.ref CP) (.type "BaseException") = some true
  fhd_CP : PySem.W.hasDictIn K CP = true
  primes : PrimesK K
  u_BARE_WORDS : TupK_BARE_WORDS K
  u_KEPT_BARE_WORDS : TupK_KEPT_BARE_WORDS K
  u_MARKS : TupK_MARKS K
  u_SEEING : TupK_SEEING K
  u_WRITING : TupK_WRITING K
  i_MOST_CELLS : IntK K "MOST_CELLS" 4
  i_MOST_PLUGS : IntK K "MOST_PLUGS" 4
  i_MOST_TICKS : IntK K "MOST_TICKS" 100000
  i_MOST_VALUES : IntK K "MOST_VALUES" 4
  i_MOST_INSTRUCTIONS : IntK K "MOST_INSTRUCTIONS" 20
  i_MOST_KEPT : IntK K "MOST_KEPT" 6000
  i_MOST_INPUTS : IntK K "MOST_INPUTS" 50
  z_len : PySem.W.nsIn K mainGlobals "len" = some none
  z_zip : PySem.W.nsIn K mainGlobals "zip" = some none
  z_tuple : PySem.W.nsIn K mainGlobals "tuple" = some none
  z_list : PySem.W.nsIn K mainGlobals "list" = some none
  z_sorted : PySem.W.nsIn K mainGlobals "sorted" = some none
  z_enumerate : PySem.W.nsIn K mainGlobals "enumerate" = some none
  z_range : PySem.W.nsIn K mainGlobals "range" = some none
  z_isinstance : PySem.W.nsIn K mainGlobals "isinstance" = some none
  z_int : PySem.W.nsIn K mainGlobals "int" = some none
  z_bool : PySem.W.nsIn K mainGlobals "bool" = some none
  z_str : PySem.W.nsIn K mainGlobals "str" = some none
  z_all : PySem.W.nsIn K mainGlobals "all" = some none
  z_sum : PySem.W.nsIn K mainGlobals "sum" = some none
  z_max : PySem.W.nsIn K mainGlobals "max" = some none
  z_set : PySem.W.nsIn K mainGlobals "set" = some none
  z_min : PySem.W.nsIn K mainGlobals "min" = some none
abbrev DefX {K : PySem.W.Frag} {h : Heap} (_ : K.In h) (x : Str) (st : Stmt) : Prop := DefK K x st
abbrev NoX {K : PySem.W.Frag} {h : Heap} (_ : K.In h) (x : Str) : Prop := PySem.W.nsIn K mainGlobals x = some none
theorem mkDef {K : PySem.W.Frag} {x : Str} {st : Stmt} {f : Addr} {od an : Option Addr} {oc kV dc pm cd ct : Value} {sl : Array (Option Value)} (a : PySem.W.nsIn K mainGlobals x = some (some (.ref f)))
    (l : K.lookup f = some ⟨oc, od, .func (PySem.W.fnOf x x (defArgs st) (defBody st) (defScope st) .none kV dc pm an cd ct), sl⟩) (c : PySem.W.codeIn K cd x = true) (k : PySem.W.keepIn K (.ref f) = true) : DefK K x st := ⟨⟨f, od, an, oc, kV, dc, pm, cd, ct, sl, a, l, c, k⟩⟩
theorem mkPrimes {K : PySem.W.Frag} {a : Addr} {dd : Option Addr} {t1 t2 t3 t4 : Tok} {n : Nat} {sl : Array (Option Value)} (h : PySem.W.nsIn K mainGlobals "PRIMES" = some (some (.ref a))) (l : K.lookup a = some ⟨.type "tuple", dd, .seq #[.int 2 t1, .int 3 t2, .int 5 t3, .int 7 t4] n, sl⟩) : PrimesK K :=
  ⟨⟨a, dd, t1, t2, t3, t4, n, sl, h, l⟩⟩
theorem mkInt {K : PySem.W.Frag} {x : Str} {i : Int} {t : Tok} (h : PySem.W.nsIn K mainGlobals x = some (some (.int i t))) : IntK K x i := ⟨⟨t, h⟩⟩
section
variable {P : Program} {w : World} {K : PySem.W.Frag} {mg : Str → Option Value} {base h : Heap}
theorem DefK.got {x : Str} {st : Stmt} {ps : List Str} {sp : Sp} {k : Nat} {CX : CXT} (X : K.In h) (G : h.Ns mainGlobals mg) (D : DefK K x st)
    (bind : ∀ (kV doc pm : Value) (an : Option Addr) (cdv ct : Value) (us : List Value), us.length = ps.length → bindArgs (PySem.W.fnOf x x (defArgs st) (defBody st) (defScope st) .none kV doc pm an cdv ct) ⟨us, []⟩ = pure (ps.zip us))
    (ok : ∀ f fd, Fun K x x st f fd → FnOk P w K mg base CX k f fd ps sp) : Got P w K mg base CX k x ps sp := by
  obtain ⟨f, od, an, oc, kV, dc, pm, cd, ct, sl, a, l, c, kp⟩ := D.ex
  have F := fun_mk (st := st) l c kp
  exact ⟨f, _, PySem.W.mg_of X G a, kp, F.binds bind, ok f _ F⟩
theorem err_of {x : Str} {C : Addr} (X : K.In h) (G : h.Ns mainGlobals mg) (D : ErrK K x C) : ErrC K mg x C := ⟨PySem.W.mg_of X G D.a, D.x, D.k, D.b, D.t⟩
theorem defs_of {c Pt CN CM CI CB CP fI_CB fI_CP : Addr} (X : K.In h) (G : h.Ns mainGlobals mg) (T : TopK K c Pt CN CM CI CB CP fI_CB fI_CP) : Bare mg ∧ Defs P w K mg base CB CM CI CP := by
  have B : Bare mg := ⟨PySem.W.mg_none_of X G T.z_len, PySem.W.mg_none_of X G T.z_zip, PySem.W.mg_none_of X G T.z_tuple, PySem.W.mg_none_of X G T.z_list, PySem.W.mg_none_of X G T.z_sorted, PySem.W.mg_none_of X G T.z_enumerate, PySem.W.mg_none_of X G T.z_range, PySem.W.mg_none_of X G T.z_isinstance, PySem.W.mg_none_of X G T.z_int, PySem.W.mg_none_of X G T.z_bool, PySem.W.mg_none_of X G T.z_str, PySem.W.mg_none_of X G T.z_all, PySem.W.mg_none_of X G T.z_sum, PySem.W.mg_none_of X G T.z_max, PySem.W.mg_none_of X G T.z_set⟩
  have B_min : mg "min" = none := PySem.W.mg_none_of X G T.z_min
  have E_CN := err_of X G T.e_CN
  have E_CM := err_of X G T.e_CM
  have E_CI := err_of X G T.e_CI
  have g_CB := PySem.W.mg_of X G T.e_CB.a
  obtain ⟨od_CB, an_CB, oc_CB, kV_CB, dc_CB, pm_CB, cd_CB, ct_CB, sl_CB, lf_CB, cf_CB, kf_CB⟩ := T.e_CB.fd
  have FI_CB := fun_mk (st := s_badinit) lf_CB cf_CB kf_CB
  have g_CP := PySem.W.mg_of X G T.e_CP.a
  obtain ⟨od_CP, an_CP, oc_CP, kV_CP, dc_CP, pm_CP, cd_CP, ct_CP, sl_CP, lf_CP, cf_CP, kf_CP⟩ := T.e_CP.fd
  have FI_CP := fun_mk (st := s_badprog) lf_CP cf_CP kf_CP
  obtain ⟨aP, dd, t1, t2, t3, t4, nP, slP, hP1, hP2⟩ := T.primes.ex
  have gP := PySem.W.mg_of X G hP1
  have hP : ∀ H : Hp, SqT K H aP [.int 2, .int 3, .int 5, .int 7] := fun H => .inr ⟨_, _, nP, hP2, rfl, rfl, (by show 4 ≤ sizeLine; decide), .cons ⟨_, rfl⟩ (.cons ⟨_, rfl⟩ (.cons ⟨_, rfl⟩ (.cons ⟨_, rfl⟩ .nil)))⟩
  obtain ⟨a_BARE_WORDS, dd_BARE_WORDS, t0_BARE_WORDS, t1_BARE_WORDS, t2_BARE_WORDS, n_BARE_WORDS, sl_BARE_WORDS, hA_BARE_WORDS, hB_BARE_WORDS⟩ := T.u_BARE_WORDS.ex
  have g_BARE_WORDS := PySem.W.mg_of X G hA_BARE_WORDS
  have h_BARE_WORDS : ∀ H : Hp, SqT K H a_BARE_WORDS [.str "say", .str "ask", .str "stop"] := fun H => .inr ⟨_, _, n_BARE_WORDS, hB_BARE_WORDS, rfl, rfl, (by show 3 ≤ sizeLine; decide), .cons ⟨_, rfl⟩ (.cons ⟨_, rfl⟩ (.cons ⟨_, rfl⟩ .nil))⟩
  obtain ⟨a_KEPT_BARE_WORDS, dd_KEPT_BARE_WORDS, t0_KEPT_BARE_WORDS, t1_KEPT_BARE_WORDS, t2_KEPT_BARE_WORDS, t3_KEPT_BARE_WORDS, n_KEPT_BARE_WORDS, sl_KEPT_BARE_WORDS, hA_KEPT_BARE_WORDS, hB_KEPT_BARE_WORDS⟩ := T.u_KEPT_BARE_WORDS.ex
  have g_KEPT_BARE_WORDS := PySem.W.mg_of X G hA_KEPT_BARE_WORDS
  have h_KEPT_BARE_WORDS : ∀ H : Hp, SqT K H a_KEPT_BARE_WORDS [.str "say", .str "ask", .str "stop", .str "wait"] := fun H => .inr ⟨_, _, n_KEPT_BARE_WORDS, hB_KEPT_BARE_WORDS, rfl, rfl, (by show 4 ≤ sizeLine; decide), .cons ⟨_, rfl⟩ (.cons ⟨_, rfl⟩ (.cons ⟨_, rfl⟩ (.cons ⟨_, rfl⟩ .nil)))⟩
  obtain ⟨a_MARKS, dd_MARKS, t0_MARKS, t1_MARKS, t2_MARKS, n_MARKS, sl_MARKS, hA_MARKS, hB_MARKS⟩ := T.u_MARKS.ex
  have g_MARKS := PySem.W.mg_of X G hA_MARKS
  have h_MARKS : ∀ H : Hp, SqT K H a_MARKS [.str "say", .str "ask", .str "zero"] := fun H => .inr ⟨_, _, n_MARKS, hB_MARKS, rfl, rfl, (by show 3 ≤ sizeLine; decide), .cons ⟨_, rfl⟩ (.cons ⟨_, rfl⟩ (.cons ⟨_, rfl⟩ .nil))⟩
  obtain ⟨a_SEEING, dd_SEEING, t0_SEEING, t1_SEEING, t2_SEEING, n_SEEING, sl_SEEING, hA_SEEING, hB_SEEING⟩ := T.u_SEEING.ex
  have g_SEEING := PySem.W.mg_of X G hA_SEEING
  have h_SEEING : ∀ H : Hp, SqT K H a_SEEING [.str "get", .str "plus", .str "minus"] := fun H => .inr ⟨_, _, n_SEEING, hB_SEEING, rfl, rfl, (by show 3 ≤ sizeLine; decide), .cons ⟨_, rfl⟩ (.cons ⟨_, rfl⟩ (.cons ⟨_, rfl⟩ .nil))⟩
  obtain ⟨a_WRITING, dd_WRITING, t0_WRITING, t1_WRITING, n_WRITING, sl_WRITING, hA_WRITING, hB_WRITING⟩ := T.u_WRITING.ex
  have g_WRITING := PySem.W.mg_of X G hA_WRITING
  have h_WRITING : ∀ H : Hp, SqT K H a_WRITING [.str "add", .str "take"] := fun H => .inr ⟨_, _, n_WRITING, hB_WRITING, rfl, rfl, (by show 2 ≤ sizeLine; decide), .cons ⟨_, rfl⟩ (.cons ⟨_, rfl⟩ .nil)⟩
  have M_ : BadM K mg CB fI_CB := ⟨T.e_CB.ex, g_CB, T.e_CB.no, T.e_CB.ini, T.e_CB.tyI⟩
  have N_ : BadP K mg CP fI_CP := ⟨T.e_CP.ex, g_CP, T.e_CP.no, T.e_CP.ini, T.e_CP.tyI⟩
  obtain ⟨tk_MOST_CELLS, hk_MOST_CELLS⟩ := T.i_MOST_CELLS.ex
  have m_MOST_CELLS := PySem.W.mg_of X G hk_MOST_CELLS
  obtain ⟨tk_MOST_PLUGS, hk_MOST_PLUGS⟩ := T.i_MOST_PLUGS.ex
  have m_MOST_PLUGS := PySem.W.mg_of X G hk_MOST_PLUGS
  obtain ⟨tk_MOST_TICKS, hk_MOST_TICKS⟩ := T.i_MOST_TICKS.ex
  have m_MOST_TICKS := PySem.W.mg_of X G hk_MOST_TICKS
  obtain ⟨tk_MOST_VALUES, hk_MOST_VALUES⟩ := T.i_MOST_VALUES.ex
  have m_MOST_VALUES := PySem.W.mg_of X G hk_MOST_VALUES
  obtain ⟨tk_MOST_INSTRUCTIONS, hk_MOST_INSTRUCTIONS⟩ := T.i_MOST_INSTRUCTIONS.ex
  have m_MOST_INSTRUCTIONS := PySem.W.mg_of X G hk_MOST_INSTRUCTIONS
  obtain ⟨tk_MOST_KEPT, hk_MOST_KEPT⟩ := T.i_MOST_KEPT.ex
  have m_MOST_KEPT := PySem.W.mg_of X G hk_MOST_KEPT
  obtain ⟨tk_MOST_INPUTS, hk_MOST_INPUTS⟩ := T.i_MOST_INPUTS.ex
  have m_MOST_INPUTS := PySem.W.mg_of X G hk_MOST_INPUTS
  have gNum : Got P w K mg base CX0 1 "is_number" p_is_number spNumber := T.d_is_number.got X G (fun _ _ _ _ _ _ us hl => match us, hl with | [_, _, _], _ => rfl) fun f fd F => ok_number B F
  have gPrime : Got P w K mg base CX0 2 "is_prime" p_is_prime spPrime := T.d_is_prime.got X G (fun _ _ _ _ _ _ us hl => match us, hl with | [_], _ => rfl) fun f fd F => ok_prime F gNum gP hP
  have gRow : Got P w K mg base CX0 2 "is_row" p_is_row (spIsRow K) := T.d_is_row.got X G (fun _ _ _ _ _ _ us hl => match us, hl with | [_, _, _], _ => rfl) fun f fd F => ok_isrow B F gNum
  have gRows : Got P w K mg base CX0 3 "is_rows" p_is_rows (spIsRows K) := T.d_is_rows.got X G (fun _ _ _ _ _ _ us hl => match us, hl with | [_, _, _, _], _ => rfl) fun f fd F => ok_isrows B F gRow
  have gMeet : Got P w K mg base CX0 1 "meet" p_meet (spMet K) := T.d_meet.got X G (fun _ _ _ _ _ _ us hl => match us, hl with | [_, _, _], _ => rfl) fun f fd F => ok_meet B F
  have gInv : Got P w K mg base CX0 1 "inverse" p_inverse spInverse := T.d_inverse.got X G (fun _ _ _ _ _ _ us hl => match us, hl with | [_, _], _ => rfl) fun f fd F => ok_inverse F
  have gTimes : Got P w K mg base CX0 1 "times" p_times (spTimes K) := T.d_times.got X G (fun _ _ _ _ _ _ us hl => match us, hl with | [_, _, _], _ => rfl) fun f fd F => ok_times B F
  have gLess : Got P w K mg base CX0 1 "less" p_less (spLess K) := T.d_less.got X G (fun _ _ _ _ _ _ us hl => match us, hl with | [_, _, _, _], _ => rfl) fun f fd F => ok_less B F
  have gFirst : Got P w K mg base CX0 1 "first_place" p_first_place (spFirst K) := T.d_first_place.got X G (fun _ _ _ _ _ _ us hl => match us, hl with | [_], _ => rfl) fun f fd F => ok_first B F
  have gRem : Got P w K mg base CX0 2 "remainder" p_remainder (spRem K) := T.d_remainder.got X G (fun _ _ _ _ _ _ us hl => match us, hl with | [_, _, _], _ => rfl) fun f fd F => ok_rem F gLess gFirst
  have gWith : Got P w K mg base CX0 4 "with_row" p_with_row (spWith K) := T.d_with_row.got X G (fun _ _ _ _ _ _ us hl => match us, hl with | [_, _, _], _ => rfl) fun f fd F => ok_with B F gLess gFirst gRem gTimes gInv
  have gStair : Got P w K mg base CX0 5 "staircase" p_staircase (spStair K) := T.d_staircase.got X G (fun _ _ _ _ _ _ us hl => match us, hl with | [_, _], _ => rfl) fun f fd F => ok_stair F gWith
  have gIsStir : Got P w K mg base CX0 6 "is_stir" p_is_stir (spIsStir K) := T.d_is_stir.got X G (fun _ _ _ _ _ _ us hl => match us, hl with | [_, _], _ => rfl) fun f fd F => ok_isstir B F gRows gStair m_MOST_CELLS
  have gWrong : Got P w K mg base CX0 7 "wrong_part" p_wrong_part (spWrong K) := T.d_wrong_part.got X G (fun _ _ _ _ _ _ us hl => match us, hl with | [_], _ => rfl) fun f fd F => ok_wrong B F gPrime gIsStir gRows m_MOST_PLUGS
  have gCheck : Got P w K mg base (L2.CX P w) 8 "check_machine" p_check_machine (spCheckM K CB) := T.d_check_machine.got X G (fun _ _ _ _ _ _ us hl => match us, hl with | [_], _ => rfl) fun f fd F => ok_checkM M_ F FI_CB gWrong
  have gCheckN : Got P w K mg base (L2.CX P w) 3 "check_number" p_check_number (spCheckN CN) := T.d_check_number.got X G (fun _ _ _ _ _ _ us hl => match us, hl with | [_, _, _], _ => rfl) fun f fd F => ok_checkN F gNum E_CN
  have gCheckP : Got P w K mg base (L2.CX P w) 3 "check_prime" p_check_prime (spCheckP CN) := T.d_check_prime.got X G (fun _ _ _ _ _ _ us hl => match us, hl with | [_], _ => rfl) fun f fd F => ok_checkP F gPrime E_CN
  have gCheckMem : Got P w K mg base (L2.CX P w) 3 "check_memory" p_check_memory (spCheckMem K CM) := T.d_check_memory.got X G (fun _ _ _ _ _ _ us hl => match us, hl with | [_, _], _ => rfl) fun f fd F => ok_checkMem B F gRow E_CM
  have gStirred : Got P w K mg base CX0 2 "stirred" p_stirred (spPStirred K) := T.d_stirred.got X G (fun _ _ _ _ _ _ us hl => match us, hl with | [_, _, _], _ => rfl) fun f fd F => ok_pstirred B F gMeet
  have gBoth : Got P w K mg base CX0 3 "stirred_by_both" p_stirred_by_both (spBoth K) := T.d_stirred_by_both.got X G (fun _ _ _ _ _ _ us hl => match us, hl with | [_, _, _], _ => rfl) fun f fd F => ok_both B F gStirred
  have gStill : Got P w K mg base CX0 1 "still" p_still (spStill K) := T.d_still.got X G (fun _ _ _ _ _ _ us hl => match us, hl with | [_], _ => rfl) fun f fd F => ok_still B F
  have gStillM : Got P w K mg base CX0 2 "still_machine" p_still_machine (spStillM K) := T.d_still_machine.got X G (fun _ _ _ _ _ _ us hl => match us, hl with | [_, _], _ => rfl) fun f fd F => ok_stillM F gStill
  have gOften : Got P w K mg base CX0 4 "stirred_often" p_stirred_often (spOften K) := T.d_stirred_often.got X G (fun _ _ _ _ _ _ us hl => match us, hl with | [_, _, _], _ => rfl) fun f fd F => ok_often B F gStill gBoth
  have gBehind : Got P w K mg base (L2.CX P w) 9 "behind_ticks" p_behind_ticks (spBehind K CM) := T.d_behind_ticks.got X G (fun _ _ _ _ _ _ us hl => match us, hl with | [_, _, _], _ => rfl) fun f fd F => ok_behind F gCheck gCheckMem gCheckN gOften gStirred m_MOST_TICKS
  have gTurns : Got P w K mg base (L2.CX P w) 9 "turns" p_turns (AsksF K CB rTurns) := T.d_turns.got X G (fun _ _ _ _ _ _ us hl => match us, hl with | [_], _ => rfl) fun f fd F => ok_turns B F gCheck gStill gBoth
  have gMost : Got P w K mg base CX0 1 "most_numbers" p_most_numbers spMost := T.d_most_numbers.got X G (fun _ _ _ _ _ _ us hl => match us, hl with | [_, _, _, _], _ => rfl) fun f fd F => ok_most F
  have gIsIns : Got P w K mg base CX0 2 "is_instruction" p_is_instruction (spIsIns K) := T.d_is_instruction.got X G (fun _ _ _ _ _ _ us hl => match us, hl with | [_, _, _], _ => rfl) fun f fd F => ok_isins B F gNum
  have gMany : Got P w K mg base (L2.CX P w) 3 "check_many" p_check_many (spCheckMany K) := T.d_check_many.got X G (fun _ _ _ _ _ _ us hl => match us, hl with | [_, _], _ => rfl) fun f fd F => ok_checkMany B N_ F FI_CP
  have gIns : Got P w K mg base (L2.CX P w) 3 "check_instructions" p_check_instructions (spCheckIns K CP) := T.d_check_instructions.got X G (fun _ _ _ _ _ _ us hl => match us, hl with | [_, _, _], _ => rfl) fun f fd F => ok_checkIns B N_ F FI_CP gIsIns
  have gVal : Got P w K mg base (L2.CX P w) 4 "check_values" p_check_values spCheckVal := T.d_check_values.got X G (fun _ _ _ _ _ _ us hl => match us, hl with | [_], _ => rfl) fun f fd F => ok_checkVal F gCheckN m_MOST_VALUES
  have gProg : Got P w K mg base (L2.CX P w) 4 "check_program" p_check_program (spCheckPr K CP) := T.d_check_program.got X G (fun _ _ _ _ _ _ us hl => match us, hl with | [_, _, _], _ => rfl) fun f fd F => ok_checkPr B F gMany gMost gIns m_MOST_INSTRUCTIONS g_BARE_WORDS h_BARE_WORDS
  have gKept : Got P w K mg base (L2.CX P w) 4 "check_kept" p_check_kept (spCheckK K CP) := T.d_check_kept.got X G (fun _ _ _ _ _ _ us hl => match us, hl with | [_, _], _ => rfl) fun f fd F => ok_checkK B F gMany gMost gIns m_MOST_KEPT g_KEPT_BARE_WORDS h_KEPT_BARE_WORDS
  have gLand : Got P w K mg base CX0 1 "landings" p_landings (spLand K) := T.d_landings.got X G (fun _ _ _ _ _ _ us hl => match us, hl with | [_], _ => rfl) fun f fd F => ok_land B F
  have gNexts : Got P w K mg base CX0 1 "nexts" p_nexts (spNexts K) := T.d_nexts.got X G (fun _ _ _ _ _ _ us hl => match us, hl with | [_, _, _], _ => rfl) fun f fd F => ok_nexts F
  have gMets : Got P w K mg base CX0 2 "places_met" p_places_met (spMets K) := T.d_places_met.got X G (fun _ _ _ _ _ _ us hl => match us, hl with | [_], _ => rfl) fun f fd F => ok_mets B F gLand gNexts
  have gNames : Got P w K mg base CX0 3 "names_met" p_names_met (spNames K) := T.d_names_met.got X G (fun _ _ _ _ _ _ us hl => match us, hl with | [_], _ => rfl) fun f fd F => ok_names B F gMets g_SEEING h_SEEING g_WRITING h_WRITING
  have gUsed : Got P w K mg base (L2.CX P w) 5 "used" p_used (spUsed K) := T.d_used.got X G (fun _ _ _ _ _ _ us hl => match us, hl with | [_, _, _], _ => rfl) fun f fd F => ok_used F gCheckP gVal gProg gNames
  have gCheckIn : Got P w K mg base (L2.CX P w) 3 "check_inputs" p_check_inputs (spCheckIn K CI) := T.d_check_inputs.got X G (fun _ _ _ _ _ _ us hl => match us, hl with | [_, _], _ => rfl) fun f fd F => ok_checkIn B F gNum m_MOST_INPUTS E_CI
  have gDone : Got P w K mg base CX0 2 "done" p_done (spDone K) := T.d_done.got X G (fun _ _ _ _ _ _ us hl => match us, hl with | [_, _, _, _], _ => rfl) fun f fd F => ok_done F gMeet gLess
  have gRun : Got P w K mg base CX0 3 "run" p_run (spRun K) := T.d_run.got X G (fun _ _ _ _ _ _ us hl => match us, hl with | [_, _, _, _, _, _], _ => rfl) fun f fd F => ok_run B F gLand gDone gStirred gLess g_MARKS h_MARKS
  have gRunSt : Got P w K mg base (L2.CX P w) 9 "run_stirred" p_run_stirred (spRunSt K CI) := T.d_run_stirred.got X G (fun _ _ _ _ _ _ us hl => match us, hl with | [_, _, _, _, _], _ => rfl) fun f fd F => ok_runSt F gCheck gKept gCheckIn gCheckN gCheckMem gRun m_MOST_TICKS
  have gRunSl : Got P w K mg base (L2.CX P w) 5 "run_still" p_run_still (spRunSl K CP) := T.d_run_still.got X G (fun _ _ _ _ _ _ us hl => match us, hl with | [_, _, _, _, _], _ => rfl) fun f fd F => ok_runSl F gCheckP gVal gProg gCheckIn gCheckN gStillM gRun m_MOST_TICKS
  have gTaken : Got P w K mg base CX0 1 "_law_taken" p_law_taken (spTaken K) := T.d_law_taken.got X G (fun _ _ _ _ _ _ us hl => match us, hl with | [_, _], _ => rfl) fun f fd F => ok_taken B F
  have gPick : Got P w K mg base CX0 2 "_law_pick" p_law_pick (spPick K) := T.d_law_pick.got X G (fun _ _ _ _ _ _ us hl => match us, hl with | [_, _], _ => rfl) fun f fd F => ok_pick B F gTaken
  have gPickW : Got P w K mg base CX0 2 "_law_pick" p_law_pick (spPickW K) := T.d_law_pick.got X G (fun _ _ _ _ _ _ us hl => match us, hl with | [_, _], _ => rfl) fun f fd F => ok_pickW B F gTaken
  have gLRow : Got P w K mg base CX0 2 "_law_row" p_law_row (spRow K) := T.d_law_row.got X G (fun _ _ _ _ _ _ us hl => match us, hl with | [_, _, _], _ => rfl) fun f fd F => ok_row B F gTaken
  have gLStir : Got P w K mg base CX0 2 "_law_stir" p_law_stir (spStir K) := T.d_law_stir.got X G (fun _ _ _ _ _ _ us hl => match us, hl with | [_, _, _], _ => rfl) fun f fd F => ok_stirL B F gTaken
  have gLMach : Got P w K mg base CX0 3 "_law_machine" p_law_machine (spMachine K) := T.d_law_machine.got X G (fun _ _ _ _ _ _ us hl => match us, hl with | [_, _, _, _], _ => rfl) fun f fd F => ok_machine B F gTaken gPick gLRow gLStir
  have gMet : Got P w K mg base CX0 1 "_law_met" p_law_met (spMet K) := T.d_law_met.got X G (fun _ _ _ _ _ _ us hl => match us, hl with | [_, _, _], _ => rfl) fun f fd F => ok_met B F
  have gAdded : Got P w K mg base CX0 1 "_law_added" p_law_added (spAdded K) := T.d_law_added.got X G (fun _ _ _ _ _ _ us hl => match us, hl with | [_, _, _, _], _ => rfl) fun f fd F => ok_added B F
  have gLStirred : Got P w K mg base CX0 2 "_law_stirred" p_law_stirred (spStirred K) := T.d_law_stirred.got X G (fun _ _ _ _ _ _ us hl => match us, hl with | [_, _], _ => rfl) fun f fd F => ok_stirred B F gMet
  have gStands : Got P w K mg base CX0 1 "_law_stands" p_law_stands (spStands K) := T.d_law_stands.got X G (fun _ _ _ _ _ _ us hl => match us, hl with | [_, _], _ => rfl) fun f fd F => ok_stands B F
  have gLProg : Got P w K mg base CX0 3 "_law_program" p_law_program (spLProg K) := T.d_law_program.got X G (fun _ _ _ _ _ _ us hl => match us, hl with | [_, _, _, _], _ => rfl) fun f fd F => ok_lprog B F gTaken gPick
  have gLDeed : Got P w K mg base CX0 3 "_law_deed" p_law_deed (spLDeed K) := T.d_law_deed.got X G (fun _ _ _ _ _ _ us hl => match us, hl with | [_, _, _, _], _ => rfl) fun f fd F => ok_ldeed B F gMet gAdded gLStirred
  have gLRun : Got P w K mg base CX0 4 "_law_run" p_law_run (spLRun K) := T.d_law_run.got X G (fun _ _ _ _ _ _ us hl => match us, hl with | [_, _, _, _, _], _ => rfl) fun f fd F => ok_lrun B F gStands gLDeed
  have gPlain : Got P w K mg base CX0 2 "_law_plain" p_law_plain (spStillM K) := T.d_law_plain.got X G (fun _ _ _ _ _ _ us hl => match us, hl with | [_, _], _ => rfl) fun f fd F => ok_plain B F
  have gLUsed : Got P w K mg base CX0 2 "_law_used" p_law_used (spNamesL K) := T.d_law_used.got X G (fun _ _ _ _ _ _ us hl => match us, hl with | [_], _ => rfl) fun f fd F => ok_lused B F gStands
  have gA0 : Got P w K mg base CX0 0 "_law_alike" p_law_alike (spAT K 0) := T.d_law_alike.got X G (fun _ _ _ _ _ _ us hl => match us, hl with | [_, _], _ => rfl) fun f fd F => ok_alikeT0
  have gA1 : Got P w K mg base CX0 1 "_law_alike" p_law_alike (spAT K 1) := T.d_law_alike.got X G (fun _ _ _ _ _ _ us hl => match us, hl with | [_, _], _ => rfl) fun f fd F => ok_alikeT B F 0 gA0
  have gA2 : Got P w K mg base CX0 2 "_law_alike" p_law_alike (spAT K 2) := T.d_law_alike.got X G (fun _ _ _ _ _ _ us hl => match us, hl with | [_, _], _ => rfl) fun f fd F => ok_alikeT B F 1 gA1
  have gA3 : Got P w K mg base CX0 3 "_law_alike" p_law_alike (spAT K 3) := T.d_law_alike.got X G (fun _ _ _ _ _ _ us hl => match us, hl with | [_, _], _ => rfl) fun f fd F => ok_alikeT B F 2 gA2
  exact ⟨B, ⟨gTaken, gPickW, gLRow, gLMach, gLStirred, gA3, gLProg, gLRun, gPlain, gLUsed, gBehind, gTurns, gRunSl, gUsed, gRunSt⟩⟩
theorem law_at {l : PySem.W.OpenLaw} {fa c Pt CN CM CI CB CP fI_CB fI_CP : Addr} (X : K.In h) (G : h.Ns mainGlobals mg) (hfa : mg "law" = some (.ref fa)) (T : TopK K c Pt CN CM CI CB CP fI_CB fI_CP) (tab : h.get? Pt = some { cls := .none, data := .fields #[] }) :
    LamX.LawAtS l w K (L2.CX l.prog w) 11 63 "script" mg fa h := by
  obtain ⟨f, od, an, oc, kV, dc, pm, ct, sl, a, lk, cd⟩ := T.law.ex
  have e := hfa.symm.trans (PySem.W.mg_of X G a)
  cases e
  refine ⟨_, [(c, Pt)], spLaw K Pt, fun p hp => ?_, fun p hp => ?_, fun p hp => ?_, fun s v => BindsTo.of_eq (fd := PySem.W.fnOf "law" "law" (defArgs s_law) (defBody s_law) (defScope s_law) .none kV dc pm an (.ref c) ct) rfl, fun H a ns _ _ hT hS => ?_, fun base Xb Gb TB => ?_⟩
  · rw [List.mem_singleton.mp hp]; exact tab
  · rw [List.mem_singleton.mp hp]; exact T.law.no
  · rw [List.mem_singleton.mp hp]; exact PySem.W.codeHd_of_K X T.law.hd
  · refine ⟨a, ns, rfl, hS, fun p hp => ?_, fun _ => rfl⟩
    rw [List.mem_singleton.mp hp]
    exact LamX.TabS.nil (hT (c, Pt) (List.mem_singleton.mpr rfl))
  · obtain ⟨B, D⟩ := defs_of (P := l.prog) (w := w) (base := base) X G T
    have E_CN := err_of X G T.e_CN
    have E_CM := err_of X G T.e_CM
    have E_CI := err_of X G T.e_CI
    have g_CB := PySem.W.mg_of X G T.e_CB.a
    have g_CP := PySem.W.mg_of X G T.e_CP.a
    have X_CB : XfC K CB := ⟨T.fga_CB, T.fgg_CB, T.fsb_CB, T.fhd_CB⟩
    have X_CP : XfC K CP := ⟨T.fga_CP, T.fgg_CP, T.fsb_CP, T.fhd_CP⟩
    exact ok_law B (PySem.W.mg_none_of X G T.z_min) g_CB X_CB T.e_CB.no T.x_CBCB ⟨oc, od, kV, dc, pm, an, ct, sl, rfl, lk, cd⟩ (TB (c, Pt) (List.mem_singleton.mpr rfl)) ⟨E_CM.gC, E_CI.gC, g_CP, X_CP, T.e_CP.no, T.x_CMCM, T.x_CICM, T.x_CICI, T.x_CPCM, T.x_CPCI, T.x_CPCP⟩ D
end
end K01


set_option Elab.async false
set_option maxRecDepth 100000
open PySem PySem.W PyProof.Rows in
set_option maxRecDepth 100000 in
set_option maxHeartbeats 0 in
theorem PySem.Challenge.cw_driftstore_k02_whole_runs_holds : PySem.Challenge.rw_driftstore_k02_whole_runs.Holds := by
  w_on; o_law; k_head; (case hw => w_witness2)
  k_fill
  refine LamX.walk_ofTs (l := PySem.Challenge.rw_driftstore_k02_whole_runs) (n := 63) (k := 11) (x := "script") (CX := fun w => L2.CX PySem.Challenge.rw_driftstore_k02_whole_runs.prog w) rfl (by decide) rfl ⟨rfl, by decide, by decide⟩ (fun w h Y => km_in_of Y) ?F (fun w H s e s' z => ?C)
  case C =>
    obtain ⟨_, _, _, _, _, _, _, _, _, _, _, _, z⟩ := z
    exact z
  case F =>
    intro w mg fa h Y KX G hmg
    have tb := km_tabs_of Y 466 (by simp)
    have d_is_number : K01.DefX KX "is_number" K01.s_is_number := by
      refine' K01.mkDef ?a ?l ?c ?k
      (case a => k_is); (case l => k_is); (case c => k_is); (case k => k_is)
    have d_is_prime : K01.DefX KX "is_prime" K01.s_is_prime := by
      refine' K01.mkDef ?a ?l ?c ?k
      (case a => k_is); (case l => k_is); (case c => k_is); (case k => k_is)
    have d_is_row : K01.DefX KX "is_row" K01.s_is_row := by
      refine' K01.mkDef ?a ?l ?c ?k
      (case a => k_is); (case l => k_is); (case c => k_is); (case k => k_is)
    have d_is_rows : K01.DefX KX "is_rows" K01.s_is_rows := by
      refine' K01.mkDef ?a ?l ?c ?k
      (case a => k_is); (case l => k_is); (case c => k_is); (case k => k_is)
    have d_meet : K01.DefX KX "meet" K01.s_meet := by
      refine' K01.mkDef ?a ?l ?c ?k
      (case a => k_is); (case l => k_is); (case c => k_is); (case k => k_is)
    have d_inverse : K01.DefX KX "inverse" K01.s_inverse := by
      refine' K01.mkDef ?a ?l ?c ?k
      (case a => k_is); (case l => k_is); (case c => k_is); (case k => k_is)
    have d_times : K01.DefX KX "times" K01.s_times := by
      refine' K01.mkDef ?a ?l ?c ?k
      (case a => k_is); (case l => k_is); (case c => k_is); (case k => k_is)
    have d_less : K01.DefX KX "less" K01.s_less := by
      refine' K01.mkDef ?a ?l ?c ?k
      (case a => k_is); (case l => k_is); (case c => k_is); (case k => k_is)
    have d_first_place : K01.DefX KX "first_place" K01.s_first_place := by
      refine' K01.mkDef ?a ?l ?c ?k
      (case a => k_is); (case l => k_is); (case c => k_is); (case k => k_is)
    have d_remainder : K01.DefX KX "remainder" K01.s_remainder := by
      refine' K01.mkDef ?a ?l ?c ?k
      (case a => k_is); (case l => k_is); (case c => k_is); (case k => k_is)
    have d_with_row : K01.DefX KX "with_row" K01.s_with_row := by
      refine' K01.mkDef ?a ?l ?c ?k
      (case a => k_is); (case l => k_is); (case c => k_is); (case k => k_is)
    have d_staircase : K01.DefX KX "staircase" K01.s_staircase := by
      refine' K01.mkDef ?a ?l ?c ?k
      (case a => k_is); (case l => k_is); (case c => k_is); (case k => k_is)
    have d_is_stir : K01.DefX KX "is_stir" K01.s_is_stir := by
      refine' K01.mkDef ?a ?l ?c ?k
      (case a => k_is); (case l => k_is); (case c => k_is); (case k => k_is)
    have d_wrong_part : K01.DefX KX "wrong_part" K01.s_wrong_part := by
      refine' K01.mkDef ?a ?l ?c ?k
      (case a => k_is); (case l => k_is); (case c => k_is); (case k => k_is)
    have d_check_machine : K01.DefX KX "check_machine" K01.s_check_machine := by
      refine' K01.mkDef ?a ?l ?c ?k
      (case a => k_is); (case l => k_is); (case c => k_is); (case k => k_is)
    have d_check_number : K01.DefX KX "check_number" K01.s_check_number := by
      refine' K01.mkDef ?a ?l ?c ?k
      (case a => k_is); (case l => k_is); (case c => k_is); (case k => k_is)
    have d_check_prime : K01.DefX KX "check_prime" K01.s_check_prime := by
      refine' K01.mkDef ?a ?l ?c ?k
      (case a => k_is); (case l => k_is); (case c => k_is); (case k => k_is)
    have d_check_memory : K01.DefX KX "check_memory" K01.s_check_memory := by
      refine' K01.mkDef ?a ?l ?c ?k
      (case a => k_is); (case l => k_is); (case c => k_is); (case k => k_is)
    have d_stirred : K01.DefX KX "stirred" K01.s_stirred := by
      refine' K01.mkDef ?a ?l ?c ?k
      (case a => k_is); (case l => k_is); (case c => k_is); (case k => k_is)
    have d_stirred_by_both : K01.DefX KX "stirred_by_both" K01.s_stirred_by_both := by
      refine' K01.mkDef ?a ?l ?c ?k
      (case a => k_is); (case l => k_is); (case c => k_is); (case k => k_is)
    have d_still : K01.DefX KX "still" K01.s_still := by
      refine' K01.mkDef ?a ?l ?c ?k
      (case a => k_is); (case l => k_is); (case c => k_is); (case k => k_is)
    have d_still_machine : K01.DefX KX "still_machine" K01.s_still_machine := by
      refine' K01.mkDef ?a ?l ?c ?k
      (case a => k_is); (case l => k_is); (case c => k_is); (case k => k_is)
    have d_stirred_often : K01.DefX KX "stirred_often" K01.s_stirred_often := by
      refine' K01.mkDef ?a ?l ?c ?k
      (case a => k_is); (case l => k_is); (case c => k_is); (case k => k_is)
    have d_behind_ticks : K01.DefX KX "behind_ticks" K01.s_behind_ticks := by
      refine' K01.mkDef ?a ?l ?c ?k
      (case a => k_is); (case l => k_is); (case c => k_is); (case k => k_is)
    have d_turns : K01.DefX KX "turns" K01.s_turns := by
      refine' K01.mkDef ?a ?l ?c ?k
      (case a => k_is); (case l => k_is); (case c => k_is); (case k => k_is)
    have d_most_numbers : K01.DefX KX "most_numbers" K01.s_most_numbers := by
      refine' K01.mkDef ?a ?l ?c ?k
      (case a => k_is); (case l => k_is); (case c => k_is); (case k => k_is)
    have d_is_instruction : K01.DefX KX "is_instruction" K01.s_is_instruction := by
      refine' K01.mkDef ?a ?l ?c ?k
      (case a => k_is); (case l => k_is); (case c => k_is); (case k => k_is)
    have d_check_many : K01.DefX KX "check_many" K01.s_check_many := by
      refine' K01.mkDef ?a ?l ?c ?k
      (case a => k_is); (case l => k_is); (case c => k_is); (case k => k_is)
    have d_check_instructions : K01.DefX KX "check_instructions" K01.s_check_instructions := by
      refine' K01.mkDef ?a ?l ?c ?k
      (case a => k_is); (case l => k_is); (case c => k_is); (case k => k_is)
    have d_check_values : K01.DefX KX "check_values" K01.s_check_values := by
      refine' K01.mkDef ?a ?l ?c ?k
      (case a => k_is); (case l => k_is); (case c => k_is); (case k => k_is)
    have d_check_program : K01.DefX KX "check_program" K01.s_check_program := by
      refine' K01.mkDef ?a ?l ?c ?k
      (case a => k_is); (case l => k_is); (case c => k_is); (case k => k_is)
    have d_check_kept : K01.DefX KX "check_kept" K01.s_check_kept := by
      refine' K01.mkDef ?a ?l ?c ?k
      (case a => k_is); (case l => k_is); (case c => k_is); (case k => k_is)
    have d_landings : K01.DefX KX "landings" K01.s_landings := by
      refine' K01.mkDef ?a ?l ?c ?k
      (case a => k_is); (case l => k_is); (case c => k_is); (case k => k_is)
    have d_nexts : K01.DefX KX "nexts" K01.s_nexts := by
      refine' K01.mkDef ?a ?l ?c ?k
      (case a => k_is); (case l => k_is); (case c => k_is); (case k => k_is)
    have d_places_met : K01.DefX KX "places_met" K01.s_places_met := by
      refine' K01.mkDef ?a ?l ?c ?k
      (case a => k_is); (case l => k_is); (case c => k_is); (case k => k_is)
    have d_names_met : K01.DefX KX "names_met" K01.s_names_met := by
      refine' K01.mkDef ?a ?l ?c ?k
      (case a => k_is); (case l => k_is); (case c => k_is); (case k => k_is)
    have d_used : K01.DefX KX "used" K01.s_used := by
      refine' K01.mkDef ?a ?l ?c ?k
      (case a => k_is); (case l => k_is); (case c => k_is); (case k => k_is)
    have d_check_inputs : K01.DefX KX "check_inputs" K01.s_check_inputs := by
      refine' K01.mkDef ?a ?l ?c ?k
      (case a => k_is); (case l => k_is); (case c => k_is); (case k => k_is)
    have d_done : K01.DefX KX "done" K01.s_done := by
      refine' K01.mkDef ?a ?l ?c ?k
      (case a => k_is); (case l => k_is); (case c => k_is); (case k => k_is)
    have d_run : K01.DefX KX "run" K01.s_run := by
      refine' K01.mkDef ?a ?l ?c ?k
      (case a => k_is); (case l => k_is); (case c => k_is); (case k => k_is)
    have d_run_stirred : K01.DefX KX "run_stirred" K01.s_run_stirred := by
      refine' K01.mkDef ?a ?l ?c ?k
      (case a => k_is); (case l => k_is); (case c => k_is); (case k => k_is)
    have d_run_still : K01.DefX KX "run_still" K01.s_run_still := by
      refine' K01.mkDef ?a ?l ?c ?k
      (case a => k_is); (case l => k_is); (case c => k_is); (case k => k_is)
    have d_law_taken : K01.DefX KX "_law_taken" K01.s_law_taken := by
      refine' K01.mkDef ?a ?l ?c ?k
      (case a => k_is); (case l => k_is); (case c => k_is); (case k => k_is)
    have d_law_pick : K01.DefX KX "_law_pick" K01.s_law_pick := by
      refine' K01.mkDef ?a ?l ?c ?k
      (case a => k_is); (case l => k_is); (case c => k_is); (case k => k_is)
    have d_law_row : K01.DefX KX "_law_row" K01.s_law_row := by
      refine' K01.mkDef ?a ?l ?c ?k
      (case a => k_is); (case l => k_is); (case c => k_is); (case k => k_is)
    have d_law_stir : K01.DefX KX "_law_stir" K01.s_law_stir := by
      refine' K01.mkDef ?a ?l ?c ?k
      (case a => k_is); (case l => k_is); (case c => k_is); (case k => k_is)
    have d_law_machine : K01.DefX KX "_law_machine" K01.s_law_machine := by
      refine' K01.mkDef ?a ?l ?c ?k
      (case a => k_is); (case l => k_is); (case c => k_is); (case k => k_is)
    have d_law_met : K01.DefX KX "_law_met" K01.s_law_met := by
      refine' K01.mkDef ?a ?l ?c ?k
      (case a => k_is); (case l => k_is); (case c => k_is); (case k => k_is)
    have d_law_added : K01.DefX KX "_law_added" K01.s_law_added := by
      refine' K01.mkDef ?a ?l ?c ?k
      (case a => k_is); (case l => k_is); (case c => k_is); (case k => k_is)
    have d_law_stirred : K01.DefX KX "_law_stirred" K01.s_law_stirred := by
      refine' K01.mkDef ?a ?l ?c ?k
      (case a => k_is); (case l => k_is); (case c => k_is); (case k => k_is)
    have d_law_stands : K01.DefX KX "_law_stands" K01.s_law_stands := by
      refine' K01.mkDef ?a ?l ?c ?k
      (case a => k_is); (case l => k_is); (case c => k_is); (case k => k_is)
    have d_law_program : K01.DefX KX "_law_program" K01.s_law_program := by
      refine' K01.mkDef ?a ?l ?c ?k
      (case a => k_is); (case l => k_is); (case c => k_is); (case k => k_is)
    have d_law_deed : K01.DefX KX "_law_deed" K01.s_law_deed := by
      refine' K01.mkDef ?a ?l ?c ?k
      (case a => k_is); (case l => k_is); (case c => k_is); (case k => k_is)
    have d_law_run : K01.DefX KX "_law_run" K01.s_law_run := by
      refine' K01.mkDef ?a ?l ?c ?k
      (case a => k_is); (case l => k_is); (case c => k_is); (case k => k_is)
    have d_law_plain : K01.DefX KX "_law_plain" K01.s_law_plain := by
      refine' K01.mkDef ?a ?l ?c ?k
      (case a => k_is); (case l => k_is); (case c => k_is); (case k => k_is)
    have d_law_used : K01.DefX KX "_law_used" K01.s_law_used := by
      refine' K01.mkDef ?a ?l ?c ?k
      (case a => k_is); (case l => k_is); (case c => k_is); (case k => k_is)
    have d_law_alike : K01.DefX KX "_law_alike" K01.s_law_alike := by
      refine' K01.mkDef ?a ?l ?c ?k
      (case a => k_is); (case l => k_is); (case c => k_is); (case k => k_is)
    have z_len : K01.NoX KX "len" := by unfold K01.NoX; k_is
    have z_zip : K01.NoX KX "zip" := by unfold K01.NoX; k_is
    have z_tuple : K01.NoX KX "tuple" := by unfold K01.NoX; k_is
    have z_list : K01.NoX KX "list" := by unfold K01.NoX; k_is
    have z_sorted : K01.NoX KX "sorted" := by unfold K01.NoX; k_is
    have z_enumerate : K01.NoX KX "enumerate" := by unfold K01.NoX; k_is
    have z_range : K01.NoX KX "range" := by unfold K01.NoX; k_is
    have z_isinstance : K01.NoX KX "isinstance" := by unfold K01.NoX; k_is
    have z_int : K01.NoX KX "int" := by unfold K01.NoX; k_is
    have z_bool : K01.NoX KX "bool" := by unfold K01.NoX; k_is
    have z_str : K01.NoX KX "str" := by unfold K01.NoX; k_is
    have z_all : K01.NoX KX "all" := by unfold K01.NoX; k_is
    have z_sum : K01.NoX KX "sum" := by unfold K01.NoX; k_is
    have z_max : K01.NoX KX "max" := by unfold K01.NoX; k_is
    have z_set : K01.NoX KX "set" := by unfold K01.NoX; k_is
    have z_min : K01.NoX KX "min" := by unfold K01.NoX; k_is
    refine' K01.law_at KX G hmg ⟨d_is_number, d_is_prime, d_is_row, d_is_rows, d_meet, d_inverse, d_times, d_less, d_first_place, d_remainder, d_with_row, d_staircase, d_is_stir, d_wrong_part, d_check_machine, d_check_number, d_check_prime, d_check_memory, d_stirred, d_stirred_by_both, d_still, d_still_machine, d_stirred_often, d_behind_ticks, d_turns, d_most_numbers, d_is_instruction, d_check_many, d_check_instructions, d_check_values, d_check_program, d_check_kept, d_landings, d_nexts, d_places_met, d_names_met, d_used, d_check_inputs, d_done, d_run, d_run_stirred, d_run_still, d_law_taken, d_law_pick, d_law_row, d_law_stir, d_law_machine, d_law_met, d_law_added, d_law_stirred, d_law_stands, d_law_program, d_law_deed, d_law_run, d_law_plain, d_law_used, d_law_alike, K01.mkLaw ?a ?l ?cd ?hd ?no, ⟨?aCN, ?xCN, ?kCN, ?bCN, ?tCN⟩, ⟨?aCM, ?xCM, ?kCM, ?bCM, ?tCM⟩, ⟨?aCI, ?xCI, ?kCI, ?bCI, ?tCI⟩, K01.mkOex ?oaCB ?olCB ?orCB ?osCB ?oeCB ?otCB ?okCB ?onCB ?oiCB ?oyCB ?ofCB ?ocCB ?odCB, K01.mkOex ?oaCP ?olCP ?orCP ?osCP ?oeCP ?otCP ?okCP ?onCP ?oiCP ?oyCP ?ofCP ?ocCP ?odCP, ?mCBCB, ?mCMCM, ?mCICM, ?mCICI, ?mCPCM, ?mCPCI, ?mCPCP, ?fgaCB, ?fggCB, ?fsbCB, ?fhdCB, ?fgaCP, ?fggCP, ?fsbCP, ?fhdCP, K01.mkPrimes ?pa ?pl, K01.mkTup_BARE_WORDS ?uaBARE_WORDS ?ulBARE_WORDS, K01.mkTup_KEPT_BARE_WORDS ?uaKEPT_BARE_WORDS ?ulKEPT_BARE_WORDS, K01.mkTup_MARKS ?uaMARKS ?ulMARKS, K01.mkTup_SEEING ?uaSEEING ?ulSEEING, K01.mkTup_WRITING ?uaWRITING ?ulWRITING, K01.mkInt ?iMOST_CELLS, K01.mkInt ?iMOST_PLUGS, K01.mkInt ?iMOST_TICKS, K01.mkInt ?iMOST_VALUES, K01.mkInt ?iMOST_INSTRUCTIONS, K01.mkInt ?iMOST_KEPT, K01.mkInt ?iMOST_INPUTS, z_len, z_zip, z_tuple, z_list, z_sorted, z_enumerate, z_range, z_isinstance, z_int, z_bool, z_str, z_all, z_sum, z_max, z_set, z_min⟩ tb
    (case a => first | k_is | kernel_rfl)
    (case l => first | k_is | kernel_rfl)
    (case cd => first | k_is | kernel_rfl)
    (case hd => first | k_is | kernel_rfl)
    (case no => first | k_is | kernel_rfl)
    (case aCN => first | k_is | kernel_rfl)
    (case xCN => first | k_is | kernel_rfl)
    (case kCN => first | k_is | kernel_rfl)
    (case bCN => first | k_is | kernel_rfl)
    (case tCN => first | k_is | kernel_rfl)
    (case aCM => first | k_is | kernel_rfl)
    (case xCM => first | k_is | kernel_rfl)
    (case kCM => first | k_is | kernel_rfl)
    (case bCM => first | k_is | kernel_rfl)
    (case tCM => first | k_is | kernel_rfl)
    (case aCI => first | k_is | kernel_rfl)
    (case xCI => first | k_is | kernel_rfl)
    (case kCI => first | k_is | kernel_rfl)
    (case bCI => first | k_is | kernel_rfl)
    (case tCI => first | k_is | kernel_rfl)
    (case oaCB => first | k_is | kernel_rfl)
    (case olCB => first | k_is | kernel_rfl)
    (case orCB => first | decide +kernel | k_is | kernel_rfl)
    (case osCB => first | k_is | kernel_rfl)
    (case oeCB => first | k_is | kernel_rfl)
    (case otCB => first | k_is | kernel_rfl)
    (case okCB => first | k_is | kernel_rfl)
    (case onCB => first | k_is | kernel_rfl)
    (case oiCB => first | k_is | kernel_rfl)
    (case oyCB => first | k_is | kernel_rfl)
    (case ofCB => first | k_is | kernel_rfl)
    (case ocCB => first | k_is | kernel_rfl)
    (case odCB => first | k_is | kernel_rfl)
    (case oaCP => first | k_is | kernel_rfl)
    (case olCP => first | k_is | kernel_rfl)
    (case orCP => first | decide +kernel | k_is | kernel_rfl)
    (case osCP => first | k_is | kernel_rfl)
    (case oeCP => first | k_is | kernel_rfl)
    (case otCP => first | k_is | kernel_rfl)
    (case okCP => first | k_is | kernel_rfl)
    (case onCP => first | k_is | kernel_rfl)
    (case oiCP => first | k_is | kernel_rfl)
    (case oyCP => first | k_is | kernel_rfl)
    (case ofCP => first | k_is | kernel_rfl)
    (case ocCP => first | k_is | kernel_rfl)
    (case odCP => first | k_is | kernel_rfl)
    (case mCBCB => first | k_is | kernel_rfl)
    (case mCMCM => first | k_is | kernel_rfl)
    (case mCICM => first | k_is | kernel_rfl)
    (case mCICI => first | k_is | kernel_rfl)
    (case mCPCM => first | k_is | kernel_rfl)
    (case mCPCI => first | k_is | kernel_rfl)
    (case mCPCP => first | k_is | kernel_rfl)
    (case fgaCB => first | k_is | kernel_rfl)
    (case fggCB => first | k_is | kernel_rfl)
    (case fsbCB => first | k_is | kernel_rfl)
    (case fhdCB => first | k_is | kernel_rfl)
    (case fgaCP => first | k_is | kernel_rfl)
    (case fggCP => first | k_is | kernel_rfl)
    (case fsbCP => first | k_is | kernel_rfl)
    (case fhdCP => first | k_is | kernel_rfl)
    (case pa => first | k_is | kernel_rfl)
    (case pl => first | k_is | kernel_rfl)
    (case uaBARE_WORDS => first | k_is | kernel_rfl)
    (case ulBARE_WORDS => first | k_is | kernel_rfl)
    (case uaKEPT_BARE_WORDS => first | k_is | kernel_rfl)
    (case ulKEPT_BARE_WORDS => first | k_is | kernel_rfl)
    (case uaMARKS => first | k_is | kernel_rfl)
    (case ulMARKS => first | k_is | kernel_rfl)
    (case uaSEEING => first | k_is | kernel_rfl)
    (case ulSEEING => first | k_is | kernel_rfl)
    (case uaWRITING => first | k_is | kernel_rfl)
    (case ulWRITING => first | k_is | kernel_rfl)
    (case iMOST_CELLS => first | k_is | kernel_rfl)
    (case iMOST_PLUGS => first | k_is | kernel_rfl)
    (case iMOST_TICKS => first | k_is | kernel_rfl)
    (case iMOST_VALUES => first | k_is | kernel_rfl)
    (case iMOST_INSTRUCTIONS => first | k_is | kernel_rfl)
    (case iMOST_KEPT => first | k_is | kernel_rfl)
    (case iMOST_INPUTS => first | k_is | kernel_rfl)

