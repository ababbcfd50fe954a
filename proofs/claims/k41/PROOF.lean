import PyProof.Rows.All
import Wide.All
import OpenK.AllK
import HandS.HotCalls
import HandS.Comp
import HandS.Iter
import HandS.Words
import HandS.ExcField
import HandS.ExcIs
import HandS.Lambda
import KE.KExcIs
import HandS.ExcInit
import KE.KExcInit
import OpenK.KCls
import HandS.Defaults
import HandS.HeadHook4
import HandS.HeadWalk
import Wide.FinOn
import KE.KStateDown
import HandS.Base
import HandS.Call
import HandS.List
import HandS.Ends
import HandS.Dict
import HandS.Text
import HandS.More
import HandS.WordsList
import HandS.WordsDict
import HandS.WordsExc
import HandS.Exc
import HandS.IsInst
import HandS.Set
import HandS.Strs
import HandS.SetFor
import HandS.TupSets
import HandS.TupMul
import HandS.TupAny
import HandS.TupLe
import HandS.Conv
import HandS.Walk
import HandS.Evl
import HandS.Flow
import HandS.Style
import HandS.Deep
import HandS.DeepEq
import HandS.SetBool
import HandS.Codes
import HandS.Head0
import HandS.Head1
import HandS.Head2
import HandS.HeadEnd
import HandS.HeadHook1
import HandS.HeadHook2
import PySem.Challenge.RW_roamlook_k41_what_hands_hear
import KE.GoesEnum
import PyProof.TupleOfSeq
import PyProof.EnumMake
import HandS.Zip0
import HandS.Zip
import KE.KRevSl
import KE.KEqSeq
import HandS.Flt
import KE.KEqDeep
import PyProof.AutoSeq1
import KE.KDflt
set_option Elab.async false
set_option linter.all false
set_option maxRecDepth 100000
set_option maxHeartbeats 0
/-! walks that end while an exception is handled: a list's, a tuple's, a zip's -/
namespace RLH
open PySem PySem.Spec PyProof.Rows L2 HotX
theorem push2 {h : Heap} {b : Addr} {o p q : Obj} (e : h.get? b = some o) : ((h.push p).push q).get? b = some o := Heap.get?_push_of_some _ (Heap.get?_push_of_some _ e)
section
variable {prog : Program} {w : World} {A : Around} {E : Value → Shared → Prop} {s : Shared}
/-- what a StopIteration leaves -/
def Stops (E : Value → Shared → Prop) (s : Shared) : Prop :=
  ∀ h' e, (∀ b o, s.heap.get? b = some o → h'.get? b = some o) → (∃ o, h'.get? e = some o ∧ o.cls = .type "StopIteration") → E (.ref e) { s with heap := h' }
theorem stop_hot {α : Type} {x1 : Addr} {Q : α → Shared → Prop} (hot : HotAt A x1 s.heap) (hE : Stops E s) :
    wpAny (model prog w) A ((newExc (.type "StopIteration") [] : Sem Value) >>= fun e => (raiseNew e : Sem α)) Q E s := by
  obtain ⟨hh, o1, vs1, h1, d1, c1⟩ := hot
  refine wpAny_bind ?_
  unfold newExc
  wp_walk
  refine raiseNew_hot ⟨hh, o1, vs1, push2 h1, d1, c1⟩ (Nat.ne_of_lt (Heap.lt_size (Heap.get?_push_of_some _ h1))) (Heap.get?_push_size _ rfl) rfl (by first | (simp; done) | (simp; omega)) ?_
  refine hE _ _ (fun b o e => ?_) ⟨_, Heap.get?_update_self _ (Heap.get?_push_size _ rfl) rfl, rfl⟩
  rw [Heap.get?_update_other _ _ (Nat.ne_of_gt (Heap.lt_size (Heap.get?_push_of_some _ e)))]
  exact push2 e
theorem HotAt.but {x1 it : Addr} {h h' : Heap} (hot : HotAt A x1 h) (k : Heap.ExtBut it h h') (ne : x1 ≠ it) : HotAt A x1 h' := by
  obtain ⟨hh, o, vs, e, r⟩ := hot
  exact ⟨hh, o, vs, k _ _ ne e, r⟩
/-- the list's iterator is at its end -/
theorem list_end_hot {x1 it l : Addr} {i : Nat} {items : Array Value} {Q : Value → Shared → Prop} (hot : HotAt A x1 s.heap) (nx : x1 ≠ it) (hit : s.heap.IsListIter it l i) (hl : s.heap.IsList l items) (hx : items[i]? = none)
    (hE : ∀ h' e, Heap.ExtBut it s.heap h' → (∃ o, h'.get? e = some o ∧ o.cls = .type "StopIteration") → E (.ref e) { s with heap := h' }) :
    wpAny (model prog w) A (Builtin.SmallTypes.nextOf (.ref it)) Q E s := by
  obtain ⟨o, ho, hc, hd⟩ := id hit
  obtain ⟨ol, hol, _, nl, hdl⟩ := hl
  unfold Builtin.SmallTypes.nextOf
  obtain ⟨hh, o1, vs1, h1, d1, c1⟩ := hot
  refine wpAny_bind (wpAny_callSpecial?_slot (name := Str.ofString "__next__") hit.typeIs slot_listiter_next (wpAny_call_entry slot_listiter_next hit.typeIs entry_listiter_next ?_ (args_listiter_next _)))
  have f0 : (#[Value.ref l, Value.int (↑i) 0] : Array Value)[0]? = some (.ref l) := rfl
  have f1 : (#[Value.ref l, Value.int (↑i) 0] : Array Value)[1]? = some (.int i 0) := rfl
  refine wpAny_bind (m := field (.ref it) 0) (wpAny_field ho hd f0 ?_)
  rw [if_neg (by simp : ¬ ((Value.ref l == Value.none) = true))]
  refine wpAny_bind (m := field (.ref it) 1) (wpAny_field ho hd f1 (wpAny_bind (m := seqItems? (.ref l)) (wpAny_seqItems hol hdl ?_)))
  simp only [Int.toNat_natCast, hx]
  refine wpAny_bind (wpAny_rule (wpAny_bind (wpAny_setField ho hd (by simp) ?_)))
  have up : HotAt A.in1 x1 (s.heap.update it (Obj.mapFields (·.setIfInBounds 0 Value.none))) := ⟨hh, o1, vs1, by rw [Heap.get?_update_other _ _ (Ne.symm nx)]; exact h1, d1, c1⟩
  refine stop_hot up fun h' e k he => hE h' e (fun b u hb eb => k b u ?_) he
  rw [Heap.get?_update_other _ _ (Ne.symm hb)]
  exact eb
/-- the first list of a zip is at its end -/
theorem zip_end_hot {x1 z TI TO i1 i2 l1 l2 : Addr} {k1 : Nat} {xs : Array Value} {Q : Option Value → Shared → Prop} (hot : HotAt A x1 s.heap) (n1 : x1 ≠ z) (n2 : x1 ≠ i1) (D : ZipApart z TI TO i1 i2 l1 l2)
    (hz : IsZip s.heap z TI TO .none) (hTI : IsPair s.heap TI (.ref i1) (.ref i2)) (it1 : s.heap.IsListIter i1 l1 k1) (hl1 : s.heap.IsList l1 xs) (hx : xs[k1]? = none)
    (hQ : ∀ h', (∀ c o, c ≠ z → c ≠ i1 → s.heap.get? c = some o → h'.get? c = some o) → Q none { s with heap := h' }) : wpAny (model prog w) A (pyNext (.ref z)) Q E s := by
  have hT : s.TypeIs (.ref z) "zip" := ⟨_, hz, rfl⟩
  unfold pyNext
  refine wpAny_bind (wpAny_attempt (wpAny_callSpecial?_slot (name := Str.ofString "__next__") hT F.slot_zip_next (wpAny_call_entry F.slot_zip_next hT F.entry_zip_next ?_ (F.args_zip_next_1 _))))
  refine wpAny_bind (m := field (.ref z) 2) (wpAny_field hz rfl (x := .bool false) rfl (wpAny_bind (m := field (.ref z) 3) (wpAny_field hz rfl (x := .ref TI) rfl (wpAny_bind (m := seqItems? (.ref TI)) (wpAny_seqItems hTI rfl ?_)))))
  refine wpAny_bind (m := Builtin.SmallTypes.ownedTupleIsFree (.ref z)) ?_
  unfold Builtin.SmallTypes.ownedTupleIsFree
  refine wpAny_bind (wpAny_field hz rfl (x := .none) rfl (wpAny_pure ?_))
  simp only [if_true]
  refine wpAny_bind (wpAny_rule (wpAny_bind (wpAny_field hz rfl (x := .ref TO) rfl (wpAny_bind (wpAny_setField_rec hz (by simp) fun ha za sa => wpAny_bind ?_)))))
  have za : IsZip ha z TI TO .ellipsis := za
  simp only [List.zipIdx_cons, List.zipIdx_nil, List.forIn_cons, List.forIn_nil]
  have hotA : HotAt A.in1 x1 ha := HotAt.but (A := A.in1) ⟨hot.1, hot.2⟩ sa.extBut n1
  refine wpAny_bind (wpAny_bind (wpAny_onRaise (wpAny_bind (m := Builtin.SmallTypes.nextOf (.ref i1)) (list_end_hot (s := { s with heap := ha }) hotA n2 (it1.extBut sa.extBut D.i1z) (hl1.extBut sa.extBut D.l1z) hx fun hb e kb eb => ?_))))
  obtain ⟨oe, ge, ce⟩ := eb
  have zb : IsZip hb z TI TO .ellipsis := kb _ _ D.i1z.symm za
  have ez : e ≠ z := fun q => by
    rw [q, show hb.get? z = _ from zb] at ge
    cases ge
    simp at ce
  refine wpAny_setField_rec zb (by simp) fun hc _ sc => ?_
  refine wpAny_bind (wpAny_isInstance (T := "StopIteration") (b := true) ⟨oe, sc.extBut _ _ ez ge, ce⟩ isSubtype_stop (wpAny_pure (hQ hc fun c o c1 c2 q => ?_)))
  exact sc.extBut _ _ c1 (kb _ _ c2 (sa.extBut _ _ c1 q))
/-- a tuple's iterator is at its end -/
theorem tuple_end_hot {x1 it l : Addr} {i : Nat} {items : Array Value} {Q : Option Value → Shared → Prop} (hot : HotAt A x1 s.heap) (nx : x1 ≠ it) (hit : s.heap.IsTupleIter it l i) (hl : s.heap.IsTuple l items) (hx : items[i]? = none)
    (hQ : ∀ h', Heap.ExtBut it s.heap h' → Q none { s with heap := h' }) : wpAny (model prog w) A (pyNext (.ref it)) Q E s := by
  obtain ⟨o, ho, hc, hd⟩ := id hit
  obtain ⟨ol, hol, _, nl, hdl⟩ := hl
  obtain ⟨hh, o1, vs1, h1, d1, c1⟩ := hot
  unfold pyNext
  refine wpAny_bind (wpAny_attempt (wpAny_callSpecial?_slot (name := Str.ofString "__next__") hit.typeIs F.slot_tuple_iterator_next (wpAny_call_entry F.slot_tuple_iterator_next hit.typeIs F.entry_tuple_iterator_next ?_ (F.args_tuple_iterator_next_1 _))))
  have f0 : (#[Value.ref l, Value.int (↑i) 0] : Array Value)[0]? = some (.ref l) := rfl
  have f1 : (#[Value.ref l, Value.int (↑i) 0] : Array Value)[1]? = some (.int i 0) := rfl
  refine wpAny_bind (m := field (.ref it) 0) (wpAny_field ho hd f0 ?_)
  rw [if_neg (by simp : ¬ ((Value.ref l == Value.none) = true))]
  refine wpAny_bind (m := field (.ref it) 1) (wpAny_field ho hd f1 (wpAny_bind (m := seqItems? (.ref l)) (wpAny_seqItems hol hdl ?_)))
  simp only [Int.toNat_natCast, hx]
  refine wpAny_bind (wpAny_rule (wpAny_bind (wpAny_setField ho hd (by simp) ?_)))
  have up : HotAt A.in1 x1 (s.heap.update it (Obj.mapFields (·.setIfInBounds 0 Value.none))) := ⟨hh, o1, vs1, by rw [Heap.get?_update_other _ _ (Ne.symm nx)]; exact h1, d1, c1⟩
  refine stop_hot up fun h' e k he => ?_
  obtain ⟨oe, ge, ce⟩ := he
  refine wpAny_bind (wpAny_isInstance (T := "StopIteration") (b := true) ⟨oe, ge, ce⟩ isSubtype_stop (wpAny_pure (hQ h' fun b u hb eb => k b u ?_)))
  rw [Heap.get?_update_other _ _ (Ne.symm hb)]
  exact eb
/-- (a, b, ..) = a tuple -/
theorem unpack_hot {x1 t : Addr} {items : Array Value} {targets : List (Bool × (Value → Sem Unit))} {Q : Unit → Shared → Prop} (hot : HotAt A x1 s.heap) (ht : s.heap.IsTuple t items) (hn : targets.length = items.size) (hst : targets.findIdx? (·.1) = none)
    (h : ∀ h', (∀ b o, s.heap.get? b = some o → h'.get? b = some o) → wpAny (model prog w) A (assignInOrder (targets.map (·.2)) items.toList) Q E { s with heap := h' }) : wpAny (model prog w) A (unpack (.ref t) targets) Q E s := by
  have hlt : t ≠ s.heap.objs.size := by
    obtain ⟨o, ho, _⟩ := ht
    exact Nat.ne_of_lt (Heap.lt_size ho)
  have hx1 : x1 ≠ s.heap.objs.size := by
    obtain ⟨_, o, _, ho, _⟩ := hot
    exact Nat.ne_of_lt (Heap.lt_size ho)
  have fresh : ∀ {b : Addr} {o : Obj}, s.heap.get? b = some o → b ≠ s.heap.objs.size := fun q => Nat.ne_of_lt (Heap.lt_size q)
  unfold unpack
  rw [hn, hst]
  refine wpAny_bind (wpAny_holding ?_)
  unfold unpackItems notIterableAtAll
  refine wpAny_bind (wpAny_bind (wpAny_specialOf ht.typeIs F.slot_tuple_iter.lookup (wpAny_pure ?_)))
  simp only [Bool.false_eq_true, if_false]
  refine wpAny_bind (wpAny_holding (wpAny_pyIter_tuple ht (wpAny_bind (wpAny_holding (wpAny_draw_tuple hlt items.size 0 _ _ ⟨_, Heap.get?_push_size _ rfl, rfl, rfl⟩ (ht.push _) (by omega) fun ha ita sa => ?_)))))
  have all : List.take items.size (List.drop 0 items.toList) = items.toList := by
    rw [List.drop_zero]
    exact List.take_of_length_le (by simp)
  rw [all, if_neg (by simp)]
  have hotA : HotAt A x1 ha := HotAt.but ⟨hot.1, by obtain ⟨o, vs, g, r⟩ := hot.2; exact ⟨o, vs, Heap.get?_push_of_some _ g, r⟩⟩ sa.extBut hx1
  refine wpAny_bind (wpAny_holding (tuple_end_hot (s := { s with heap := ha }) hotA hx1 ita ((ht.push _).extBut sa.extBut hlt) (by simp) fun hb kb => ?_))
  simp only [Option.isSome_none, Bool.false_eq_true, if_false]
  exact wpAny_pure (h hb fun b o q => kb b o (fresh q) (sa.extBut b o (fresh q) (Heap.get?_push_of_some _ q)))
end
end RLH
/-! [x for x, y in zip(e, e2) if y] while an exception is handled -/
namespace RLH
open PySem PySem.Spec PyProof.Rows L2 HotX L2H
/-- the texts whose flags are up -/
def sel : List Str → List Bool → List Str
  | x :: xs, true :: bs => x :: sel xs bs
  | _ :: xs, false :: bs => sel xs bs
  | _, _ => []
theorem sel_len : ∀ (xs : List Str) (bs : List Bool), (sel xs bs).length ≤ xs.length
  | [], bs => by simp [sel]
  | x :: xs, [] => by simp [sel]
  | x :: xs, true :: bs => by have := sel_len xs bs; simp [sel]; omega
  | x :: xs, false :: bs => by have := sel_len xs bs; simp [sel]; omega
theorem sel_take : ∀ (xs : List Str) (bs : List Bool) (k : Nat) (x : Str) (b : Bool), xs[k]? = some x → bs[k]? = some b → sel (xs.take (k + 1)) (bs.take (k + 1)) = sel (xs.take k) (bs.take k) ++ (if b = true then [x] else [])
  | [], _, _, _, _, h, _ => by simp at h
  | _ :: _, [], _, _, _, _, h => by simp at h
  | y :: xs, c :: bs, 0, x, b, h1, h2 => by
    simp at h1 h2
    subst h1 h2
    cases c <;> simp [sel]
  | y :: xs, c :: bs, k + 1, x, b, h1, h2 => by
    have ih := sel_take xs bs k x b (by simpa using h1) (by simpa using h2)
    cases c <;> simp only [List.take_succ_cons, sel, ih, List.cons_append]
/-- all but D as in H -/
def Same' (H : Hp) (D : Addr) (H' : Hp) : Prop := ∀ c, c ≠ D → H' c = H c
section
variable {X : Cx}
abbrev Xb (X : Cx) (scope : Scope) (s : Shared) (H : Hp) (ce : Env) (fp : List Addr) (p : Addr × Obj) : Cx := (X.blk s H scope ce fp).tr [p] (fun _ _ => False)
def tLcZ (K : PySem.W.Frag) (ta : TA) : TE := fun σ H Q => ta σ H fun vs H1 => ∃ (a b : Addr) (ws : List Str) (bs : List Bool), vs = [.ref a, .ref b] ∧ SqL K H1 a (ws.map V.str) ∧ SqL K H1 b (bs.map V.bl) ∧ ws.length = bs.length ∧
  ∀ D, H1 D = none → Q (.ref D) (upd H1 D (.lst ((sel ws bs).map V.str)))
structure ZSt (h : Heap) (z TI TO i1 i2 a b : Addr) (k : Nat) : Prop where
  hz : IsZip h z TI TO .none
  ti : IsPair h TI (.ref i1) (.ref i2)
  to_ : ∃ x y, IsPair h TO x y
  one : h.IsListIter i1 a k
  two : h.IsListIter i2 b k
theorem ZSt.keep {h h' : Heap} {z TI TO i1 i2 a b : Addr} {k : Nat} (Z : ZSt h z TI TO i1 i2 a b k) (kp : ∀ c ∈ [z, TI, TO, i1, i2], ∀ o, h.get? c = some o → h'.get? c = some o) : ZSt h' z TI TO i1 i2 a b k :=
  ⟨kp z (by simp) _ Z.hz, kp TI (by simp) _ Z.ti, by obtain ⟨x, y, e⟩ := Z.to_; exact ⟨x, y, kp TO (by simp) _ e⟩, Z.one.at fun o e => kp i1 (by simp) o e, Z.two.at fun o e => kp i2 (by simp) o e⟩
theorem ZSt.obj {h : Heap} {z TI TO i1 i2 a b : Addr} {k : Nat} (Z : ZSt h z TI TO i1 i2 a b k) : ∀ c ∈ [z, TI, TO, i1, i2], ∃ o, h.get? c = some o ∧ ∀ v, o.data ≠ .cell v := fun c hc => by
  obtain ⟨x, y, e⟩ := Z.to_
  obtain ⟨o1, e1, _, d1⟩ := Z.one
  obtain ⟨o2, e2, _, d2⟩ := Z.two
  simp only [List.mem_cons, List.not_mem_nil, or_false] at hc
  rcases hc with q | q | q | q | q <;> subst q
  · exact ⟨_, Z.hz, fun v n => by cases n⟩
  · exact ⟨_, Z.ti, fun v n => by cases n⟩
  · exact ⟨_, e, fun v n => by cases n⟩
  · exact ⟨o1, e1, fun v n => by rw [d1] at n; cases n⟩
  · exact ⟨o2, e2, fun v n => by rw [d2] at n; cases n⟩
theorem pe_lczH {xn yn : Str} {i j : Nat} {e e2 : Expr} {ta : TA} {scope : Scope} {pos zpos zp tpos qx qy q1 q2 : Pos} {kk : Nat} (hc : HotC X) (hN : X.N.Nodup) (hij : i ≠ j) (hiN : X.N[i]? = some xn) (hjN : X.N[j]? = some yn) (hg : Gl X "zip") (hm : X.mg "zip" = none) (ha : PA X [e, e2] ta)
    (ok : BlkOk X.N X.env.scope scope [(xn, i), (yn, j)])
    (vx : Vis (relabel scope X.env) xn) (vy : Vis (relabel scope X.env) yn) (lx : (relabel scope X.env).names.lookup xn = some .local) (ly : (relabel scope X.env).names.lookup yn = some .local)
    (dx : (xn == ("__debug__" : Str)) = false) (cx : (xn == ("__classdict__" : Str)) = false) (dy : (yn == ("__debug__" : Str)) = false) (cy : (yn == ("__classdict__" : Str)) = false)
    (hs : starEach [e, e2] X.env = (false, eval e X.env) :: starEach [e2] X.env := by rfl) (hpl : (backTo zpos (starEach [e2] X.env)).any (·.1) = false := by rfl)
    (hfs : ∀ x, foldedSetIterable (.Call (.Name "zip" zp) [e, e2] [] zpos) X.env x = pure x := by intro _; rfl) :
    PE X (.ListComp (.Name xn q1) [⟨.Tuple [.Name xn qx, .Name yn qy] kk tpos, .Call (.Name "zip" zp) [e, e2] [] zpos, [.Name yn q2], 0⟩] scope pos) (tLcZ X.K ta) := by
  refine ⟨fun pins s σ H Q I h => ?_⟩
  obtain ⟨p, hot1, hp⟩ := hc
  rw [eval_ListComp]
  have hfree : ∀ y ∈ scope.names, y.2 = .free → ∃ c, X.env.cells.lookup y.1 = some c := fun y hy q => (ok.free y hy q).elim (fun r => I.ok.has _ (.inl r)) (fun r => I.ok.has _ (.inr r))
  refine wpAny_comprehension_free (use := none) rfl hfs (closure_ok hfree) ok.kind (fun y hy q => by rw [ok.uniq y hy, q]) (Call_ (ld_blt I hg hm PyProof.Rows.boot_zip (PyProof.Rows.callWith_type1 (thn (ha.run zpos pins s σ H _ I h) fun us s1 ⟨vs, H1, I1, r1, q1⟩ => ?_) hs hpl)))
  obtain ⟨a, b, ws, bs, ev, sa, sb, hlen, fin⟩ := q1
  subst ev
  obtain ⟨u1, u2, rfl, e1, e2⟩ : ∃ u1 u2, us = [u1, u2] ∧ u1 = Value.ref a ∧ u2 = Value.ref b := by
    cases r1 with
    | cons ra rr =>
      cases rr with
      | cons rb rn =>
        cases rn
        exact ⟨_, _, rfl, ra, rb⟩
  subst e1 e2
  obtain ⟨ia, va, pa, zline⟩ := I1.list sa
  obtain ⟨ib, vb, pb, zb⟩ := I1.list sb
  refine call_zip_2 pa.isList pb.isList fun hZ hz hTI hTO h1 h2 hsz hk => wpAny_pyIter_zip hz (wpAny_newObj_type (newEnv_comp ?_) (by show 0 ≤ sizeLine; decide))
  have D0 : ZipApart (s1.heap.objs.size + 4) (s1.heap.objs.size + 2) (s1.heap.objs.size + 3) s1.heap.objs.size (s1.heap.objs.size + 1) a b := PySem.W.ktu_apart s1.heap.objs.size a b pa.lt pb.lt
  generalize hn : s1.heap.objs.size = n at hz hTI hTO h1 h2 hsz D0
  have Z0 : ZSt hZ (n + 4) (n + 2) (n + 3) n (n + 1) a b 0 := ⟨hz, hTI, ⟨_, _, hTO⟩, h1, h2⟩
  have I2 : Inv X pins σ H1 { s1 with heap := hZ } := I1.kept (t' := s1.toks) hk
  have nD : H1 hZ.objs.size = none := I2.hok.fresh (Nat.le_refl _)
  generalize hs3 : ({ s1 with heap := hZ.push { cls := .type "list", data := .seq ([] : List Value).toArray } } : Shared) = s3
  have eh3 : s3.heap = hZ.push { cls := .type "list", data := .seq ([] : List Value).toArray } := by rw [← hs3]
  generalize hD : hZ.objs.size = D at nD
  have I3 : Inv X pins σ (upd H1 D (.lst [])) s3 := by
    rw [← hs3]
    refine I2.laid (t' := s1.toks) (fun c o q => Heap.get?_push_of_some _ q) (Nat.le_of_eq hD) ⟨Nat.zero_le _, [], 0, .nil, ?_⟩
    rw [← hD]
    exact Heap.get?_push_size _ rfl
  generalize hfp : [n + 4, n + 2, n + 3, n, n + 1] = fp
  have inF : ∀ c ∈ fp, n ≤ c ∧ c < n + 5 := fun c hc => by
    rw [← hfp] at hc
    simp only [List.mem_cons, List.not_mem_nil, or_false] at hc
    omega
  have sz3 : s3.heap.objs.size = n + 6 := by rw [eh3, Heap.size_push, hsz]
  have f3 : ∀ c ∈ fp, FpOk X pins (upd H1 D (.lst [])) c ∧ c < s3.heap.objs.size := fun c hc => by
    have r := inF c hc
    refine ⟨I1.fpOk (by rw [hn]; exact r.1) ?_, by rw [sz3]; omega⟩
    rw [upd_ne (show @Ne Nat c D by have := r.2; omega)]
    exact I1.hok.fresh (by rw [hn]; exact r.1)
  have I4 := block_start I3 ok hN f3
  show codeAny _ _ (.compStart (.ListComp (.Name xn q1) [⟨.Tuple [.Name xn qx, .Name yn qy] kk tpos, .Call (.Name "zip" zp) [e, e2] [] zpos, [.Name yn q2], 0⟩] scope pos) 0 (.ref (n + 4)) (.ref D)
    (compEnvC scope (cellsFrom (s3.heap.objs.size + 1) scope.names (cloFrom X.env.cells scope.names [])) s3.heap.objs.size X.env)) (compPost (model X.prog X.w) X.A X.xe none _ (.ref D) s3.heap.objs.size) { s3 with heap := pushCells (s3.heap.push { cls := .type "dict", data := .dict #[] }) scope.names }
  generalize hce : compEnvC scope (cellsFrom (s3.heap.objs.size + 1) scope.names (cloFrom X.env.cells scope.names [])) s3.heap.objs.size X.env = ce at I4 ⊢
  have ceL : ce.locals = s3.heap.objs.size := by subst hce; rfl
  have ceS : ce.scope = relabel scope X.env := by subst hce; rfl
  have k34 : ∀ c o, s3.heap.get? c = some o → (pushCells (s3.heap.push { cls := .type "dict", data := .dict #[] }) scope.names).get? c = some o := fun c o q => pushCells_keeps _ _ _ _ (Heap.get?_push_of_some _ q)
  generalize hs4 : ({ s3 with heap := pushCells (s3.heap.push { cls := .type "dict", data := .dict #[] }) scope.names } : Shared) = s4 at I4 ⊢
  have k34' : ∀ c o, s3.heap.get? c = some o → s4.heap.get? c = some o := fun c o q => by rw [← hs4]; exact k34 c o q
  have Z4 : ZSt s4.heap (n + 4) (n + 2) (n + 3) n (n + 1) a b 0 := Z0.keep fun c _ o q => k34' c o (by rw [eh3]; exact Heap.get?_push_of_some _ q)
  have pP := I3.pin p (List.mem_append_left _ hp)
  have I5 : Inv (X.blk s3 (upd H1 D (.lst [])) scope ce fp) [p] (wipe σ [i, j]) (upd H1 D (.lst [])) s4 := I4.pins_of fun q hq => by
    have eq : q = p := by simpa using hq
    subst eq
    refine ⟨k34' _ _ pP.1, pP.2.1, ?_, fun hm' => ?_, pP.2.2.2.2⟩
    · show q.1 ≠ ce.locals
      rw [ceL]
      exact Nat.ne_of_lt (Heap.lt_size pP.1)
    · exact (List.mem_cons.mp (I3.stkSub q.1 hm')).elim pP.2.2.1 pP.2.2.2.1
  have I6 : Inv (Xb X scope s3 (upd H1 D (.lst [])) ce fp p) [] (wipe σ [i, j]) (upd H1 D (.lst [])) s4 := I5.toTry _
  have nP : ∀ c ∈ fp, p.1 ≠ c := fun c hc => (f3 c hc).1.2.2.2.2.2 p (List.mem_append_left _ hp)
  have stat : ∀ {σ' : L2.St} {H' : Hp} {s' : Shared}, Inv (Xb X scope s3 (upd H1 D (.lst [])) ce fp p) [] σ' H' s' → (∀ c ∈ fp, H' c = none) → ∀ c ∈ fp, FpOk (Xb X scope s3 (upd H1 D (.lst [])) ce fp p) [] H' c := fun {σ' H' s'} J hn' c hc =>
    ⟨hn' c hc, (J.ok.exf c hc).1, J.ok.exfs c hc, .inl hc, fun y cc q => (J.ok.exf c hc).2 y cc q, fun q hq => by
      have eq : q = p := by simpa using (show q ∈ [p] ++ ([] : List (Addr × Obj)) from hq)
      rw [eq]
      exact nP c hc⟩
  have hotOf : ∀ {ps' : List (Addr × Obj)} {σ' : L2.St} {H' : Hp} {s' : Shared}, Inv (Xb X scope s3 (upd H1 D (.lst [])) ce fp p) ps' σ' H' s' → HotAt X.A p.1 s'.heap := fun {ps' σ' H' s'} J => by
    obtain ⟨hh, v1, d1, c1⟩ := hot1
    exact ⟨hh, p.2, v1, (J.pin p (List.mem_append_left _ (by simp))).1, d1, c1⟩
  have freeF : ∀ {H' : Hp}, Same' H1 D H' → ∀ c ∈ fp, H' c = none := fun {H'} e c hc => by
    rw [e c (show @Ne Nat c D by have := (inF c hc).2; omega)]
    exact I1.hok.fresh (by rw [hn]; exact (inF c hc).1)
  have seqA : ∀ {H' : Hp} {q : Addr} {xs : List V}, Same' H1 D H' → SqL X.K H1 q xs → SqL X.K H' q xs := fun {H' q xs} e r => Same.seq (fun c o hc => by rw [e c (ne_of_none hc nD)]; exact hc) r
  have loop : codeAny (model X.prog X.w) X.A (.compLoop (.ListComp (.Name xn q1) [⟨.Tuple [.Name xn qx, .Name yn qy] kk tpos, .Call (.Name "zip" zp) [e, e2] [] zpos, [.Name yn q2], 0⟩] scope pos) 0 (.ref (n + 4)) (.ref D) ce)
      (compPost (model X.prog X.w) X.A X.xe none (EP X pins σ Q) (.ref D) s3.heap.objs.size) s4 := by
    refine compLoop_any (fun m s' => ∃ k, m + k = ws.length ∧ Inv (Xb X scope s3 (upd H1 D (.lst [])) ce fp p) [] (wipe σ [i, j]) (upd H1 D (.lst ((sel (ws.take k) (bs.take k)).map V.str))) s' ∧ ZSt s'.heap (n + 4) (n + 2) (n + 3) n (n + 1) a b k) ?_ ws.length ⟨0, rfl, by simpa [sel] using I6, Z4⟩
    rintro m s5 ⟨k, hmk, J, Z⟩
    have sm : Same' H1 D (upd H1 D (.lst ((sel (ws.take k) (bs.take k)).map V.str))) := fun c hc => upd_ne hc
    obtain ⟨ya, wa, la, _⟩ := J.list (seqA sm sa)
    obtain ⟨yb, wb, lb, _⟩ := J.list (seqA sm sb)
    have lna := wa.length
    have lnb := wb.length
    rw [List.length_map] at lna lnb
    by_cases hend : k = ws.length
    · refine thnF (zip_end_hot (E := fun _ _ => False) (Q := fun r s' => r = none ∧ Inv (Xb X scope s3 (upd H1 D (.lst [])) ce fp p) [] (wipe σ [i, j]) (upd H1 D (.lst ((sel (ws.take k) (bs.take k)).map V.str))) s') (hotOf J) (nP _ (by rw [← hfp]; simp)) (nP _ (by rw [← hfp]; simp)) D0 Z.hz Z.ti Z.one la.isList (by simp; omega) fun h' kp => ⟨rfl, J.turnedL (t' := s5.toks) (ch := fp) (fun c o hc q => kp c o (fun z => hc (by rw [z, ← hfp]; simp)) (fun z => hc (by rw [z, ← hfp]; simp)) q) (stat J (freeF sm))⟩) fun r s6 ⟨hr, J6⟩ => ?_
      subst hr
      have back : Inv X pins σ (upd H1 D (.lst ((sel (ws.take k) (bs.take k)).map V.str))) s6 := I3.call' (ch := fp) J6.os J6.base J6.hok J6.bare fun c hc => ⟨(f3 c hc).1.2.2.2.1, (f3 c hc).1.2.1, (f3 c hc).1.2.2.2.2.1, (f3 c hc).1.2.2.2.2.2⟩
      have free : (upd H1 D (.lst ((sel (ws.take k) (bs.take k)).map V.str))) s3.heap.objs.size = none := by
        have q : (upd H1 D (.lst ((sel (ws.take k) (bs.take k)).map V.str))) ce.locals = none := J6.free
        rw [ceL] at q
        exact q
      obtain ⟨mm, hns, _⟩ := J6.loc
      have hns : s6.heap.Ns ce.locals mm := hns
      rw [ceL] at hns
      obtain ⟨g0, g1, g2, g3, g4, g5⟩ := I3.fpOk (Nat.le_refl _) free
      refine ⟨mm, hns, fun h' sb' => ⟨.ref D, _, back.turned (t' := s6.toks) (fun c o hc q => (sb'.2 c hc).trans q) g0 g1 g3 g4 g5, rfl, ?_⟩⟩
      rw [hend, List.take_length, hlen, List.take_length]
      exact fin D nD
    · have hlt : k < ws.length := by omega
      obtain ⟨x, hx⟩ : ∃ x, ws[k]? = some x := ⟨_, List.getElem?_eq_getElem hlt⟩
      obtain ⟨f, hf⟩ : ∃ f, bs[k]? = some f := ⟨_, List.getElem?_eq_getElem (by omega)⟩
      obtain ⟨u, hu, ru⟩ := wa.get (i := k) (x := V.str x) (by rw [List.getElem?_map, hx]; rfl)
      obtain ⟨v, hv, rv⟩ := wb.get (i := k) (x := V.bl f) (by rw [List.getElem?_map, hf]; rfl)
      obtain ⟨x0, y0, hTO5⟩ := Z.to_
      refine wpAny_pyNext_zip_item D0 Z.hz Z.ti hTO5 Z.one Z.two la.isList lb.isList (x := u) (y := v) (by simpa using hu) (by simpa using hv) fun ha za toa ona twa pra sza kpa => ?_
      refine wpAny_letOwnedTupleGo_zip (s := { s5 with heap := ha }) za fun hb zb sbb => ?_
      have kab : ∀ c o, c ∉ fp → s5.heap.get? c = some o → hb.get? c = some o := fun c o hc q => (sbb.2 c (fun z => hc (by rw [z, ← hfp]; simp))).trans (kpa c o (fun z => hc (by rw [z, ← hfp]; simp)) (fun z => hc (by rw [z, ← hfp]; simp)) (fun z => hc (by rw [z, ← hfp]; simp)) (fun z => hc (by rw [z, ← hfp]; simp)) q)
      have Jb : Inv (Xb X scope s3 (upd H1 D (.lst [])) ce fp p) [] (wipe σ [i, j]) (upd H1 D (.lst ((sel (ws.take k) (bs.take k)).map V.str))) { s5 with heap := hb } := J.turnedL (t' := s5.toks) (ch := fp) kab (stat J (freeF sm))
      have zlt : n + 4 < s5.heap.objs.size := Heap.lt_size Z.hz
      have Zb : ZSt hb (n + 4) (n + 2) (n + 3) n (n + 1) a b (k + 1) := ⟨zb, (sbb.2 _ D0.TIz).trans (kpa _ _ D0.TIz D0.TITO D0.TIi1 D0.TIi2 Z.ti), ⟨u, v, (sbb.2 _ D0.TOz).trans toa⟩, ona.at fun o q => (sbb.2 _ D0.i1z).trans q, twa.at fun o q => (sbb.2 _ D0.i2z).trans q⟩
      have pair : hb.IsTuple s5.heap.objs.size #[u, v] := ⟨_, (sbb.2 _ (Nat.ne_of_gt zlt)).trans pra, rfl, _, rfl⟩
      have Jp := Jb.pinned (stat Jb (freeF sm)) (by rw [← hfp]; exact Zb.obj)
      rw [arm_assign_Tuple]
      refine wpAny_bind (wpAny_standAt (unpack_hot (hotOf Jb) pair rfl rfl fun hc kpc => ?_))
      have Jc : Inv (Xb X scope s3 (upd H1 D (.lst [])) ce fp p) ([] ++ pinsAt fp hb) (wipe σ [i, j]) (upd H1 D (.lst ((sel (ws.take k) (bs.take k)).map V.str))) { s5 with heap := hc } := Jp.kept (t' := s5.toks) kpc
      have lx' : ce.scope.names.lookup xn = some .local := by rw [ceS]; exact lx
      have ly' : ce.scope.names.lookup yn = some .local := by rw [ceS]; exact ly
      show wpAny _ _ (assignInOrder [assign (.Name xn qx) ce, assign (.Name yn qy) ce] [u, v]) _ _ _
      refine assignInOrder_cons (wpAny_assign_Name (store_ok Jc hN hiN (.inl lx') ru (fun s6 J6 => ?_) (.inr lx')))
      refine assignInOrder_cons (wpAny_assign_Name (store_ok J6 hN hjN (.inl ly') rv (fun s7 J7 => ?_) (.inr ly')))
      refine assignInOrder_nil ?_
      have wl : (wipe σ [i, j]).length = X.N.length := by rw [wipe_length]; exact I.len
      have il : i < (wipe σ [i, j]).length := by rw [wl]; exact (List.getElem?_eq_some_iff.mp hiN).1
      have jl : j < ((wipe σ [i, j]).set i (some (V.str x))).length := by rw [List.length_set, wl]; exact (List.getElem?_eq_some_iff.mp hjN).1
      have atj : (((wipe σ [i, j]).set i (some (V.str x))).set j (some (V.bl f)))[j]? = some (some (V.bl f)) := List.getElem?_set_self jl
      have ati : (((wipe σ [i, j]).set i (some (V.str x))).set j (some (V.bl f)))[i]? = some (some (V.str x)) := by
        rw [List.getElem?_set_ne (Ne.symm hij)]
        exact List.getElem?_set_self il
      have next : ∀ {H' : Hp} {s' : Shared}, H' = upd H1 D (.lst ((sel (ws.take (k + 1)) (bs.take (k + 1))).map V.str)) → Inv (Xb X scope s3 (upd H1 D (.lst [])) ce fp p) ([] ++ pinsAt fp hb) (((wipe σ [i, j]).set i (some (V.str x))).set j (some (V.bl f))) H' s' →
          ∃ m', m' < m ∧ ∃ k', m' + k' = ws.length ∧ Inv (Xb X scope s3 (upd H1 D (.lst [])) ce fp p) [] (wipe σ [i, j]) (upd H1 D (.lst ((sel (ws.take k') (bs.take k')).map V.str))) s' ∧ ZSt s'.heap (n + 4) (n + 2) (n + 3) n (n + 1) a b k' := fun {H' s'} eH J' => by
        subst eH
        refine ⟨m - 1, by omega, k + 1, by omega, (J'.unpinned (pins := [])).weak (by rw [List.length_set, List.length_set]) (fun t y q => ?_), Zb.keep fun c hc o q => (J'.pin (c, o) (List.mem_append_right _ (List.mem_append_right _ (mem_pinsAt (by rw [← hfp]; exact hc) q)))).1⟩
        obtain ⟨_, nin⟩ := wipe_some q
        simp only [List.mem_cons, List.not_mem_nil, or_false, not_or] at nin
        rw [List.getElem?_set_ne (Ne.symm nin.2), List.getElem?_set_ne (Ne.symm nin.1)]
        exact q
      have tst := pts_one (pt_val (pe_var (X := Xb X scope s3 (upd H1 D (.lst [])) ce fp p) (i := j) (x := yn) (pos := q2) hjN (by show Vis ce.scope yn; rw [ceS]; exact vy) dy cy))
      refine thnF (tst.run _ s7 _ _ (fun c H' => c = f ∧ H' = upd H1 D (.lst ((sel (ws.take k) (bs.take k)).map V.str))) J7 ⟨_, atj, f, rfl, rfl, rfl⟩) fun c s8 ⟨H8, J8, ec, eH8⟩ => ?_
      subst ec
      cases c with
      | false =>
        simp only [Bool.false_eq_true, if_false]
        refine next ?_ J8
        rw [eH8, sel_take ws bs k x false hx hf]
        simp
      | true =>
        simp only [if_true]
        have elt := pe_var (X := Xb X scope s3 (upd H1 D (.lst [])) ce fp p) (i := i) (x := xn) (pos := q1) hiN (by show Vis ce.scope xn; rw [ceS]; exact vx) dx cx
        refine thnF (elt.run _ s8 _ _ (fun y H' => y = V.str x ∧ H' = H8) J8 ⟨_, ati, rfl, rfl⟩) fun w' s9 ⟨y, H9, J9, r9, ey, eH9⟩ => ?_
        subst ey eH9
        rw [eH8] at J9
        refine app_ok (X := Xb X scope s3 (upd H1 D (.lst [])) ce fp p) J9 (D := D) (xs := (sel (ws.take k) (bs.take k)).map V.str) upd_same ?_ r9 fun s10 J10 => next ?_ J10
        · have := sel_len (ws.take k) (bs.take k)
          rw [List.length_take] at this
          rw [List.length_map] at zline ⊢
          omega
        · rw [upd_upd, sel_take ws bs k x true hx hf]
          simp
  exact codeAny_compStart_list loop (wpAny_pyIter_zip Z4.hz loop)
end
end RLH
/-! the exception that is handled, read in defs that an except suite calls -/
namespace RLX
open PySem PySem.Spec PyProof.Rows L2 L2H HotX
/-- the exception at a, of the class at D, its fields at dd, is handled and pinned -/
structure ExA (X : Cx) (a D dd : Addr) : Prop where
  pin : ∃ (oe : Obj) (vs : Array Value), (a, oe) ∈ X.pn ∧ L2N.Zn (.ref D) (some dd) oe ∧ oe.data = .fields vs
  hot : X.A.handled = some (.ref a)
theorem ExA.hotC {X : Cx} {a D dd : Addr} (E : ExA X a D dd) : HotC X := by
  obtain ⟨oe, vs, hp, hz, hd⟩ := E.pin
  exact ⟨(a, oe), ⟨E.hot, vs, hd, hz.2.2 vs hd⟩, hp⟩
theorem ExA.inst {X : Cx} {a D dd : Addr} {pins : List (Addr × Obj)} {σ : L2.St} {H : Hp} {s : Shared} {fs : List (Str × V)} (E : ExA X a D dd) (I : Inv X pins σ H s) (hf : H dd = some (.xd fs)) :
    ∃ (oe od : Obj) (mA : Str → Option Value), PySem.W.InstAt s.heap a oe D (some od) ∧ (∀ f, PySem.W.lookIn f od = some (mA f)) ∧ ∀ f, RelO (fs.lookup f) (mA f) := by
  obtain ⟨oe, vs, hp, hz, hd⟩ := E.pin
  obtain ⟨get, _⟩ := I.pin (a, oe) (List.mem_append_left _ hp)
  obtain ⟨mA, hns, hr⟩ := (show ObjOk X.prog X.w H s.heap dd (.xd fs) from I.hok dd _ hf)
  obtain ⟨od, ho, hl⟩ := lookIn_ns hns
  exact ⟨oe, od, mA, ⟨get, hz.1, by unfold PySem.W.notCls; rw [hd] <;> rfl, by rw [hz.2.1]; exact ho⟩, hl, hr⟩
theorem kitE {K : PySem.W.Frag} {D a : Addr} {oe : Obj} {od : Option Obj} (C : ExcC K D) : PySem.W.KitX K (.ref a) (.ref D) fun h => PySem.W.InstAt h a oe D od := by
  obtain ⟨cd, hc, _⟩ := PySem.W.any_some C.hd
  exact PySem.W.kitx_exc (by rw [hc] <;> rfl) C.hg C.hk C.hs C.ha C.hn C.ht C.hm
/-- isinstance(e, C) -/
def rIsX (K : PySem.W.Frag) (D a dd : Addr) : List V → Hp → VK → Prop := fun xs H Q => ∃ (c : Addr) (b : Bool) (fs : List (Str × V)), xs = [.ref a, .ref c] ∧ PySem.W.kitOne K (.ref D) (.ref c) = some b ∧ H dd = some (.xd fs) ∧ Q (.bl b) H
theorem call_isX {X : Cx} {a D dd : Addr} (E : ExA X a D dd) (C : ExcC X.K D) : CallR X (.builtin "isinstance") (rIsX X.K D a dd) := by
  intro pins s σ H xs us Q I r h
  obtain ⟨c, b, fs, rfl, hk, hf, q⟩ := h
  obtain ⟨oe, od, mA, J, _, _⟩ := E.inst I hf
  cases r with
  | cons ra rr =>
    cases rr with
    | cons rc rn =>
      cases rn
      cases ra
      cases rc
      exact PySem.W.kia_one (kitE C) I.kIn J hk (fun z => nomatch z) fun tk => ⟨.bl b, H, I.kept (t' := tk) fun _ _ z => z, rfl, q⟩
/-- isinstance(e, (C, ..)) -/
def rIsXT (K : PySem.W.Frag) (D a dd : Addr) : List V → Hp → VK → Prop := fun xs H Q => ∃ (t : Addr) (cs : List Addr) (b : Bool) (fs : List (Str × V)), xs = [.ref a, .ref t] ∧ H t = some (.tup (cs.map V.ref)) ∧ PySem.W.kitAny K (.ref D) (cs.map Value.ref) = some b ∧ H dd = some (.xd fs) ∧ Q (.bl b) H
theorem vals_refs : ∀ {cs : List Addr} {us : List Value}, Vals (cs.map V.ref) us → us = cs.map Value.ref
  | [], _, .nil => rfl
  | c :: cs, _, .cons r rr => by
    cases r
    rw [vals_refs rr]
    rfl
theorem call_isXT {X : Cx} {a D dd : Addr} (E : ExA X a D dd) (C : ExcC X.K D) : CallR X (.builtin "isinstance") (rIsXT X.K D a dd) := by
  intro pins s σ H xs us Q I r h
  obtain ⟨t, cs, b, fs, rfl, ht, hk, hf, q⟩ := h
  obtain ⟨oe, od, mA, J, _, _⟩ := E.inst I hf
  obtain ⟨_, us', vs', o, ho, hc, n, hd⟩ := (show ObjOk X.prog X.w H s.heap t (.tup (cs.map V.ref)) from I.hok t _ ht)
  have eu := vals_refs vs'
  obtain ⟨oc, od', oda, osl⟩ := o
  dsimp only at hc hd
  subst hc hd eu
  cases r with
  | cons ra rr =>
    cases rr with
    | cons rc rn =>
      cases rn
      cases ra
      cases rc
      exact PySem.W.kia_tup (kitE C) I.kIn J ho hk (fun z => nomatch z) fun tk => ⟨.bl b, H, I.kept (t' := tk) fun _ _ z => z, rfl, q⟩
/-- e.f -/
def tFldX (a dd : Addr) (f : Str) (te : TE) : TE := fun σ H Q => te σ H fun x H1 => ∃ (fs : List (Str × V)) (v : V), x = .ref a ∧ H1 dd = some (.xd fs) ∧ fs.lookup f = some v ∧ Q v H1
theorem pe_fldX {X : Cx} {a D dd : Addr} {e : Expr} {te : TE} {pos : Pos} {n : Str} (E : ExA X a D dd) (C : ExcC X.K D) (hno : PySem.W.findIn X.K (.ref D) n = some none) (he : PE X e te) (hb : attributeBase e n X.env (eval e X.env) = eval e X.env := by rfl) :
    PE X (.Attribute e n pos) (tFldX a dd n te) := by
  refine ⟨fun pins s σ H Q I h => attr_of hb (thn (he.run pins s σ H _ I h) fun u s1 ⟨x, H1, J1, rx, fs, v, ex, hf, l, q⟩ => ?_)⟩
  subst ex
  obtain rfl : u = Value.ref a := rx
  obtain ⟨oe, od, mA, J, hl, hr⟩ := E.inst J1 hf
  obtain ⟨w, hw, rw'⟩ := RelO.some_of (v := v) (o := mA n) (by rw [← l]; exact hr n)
  exact HandSPX.exc_get J1.kIn J C.hg C.hk C.hs (PySem.W.findObj_own C.hd hno rfl (by rw [hl, hw])) (handed_of rw') ⟨v, H1, J1.tok _, rw', q⟩
end RLX
/-! own exceptions over a built-in class: made by the chain of their own __init__ -/
namespace RLX
open PySem PySem.Spec PyProof.Rows L2 L2H HotX
/-- own classes, then the tail -/
def refsT (tail : List Value) : List Value → Bool
  | .ref _ :: r => refsT tail r
  | l => l == tail
theorem refsT_cases {tail : List Value} : ∀ {l : List Value}, refsT tail l = true → (∃ c r, l = .ref c :: r ∧ refsT tail r = true) ∨ l = tail
  | .ref c :: r, h => .inl ⟨c, r, rfl, h⟩
  | [], h => .inr (eq_of_beq h)
  | .none :: _, h | .ellipsis :: _, h | .notImplemented :: _, h | .bool _ :: _, h | .int _ _ :: _, h | .float _ _ :: _, h | .str _ _ :: _, h | .bytes _ _ :: _, h | .type _ :: _, h | .builtin _ :: _, h => .inr (eq_of_beq h)
/-- what is known of the built-in class B -/
structure ExB (B newId initId : String) (tail : List Value) : Prop where
  facts : ExcBaseFacts B newId initId tail
  pass : ∀ self, refuseLoop self "__setattr__" tail = pure ()
  obj : tail.contains (.type "object") = true
theorem exB_V : ExB "ValueError" "ValueError.__new__" "ValueError.__init__" [.type "ValueError", .type "Exception", .type "BaseException", .type "object"] := ⟨F.excBase_ValueError, F.store_ValueError.passes, by decide +kernel⟩
theorem exB_L : ExB "LookupError" "LookupError.__new__" "LookupError.__init__" [.type "LookupError", .type "Exception", .type "BaseException", .type "object"] := ⟨F.excBase_LookupError, F.store_LookupError.passes, by decide +kernel⟩
theorem exB_I : ExB "IndexError" "IndexError.__new__" "IndexError.__init__" [.type "IndexError", .type "LookupError", .type "Exception", .type "BaseException", .type "object"] := ⟨F.excBase_IndexError, F.store_IndexError.passes, by decide +kernel⟩
section
variable {B newId initId : String} {tail : List Value}
theorem refsT_pass (EB : ExB B newId initId tail) (self : Value) : ∀ {l : List Value}, refsT tail l = true → refuseLoop self "__setattr__" l = pure ()
  | l, h => by
    rcases refsT_cases h with ⟨c, r, e, h'⟩ | e
    · subst e
      rw [refuseLoop_ref]
      exact refsT_pass EB self h'
    · rw [e]
      exact EB.pass self
termination_by l => l.length
decreasing_by subst e; simp
theorem refsT_has (Y : String) : ∀ {l : List Value}, refsT tail l = true → l.contains (.type Y) = tail.contains (.type Y)
  | l, h => by
    rcases refsT_cases h with ⟨c, r, e, h'⟩ | e
    · subst e
      rw [List.contains_cons, refsT_has Y h']
      rfl
    · rw [e]
termination_by l => l.length
decreasing_by subst e; simp
/-- what the written part says of an own class over B -/
structure XcC (K : PySem.W.Frag) (newId : String) (tail : List Value) (C : Addr) : Prop where
  cls : ∃ nm q N bs bm sn sub ab col dd k0 k1 k2 k3 k5, K.lookup C = some (excClassObj nm q C N bs bm true sn sub ab col dd k0 k1 k2 k3 k5 newId) ∧ refsT tail bm = true
  sa : PySem.W.findIn K (.ref C) "__setattr__" = some (some (.builtin "object.__setattr__"))
  exC : PySem.W.subIn K (.ref C) (.type "BaseException") = some true
  tyC : PySem.W.typeIn K (.ref C) = some (.type "type")
  kC : PySem.W.keepIn K (.ref C) = true
section
open Builtin Builtin.ObjectAttr
variable {prog : Program} {w : World} {A : Around} {E : Value → Shared → Prop} {R : Result → Shared → Prop} {hp : Heap} {g : Array GenState} {d : Drawn} {t : Nat} {os : OsState}
/-- up to the own dict -/
theorem osaX {K : PySem.W.Frag} {name : Str} {tk : Tok} {v : Value} {x C : Addr} {ox : Obj} {od : Option Obj} {cd : ClassData} (EB : ExB B newId initId tail) (X : K.In hp) (I : PySem.W.InstAt hp x ox C od) (hcd : PySem.W.clsIn K C = some cd) {bm : List Value} (hm : cd.mro = .ref C :: bm) (hr : refsT tail bm = true)
    (ha : PySem.W.findIn K (.ref C) name = some none)
    (hq : wpAny (model prog w) A.in1 (storeInOwnDict (.ref x) (.ref C) (.str name tk) name v false) (fun fin s' => match fin with | .done f => R (.ok f) s' | .again c' => c'.quiet = true ∧ codeAny (model prog w) A c' R s') (fun e s' => R (.error e) s') ⟨hp, g, d, t, os⟩) :
    codeAny (model prog w) A (.call (.builtin "object.__setattr__") ⟨[.ref x, .str name tk, v], []⟩) R ⟨hp, g, d, t, os⟩ := by
  have hr2 : refsT tail cd.mro = true := by rw [hm]; exact hr
  have ob : PySem.W.mroIn K C (.type "object") = some true := by
    unfold PySem.W.mroIn
    rw [hcd, Option.bind_some, if_neg (by rw [hm]; exact Bool.false_ne_true), refsT_has "object" hr2, EB.obj]
  have one : PySem.W.Looks (model prog w) hp (isInstance (.ref x) (.type "object")) true := I.type.andThen (PySem.W.looks_mroIn X ob)
  have two : PySem.W.Looks (model prog w) hp (mroOf (.ref C)) cd.mro := (PySem.W.looks_clsIn X hcd).andThen .now
  refine codeAny_call_builtin F.store_object.slot.plain F.store_object.entry (@PySem.W.check_slot (model prog w) _ _ ⟨hp, g, d, t, os⟩ "object.__setattr__" "object" "__setattr__" (.ref x) [.str name tk, v] [] _ F.store_object.kind F.store_object.split one (F.store_object.args (.ref x) (.str name tk) v) ?_)
  rw [PySem.W.osa_eq, refuse_eq]
  refine wpAny_bind (wpAny_bind (I.type.at (wpAny_bind (two.at ?_))))
  rw [refsT_pass EB (.ref x) hr2]
  have three : PySem.W.Looks (model prog w) hp (storeTaker? none) none := .now
  exact wpAny_pure (wpAny_bind (I.type.at (wpAny_bind ((PySem.W.looks_findIn X ha).at (wpAny_bind (three.at hq))))))
theorem osaX_new {K : PySem.W.Frag} {name : Str} {tk : Tok} {v : Value} {x C : Addr} {fv : Array Value} {cd : ClassData} (EB : ExB B newId initId tail) (X : K.In hp) (hx : hp.get? x = some { cls := .ref C, data := .fields fv }) (hcd : PySem.W.clsIn K C = some cd) {bm : List Value} (hm : cd.mro = .ref C :: bm) (hr : refsT tail bm = true) (hh : cd.hasDict = true)
    (ha : PySem.W.findIn K (.ref C) name = some none)
    (hq : ∀ h' tk' dx, (∀ b o, b ≠ x → hp.get? b = some o → h'.get? b = some o) → hp.objs.size ≤ dx → dx ≠ x → h'.get? x = some { cls := .ref C, dict := some dx, data := .fields fv } → h'.Ns1 dx (fun y => if y = name then some v else none) → R (.ok (.ret .none)) ⟨h', g, d, tk', os⟩) :
    codeAny (model prog w) A (.call (.builtin "object.__setattr__") ⟨[.ref x, .str name tk, v], []⟩) R ⟨hp, g, d, t, os⟩ := by
  have lt : x ≠ hp.objs.size := Nat.ne_of_lt (Heap.lt_size hx)
  refine osaX (od := none) EB X ⟨hx, rfl, rfl, trivial⟩ hcd hm hr ha ?_
  have four : PySem.W.Looks (model prog w) hp (classData C) cd := PySem.W.looks_clsIn X hcd
  obtain ⟨c1, c2, c3, c4, c5, c6, c7, c8, c9, c10, c11⟩ := cd
  dsimp only at hh hm
  subst hh
  unfold storeInOwnDict ownDictForStores
  repeat (first | with_reducible refine four.at ?_ | with_reducible refine wpAny_loadPart_at hx ?_ | with_reducible refine HandSPX.store_in_new ?_ ?_ | wp_step)
  · exact ⟨_, #[], _, (Heap.get?_update_ne _ _ _ _ (Ne.symm lt)).trans (Heap.get?_push_at rfl rfl), rfl, fun e he => absurd he (by simp), fun _ => rfl⟩
  · intro h' tk' n1 sb
    refine hq h' tk' hp.objs.size (fun b o hb ho => ?_) (Nat.le_refl _) (Ne.symm lt) ?_ n1
    · rw [sb.2 b (Nat.ne_of_lt (Heap.lt_size ho)), Heap.get?_update_ne _ _ _ _ hb]
      exact Heap.get?_push_of_some _ ho
    · rw [sb.2 x lt]
      exact Heap.get?_update_self _ (Heap.get?_push_of_some _ hx) rfl
theorem osaX_old {K : PySem.W.Frag} {name : Str} {tk : Tok} {v : Value} {x C dx : Addr} {fv : Array Value} {cd : ClassData} {m0 : Str → Option Value} {nl : List Str} (EB : ExB B newId initId tail) (X : K.In hp) (hx : hp.get? x = some { cls := .ref C, dict := some dx, data := .fields fv }) (hn : hp.Ns1 dx m0) (hw : Within m0 nl) (hz : nl.length ≤ 1000)
    (hcd : PySem.W.clsIn K C = some cd) {bm : List Value} (hm : cd.mro = .ref C :: bm) (hr : refsT tail bm = true) (hh : cd.hasDict = true) (ha : PySem.W.findIn K (.ref C) name = some none)
    (hq : ∀ h' tk', (∀ b o, b ≠ dx → hp.get? b = some o → h'.get? b = some o) → h'.Ns1 dx (fun y => if y = name then some v else m0 y) → R (.ok (.ret .none)) ⟨h', g, d, tk', os⟩) :
    codeAny (model prog w) A (.call (.builtin "object.__setattr__") ⟨[.ref x, .str name tk, v], []⟩) R ⟨hp, g, d, t, os⟩ := by
  obtain ⟨oD, _, _, ho, _, _⟩ := hn.count hw
  refine osaX (od := some oD) EB X ⟨hx, rfl, rfl, ho⟩ hcd hm hr ha ?_
  have four : PySem.W.Looks (model prog w) hp (classData C) cd := PySem.W.looks_clsIn X hcd
  obtain ⟨c1, c2, c3, c4, c5, c6, c7, c8, c9, c10, c11⟩ := cd
  dsimp only at hh hm
  subst hh
  unfold storeInOwnDict ownDictForStores
  repeat (first | with_reducible refine four.at ?_ | with_reducible refine wpAny_loadPart_at hx ?_ | with_reducible refine OEX.store_in_old hn hw hz ?_ | wp_step)
  exact fun h' tk' n1 sb => hq h' tk' (fun b o hb ho => (sb.2 b hb).trans ho) n1
end
end
end RLX
/-! .. the rules -/
namespace RLX
open PySem PySem.Spec PyProof.Rows L2 L2H HotX
variable {B newId initId : String} {tail : List Value}
theorem XcC.data {K : PySem.W.Frag} {C : Addr} (T : XcC K newId tail C) : ∃ cd bm, PySem.W.clsIn K C = some cd ∧ cd.mro = .ref C :: bm ∧ refsT tail bm = true ∧ cd.hasDict = true := by
  obtain ⟨nm, q, N, bs, bm, sn, sub, ab, col, dd, k0, k1, k2, k3, k5, hC, hb⟩ := T.cls
  refine ⟨_, bm, (by unfold PySem.W.clsIn; rw [hC] <;> rfl), rfl, hb, rfl⟩
section
variable {X : Cx} {pins : List (Addr × Obj)} {σ : L2.St} {H : Hp} {s : Shared} {a C dx : Addr} {f : Str} {y : V} {u : Value} {fs : List (Str × V)} {Q : Unit → Shared → Prop} {E : Value → Shared → Prop} {A : Around}
/-- the first field -/
theorem put_first (EB : ExB B newId initId tail) (T : XcC X.K newId tail C) (I : Inv X pins σ H s) (ea : H a = some (exo a C none)) (hno : PySem.W.findIn X.K (.ref C) f = some none) (ry : RelV y u)
    (h : ∀ dx s', H dx = none → dx ≠ a → Inv X pins σ (upd (upd H dx (exd dx [(f, y)])) a (exo a C (some dx))) s' → Q () s') : wpAny (model X.prog X.w) A (setAttr (.ref a) f u) Q E s := by
  obtain ⟨cd, bm, hcd, hm, hr, hh⟩ := T.data
  obtain ⟨t1, ho⟩ := exo_at I.hok ea
  obtain ⟨hp, g, d, t, os⟩ := s
  refine PySem.W.set_plain I.kIn (od := none) ⟨ho, rfl, rfl, trivial⟩ T.sa (osaX_new EB I.kIn ho hcd hm hr hh hno fun h' tk' dx k ge ne hx hn => ?_)
  have nd : H dx = none := I.hok.fresh ge
  have old : ∀ {b : Addr} {o : Obj}, hp.get? b = some o → b ≠ dx := fun q => Nat.ne_of_lt (Nat.lt_of_lt_of_le (Heap.lt_size q) ge)
  have na : ∀ {b : Addr}, H b = none → b ≠ a := fun {b} n z => by
    rw [z, ea] at n
    cases n
  have at_ : ∀ {b : Addr} {o : HO}, H b = some o → o ≠ exo a C none → upd (upd H dx (exd dx [(f, y)])) a (exo a C (some dx)) b = some o := fun {b o} q n => by
    rw [upd_ne (fun z => n (by rw [z, ea] at q; exact (Option.some.inj q).symm)), upd_ne (ne_of_none q nd)]
    exact q
  refine h dx _ nd ne (I.un (t' := tk') (H' := upd (upd H dx (exd dx [(f, y)])) a (exo a C (some dx))) ⟨fun b o q n _ _ => k b o (na n) q, fun b o q n _ _ => ⟨o.slots, k b o (na n) q⟩, fun b o q n _ => by rw [upd_ne (na n), upd_ne (old q)]; exact n, fun b o q _ => ?_, fun b xs q => at_ q (Ne.symm exo_tup), fun b o v q => at_ q (Ne.symm exo_frz), fun b ps q => ⟨#[], by rw [at_ q (Ne.symm exo_tbl)]; simp⟩⟩ fun b o q => ?_)
  · by_cases hb : b = a
    · exact ⟨_, by rw [hb]; exact hx⟩
    · exact ⟨o, k b o hb q⟩
  · by_cases hb : b = a
    · subst hb
      rw [upd_same] at q
      cases q
      exact exo_ok hx
    · rw [upd_ne hb] at q
      by_cases hd : b = dx
      · subst hd
        rw [upd_same] at q
        cases q
        exact exd_ok hn (relO_put (fs := []) ry fun g => True.intro)
      · rw [upd_ne hd] at q
        refine (I.hok b o q).stay (fun c v hc z => k c v ?_ z) (fun c hc => at_ hc (Ne.symm exo_own)) (fun c xs hc => at_ hc (Ne.symm exo_tup))
        rcases hc with hc | hc
        · rw [hc]
          exact hb
        · exact at_ne ea hc exo_own
/-- a further one -/
theorem put_more (EB : ExB B newId initId tail) (T : XcC X.K newId tail C) (I : Inv X pins σ H s) (ea : H a = some (exo a C (some dx))) (ed : H dx = some (exd dx fs)) (hl : fs.length ≤ 900) (hno : PySem.W.findIn X.K (.ref C) f = some none) (ry : RelV y u)
    (h : ∀ s', Inv X pins σ (upd H dx (exd dx ((f, y) :: fs))) s' → Q () s') : wpAny (model X.prog X.w) A (setAttr (.ref a) f u) Q E s := by
  obtain ⟨cd, bm, hcd, hm, hr, hh⟩ := T.data
  obtain ⟨t1, ho⟩ := exo_at I.hok ea
  obtain ⟨mA, hn, rel⟩ := exd_at I.hok ed
  obtain ⟨hp, g, d, t, os⟩ := s
  obtain ⟨oD, _, _, hoD, _, _⟩ := hn.count (within_of rel)
  refine PySem.W.set_plain I.kIn (od := some oD) ⟨ho, rfl, rfl, hoD⟩ T.sa (osaX_old EB I.kIn ho hn (within_of rel) (by rw [List.length_map]; omega) hcd hm hr hh hno fun h' tk' k n1 => ?_)
  obtain ⟨o1, _, _, e1, _⟩ := id n1
  exact h _ (I.write (t' := tk') (x := dx) (e := dx) (o := exd dx ((f, y) :: fs)) (by rw [ed]; exact True.intro) (.inl rfl) k ⟨o1, e1⟩ (exd_ok n1 (relO_put ry rel)))
/-- B.__init__(self, ..) tells nothing -/
theorem base_init {us : List Value} {Q : Value → Shared → Prop} (EB : ExB B newId initId tail) (T : XcC X.K newId tail C) (I : Inv X pins σ H s) (ea : H a = some (exo a C none)) (hl : us.length ≤ sizeLine) (h : ∀ s', Inv X pins σ H s' → Q .none s') :
    wpAny (model X.prog X.w) A (call (.builtin initId) (.ref a :: us)) Q E s := by
  obtain ⟨nm, q, N, bs, bm, sn, sub, ab, col, dd, k0, k1, k2, k3, k5, hC, hb⟩ := T.cls
  obtain ⟨t1, ho⟩ := exo_at I.hok ea
  obtain ⟨hp, g, d, t, os⟩ := s
  refine wpAny_call (PySem.HandSPX.init_base EB.facts (fun Y => refsT_has Y hb) (I.kIn _ _ hC) ho hl fun h' t2 k hx => ?_)
  have J := I.write (t' := t) (x := a) (e := a) (o := exo a C none) (by rw [ea]; exact True.intro) (.inl rfl) k ⟨_, hx⟩ (exo_ok hx)
  rw [show upd H a (exo a C none) = H from funext fun b => by
    by_cases hb : b = a
    · rw [hb, upd_same, ea]
    · rw [upd_ne hb]] at J
  exact h _ J
end
/-- self.f = e on an exception that is being made -/
def tPut (K : PySem.W.Frag) (newId : String) (tail : List Value) (f : Str) (to te : TE) : TS := fun D σ H => te σ H fun y H1 => to σ H1 fun x H2 => ∃ a C : Addr, x = .ref a ∧ XcC K newId tail C ∧ PySem.W.findIn K (.ref C) f = some none ∧
  ((H2 a = some (exo a C none) ∧ ∀ dx, H2 dx = none → dx ≠ a → D.nx σ (upd (upd H2 dx (exd dx [(f, y)])) a (exo a C (some dx)))) ∨
    ∃ (dx : Addr) (fs : List (Str × V)), H2 a = some (exo a C (some dx)) ∧ H2 dx = some (exd dx fs) ∧ fs.length ≤ 900 ∧ D.nx σ (upd H2 dx (exd dx ((f, y) :: fs))))
/-- B.__init__(self, ..) -/
def tBase (K : PySem.W.Frag) (newId : String) (tail : List Value) (ta : TA) : TE := fun σ H Q => ta σ H fun vs H1 => ∃ (a C : Addr) (ws : List V), vs = .ref a :: ws ∧ ws.length ≤ 1000 ∧ XcC K newId tail C ∧ H1 a = some (exo a C none) ∧ Q .non H1
section
variable {X : Cx} {o e : Expr} {es : List Expr} {to te : TE} {ta : TA} {f : Str} {p p' p1 p2 pos : Pos}
theorem ps_put (EB : ExB B newId initId tail) (ho : PE X o to) (he : PE X e te) (hs : swapsWith e (some (.Attribute o f p')) pos.line X.env = pure false := by rfl) : PS X (.Assign [.Attribute o f p'] e pos) (tPut X.K newId tail f to te) := by
  refine ⟨fun pins s σ H D I h => plainObj_wpAny_Assign_Attribute (thn (he.run pins s σ H _ I h) fun v s1 ⟨y, H1, J1, r1, q1⟩ => thn (ho.run pins s1 σ H1 _ J1 q1) fun u s2 ⟨x, H2, J2, r2, a, C, ex, T, hno, q⟩ => ?_) hs⟩
  subst ex
  obtain rfl : u = Value.ref a := r2
  rcases q with ⟨ea, q⟩ | ⟨dx, fs, ea, ed, hl, q⟩
  · exact put_first EB T J2 ea hno r1 fun dx s' n ne J => ⟨σ, _, J, q dx n ne⟩
  · exact put_more EB T J2 ea ed hl hno r1 fun s' J => ⟨σ, _, J, q⟩
theorem pe_base {T : String} {pl : Sem Bool} (EB : ExB B newId initId tail) (hb : bootBuiltins (Str.ofString T) = some (.type T)) (ht : typeOf (.type T) = pure (.type "type")) (hst : Manifest.isStub T = false) (hg : Gl X (Str.ofString T)) (hm : X.mg (Str.ofString T) = none) (n1 : Str.ofString T ≠ "__name__") (n2 : (Str.ofString T == ("__debug__" : Str)) = false)
    (vV : PySem.W.findCls X.K (.type T) (.type "type") "__init__" = some (.val (.builtin initId))) (hh : PySem.W.handedIn (.builtin initId) = true) (ha : PA X (e :: es) ta)
    (hc : eval (.Call (.Attribute (.Name (Str.ofString T) p1) "__init__" p2) (e :: es) [] pos) X.env = (do
      let ov ← eval (.Name (Str.ofString T) p1) X.env
      standAt p2.atName
      let (f, first) ← holding [ov] (getMethod ov "__init__" pl)
      callWith pos f first (backTo pos (starEach (e :: es) X.env)) (backToKw pos (keywordEach [] X.env))) := by rfl)
    (he : starEach (e :: es) X.env = (false, eval e X.env) :: starEach es X.env := by rfl) (hpl : (backTo pos (starEach es X.env)).any (·.1) = false := by rfl) :
    PE X (.Call (.Attribute (.Name (Str.ofString T) p1) "__init__" p2) (e :: es) [] pos) (tBase X.K newId tail ta) := by
  refine ⟨fun pins s σ H Q I h => PySem.W.methodCall_KW (ld_blt I hg hm hb ?_ n1 n2) hc⟩
  obtain ⟨m, fr⟩ := I.fr
  refine PySem.W.method_type fr I.ok.mod.kin ht hst vV hh ?_
  refine PyProof.Rows.callWith_method1 (first := []) (thn (ha.run pos pins _ σ H _ (I.tok _) h) fun us s1 ⟨vs, H1, J1, r1, a, C, ws, ev, hl, Tc, ea, q⟩ => ?_) he hpl
  subst ev
  cases r1 with
  | @cons _ u0 _ ur ra rr =>
    obtain rfl : u0 = Value.ref a := ra
    exact base_init EB Tc J1 ea (by rw [← Paired.length rr, sizeLine_eq]; omega) fun s' J => ⟨.non, H1, J, rfl, q⟩
/-- C.__init__(self, ..), C an own class -/
theorem pe_own {CX : CXT} {x : Str} {C fI : Addr} {k : Nat} {fd : FuncData} {ps : List Str} {sp : Sp} {mc : Value} {ds : List Value} {dvs : List V} {E : XK} {pl : Sem Bool} (hg : Gl X x) (hm : X.mg x = some (.ref C)) (hga : PySem.W.specialIn X.K (.ref C) "__getattribute__" = some (some (.builtin "type.__getattribute__"))) (hrd : PySem.W.readsIn X.K C mc = true)
    (hf : PySem.W.findCls X.K (.ref C) mc "__init__" = some (.val (.ref fI))) (hk : PySem.W.keepIn X.K (.ref fI) = true) (Fn : FnOk X.prog X.w X.K X.mg X.base CX k fI fd ps sp) (hr : Room k X.A) (hb : Binds X.K fd ps ds) (hd : Vals dvs ds) (hx : Passes CX X E) (ha : PA X (e :: es) ta) (hdb : (x == ("__debug__" : Str)) = false := by decide)
    (hc : eval (.Call (.Attribute (.Name x p1) "__init__" p2) (e :: es) [] pos) X.env = (do
      let ov ← eval (.Name x p1) X.env
      standAt p2.atName
      let (f, first) ← holding [ov] (getMethod ov "__init__" pl)
      callWith pos f first (backTo pos (starEach (e :: es) X.env)) (backToKw pos (keywordEach [] X.env))) := by rfl)
    (he : starEach (e :: es) X.env = (false, eval e X.env) :: starEach es X.env := by rfl) (hpl : (backTo pos (starEach es X.env)).any (·.1) = false := by rfl) :
    PE X (.Call (.Attribute (.Name x p1) "__init__" p2) (e :: es) [] pos) (fun σ H Q => ta σ H fun vs H1 => sp (vs ++ dvs) H1 Q E) := by
  refine ⟨fun pins s σ H Q I h => PySem.W.methodCall_KW (ld_glob I hg hm ?_ hdb) hc⟩
  refine PySem.W.method_cls I.kIn hga (PySem.W.cls_value I.kIn hrd hf rfl ?_)
  refine PySem.W.callWith_K (first := []) (h₀ := X.base) I.ok.mod.kin hk (thn (ha.run pos pins _ σ H _ (I.tok _) h) fun us s1 ⟨vs, H1, J1, r1, q1⟩ => ⟨J1.kIn, ?_⟩) he hpl
  exact run_fn Fn hr hb hd hx J1 r1 q1
end
end RLX
/-! C(e, ..): an own exception, made where nothing is handled -/
namespace RLX
open PySem PySem.Spec PyProof.Rows L2 L2H HotX
variable {B newId initId : String} {tail : List Value}
/-- C(vs), C's own __init__ keeping sp -/
def rMk (C : Addr) (sp : Sp) (vs : List V) (H : Hp) (Q : XK) : Prop := vs.length ≤ 1000 ∧ ∀ a, H a = none → sp (.ref a :: vs) (upd H a (exo a C none))
  (fun v H2 => v = .non ∧ ∃ (d : Addr) (fs : List (Str × V)), H2 a = some (exo a C (some d)) ∧ H2 d = some (exd d fs) ∧ H d = none ∧ Q (.ref C) (some d) (upd (del H2 a) d (.xd fs))) E0
def tMkX (C : Addr) (sp : Sp) (ta : TA) : L2.St → Hp → XK → Prop := fun σ H Q => ta σ H fun vs H1 => rMk C sp vs H1 Q
section
variable {X : Cx} {e : Expr} {es : List Expr} {ta : TA} {p pos : Pos} {C fI : Addr} {k : Nat} {fd : FuncData} {ps : List Str} {sp : Sp} {x : Str}
theorem run_mkX {pins : List (Addr × Obj)} {σ : L2.St} {H : Hp} {s : Shared} {Q : XK} {vs : List V} {us : List Value} (EB : ExB B newId initId tail) (T : XcC X.K newId tail C) (iC : PySem.W.findIn X.K (.ref C) "__init__" = some (some (.ref fI))) (tI : PySem.W.typeIn X.K (.ref fI) = some (.type "function"))
    (Fn : FnOk X.prog X.w X.K X.mg X.base CX0 k fI fd ps sp) (hr : Room (k + 1) X.A) (hb : Binds X.K fd ps []) (I : Inv X pins σ H s) (r : Vals vs us) (h : rMk C sp vs H Q) : wpAny (model X.prog X.w) X.A (call (.ref C) us) (L2N.MkP X pins σ Q) X.xe s := by
  obtain ⟨nm, q, N, bs, bm, sn, sub, ab, col, dd, k0, k1, k2, k3, k5, hC, hbm⟩ := T.cls
  obtain ⟨hz, hq⟩ := h
  obtain ⟨hp, g, dr, tk, os⟩ := s
  have ge : hp.objs.size ≤ hp.objs.size + 1 := Nat.le_succ _
  have hq := hq (hp.objs.size + 1) (I.hok.fresh ge)
  generalize hh2 : ((hp.push (PySem.W.kdv_tup us)).push (PySem.HandSPX.excO C hp.objs.size)) = hp2
  have kk : ∀ b o, hp.get? b = some o → hp2.get? b = some o := fun b o z => by rw [← hh2]; exact RLH.push2 z
  have hget : hp2.get? (hp.objs.size + 1) = some (PySem.HandSPX.excO C hp.objs.size) := by rw [← hh2]; heap_get
  have J : Inv X pins σ (upd H (hp.objs.size + 1) (exo (hp.objs.size + 1) C none)) ⟨hp2, g, dr, tk, os⟩ := I.laid (t' := tk) (a := hp.objs.size + 1) (o := exo (hp.objs.size + 1) C none) kk ge (exo_ok hget)
  have r2 : Vals (V.ref (hp.objs.size + 1) :: vs) (Value.ref (hp.objs.size + 1) :: us) := .cons rfl r
  have hl : (Value.ref (hp.objs.size + 1) :: us).length = ps.length := by rw [← r2.length]; exact Fn.len _ _ _ _ hq
  have bnd := hb _ (Value.ref (hp.objs.size + 1) :: us) J.kIn (by rw [List.append_nil]; exact hl)
  rw [List.append_nil] at bnd
  refine wpAny_call (PySem.HandSPX.call_own EB.facts (fun Y => refsT_has Y hbm) (I.kIn _ _ hC) (PySem.W.looks_findIn I.kIn iC) (fun self => PySem.W.bind_fn I.kIn self tI) (by rw [← Paired.length r, sizeLine_eq]; omega) ?_)
  rw [hh2]
  refine codeAny_mono (Fn.run _ X.stack _ _ ⟨Value.ref (hp.objs.size + 1) :: us, []⟩ (Value.ref (hp.objs.size + 1) :: us) _ _ E0 (hr.make C us []) (J.env0.make C us []) bnd r2 hq) fun res s' hres => ?_
  cases res with
  | error er => exact hres.elim
  | ok fl =>
    cases fl with
    | ret u =>
      obtain ⟨v, H2, os2, bare2, un2, hok2, rv, ev, d, fs, ea, ed, hd1, q2⟩ := hres
      subst ev
      obtain ⟨h2, g2, d2, t2, os'⟩ := s'
      obtain ⟨t0, G, J2, kG, gn, hoe, na⟩ := mk_end0 (d2 := d2) (t2 := t2) I ge kk un2 hok2 os2 bare2 ea ed hd1
      exact ⟨rv, hp.objs.size + 1, _, _, ⟨G, g2, d2, t2, os'⟩, _, .ref C, some d, rfl, J2, kG, gn, hoe, ⟨rfl, rfl, fun ws hv => by cases hv; rfl⟩, rfl, rfl, na, rfl, bare2, raises_own T.exC T.tyC, q2⟩
    | next => exact hres.elim
    | brk => exact hres.elim
    | cont => exact hres.elim
theorem pmkX (EB : ExB B newId initId tail) (T : XcC X.K newId tail C) (iC : PySem.W.findIn X.K (.ref C) "__init__" = some (some (.ref fI))) (tI : PySem.W.typeIn X.K (.ref fI) = some (.type "function"))
    (Fn : FnOk X.prog X.w X.K X.mg X.base CX0 k fI fd ps sp) (hr : Room (k + 1) X.A) (hb : Binds X.K fd ps []) (hg : Gl X x) (hm : X.mg x = some (.ref C)) (ha : PA X (e :: es) ta)
    (hdb : (x == ("__debug__" : Str)) = false := by decide) (he : starEach (e :: es) X.env = (false, eval e X.env) :: starEach es X.env := by rfl) (hpl : (backTo pos (starEach es X.env)).any (·.1) = false := by rfl) :
    L2N.PMk X (.Call (.Name x p) (e :: es) [] pos) (tMkX C sp ta) := fun pins s σ H Q I h =>
  wpAny_Call_Name_kw (ld_glob I hg hm (PySem.W.callWith_K (first := []) (h₀ := X.base) I.ok.mod.kin T.kC (thn (ha.run pos pins s σ H _ I h) fun us s1 ⟨vs, H1, J1, r1, q1⟩ => ⟨J1.kIn, run_mkX EB T iC tI Fn hr hb J1 r1 q1⟩) he hpl) hdb)
theorem pmkX0 (EB : ExB B newId initId tail) (T : XcC X.K newId tail C) (iC : PySem.W.findIn X.K (.ref C) "__init__" = some (some (.ref fI))) (tI : PySem.W.typeIn X.K (.ref fI) = some (.type "function"))
    (Fn : FnOk X.prog X.w X.K X.mg X.base CX0 k fI fd ps sp) (hr : Room (k + 1) X.A) (hb : Binds X.K fd ps []) (hg : Gl X x) (hm : X.mg x = some (.ref C)) (hdb : (x == ("__debug__" : Str)) = false := by decide) :
    L2N.PMk X (.Call (.Name x p) [] [] pos) (fun _ H Q => rMk C sp [] H Q) := fun pins s σ H Q I h =>
  wpAny_Call_Name_kw (ld_glob I hg hm (PySem.W.callWith_K0 (first := []) I.kIn T.kC (run_mkX EB T iC tI Fn hr hb I .nil h)) hdb)
end
end RLX
/-! defs that an except suite calls with what it has caught -/
namespace RLX
open PySem PySem.Spec PyProof.Rows L2 L2H HotX
/-- a promise of a def that is called while the exception at a (of the class at D, its fields at dd) is handled -/
abbrev SpX := Addr → Addr → Addr → List V → Hp → VK → Prop
structure FnX (P : Program) (w : World) (K : PySem.W.Frag) (mg : Str → Option Value) (base : Heap) (k : Nat) (f : Addr) (fd : FuncData) (ps : List Str) (sp : SpX) : Prop where
  len : ∀ a D dd vs H Q, sp a D dd vs H Q → vs.length = ps.length
  run : ∀ (A : Around) (outer : List Env) (s : Shared) (H : Hp) (args : Args) (us : List Value) (vs : List V) (Q : VK) (p : Addr × Obj) (D dd : Addr), RoomH k A → Hot1 A p → PinOk outer H s p → L2N.Zn (.ref D) (some dd) p.2 → Env0 P w K mg base A outer s H → BindsTo s fd args (ps.zip us) → Vals vs us → sp p.1 D dd vs H Q →
    codeAny (model P w) A (.call (.ref f) args) (CR CX0 outer P w H s Q E0) s
section
variable {P : Program} {w : World} {K : PySem.W.Frag} {mg : Str → Option Value} {base : Heap} {x qual : Str} {params : Arguments} {body : List Stmt} {scope : Scope} {dvs : List V} {kws : List (Str × V)} {f : Addr} {fd : FuncData}
theorem fnX_of {N ps : List Str} {k : Nat} {sp : SpX} (F : FunD K x qual params body scope dvs kws f fd) (S : FnScope N ps scope) (len : ∀ a D dd vs H Q, sp a D dd vs H Q → vs.length = ps.length)
    (hbody : ∀ (X : Cx) (a D dd : Addr) (H : Hp) (vs : List V) (Q : VK), (∃ (cdv : Value) (A : Around) (outer : List Env) (s : Shared) (p : Addr × Obj), X = (cxH CX0 P w K mg base N qual scope f cdv A outer s H E0 p).nox) → ExA X a D dd → RoomH k X.A → sp a D dd vs H Q →
      ∃ t, PSs X body t ∧ t { nx := fun _ H' => Q .non H', rt := Q } (L2.start N vs) H) : FnX P w K mg base (k + 1) f fd ps sp := by
  obtain ⟨oc, od, dV, kV, doc, pm, an, cdv, ct, osl, rfl, lk, hcd, _, _⟩ := F.ex
  refine ⟨len, fun A outer s H args us vs Q p D dd hr hot hpin hz e0 hb r hsp => ?_⟩
  have KX : K.In s.heap := e0.mod.kin.keeps fun b o e => (e0.bs b o e).1
  have lim : s.heap.NoLimit := e0.mod.nolimit.keeps fun b o e => (e0.bs b o e).1
  refine codeAny_call_function hr.depth (KX _ _ lk) rfl S.co S.gen rfl (PySem.W.codeRec_of KX hcd) (hb _ _ _ _ (wpAny_newFunctionEnv_cells S.kind (fun y hy => ?_) fun env he s1 xx => ?_))
  · obtain ⟨n, v⟩ := y
    rcases S.par n (List.of_mem_zip hy).1 with q | q
    · exact .inl q
    · exact .inr ⟨q, PySem.W.cellsFrom_some _ _ _ (.inl q)⟩
  · subst he
    obtain ⟨hh, v1, d1, c1⟩ := hot
    have EX : ExA (cxH CX0 P w K mg base N qual scope f cdv A outer s H E0 p).nox p.1 D dd := ⟨⟨p.2, v1, by simp [cxH, Cx.nox], hz, d1⟩, hh⟩
    obtain ⟨t, ht, hq⟩ := hbody _ p.1 D dd H vs Q ⟨cdv, A, outer, s, p, rfl⟩ EX (hr.deeper _) hsp
    have I : Inv (cxH CX0 P w K mg base N qual scope f cdv A outer s H E0 p) [] (L2.start N vs) H s1 := inv_startH S hpin e0 (len _ _ _ _ _ _ hsp) r xx
    refine ⟨lim.keeps xx.toInCall.keep, codeAny_func (wpAny_mono (ht.nox.run [] s1 (L2.start N vs) H _ I hq) (fun fl s' hs => ?_) fun e s' hs => hs)⟩
    cases fl with
    | ret u =>
      obtain ⟨v, σ', H', J, rv, q⟩ := hs
      exact ⟨v, H', J.os, J.bare, J.base, J.hok, rv, q⟩
    | next =>
      obtain ⟨σ', H', J, q⟩ := hs
      exact ⟨V.non, H', J.os, J.bare, J.base, J.hok, rfl, q⟩
    | brk =>
      obtain ⟨_, _, _, q⟩ := hs
      exact q.elim
    | cont =>
      obtain ⟨_, _, _, q⟩ := hs
      exact q.elim
end
section
variable {X : Cx} {k : Nat} {f a D dd : Addr} {fd : FuncData} {ps : List Str} {sp : SpX} {x : Str} {q pos : Pos} {e : Expr} {es : List Expr} {t : TA}
theorem pe_callX (Fn : FnX X.prog X.w X.K X.mg X.base k f fd ps sp) (hr : RoomH k X.A) (EX : ExA X a D dd) (hg : Gl X x) (hm : X.mg x = some (.ref f)) (hk : PySem.W.keepIn X.K (.ref f) = true) (hb : Binds X.K fd ps []) (ha : PA X (e :: es) t)
    (hdb : (x == ("__debug__" : Str)) = false := by decide) (he : starEach (e :: es) X.env = (false, eval e X.env) :: starEach es X.env := by rfl) (hpl : (backTo pos (starEach es X.env)).any (·.1) = false := by rfl) :
    PE X (.Call (.Name x q) (e :: es) [] pos) (fun σ H Q => t σ H fun vs H1 => sp a D dd vs H1 Q) := by
  refine ⟨fun pins s σ H Q I h => wpAny_Call_Name_kw (ld_glob I hg hm (PySem.W.callWith_K (first := []) (h₀ := X.base) I.ok.mod.kin hk (thn (ha.run pos pins s σ H _ I h) fun us s1 ⟨vs, H1, J, r, q1⟩ => ⟨J.kIn, ?_⟩) he hpl) hdb)⟩
  obtain ⟨oe, v1, hp, hz, hd⟩ := EX.pin
  have hl : us.length = ps.length := by rw [← r.length]; exact Fn.len _ _ _ _ _ _ q1
  have b := hb s1 us J.kIn (by rw [List.append_nil]; exact hl)
  rw [List.append_nil] at b
  have P1 := J.pin (a, oe) (List.mem_append_left _ hp)
  have hpin : PinOk X.stack H1 s1 (a, oe) := ⟨P1.1, P1.2.1, fun hm' => (List.mem_cons.mp (J.stkSub _ hm')).elim P1.2.2.1 P1.2.2.2.1, P1.2.2.2.2⟩
  refine wpAny_call (codeAny_mono (Fn.run X.A X.stack s1 H1 ⟨us, []⟩ us vs Q (a, oe) D dd hr ⟨EX.hot, v1, hd, hz.2.2 v1 hd⟩ hpin hz J.env0 b r q1) fun res s' hres => ?_)
  cases res with
  | error er => exact hres.elim
  | ok fl =>
    cases fl with
    | ret u => exact J.after hres
    | next => exact hres.elim
    | brk => exact hres.elim
    | cont => exact hres.elim
end
end RLX
/-! try: .. except (C, D, F) as n: ..; what the body raises is of one of the three -/
namespace RLX
open PySem PySem.Spec PyProof.Rows L2 L2H HotX
theorem traced_keep {B h h' : Heap} {l : List Env} {a : Addr} {Z : Obj → Prop} (fl : HandSPX.FlyingZ B l a Z h) (k : ∀ b o, h.get? b = some o → h'.get? b = some o) : HandSPX.FlyingZ B l a Z h' := by
  obtain ⟨f1, f2, f3, oe, vs, T, oT, ts, g1, z, g2, g3, g4, g5, g6, g7⟩ := fl
  exact ⟨fun b o e => k b o (f1 b o e), f2, Heap.FunFrames.of_keeps (fun b o e _ => ⟨o, k b o e, rfl⟩) f3, oe, vs, T, oT, ts, k _ _ g1, z, g2, g3, g4, g5, k _ _ g6, g7⟩
def wTup (K : PySem.W.Frag) (cs : List Value) (i : Nat) (ts : Addr → Value → Option Addr → TS) (D : Ends) : WX := fun cls d σ H =>
  PySem.W.exmAny K cls cs = some true ∧ ∀ a, H a = none → ts a cls d { nx := fun σ' H' => D.nx (σ'.set i none) H', rt := fun _ _ => False } (σ.set i (some (.ref a))) H
section
variable {X : Cx} {x1 x2 x3 n : Str} {c1 c2 c3 : Addr} {i kk : Nat} {body suite : List Stmt} {b0 : Stmt} {n1 n2 n3 tp pos pos' : Pos} {tb : WX → TS} {ts : Addr → Value → Option Addr → TS}
theorem ps_tryT (hs : X.stack = X.env :: X.outer) (hf : X.env.frame = some X.env.locals) (hN : X.N.Nodup) (hi : X.N[i]? = some n) (hln : X.env.kindOf n = some .local) (g1 : Gl X x1) (m1 : X.mg x1 = some (.ref c1)) (d1 : (x1 == ("__debug__" : Str)) = false) (g2 : Gl X x2) (m2 : X.mg x2 = some (.ref c2)) (d2 : (x2 == ("__debug__" : Str)) = false) (g3 : Gl X x3) (m3 : X.mg x3 = some (.ref c3)) (d3 : (x3 == ("__debug__" : Str)) = false)
    (hb : ∀ (W : WX) (pn : List (Addr × Obj)) (xe : Value → Shared → Prop), L2N.Takes (X.tr pn xe) W → PSs (X.tr pn xe) body (tb W))
    (hsu : ∀ (a : Addr) (oe : Obj) (cls : Value) (d : Option Addr) (pn : List (Addr × Obj)), L2N.Zn cls d oe → (∃ vs, oe.data = .fields vs) → PSs (X.suite a ((a, oe) :: pn)) (b0 :: suite) (ts a cls d))
    (he : backTo tp (starEach [.Name x1 n1, .Name x2 n2, .Name x3 n3] X.env) = [(false, eval (.Name x1 n1) X.env), (false, eval (.Name x2 n2) X.env), (false, eval (.Name x3 n3) X.env)] := by rfl) :
    PS X (.Try body [.ExceptHandler (some (.Tuple [.Name x1 n1, .Name x2 n2, .Name x3 n3] kk tp)) (some n) (b0 :: suite) pos'] [] [] pos) (fun D σ H => tb (wTup X.K [.ref c1, .ref c2, .ref c3] i ts D) D σ H) := by
  refine ⟨fun pins s σ H D I h => wpAny_Try_except (wpAny_mono ((hb (wTup X.K [.ref c1, .ref c2, .ref c3] i ts D) (X.pn ++ pins) (fun e sa => wpAny (model X.prog X.w) X.A (noteFrame e X.env) (fun _ sb => wpAny (model X.prog X.w) X.A (setFlight e none) (fun _ sc => wpAny (model X.prog X.w) X.A (handleBy e X.env [.ExceptHandler (some (.Tuple [.Name x1 n1, .Name x2 n2, .Name x3 n3] kk tp)) (some n) (b0 :: suite) pos']) (SP X pins D) X.xe sc) X.xe sb) X.xe sa)
    (fun u s' xx => ?_)).run [] s σ H D (I.toTry _) h) (fun f s1 q => ?_) fun e s1 q => q)⟩
  · obtain ⟨a, Bh, sI, pins', σ', H', cls, d, rfl, J', nb, up, sky, na, os, ag, hm, hyes⟩ := xx
    have J : Inv X pins σ' H' sI := J'.ofTry I.ok
    have fr : X.A.frames = some (X.env :: X.outer) := by rw [I.ok.frames, hs]
    have sky' : Sky Bh (X.env :: X.outer) a (L2N.Zn cls d) X.env.locals s'.heap := by rw [← hs]; exact sky
    show wpAny (model X.prog X.w) X.A (noteFrame (.ref a) X.env) _ _ _
    refine L2N.Sky.land L2N.Zn.steady fr hf sky' fun h3 fl3 up3 => ?_
    have apart : ∀ {hh : Heap} {o : Obj}, HandSPX.FlyingZ Bh (X.env :: X.outer) a (L2N.Zn cls d) hh → a ∉ frs (X.env :: X.outer) := fun {hh o} fl hmem => by
      obtain ⟨_, o', e', hnf⟩ := fl.2.2.1.mem hmem
      obtain ⟨oe, vs, _, _, _, ge, _, hd, _⟩ := fl.2.2.2
      rw [ge] at e'
      cases e'
      exact hnf _ hd
    have nfr := apart (o := default) fl3
    have nL : a ≠ X.env.locals := fun z => nfr (List.mem_filterMap.mpr ⟨X.env, List.mem_cons_self, by rw [hf, z]⟩)
    have nF : a ∉ X.fs := fun hmem => by
      obtain ⟨e, hee, q⟩ := List.mem_filterMap.mp hmem
      exact nfr (List.mem_filterMap.mpr ⟨e, List.mem_cons_of_mem _ hee, q⟩)
    have J3 : Inv X pins σ' H' { s' with heap := h3 } := J.landed nb fl3.1 (up.trans up3) os ag
    obtain ⟨oe3, vs3, he3, hz3, hd3⟩ := fl3.there
    have S3 := J3.suite he3 hd3 na nL nF
    refine wpAny_handleBy_cons (codeAny_handlers_test (Tuple_ ?_)) (fun q => by cases q)
    rw [he]
    refine Calls.spliced_cons (ld_glob (X := X.suite a ((a, oe3) :: (X.pn ++ pins))) S3 g1 m1 ?_ d1)
    refine Calls.spliced_cons (ld_glob (X := X.suite a ((a, oe3) :: (X.pn ++ pins))) S3 g2 m2 ?_ d2)
    refine Calls.spliced_cons (ld_glob (X := X.suite a ((a, oe3) :: (X.pn ++ pins))) S3 g3 m3 ?_ d3)
    refine Calls.spliced_nil (wpAny_newObj_type ?_ (by show 3 ≤ sizeLine; decide))
    have kp : ∀ b o, h3.get? b = some o → (h3.push { cls := .type "tuple", data := .seq [Value.ref c1, .ref c2, .ref c3].toArray }).get? b = some o := fun b o q => Heap.get?_push_of_some _ q
    have LT : PySem.W.Looks (model X.prog X.w) (h3.push { cls := .type "tuple", data := .seq [Value.ref c1, .ref c2, .ref c3].toArray }) (typeOf (.ref a)) cls := fun A Q E s k q => wpAny_typeOf_ref (k _ _ (kp _ _ he3)) (by rw [hz3.1]; exact q)
    refine (PySem.W.exm_tup3 (M := model X.prog X.w) (J3.kIn.keeps kp) LT (Heap.get?_push_size h3 rfl) hm).here ?_
    refine codeAny_handlers_suite_as (HandSPX.lands_againZ (traced_keep fl3 kp) fun h4 fl4 up4 => ?_)
    have J4 : Inv X pins σ' H' { s' with heap := h4 } := J.landed nb fl4.1 ((up.trans (up3.trans (Heap.UpToSlots.of_keeps kp))).trans up4) os ag
    obtain ⟨oe4, vs4, he4, hz4, hd4⟩ := fl4.there
    have S4 := J4.suite he4 hd4 na nL nF
    refine store_ok (X := X.suite a ((a, oe4) :: (X.pn ++ pins))) (v := .ref a) S4 hN hi (.inl hln) rfl (fun s5 S5 => ?_) (.inr hln)
    refine wpAny_mono ((hsu a oe4 cls d (X.pn ++ pins) hz4 ⟨_, hd4⟩).run [] s5 _ H' _ S5 (hyes a na)) (fun f s6 q => ?_) (fun _ _ z => z.elim)
    cases f with
    | next =>
      obtain ⟨σ6, H6, S6, q6⟩ := q
      exact gone_ok (S6.unsuite I.ok) hN hi hln fun s7 J7 => ⟨_, _, J7, q6⟩
    | brk =>
      obtain ⟨_, _, _, q6⟩ := q
      exact q6.elim
    | cont =>
      obtain ⟨_, _, _, q6⟩ := q
      exact q6.elim
    | ret u =>
      obtain ⟨_, _, _, _, _, q6⟩ := q
      exact q6.elim
  · cases f with
    | next =>
      obtain ⟨σ', H', J', q⟩ := q
      exact wpAny_execs_nil ⟨σ', H', J'.ofTry I.ok, q⟩
    | brk =>
      obtain ⟨σ', H', J', q⟩ := q
      exact ⟨σ', H', J'.ofTry I.ok, q⟩
    | cont =>
      obtain ⟨σ', H', J', q⟩ := q
      exact ⟨σ', H', J'.ofTry I.ok, q⟩
    | ret u =>
      obtain ⟨v, σ', H', J', r, q⟩ := q
      exact ⟨v, σ', H', J'.ofTry I.ok, r, q⟩
end
end RLX
/-! a lambda handed to a def, and handed on: what it gives when it is called from any later frame -/
namespace RLX
open PySem PySem.Spec PyProof.Rows L2 L2H HotX LamX
/-- the function at f, made at (s, H) with the frames fs running, when it is called later -/
structure LamAct (P : Program) (w : World) (K : PySem.W.Frag) (mg : Str → Option Value) (base : Heap) (k : Nat) (fs : List Addr) (s : Shared) (H : Hp) (f : Addr) (tl : XK → Hp → VK → Prop) : Prop where
  fn : ∀ (s1 : Shared) (H1 : Hp), HOk P w H1 s1.heap → Un fs [] H H1 s.heap s1.heap → PySem.W.FnAt f s1.heap
  run : ∀ (A : Around) (outer : List Env) (s1 : Shared) (H1 : Hp) (Q : VK) (E : XK), Room k A → Env0 P w K mg base A outer s1 H1 → Un fs [] H H1 s.heap s1.heap → tl E H1 Q →
    codeAny (model P w) A (.call (.ref f) ⟨[], []⟩) (CR (L2N.CX P w) outer P w H1 s1 Q E) s1
theorem un_on {fs : List Addr} {L : Addr} {H H1 H2 : Hp} {h h1 h2 : Heap} (a : Un fs [] H H1 h h1) (b : Un (L :: fs) [] H1 H2 h1 h2) (hL : h.get? L = none) : Un fs [] H H2 h h2 := by
  have nL : ∀ {c : Addr} {o : Obj}, h.get? c = some o → c ≠ L := fun {c o} e z => by
    rw [z, hL] at e
    cases e
  have mem : ∀ {c : Addr} {o : Obj}, h.get? c = some o → c ∉ fs → c ∉ L :: fs := fun e n z => (List.mem_cons.mp z).elim (nL e) n
  have no : ∀ c : Addr, c ∉ ([] : List Addr) := fun c z => by cases z
  refine ⟨fun c o e n hc _ => b.keep c o (a.keep c o e n hc (no c)) (a.free c o e n (no c)) (mem e hc) (no c), fun c o e n hc _ => ?_, fun c o e n _ => ?_, fun c o e _ => ?_, fun c xs e => b.tups c xs (a.tups c xs e), fun c o u e => b.frzs c o u (a.frzs c o u e), fun c ps e => ?_⟩
  · obtain ⟨sl, q⟩ := a.slot c o e n hc (no c)
    obtain ⟨sl2, q2⟩ := b.slot c _ q (a.free c o e n (no c)) (List.mem_cons_of_mem _ hc) (no c)
    exact ⟨sl2, q2⟩
  · obtain ⟨o', q⟩ := a.there c o e (no c)
    exact b.free c o' q (a.free c o e n (no c)) (no c)
  · obtain ⟨o', q⟩ := a.there c o e (no c)
    exact b.there c o' q (no c)
  · obtain ⟨m1, q⟩ := a.tbls c ps e
    obtain ⟨m2, q2⟩ := b.tbls c _ q
    exact ⟨m1 ++ m2, by rw [q2, Array.append_assoc]⟩
theorem LamAct.on {P : Program} {w : World} {K : PySem.W.Frag} {mg : Str → Option Value} {base : Heap} {k : Nat} {fs : List Addr} {s s1 : Shared} {H H1 : Hp} {f L : Addr} {tl : XK → Hp → VK → Prop} (a : LamAct P w K mg base k fs s H f tl) (u : Un fs [] H H1 s.heap s1.heap) (hL : s.heap.get? L = none) : LamAct P w K mg base k (L :: fs) s1 H1 f tl :=
  ⟨fun s2 H2 ok v => a.fn s2 H2 ok (un_on u v hL), fun A outer s2 H2 Q E hr e0 v h => a.run A outer s2 H2 Q E hr e0 (un_on u v hL) h⟩
theorem LamAct.mono {P : Program} {w : World} {K : PySem.W.Frag} {mg : Str → Option Value} {base : Heap} {k j : Nat} {fs : List Addr} {s : Shared} {H : Hp} {f : Addr} {tl : XK → Hp → VK → Prop} (a : LamAct P w K mg base k fs s H f tl) (h : k ≤ j) : LamAct P w K mg base j fs s H f tl :=
  ⟨a.fn, fun A outer s1 H1 Q E hr => a.run A outer s1 H1 Q E (hr.mono h)⟩
/-- the context of the lambda's body -/
abbrev lamX (X : Cx) (A : Around) (outer : List Env) (s : Shared) (H : Hp) (E : XK) (scope : Scope) (f c' : Addr) : Cx :=
  (lamCx X A outer s H E scope f c').tr [] (fun e s' => wpAny (model X.prog X.w) (A.deeper (lamEnv X scope s.heap.objs.size f c')) (leaving (lamEnv X scope s.heap.objs.size f c') e) (fun _ s'' => L2N.CX X.prog X.w outer H s E e s'') (fun e' s'' => L2N.CX X.prog X.w outer H s E e' s'') s')
theorem lam_takes {X : Cx} {A : Around} {outer : List Env} {s : Shared} {H : Hp} {E : XK} {scope : Scope} {f c' : Addr} : L2N.Takes (lamX X A outer s H E scope f c') fun cls d _ H' => E cls d H' := L2N.takes_of rfl rfl rfl rfl
section
variable {X : Cx} {pins : List (Addr × Obj)} {σ : L2.St} {H : Hp} {s : Shared}
theorem lam_act {f c' : Addr} {pm ctv : Value} {params : Arguments} {body : Expr} {scope : Scope} {k : Nat} {t : XK → TE} (I : Inv X pins σ H s) (L : LamS X.env.scope scope)
    (hf : s.heap.get? f = some (PySem.W.kla_obj "<lambda>" (X.env.qual ++ "<lambda>") params body scope (cloFrom X.env.cells scope.names []) pm c' ctv)) (hfn : H f = none) (hfr : f ∉ frs X.stack)
    (hbind : bindArgs (PySem.W.kla_fn "<lambda>" (X.env.qual ++ "<lambda>") params body scope (cloFrom X.env.cells scope.names []) pm (.ref c') ctv) ⟨[], []⟩ = pure [])
    (hbody : ∀ (A : Around) (outer : List Env) (s : Shared) (H : Hp) (E : XK), Room k (A.deeper (lamEnv X scope s.heap.objs.size f c')) → PE (lamX X A outer s H E scope f c') body (t E)) :
    LamAct X.prog X.w X.K X.mg X.base (k + 1) (frs X.stack) s H f (fun E H' Q => H' c' = some (CodeO c' (X.env.qual ++ "<lambda>")) ∧ t E σ H' Q) := by
  have of1 : ∀ {s1 : Shared} {H1 : Hp}, Un (frs X.stack) [] H H1 s.heap s1.heap → s1.heap.get? f = some (PySem.W.kla_obj "<lambda>" (X.env.qual ++ "<lambda>") params body scope (cloFrom X.env.cells scope.names []) pm c' ctv) := fun u => u.keep f _ hf hfn hfr (fun z => nomatch z)
  refine ⟨fun s1 H1 _ u => ⟨_, _, _, _, of1 u⟩, fun A outer s1 H1 Q E hr e0 u h => ?_⟩
  obtain ⟨hc, ht⟩ := h
  obtain ⟨⟨oc, vs, tk, hoc, hdc, hvc⟩, _, _⟩ := e0.hok c' _ hc
  have lim : s1.heap.NoLimit := e0.mod.nolimit.keeps fun b o e => (e0.bs b o e).1
  refine PySem.W.kla_callFunE hr.depth (of1 u) rfl L.co L.gen rfl ⟨c', oc, vs, tk, rfl, hoc, hdc, hvc⟩ ?_
  rw [hbind]
  refine wpAny_pure (wpAny_newFunctionEnv (fun y hy => (L.own y hy).2) (fun y hy => absurd hy (by simp)) (fun h1 hns hsb => ⟨lim.fresh _ hsb, ?_⟩) L.kind)
  show codeAny _ _ (.expr body (lamEnv X scope s1.heap.objs.size f c')) _ _
  have kp : ∀ b o, s1.heap.get? b = some o → h1.get? b = some o := fun b o e => hsb.extBut b o (Nat.ne_of_lt (Heap.lt_size e)) (Heap.get?_push_of_some _ e)
  have J := (lam_start2 (E := E) (f := f) (c' := c') (tk := s1.toks + ([] : List (Str × Value)).length) I L e0 hr.hd u hns kp).toTry (fun e s' => wpAny (model X.prog X.w) (A.deeper (lamEnv X scope s1.heap.objs.size f c')) (leaving (lamEnv X scope s1.heap.objs.size f c') e) (fun _ s'' => L2N.CX X.prog X.w outer H1 s1 E e s'') (fun e' s'' => L2N.CX X.prog X.w outer H1 s1 E e' s'') s')
  refine PySem.W.kla_codeExpr (wpAny_mono ((hbody A outer s1 H1 E (hr.deeper _)).run [] _ _ H1 Q J ht) (fun v s' hq => ?_) fun e s' hq => hq)
  obtain ⟨v', H', J', rv, q⟩ := hq
  exact ⟨v', H', J'.os, J'.bare, J'.base, J'.hok, rv, q⟩
end
end RLX
/-! defs with one parameter that is such a function -/
namespace RLX
open PySem PySem.Spec PyProof.Rows L2 L2H HotX LamX
abbrev TTL := (XK → Hp → VK → Prop) → Hp → VK → Prop
structure FnL (P : Program) (w : World) (K : PySem.W.Frag) (mg : Str → Option Value) (base : Heap) (k kl : Nat) (g : Addr) (TT : TTL) : Prop where
  run : ∀ (A : Around) (outer : List Env) (s : Shared) (H : Hp) (f : Addr) (Q : VK) (tl : XK → Hp → VK → Prop), Room k A → Env0 P w K mg base A outer s H → LamAct P w K mg base kl (frs outer) s H f tl → TT tl H Q →
    codeAny (model P w) A (.call (.ref g) ⟨[.ref f], []⟩) (CR CX0 outer P w H s Q E0) s
section
variable {P : Program} {w : World} {K : PySem.W.Frag} {mg : Str → Option Value} {base : Heap} {x qual a : Str} {params : Arguments} {body : List Stmt} {scope : Scope} {kws : List (Str × V)} {g : Addr} {fd : FuncData}
theorem fnL_of {N : List Str} {k kl : Nat} {TT : TTL} (F : FunD K x qual params body scope [] kws g fd) (S : FnScope N [a] scope) (hb : Binds K fd [a] [])
    (hbody : ∀ (cdv : Value) (A : Around) (outer : List Env) (s : Shared) (H : Hp) (f : Addr) (Q : VK) (tl : XK → Hp → VK → Prop), Room k (A.deeper (envOfC qual scope s.heap.objs.size g cdv)) → LamAct P w K mg base kl (frs outer) s H f tl → TT tl H Q →
      ∃ t, PSs (cxOf CX0 P w K mg base N qual scope g cdv A outer s H E0).nox body t ∧ t { nx := fun _ H' => Q .non H', rt := Q } (L2.start N [.ref f]) H) : FnL P w K mg base (k + 1) kl g TT := by
  obtain ⟨oc, od, dV, kV, doc, pm, an, cdv, ct, osl, rfl, lk, hcd, _, _⟩ := F.ex
  refine ⟨fun A outer s H f Q tl hr e0 act h => ?_⟩
  have KX : K.In s.heap := e0.mod.kin.keeps fun b o e => (e0.bs b o e).1
  refine run_ofS (N := N) (ps := [a]) (us := [.ref f]) (vs := [.ref f]) lk hcd S hr e0 (hb s [.ref f] KX rfl) (.cons rfl .nil) rfl fun hr' => ?_
  obtain ⟨t, ht, hq⟩ := hbody cdv A outer s H f Q tl hr' act h
  exact ⟨t, ht.nox, hq⟩
end
section
variable {P : Program} {w : World} {K : PySem.W.Frag} {mg : Str → Option Value} {base : Heap} {N : List Str} {qual a : Str} {scope : Scope} {g f : Addr} {cdv : Value} {A : Around} {outer : List Env} {s : Shared} {H : Hp} {tl : XK → Hp → VK → Prop} {kl i : Nat} {p1 p2 : Pos}
/-- a(), within a try -/
theorem pe_actL {pn : List (Addr × Obj)} {xe : Value → Shared → Prop} {W : WX} {E : XK} (act : LamAct P w K mg base kl (frs outer) s H f tl) (tk : L2N.Takes ((cxOf CX0 P w K mg base N qual scope g cdv A outer s H E0).nox.tr pn xe) W) (hW : ∀ cls d σ' H', E cls d H' → W cls d σ' H')
    (hr : Room kl (A.deeper (envOfC qual scope s.heap.objs.size g cdv))) (hN : N[i]? = some a) (hv : Vis scope a) (hd : (a == ("__debug__" : Str)) = false := by decide) (hcd : (a == ("__classdict__" : Str)) = false := by decide) :
    PE ((cxOf CX0 P w K mg base N qual scope g cdv A outer s H E0).nox.tr pn xe) (.Call (.Name a p1) [] [] p2) (fun σZ HZ Q => σZ[i]? = some (some (.ref f)) ∧ tl E HZ Q) := by
  refine ⟨fun pins sZ σZ HZ Q IZ h => ?_⟩
  obtain ⟨hs, ht⟩ := h
  refine wpAny_Call_Name_kw (thn ((pe_var (pos := p1) (i := i) hN hv hd hcd).run pins sZ σZ HZ (fun v H1 => v = .ref f ∧ H1 = HZ) IZ ⟨.ref f, hs, rfl, rfl⟩) fun u s1 ⟨v, H1, I1, r1, ev, eH⟩ => ?_)
  subst ev
  rw [eH] at I1
  obtain rfl : u = Value.ref f := r1
  have un : Un (frs outer) [] H HZ s.heap s1.heap := I1.base
  refine PySem.W.callWith_F0 (act.fn s1 HZ I1.hok un) (wpAny_call (codeAny_mono (act.run _ _ s1 HZ Q E hr I1.env0 un ht) fun r s' hq => ?_))
  cases r with
  | error e => exact L2N.passes_call tk hW pins σZ HZ s1 e s' I1 hq
  | ok fl =>
    cases fl with
    | ret u => exact I1.after hq
    | next => exact hq.elim
    | brk => exact hq.elim
    | cont => exact hq.elim
/-- x(a): handed on -/
theorem pe_handL {x : Str} {g2 : Addr} {k2 kl2 : Nat} {TT : TTL} {q pos pa : Pos} (act : LamAct P w K mg base kl (frs outer) s H f tl) (Fn : FnL P w K mg base k2 kl2 g2 TT) (hkl : kl ≤ kl2) (hr : Room k2 (A.deeper (envOfC qual scope s.heap.objs.size g cdv))) (hg : Gl (cxOf CX0 P w K mg base N qual scope g cdv A outer s H E0).nox x) (hm : mg x = some (.ref g2)) (hk : PySem.W.keepIn K (.ref g2) = true) (hN : N[i]? = some a) (hv : Vis scope a)
    (hdx : (x == ("__debug__" : Str)) = false := by decide) (hd : (a == ("__debug__" : Str)) = false := by decide) (hcd : (a == ("__classdict__" : Str)) = false := by decide)
    (he : starEach [.Name a pa] (cxOf CX0 P w K mg base N qual scope g cdv A outer s H E0).nox.env = (false, eval (.Name a pa) (cxOf CX0 P w K mg base N qual scope g cdv A outer s H E0).nox.env) :: starEach [] (cxOf CX0 P w K mg base N qual scope g cdv A outer s H E0).nox.env := by rfl) :
    PE (cxOf CX0 P w K mg base N qual scope g cdv A outer s H E0).nox (.Call (.Name x q) [.Name a pa] [] pos) (fun σZ HZ Q => σZ[i]? = some (some (.ref f)) ∧ TT tl HZ Q) := by
  refine ⟨fun pins sZ σZ HZ Q IZ h => ?_⟩
  obtain ⟨hs, ht⟩ := h
  have ha : PA (cxOf CX0 P w K mg base N qual scope g cdv A outer s H E0).nox [.Name a pa] _ := pa_cons (pe_var (pos := pa) (i := i) hN hv hd hcd) pa_nil he
  refine wpAny_Call_Name_kw (ld_glob IZ hg hm (PySem.W.callWith_K (first := []) (h₀ := base) IZ.ok.mod.kin hk (thn (ha.run pos pins sZ σZ HZ (fun vs H1 => vs = [.ref f] ∧ H1 = HZ) IZ ⟨.ref f, hs, rfl, rfl⟩) fun us s1 ⟨vs, H1, I1, r1, ev, eH⟩ => ⟨I1.kIn, ?_⟩) he rfl) hdx)
  subst ev
  rw [eH] at I1
  obtain rfl : us = [Value.ref f] := by
    cases r1 with
    | cons r rr =>
      cases rr
      cases r
      rfl
  have un : Un (frs outer) [] H HZ s.heap s1.heap := I1.base
  have act2 := (act.on un (Heap.get?_none_of_le (Nat.le_refl _))).mono hkl
  refine wpAny_call (codeAny_mono (Fn.run _ _ s1 HZ f Q tl hr I1.env0 act2 ht) fun r s' hq => ?_)
  cases r with
  | error e => exact hq.elim
  | ok fl =>
    cases fl with
    | ret u => exact I1.after hq
    | next => exact hq.elim
    | brk => exact hq.elim
    | cont => exact hq.elim
end
/-- x(lambda: body): T the tables of the code objects -/
def tLamL (T : List (Addr × Str)) (q : Str) (TT : TTL) (t : XK → TE) : TE := fun σ H Q => Tabs T H ∧ ∀ (H1 : Hp) (c' : Addr), ExtN H H1 → Tabs T H1 → H1 c' = some (CodeO c' q) → TT (fun E H' Q' => H' c' = some (CodeO c' q) ∧ t E σ H' Q') H1 Q
section
variable {X : Cx}
theorem pe_lamL {T : List (Addr × Str)} {TT : TTL} {x : Str} {g c Pt : Addr} {k kl kb : Nat} {params : Arguments} {body : Expr} {scope : Scope} {t : XK → TE} {p lpos pos : Pos} (Fn : FnL X.prog X.w X.K X.mg X.base k kl g TT) (hkl : kb + 1 ≤ kl) (hr : Room k X.A) (hg : Gl X x) (hm : X.mg x = some (.ref g)) (hk : PySem.W.keepIn X.K (.ref g) = true)
    (TB : TabB X.base X.mg c Pt) (hcode : X.env.code = .ref c) (hmT : (Pt, X.env.qual ++ "<lambda>") ∈ T) (hu : ∀ p ∈ T, p.1 = Pt → p.2 = X.env.qual ++ "<lambda>") (L : LamS X.env.scope scope) (hdef : defaultsOf params X.env = ([], []))
    (hbind : ∀ (q : Str) (cl : List (Str × Addr)) (pm cv ctv : Value), bindArgs (PySem.W.kla_fn "<lambda>" q params body scope cl pm cv ctv) ⟨[], []⟩ = pure [])
    (hbody : ∀ (A : Around) (outer : List Env) (s : Shared) (H : Hp) (E : XK) (f c' : Addr), Room kb (A.deeper (lamEnv X scope s.heap.objs.size f c')) → PE (lamX X A outer s H E scope f c') body (t E)) (hdb : (x == ("__debug__" : Str)) = false := by decide)
    (he : starEach [.Lambda params body scope lpos] X.env = (false, eval (.Lambda params body scope lpos) X.env) :: starEach [] X.env := by rfl) :
    PE X (.Call (.Name x p) [.Lambda params body scope lpos] [] pos) (tLamL T (X.env.qual ++ "<lambda>") TT t) := by
  refine ⟨fun pins s σ H Q I h => ?_⟩
  obtain ⟨hT, h⟩ := h
  refine wpAny_Call_Name_kw (ld_glob I hg hm (PySem.W.callWith_K (first := []) (h₀ := X.base) I.ok.mod.kin hk ?_ he rfl) hdb)
  rw [show backTo pos (starEach [.Lambda params body scope lpos] X.env) = (false, eval (.Lambda params body scope lpos) X.env) :: [] from by rw [he]; rfl]
  refine Calls.spliced_cons (lam_make2 I TB hcode hmT hu hT hdef (L.has I.ok) fun f c' pm' ctv H1 s' I1 eN T1 hf hfn hfr hco => Calls.spliced_nil ⟨I1.kIn, ?_⟩)
  have act := (lam_act (t := t) (k := kb) I1 L hf hfn hfr (hbind _ _ _ _ _) (fun A outer s H E hr2 => hbody A outer s H E f c' hr2)).mono hkl
  refine wpAny_call (codeAny_mono (Fn.run _ _ s' H1 f Q _ hr I1.env0 act (h H1 c' eN T1 hco)) fun r s2 hq => ?_)
  cases r with
  | error e => exact hq.elim
  | ok fl =>
    cases fl with
    | ret u => exact I1.after hq
    | next => exact hq.elim
    | brk => exact hq.elim
    | cont => exact hq.elim
end
end RLX
/-! what the head tells of the exceptions, by names; a Hook with its addresses as a list -/
namespace RLX
open PySem PySem.Spec PyProof.Rows L2 L2H HotX LamX
/-- all classes that are told apart, in the law's order -/
def allX1 : List Str := ["BadMany", "BadWay", "BadOrder", "BadPace", "BadLot", "BadLook", "BadAnswer", "BadStory", "BadBeat", "BadCount", "BadHands", "BadWish", "BadTalk", "BadLost", "BadWorld", "BadSaying", "TooMany"]
def allX2 : List Str := ["BadText", "BadName", "Taken", "Full", "Unfit", "Wrong", "Right", "Late", "BadDeed", "Broken", "NoPlace", "NoNumber", "NoHand", "NoThing", "NoLook", "NoWish", "NothingLeft"]
def allX : List Str := allX1 ++ allX2
def xObj (newId : String) (tail : List Value) (C : Addr) (o : Obj) : Bool := o.cls == .type "type" && ((match o.data with
  | .cls cd => !cd.hasDel && (cd.hasDict && (match cd.mro with
    | .ref c :: bm => decide (c = C) && refsT tail bm
    | _ => false))
  | _ => false) && (match o.slots.toList with
  | [_, _, _, _, some (.builtin n), _] => n == newId
  | _ => false))
theorem xObj_ok {newId : String} {tail : List Value} {C : Addr} {o : Obj} (h : xObj newId tail C o = true) : ∃ nm q N bs bm sn sub ab col dd k0 k1 k2 k3 k5, o = excClassObj nm q C N bs bm true sn sub ab col dd k0 k1 k2 k3 k5 newId ∧ refsT tail bm = true := by
  obtain ⟨oc, od, oda, osl⟩ := o
  obtain ⟨h1, h⟩ := He.ba h
  obtain ⟨h2, h3⟩ := He.ba h
  have e1 : oc = .type "type" := eq_of_beq h1
  subst e1
  dsimp only at h2 h3
  cases oda with
  | cls cd =>
    obtain ⟨c1, c2, c3, c4, c5, c6, c7, c8, c9, c10, c11⟩ := cd
    dsimp only at h2
    have ha := He.ba h2
    have hb := He.ba ha.2
    have e2 : c11 = false := by simpa using ha.1
    have e3 : c6 = true := hb.1
    have h4 := hb.2
    clear h2 ha hb h h1
    subst e2
    subst e3
    cases c3 with
    | nil => cases h4
    | cons m bm =>
      cases m with
      | ref c =>
        obtain ⟨b1, b2⟩ := He.ba h4
        have e3 : c = C := of_decide_eq_true b1
        subst e3
        obtain ⟨l⟩ := osl
        dsimp only at h3
        match l, h3 with
        | [k0, k1, k2, k3, some (.builtin n), k5], h3 =>
          have e4 : n = newId := eq_of_beq h3
          subst e4
          exact ⟨c1, c5, c4, c2, bm, c7, c8, c9, c10, od, k0, k1, k2, k3, k5, rfl, b2⟩
      | _ => cases h4
  | _ => cases h2
def xcB (K : PySem.W.Frag) (newId : String) (tail : List Value) (C : Addr) : Bool := (match K.lookup C with
  | some o => xObj newId tail C o
  | none => false) && (He.eqO (PySem.W.findIn K (.ref C) "__setattr__") (some (some (.builtin "object.__setattr__"))) && (decide (PySem.W.subIn K (.ref C) (.type "BaseException") = some true) && (decide (PySem.W.typeIn K (.ref C) = some (.type "type")) && PySem.W.keepIn K (.ref C))))
theorem xcB_ok {K : PySem.W.Frag} {newId : String} {tail : List Value} {C : Addr} (h : xcB K newId tail C = true) : XcC K newId tail C := by
  obtain ⟨h1, h⟩ := He.ba h
  obtain ⟨h2, h⟩ := He.ba h
  obtain ⟨h3, h⟩ := He.ba h
  obtain ⟨h4, h5⟩ := He.ba h
  refine ⟨?_, He.eqO_ok h2, of_decide_eq_true h3, of_decide_eq_true h4, h5⟩
  cases q : K.lookup C with
  | none =>
    rw [q] at h1
    cases h1
  | some o =>
    rw [q] at h1
    obtain ⟨nm, qq, N, bs, bm, sn, sub, ab, col, dd, k0, k1, k2, k3, k5, e, hb⟩ := xObj_ok h1
    exact ⟨nm, qq, N, bs, bm, sn, sub, ab, col, dd, k0, k1, k2, k3, k5, by rw [e], hb⟩
def ecB (K : PySem.W.Frag) (C : Addr) : Bool := He.eqO (PySem.W.findIn K (.ref C) "__getattribute__") (some (some (.builtin "BaseException.__getattribute__"))) && (He.eqO (PySem.W.findIn K (.ref C) "__getattr__") (some none) && (decide (PySem.W.subIn K (.ref C) (.type "BaseException") = some true) && (PySem.W.hasDictIn K C && (He.eqO (PySem.W.findIn K (.ref C) "__class__") (some (some (.builtin "object.__class__"))) && decide (PySem.W.mroIn K C (.type "object") = some true)))))
theorem get_class {K : PySem.W.Frag} : PySem.W.specialIn K (.builtin "object.__class__") "__get__" = some (some (.builtin "getset_descriptor.__get__")) := by kernel_rfl
theorem takes_class {K : PySem.W.Frag} : PySem.W.takesIn K (.builtin "object.__class__") = some true := by kernel_rfl
theorem ecB_ok {K : PySem.W.Frag} {C : Addr} (h : ecB K C = true) : ExcC K C := by
  obtain ⟨h1, h⟩ := He.ba h
  obtain ⟨h2, h⟩ := He.ba h
  obtain ⟨h3, h⟩ := He.ba h
  obtain ⟨h4, h⟩ := He.ba h
  obtain ⟨h5, h6⟩ := He.ba h
  exact ⟨He.eqO_ok h1, He.eqO_ok h2, of_decide_eq_true h3, h4, He.eqO_ok h5, get_class, takes_class, of_decide_eq_true h6⟩
/-- an exception of the text: its name, its built-in class, its fields -/
structure XName where
  name : Str
  newId : String
  tail : List Value
  fields : List Str
def gx (K : PySem.W.Frag) (x : Str) : Value := .ref (He.ga K x)
def caught (K : PySem.W.Frag) : List Value := [gx K "RoamError", gx K "Missing", gx K "NothingLeft"]
def xnB (K : PySem.W.Frag) (u : XName) : Bool := xcB K u.newId u.tail (He.ga K u.name) && (ecB K (He.ga K u.name) && ((u.fields.all fun f => He.eqO (PySem.W.findIn K (gx K u.name) f) (some none)) && ((allX.all fun m => decide (PySem.W.kitOne K (gx K u.name) (gx K m) = some (decide (m = u.name)))) &&
  (decide (PySem.W.exmAny K (gx K u.name) (caught K) = some true) && (He.eqO (PySem.W.findIn K (gx K u.name) "__init__") (some (some (.ref (He.ma K (He.ga K u.name) "__init__")))) && decide (PySem.W.typeIn K (.ref (He.ma K (He.ga K u.name) "__init__")) = some (.type "function")))))))
structure XnOk (K : PySem.W.Frag) (u : XName) : Prop where
  xc : XcC K u.newId u.tail (He.ga K u.name)
  ec : ExcC K (He.ga K u.name)
  no : ∀ f ∈ u.fields, PySem.W.findIn K (gx K u.name) f = some none
  kit : ∀ m ∈ allX, PySem.W.kitOne K (gx K u.name) (gx K m) = some (decide (m = u.name))
  exm : PySem.W.exmAny K (gx K u.name) (caught K) = some true
  ini : PySem.W.findIn K (gx K u.name) "__init__" = some (some (.ref (He.ma K (He.ga K u.name) "__init__")))
  tin : PySem.W.typeIn K (.ref (He.ma K (He.ga K u.name) "__init__")) = some (.type "function")
theorem xnB_ok {K : PySem.W.Frag} {u : XName} (h : xnB K u = true) : XnOk K u := by
  obtain ⟨h1, h⟩ := He.ba h
  obtain ⟨h2, h⟩ := He.ba h
  obtain ⟨h3, h⟩ := He.ba h
  obtain ⟨h4, h⟩ := He.ba h
  obtain ⟨h5, h⟩ := He.ba h
  obtain ⟨h6, h7⟩ := He.ba h
  exact ⟨xcB_ok h1, ecB_ok h2, fun f hf => He.eqO_ok (List.all_eq_true.mp h3 f hf), fun m hm => of_decide_eq_true (List.all_eq_true.mp h4 m hm), of_decide_eq_true h5, He.eqO_ok h6, of_decide_eq_true h7⟩
theorem kitAny_of {K : PySem.W.Frag} {n : Str} : ∀ {ms : List Str}, (∀ m ∈ ms, PySem.W.kitOne K (gx K n) (gx K m) = some (decide (m = n))) → PySem.W.kitAny K (gx K n) ((ms.map (He.ga K)).map Value.ref) = some (decide (n ∈ ms))
  | [], _ => by simp [PySem.W.kitAny]
  | m :: ms, h => by
    have h1 := h m List.mem_cons_self
    have ih := kitAny_of (ms := ms) fun m' hm' => h m' (List.mem_cons_of_mem _ hm')
    show (match PySem.W.kitOne K (gx K n) (gx K m) with
      | some true => some true
      | some false => PySem.W.kitAny K (gx K n) ((ms.map (He.ga K)).map Value.ref)
      | none => none) = _
    rw [h1]
    by_cases e : m = n
    · subst e
      simp
    · rw [decide_eq_false e]
      show PySem.W.kitAny K (gx K n) ((ms.map (He.ga K)).map Value.ref) = _
      rw [ih]
      have e' : n ≠ m := fun z => e z.symm
      simp [e']
/-- an own class whose __init__ is called by its name -/
def rootB (K : PySem.W.Frag) (x : Str) : Bool := decide (PySem.W.specialIn K (gx K x) "__getattribute__" = some (some (.builtin "type.__getattribute__"))) && (PySem.W.readsIn K (He.ga K x) (.type "type") && ((match PySem.W.findCls K (gx K x) (.type "type") "__init__" with
  | some (.val (.ref a)) => decide (a = He.ma K (He.ga K x) "__init__")
  | _ => false) && PySem.W.keepIn K (.ref (He.ma K (He.ga K x) "__init__"))))
structure RootOk (K : PySem.W.Frag) (x : Str) : Prop where
  ga : PySem.W.specialIn K (gx K x) "__getattribute__" = some (some (.builtin "type.__getattribute__"))
  rd : PySem.W.readsIn K (He.ga K x) (.type "type") = true
  fn : PySem.W.findCls K (gx K x) (.type "type") "__init__" = some (.val (.ref (He.ma K (He.ga K x) "__init__")))
  kp : PySem.W.keepIn K (.ref (He.ma K (He.ga K x) "__init__")) = true
theorem rootB_ok {K : PySem.W.Frag} {x : Str} (h : rootB K x = true) : RootOk K x := by
  obtain ⟨h1, h⟩ := He.ba h
  obtain ⟨h2, h⟩ := He.ba h
  obtain ⟨h3, h4⟩ := He.ba h
  refine ⟨of_decide_eq_true h1, h2, ?_, h4⟩
  cases q : PySem.W.findCls K (gx K x) (.type "type") "__init__" with
  | none =>
    rw [q] at h3
    cases h3
  | some c =>
    rw [q] at h3
    cases c with
    | get _ _ _ _ => cases h3
    | val v =>
      cases v with
      | ref a =>
        have e : a = He.ma K (He.ga K x) "__init__" := of_decide_eq_true h3
        rw [e]
      | _ => cases h3
theorem init_V {K : PySem.W.Frag} : PySem.W.findCls K (.type "ValueError") (.type "type") "__init__" = some (.val (.builtin "ValueError.__init__")) := by kernel_rfl
theorem init_L {K : PySem.W.Frag} : PySem.W.findCls K (.type "LookupError") (.type "type") "__init__" = some (.val (.builtin "LookupError.__init__")) := by kernel_rfl
theorem init_I {K : PySem.W.Frag} : PySem.W.findCls K (.type "IndexError") (.type "type") "__init__" = some (.val (.builtin "IndexError.__init__")) := by kernel_rfl
theorem typ_V : typeOf (.type "ValueError") = pure (.type "type") := by kernel_rfl
theorem typ_L : typeOf (.type "LookupError") = pure (.type "type") := by kernel_rfl
theorem typ_I : typeOf (.type "IndexError") = pure (.type "type") := by kernel_rfl
def exB (roots : List Str) (us : List XName) (K : PySem.W.Frag) : Bool := (roots.all fun x => rootB K x) && us.all fun u => xnB K u
/-! ### the Hook -/
structure SaysL (fa : List He.Fa) (fn : List He.DefD) (tf : List He.Defn) (ex : PySem.W.Frag → Bool) (h : Heap) (K : PySem.W.Frag) : Prop where
  d : He.SaysD fa fn K
  more : ex K = true
  hd : ∀ p ∈ tf, PySem.W.codeHdIn K (He.cT K p).1 (He.cT K p).2 = true
  out : ∀ p ∈ tf, K.lookup (He.cT K p).2 = none
  empty : ∀ p ∈ tf, h.get? (He.cT K p).2 = some { cls := .none, data := .fields #[] }
def obsL (as : List Addr) (fa : List He.Fa) (fn : List He.DefD) (tf : List He.Defn) (ex : PySem.W.Frag → Bool) (g : Addr → Option Obj) : He.AlD × Bool := (He.obsD fa fn (He.frT g as), ex (He.frT g as) && He.tabsB g tf (He.frT g as))
theorem saysL_of {as : List Addr} {fa : List He.Fa} {fn : List He.DefD} {tf : List He.Defn} {ex : PySem.W.Frag → Bool} {h : Heap} (e : obsL as fa fn tf ex h.get? = (He.valD fn, true)) : SaysL fa fn tf ex h (He.frT h.get? as) := by
  obtain ⟨e1, e2⟩ := Prod.mk.inj e
  obtain ⟨m1, m2⟩ := He.ba e2
  have tab : ∀ p ∈ tf, PySem.W.codeHdIn (He.frT h.get? as) (He.cT (He.frT h.get? as) p).1 (He.cT (He.frT h.get? as) p).2 = true ∧ ∃ o, h.get? (He.cT (He.frT h.get? as) p).2 = some o ∧ He.emptyTab o = true := fun p hp => by
    obtain ⟨t1, t2⟩ := He.ba (List.all_eq_true.mp m2 p hp)
    refine ⟨t1, ?_⟩
    cases q : h.get? (He.cT (He.frT h.get? as) p).2 with
    | none =>
      rw [q] at t2
      cases t2
    | some o =>
      rw [q] at t2
      exact ⟨o, rfl, t2⟩
  refine ⟨e1, m1, fun p hp => (tab p hp).1, fun p hp => ?_, fun p hp => ?_⟩
  · obtain ⟨_, o, g1, g2⟩ := tab p hp
    exact He.frT_none g1 g2
  · obtain ⟨_, o, g1, g2⟩ := tab p hp
    rw [g1, He.emptyTab_eq g2]
def hookL (as : List Addr) (fa : List He.Fa) (fn : List He.DefD) (tf : List He.Defn) (ex : PySem.W.Frag → Bool) : PySem.W.Hook where
  α := He.AlD × Bool
  obs := fun s => obsL as fa fn tf ex s.heap.get?
  val := fun _ => (He.valD fn, true)
  says := fun _ h => ∃ K : PySem.W.Frag, K.In h ∧ SaysL fa fn tf ex h K
  of := fun _ _ e => ⟨_, He.frT_in, saysL_of e⟩
  keeps := fun _ _ _ ⟨K, hK, c⟩ k => ⟨K, PySem.W.Frag.In.keeps hK k, ⟨c.d, c.more, c.hd, c.out, fun p hp => k _ _ (c.empty p hp)⟩⟩
end RLX
/-! the empty tuple that a def has as its default -/
namespace RLX
open PySem PySem.Spec PyProof.Rows L2
def dflB (f : Str × Option Str) (K : PySem.W.Frag) : Bool := match K.lookup (He.dflAt f 0 K) with
  | some o => decide (o.cls = .type "tuple") && (match o.data with
    | .seq its _ => its.size == 0
    | _ => false)
  | none => false
theorem dfl_ok {K : PySem.W.Frag} {f : Str × Option Str} (h : dflB f K = true) (H : Hp) : SqT K H (He.dflAt f 0 K) [] := by
  unfold dflB at h
  cases e : K.lookup (He.dflAt f 0 K) with
  | none => rw [e] at h; cases h
  | some o =>
    rw [e] at h
    obtain ⟨h1, h2⟩ := He.ba h
    cases d : o.data with
    | seq its n =>
      have h2 : (match o.data with
        | .seq its _ => its.size == 0
        | _ => false) = true := h2
      rw [d] at h2
      have z : its.size = 0 := by simpa using h2
      have ez : its = #[] := Array.eq_empty_of_size_eq_zero z
      subst ez
      exact .inr ⟨o, #[], n, e, of_decide_eq_true h1, d, Nat.zero_le _, .nil⟩
    | _ =>
      exfalso
      have h2 : (match o.data with
        | .seq its _ => its.size == 0
        | _ => false) = true := h2
      rw [d] at h2
      cases h2
/-- the object that a keyword-only parameter has as its default -/
def kwdAt (f : Str × Option Str) (x : Str) (K : PySem.W.Frag) : Addr := match K.lookup (He.fAd K f) with
  | some ⟨_, _, .func fd, _⟩ => (match fd.kwdefaults with
    | .ref D => (match PySem.W.nsIn K D x with
      | some (some (.ref a)) => a
      | _ => 0)
    | _ => 0)
  | _ => 0
def kwdB (f : Str × Option Str) (x : Str) (K : PySem.W.Frag) : Bool := match K.lookup (kwdAt f x K) with
  | some o => decide (o.cls = .type "tuple") && (match o.data with
    | .seq its _ => its.size == 0
    | _ => false)
  | none => false
theorem kwd_ok {K : PySem.W.Frag} {f : Str × Option Str} {x : Str} (h : kwdB f x K = true) (H : Hp) : SqT K H (kwdAt f x K) [] := by
  unfold kwdB at h
  cases e : K.lookup (kwdAt f x K) with
  | none => rw [e] at h; cases h
  | some o =>
    rw [e] at h
    obtain ⟨h1, h2⟩ := He.ba h
    cases d : o.data with
    | seq its n =>
      have h2 : (match o.data with
        | .seq its _ => its.size == 0
        | _ => false) = true := h2
      rw [d] at h2
      have z : its.size = 0 := by simpa using h2
      have ez : its = #[] := Array.eq_empty_of_size_eq_zero z
      subst ez
      exact .inr ⟨o, #[], n, e, of_decide_eq_true h1, d, Nat.zero_le _, .nil⟩
    | _ =>
      exfalso
      have h2 : (match o.data with
        | .seq its _ => its.size == 0
        | _ => false) = true := h2
      rw [d] at h2
      cases h2
end RLX
/-! The text by places, its facts by names. -/
namespace RL
open PySem PySem.Spec PyProof.Rows L2
def top (i : Nat) : Stmt := PySem.Challenge.pw_roamlook_k41_what_hands_hear.main.body.getD i (.Pass ⟨0, 0, 0, 0⟩)
abbrev s_RoamError_init : Stmt := inClass (top 1) 0
abbrev s_BadBeat_init : Stmt := inClass (top 10) 0
abbrev s_BadLost_init : Stmt := inClass (top 15) 0
abbrev s_Missing_init : Stmt := inClass (top 29) 0
abbrev s_NoHand_init : Stmt := inClass (top 32) 0
abbrev s_is_number : Stmt := top 38
abbrev s_is_between : Stmt := top 39
abbrev s_are_delays : Stmt := top 45
abbrev s_is_delay_row : Stmt := top 46
abbrev s_is_talk_look : Stmt := top 47
abbrev s_are_talk_looks : Stmt := top 48
abbrev s_Talk_init : Stmt := inClass (top 49) 0
abbrev s_Talk_hands : Stmt := inClass (top 49) 1
abbrev s_Talk_looks : Stmt := inClass (top 49) 2
abbrev s_Talk_letters : Stmt := inClass (top 49) 3
abbrev s_Talk_comes : Stmt := inClass (top 49) 4
abbrev s_Talk_heard : Stmt := inClass (top 49) 5
abbrev s_Talk_arrival : Stmt := inClass (top 49) 6
abbrev s_Talk_check_hand : Stmt := inClass (top 49) 7
abbrev s_Talk_check_lost : Stmt := inClass (top 49) 8
abbrev s_Talk_came : Stmt := inClass (top 49) 9
abbrev s_Talk_contents : Stmt := inClass (top 49) 10
abbrev s__law_box : Stmt := top 51
abbrev s__law_pick : Stmt := top 52
abbrev s__law_from : Stmt := top 53
abbrev s__law_mixed : Stmt := top 54
abbrev s__law_same : Stmt := top 55
abbrev s__law_flags : Stmt := top 56
abbrev s__law_word : Stmt := top 57
abbrev s__law_field : Stmt := top 58
abbrev s__law_tried : Stmt := top 59
abbrev s__law_refused : Stmt := top 60
abbrev s__law_far_number : Stmt := top 61
abbrev s__law_lot : Stmt := top 62
abbrev s__law_look : Stmt := top 63
abbrev s__law_talk : Stmt := top 64
abbrev s__law_letters : Stmt := top 65
abbrev s__law_mail : Stmt := top 66
abbrev s__law_some_lost : Stmt := top 67
abbrev s_law : Stmt := top 68
abbrev FnP (K : PySem.W.Frag) (x q : Str) (st : Stmt) (ds : List V) (f : Addr) (fd : FuncData) : Prop := FunD K x q (defArgs st) (defBody st) (defScope st) ds [] f fd
def d_RoamError_init : He.DefD := ⟨("RoamError", some "__init__"), "__init__", "RoamError.__init__", defArgs s_RoamError_init, defBody s_RoamError_init, defScope s_RoamError_init, [.str "RoamError"], []⟩
def d_BadBeat_init : He.DefD := ⟨("BadBeat", some "__init__"), "__init__", "BadBeat.__init__", defArgs s_BadBeat_init, defBody s_BadBeat_init, defScope s_BadBeat_init, [], []⟩
def d_BadLost_init : He.DefD := ⟨("BadLost", some "__init__"), "__init__", "BadLost.__init__", defArgs s_BadLost_init, defBody s_BadLost_init, defScope s_BadLost_init, [], []⟩
def d_Missing_init : He.DefD := ⟨("Missing", some "__init__"), "__init__", "Missing.__init__", defArgs s_Missing_init, defBody s_Missing_init, defScope s_Missing_init, [.str "Missing"], []⟩
def d_NoHand_init : He.DefD := ⟨("NoHand", some "__init__"), "__init__", "NoHand.__init__", defArgs s_NoHand_init, defBody s_NoHand_init, defScope s_NoHand_init, [], []⟩
def d_is_number : He.DefD := ⟨("is_number", none), "is_number", "is_number", defArgs s_is_number, defBody s_is_number, defScope s_is_number, [], []⟩
def d_is_between : He.DefD := ⟨("is_between", none), "is_between", "is_between", defArgs s_is_between, defBody s_is_between, defScope s_is_between, [], []⟩
def d_are_delays : He.DefD := ⟨("are_delays", none), "are_delays", "are_delays", defArgs s_are_delays, defBody s_are_delays, defScope s_are_delays, [], []⟩
def d_is_delay_row : He.DefD := ⟨("is_delay_row", none), "is_delay_row", "is_delay_row", defArgs s_is_delay_row, defBody s_is_delay_row, defScope s_is_delay_row, [], []⟩
def d_is_talk_look : He.DefD := ⟨("is_talk_look", none), "is_talk_look", "is_talk_look", defArgs s_is_talk_look, defBody s_is_talk_look, defScope s_is_talk_look, [], []⟩
def d_are_talk_looks : He.DefD := ⟨("are_talk_looks", none), "are_talk_looks", "are_talk_looks", defArgs s_are_talk_looks, defBody s_are_talk_looks, defScope s_are_talk_looks, [], []⟩
def d_Talk_init : He.DefD := ⟨("Talk", some "__init__"), "__init__", "Talk.__init__", defArgs s_Talk_init, defBody s_Talk_init, defScope s_Talk_init, [], []⟩
def d_Talk_hands : He.DefD := ⟨("Talk", some "hands"), "hands", "Talk.hands", defArgs s_Talk_hands, defBody s_Talk_hands, defScope s_Talk_hands, [], []⟩
def d_Talk_looks : He.DefD := ⟨("Talk", some "looks"), "looks", "Talk.looks", defArgs s_Talk_looks, defBody s_Talk_looks, defScope s_Talk_looks, [], []⟩
def d_Talk_letters : He.DefD := ⟨("Talk", some "letters"), "letters", "Talk.letters", defArgs s_Talk_letters, defBody s_Talk_letters, defScope s_Talk_letters, [], []⟩
def d_Talk_comes : He.DefD := ⟨("Talk", some "comes"), "comes", "Talk.comes", defArgs s_Talk_comes, defBody s_Talk_comes, defScope s_Talk_comes, [], []⟩
def d_Talk_heard : He.DefD := ⟨("Talk", some "heard"), "heard", "Talk.heard", defArgs s_Talk_heard, defBody s_Talk_heard, defScope s_Talk_heard, [], [("lost", .adr (RLX.kwdAt ("Talk", some "heard") "lost"))]⟩
def d_Talk_arrival : He.DefD := ⟨("Talk", some "arrival"), "arrival", "Talk.arrival", defArgs s_Talk_arrival, defBody s_Talk_arrival, defScope s_Talk_arrival, [], []⟩
def d_Talk_check_hand : He.DefD := ⟨("Talk", some "check_hand"), "check_hand", "Talk.check_hand", defArgs s_Talk_check_hand, defBody s_Talk_check_hand, defScope s_Talk_check_hand, [], []⟩
def d_Talk_check_lost : He.DefD := ⟨("Talk", some "check_lost"), "check_lost", "Talk.check_lost", defArgs s_Talk_check_lost, defBody s_Talk_check_lost, defScope s_Talk_check_lost, [], []⟩
def d_Talk_came : He.DefD := ⟨("Talk", some "came"), "came", "Talk.came", defArgs s_Talk_came, defBody s_Talk_came, defScope s_Talk_came, [], []⟩
def d_Talk_contents : He.DefD := ⟨("Talk", some "contents"), "contents", "Talk.contents", defArgs s_Talk_contents, defBody s_Talk_contents, defScope s_Talk_contents, [], []⟩
def d__law_box : He.DefD := ⟨("_law_box", none), "_law_box", "_law_box", defArgs s__law_box, defBody s__law_box, defScope s__law_box, [], []⟩
def d__law_pick : He.DefD := ⟨("_law_pick", none), "_law_pick", "_law_pick", defArgs s__law_pick, defBody s__law_pick, defScope s__law_pick, [], []⟩
def d__law_from : He.DefD := ⟨("_law_from", none), "_law_from", "_law_from", defArgs s__law_from, defBody s__law_from, defScope s__law_from, [], []⟩
def d__law_mixed : He.DefD := ⟨("_law_mixed", none), "_law_mixed", "_law_mixed", defArgs s__law_mixed, defBody s__law_mixed, defScope s__law_mixed, [], []⟩
def d__law_same : He.DefD := ⟨("_law_same", none), "_law_same", "_law_same", defArgs s__law_same, defBody s__law_same, defScope s__law_same, [], []⟩
def d__law_flags : He.DefD := ⟨("_law_flags", none), "_law_flags", "_law_flags", defArgs s__law_flags, defBody s__law_flags, defScope s__law_flags, [], []⟩
def d__law_word : He.DefD := ⟨("_law_word", none), "_law_word", "_law_word", defArgs s__law_word, defBody s__law_word, defScope s__law_word, [], []⟩
def d__law_field : He.DefD := ⟨("_law_field", none), "_law_field", "_law_field", defArgs s__law_field, defBody s__law_field, defScope s__law_field, [], []⟩
def d__law_tried : He.DefD := ⟨("_law_tried", none), "_law_tried", "_law_tried", defArgs s__law_tried, defBody s__law_tried, defScope s__law_tried, [], []⟩
def d__law_refused : He.DefD := ⟨("_law_refused", none), "_law_refused", "_law_refused", defArgs s__law_refused, defBody s__law_refused, defScope s__law_refused, [], []⟩
def d__law_far_number : He.DefD := ⟨("_law_far_number", none), "_law_far_number", "_law_far_number", defArgs s__law_far_number, defBody s__law_far_number, defScope s__law_far_number, [], []⟩
def d__law_lot : He.DefD := ⟨("_law_lot", none), "_law_lot", "_law_lot", defArgs s__law_lot, defBody s__law_lot, defScope s__law_lot, [], []⟩
def d__law_look : He.DefD := ⟨("_law_look", none), "_law_look", "_law_look", defArgs s__law_look, defBody s__law_look, defScope s__law_look, [], []⟩
def d__law_talk : He.DefD := ⟨("_law_talk", none), "_law_talk", "_law_talk", defArgs s__law_talk, defBody s__law_talk, defScope s__law_talk, [], []⟩
def d__law_letters : He.DefD := ⟨("_law_letters", none), "_law_letters", "_law_letters", defArgs s__law_letters, defBody s__law_letters, defScope s__law_letters, [], []⟩
def d__law_mail : He.DefD := ⟨("_law_mail", none), "_law_mail", "_law_mail", defArgs s__law_mail, defBody s__law_mail, defScope s__law_mail, [], []⟩
def d__law_some_lost : He.DefD := ⟨("_law_some_lost", none), "_law_some_lost", "_law_some_lost", defArgs s__law_some_lost, defBody s__law_some_lost, defScope s__law_some_lost, [], []⟩
def d_law : He.DefD := ⟨("law", none), "law", "law", defArgs s_law, defBody s_law, defScope s_law, [], []⟩
def fn : List He.DefD := [d_RoamError_init, d_BadBeat_init, d_BadLost_init, d_Missing_init, d_NoHand_init, d_is_number, d_is_between, d_are_delays, d_is_delay_row, d_is_talk_look, d_are_talk_looks, d_Talk_init, d_Talk_hands, d_Talk_looks, d_Talk_letters, d_Talk_comes, d_Talk_heard, d_Talk_arrival, d_Talk_check_hand, d_Talk_check_lost, d_Talk_came, d_Talk_contents, d__law_box, d__law_pick, d__law_from, d__law_mixed, d__law_same, d__law_flags, d__law_word, d__law_field, d__law_tried, d__law_refused, d__law_far_number, d__law_lot, d__law_look, d__law_talk, d__law_letters, d__law_mail, d__law_some_lost, d_law]
def fa0 : List He.Fa := [.glo "is_number", .glo "is_between", .glo "are_delays", .glo "is_delay_row", .glo "is_talk_look", .glo "are_talk_looks", .glo "_law_box", .glo "_law_pick", .glo "_law_from", .glo "_law_mixed", .glo "_law_same", .glo "_law_flags", .glo "_law_word", .glo "_law_field", .glo "_law_tried", .glo "_law_refused", .glo "_law_far_number", .glo "_law_lot", .glo "_law_look", .glo "_law_talk", .glo "_law_letters", .glo "_law_mail", .glo "_law_some_lost", .glo "law", .glo "Talk", .free "all", .free "bool", .free "enumerate", .free "int", .free "isinstance"]
def fa1 : List He.Fa := [.free "len", .free "list", .free "max", .free "min", .free "range", .free "set", .free "sorted", .free "str", .free "tuple", .free "zip", .int "MOST_BEATS" 12, .int "MOST_TALKERS" 4, .int "MOST_DELAY" 9, .int "MOST_TALK" 6, .glo "RoamError", .glo "BadMany", .glo "BadWay", .glo "BadOrder", .glo "BadPace", .glo "BadLot", .glo "BadLook", .glo "BadAnswer", .glo "BadStory", .glo "BadBeat", .glo "BadCount", .glo "BadHands", .glo "BadWish", .glo "BadTalk", .glo "BadLost", .glo "BadWorld"]
def fa2 : List He.Fa := [.glo "BadSaying", .glo "TooMany", .glo "BadText", .glo "BadName", .glo "Taken", .glo "Full", .glo "Unfit", .glo "Wrong", .glo "Right", .glo "Late", .glo "BadDeed", .glo "Broken", .glo "Missing", .glo "NoPlace", .glo "NoNumber", .glo "NoHand", .glo "NoThing", .glo "NoLook", .glo "NoWish", .glo "NothingLeft", .free "ValueError", .free "LookupError", .free "IndexError", .cls "Talk", .mkr "Talk", .noat "Talk" "delays", .noat "Talk" "rows", .meth "Talk" "hands", .meth "Talk" "looks", .meth "Talk" "letters"]
def fa3 : List He.Fa := [.meth "Talk" "comes", .meth "Talk" "heard", .meth "Talk" "arrival", .meth "Talk" "check_hand", .meth "Talk" "check_lost", .meth "Talk" "came", .meth "Talk" "contents"]
def fa : List He.Fa := fa0 ++ fa1 ++ fa2 ++ fa3
abbrev R : PySem.W.OpenRow := PySem.W.OpenLaw.row PySem.Challenge.rw_roamlook_k41_what_hands_hear
def xn_NoHand : RLX.XName := ⟨"NoHand", "LookupError.__new__", [.type "LookupError", .type "Exception", .type "BaseException", .type "object"], ["word", "at", "name", "number", "most", "many", "beat", "count", "place", "hand"]⟩
def xn_BadBeat : RLX.XName := ⟨"BadBeat", "ValueError.__new__", [.type "ValueError", .type "Exception", .type "BaseException", .type "object"], ["word", "at", "name", "number", "most", "many", "beat", "count", "place", "hand"]⟩
def xn_BadLost : RLX.XName := ⟨"BadLost", "ValueError.__new__", [.type "ValueError", .type "Exception", .type "BaseException", .type "object"], ["word", "at", "name", "number", "most", "many", "beat", "count", "place", "hand"]⟩
def exF : PySem.W.Frag → Bool := fun K => RLX.exB ["Missing", "RoamError"] [xn_NoHand, xn_BadBeat, xn_BadLost] K && RLX.kwdB ("Talk", some "heard") "lost" K
def tf : List He.Defn := [("law", none)]
end RL
namespace RL
open PySem PySem.Spec PyProof.Rows L2
def lo0 : List PySem.Str := ["RoamError", "BadMany", "BadWay", "BadOrder", "BadPace", "BadLot", "BadLook", "BadAnswer", "BadStory", "BadBeat", "BadCount", "BadHands", "BadWish", "BadTalk", "BadLost", "BadWorld", "BadSaying", "TooMany", "BadText", "BadName", "Taken", "Full", "Unfit", "Wrong", "Right", "Late", "BadDeed", "Broken", "Missing", "NoPlace"]
def lo1 : List PySem.Str := ["NoNumber", "NoHand", "NoThing", "NoLook", "NoWish", "NothingLeft", "is_number", "is_between", "MOST_BEATS", "MOST_TALKERS", "MOST_DELAY", "MOST_TALK", "are_delays", "is_delay_row", "is_talk_look", "are_talk_looks", "Talk", "_law_box", "_law_pick", "_law_from", "_law_mixed", "_law_same", "_law_flags", "_law_word", "_law_field", "_law_tried", "_law_refused", "_law_far_number", "_law_lot", "_law_look"]
def lo2 : List PySem.Str := ["_law_talk", "_law_letters", "_law_mail", "_law_some_lost"]
def loose : List PySem.Str := lo0 ++ lo1 ++ lo2
def asL : List PySem.Addr := [3, 2, 818, 817, 204, 203, 32, 299, 298, 566, 565, 624, 623, 31, 52, 71, 90, 109, 128, 147, 166, 185, 223, 242, 261, 280, 318, 337, 356, 375, 394, 413, 432, 451, 470, 489, 508, 527, 546, 586, 605, 643, 662, 681, 700, 29, 28, 22, 201, 200, 296, 295, 563, 562, 556, 621, 620, 710, 709, 717, 716, 722, 721, 727, 726, 734, 733, 739, 738, 753, 752, 760, 759, 767, 766, 772, 771, 779, 778, 786, 785, 781, 780, 793, 792, 800, 799, 805, 804, 810, 809, 815, 814, 829, 828, 836, 835, 843, 842, 850, 849, 855, 854, 862, 861, 867, 866, 874, 873, 881, 880, 888, 887, 895, 894, 900, 899, 905, 904, 910, 909, 915, 914, 920, 919, 925, 924, 930, 929]
abbrev hkL : PySem.W.Hook := RLX.hookL asL fa fn tf exF
def obL (s : PySem.W.SharedT) : He.AlD × Bool := RLX.obsL asL fa fn tf exF (HandSHeadRun.getT s)
theorem obL_eq (s : PySem.W.SharedT) : obL s = hkL.obs s.abs := by
  have e : HandSHeadRun.getT s = s.abs.heap.get? := funext (HandSHeadRun.getT_eq s)
  unfold obL
  rw [e] <;> rfl
theorem opt3 {α β γ δ ε : Type} {x : Option α} {f : α → β} {g : α → γ} {o : α → δ × ε} {a : β} {b : γ} {c : δ} {d : ε} (h1 : x.map (fun s => (f s, g s)) = some (a, b)) (h2 : x.map (fun s => (o s).1) = some c) (h3 : x.map (fun s => (o s).2) = some d) : x.map (fun s => (f s, g s, o s)) = some (a, b, c, d) := by
  cases x with
  | none => cases h1
  | some s =>
    obtain ⟨e1, e2⟩ := Prod.mk.inj (Option.some.inj h1)
    exact congrArg some (Prod.ext e1 (Prod.ext e2 (Prod.ext (Option.some.inj h2) (Option.some.inj h3))))
noncomputable abbrev endS (w : World) (os : OsState) : Option PySem.W.SharedT := HandSHeadRun.endF (HandSHeadRun.stepQ (HandSHeadRun.denQ HandSHeadRun.tabQ) R.prog w) 12000 R.prog w os
theorem run1 (w : World) (os : OsState) : (endS w os).map (fun s => (HandSHeadRun.looksF R.prog (PySem.W.boot_heap w.params) s.abs, HandSHeadRun.seenQ (PySem.W.view R.prog [68]) loose (PySem.importedModules R.prog.main.body) (fun s => PySem.W.xlAt (PySem.W.view R.prog [68]) [] s && PySem.W.recOk R.toRowW.records s) s.abs)) = some (true, PySem.W.openGood (PySem.W.view R.prog [68]) loose) := by
  kernel_rfl
theorem run2 (w : World) (os : OsState) : (endS w os).map (fun s => (obL s).1) = some (He.valD fn) := by
  kernel_rfl
theorem run3 (w : World) (os : OsState) : (endS w os).map (fun s => (obL s).2) = some true := by
  kernel_rfl
theorem run (w : World) : HandSHeadRun.RunEq R (PySem.W.view R.prog [68]) hkL obL 12000 loose w := fun os => opt3 (run1 w os) (run2 w os) (run3 w os)
end RL
namespace RL
open PySem PySem.Spec PyProof.Rows L2
/-- what the top has left, by names -/
structure Tx (K : PySem.W.Frag) (mg : Str → Option Value) : Prop where
  sa : He.SaysD fa fn K
  hg : ∀ x, (He.Fa.glo x).ok K = true → mg x = some (.ref (He.ga K x))
  hf : ∀ x, (He.Fa.free x).ok K = true → mg x = none
  hi : ∀ x i, (He.Fa.int x i).ok K = true → ∃ t, mg x = some (.int i t)
  hx : exF K = true
/-- the class -/
abbrev cB (K : PySem.W.Frag) : Addr := He.ga K "Board"
abbrev mB (K : PySem.W.Frag) (m : Str) : Addr := He.ma K (He.ga K "Board") m
abbrev mC (K : PySem.W.Frag) (C m : Str) : Addr := He.ma K (He.ga K C) m
section
variable {K : PySem.W.Frag} {mg : Str → Option Value}
theorem Tx.glo_is_number (T : Tx K mg) : mg "is_number" = some (.ref (He.ga K "is_number")) := T.hg _ (T.sa.fact 0)
theorem Tx.glo_is_between (T : Tx K mg) : mg "is_between" = some (.ref (He.ga K "is_between")) := T.hg _ (T.sa.fact 1)
theorem Tx.glo_are_delays (T : Tx K mg) : mg "are_delays" = some (.ref (He.ga K "are_delays")) := T.hg _ (T.sa.fact 2)
theorem Tx.glo_is_delay_row (T : Tx K mg) : mg "is_delay_row" = some (.ref (He.ga K "is_delay_row")) := T.hg _ (T.sa.fact 3)
theorem Tx.glo_is_talk_look (T : Tx K mg) : mg "is_talk_look" = some (.ref (He.ga K "is_talk_look")) := T.hg _ (T.sa.fact 4)
theorem Tx.glo_are_talk_looks (T : Tx K mg) : mg "are_talk_looks" = some (.ref (He.ga K "are_talk_looks")) := T.hg _ (T.sa.fact 5)
theorem Tx.glo_law_box (T : Tx K mg) : mg "_law_box" = some (.ref (He.ga K "_law_box")) := T.hg _ (T.sa.fact 6)
theorem Tx.glo_law_pick (T : Tx K mg) : mg "_law_pick" = some (.ref (He.ga K "_law_pick")) := T.hg _ (T.sa.fact 7)
theorem Tx.glo_law_from (T : Tx K mg) : mg "_law_from" = some (.ref (He.ga K "_law_from")) := T.hg _ (T.sa.fact 8)
theorem Tx.glo_law_mixed (T : Tx K mg) : mg "_law_mixed" = some (.ref (He.ga K "_law_mixed")) := T.hg _ (T.sa.fact 9)
theorem Tx.glo_law_same (T : Tx K mg) : mg "_law_same" = some (.ref (He.ga K "_law_same")) := T.hg _ (T.sa.fact 10)
theorem Tx.glo_law_flags (T : Tx K mg) : mg "_law_flags" = some (.ref (He.ga K "_law_flags")) := T.hg _ (T.sa.fact 11)
theorem Tx.glo_law_word (T : Tx K mg) : mg "_law_word" = some (.ref (He.ga K "_law_word")) := T.hg _ (T.sa.fact 12)
theorem Tx.glo_law_field (T : Tx K mg) : mg "_law_field" = some (.ref (He.ga K "_law_field")) := T.hg _ (T.sa.fact 13)
theorem Tx.glo_law_tried (T : Tx K mg) : mg "_law_tried" = some (.ref (He.ga K "_law_tried")) := T.hg _ (T.sa.fact 14)
theorem Tx.glo_law_refused (T : Tx K mg) : mg "_law_refused" = some (.ref (He.ga K "_law_refused")) := T.hg _ (T.sa.fact 15)
theorem Tx.glo_law_far_number (T : Tx K mg) : mg "_law_far_number" = some (.ref (He.ga K "_law_far_number")) := T.hg _ (T.sa.fact 16)
theorem Tx.glo_law_lot (T : Tx K mg) : mg "_law_lot" = some (.ref (He.ga K "_law_lot")) := T.hg _ (T.sa.fact 17)
theorem Tx.glo_law_look (T : Tx K mg) : mg "_law_look" = some (.ref (He.ga K "_law_look")) := T.hg _ (T.sa.fact 18)
theorem Tx.glo_law_talk (T : Tx K mg) : mg "_law_talk" = some (.ref (He.ga K "_law_talk")) := T.hg _ (T.sa.fact 19)
theorem Tx.glo_law_letters (T : Tx K mg) : mg "_law_letters" = some (.ref (He.ga K "_law_letters")) := T.hg _ (T.sa.fact 20)
theorem Tx.glo_law_mail (T : Tx K mg) : mg "_law_mail" = some (.ref (He.ga K "_law_mail")) := T.hg _ (T.sa.fact 21)
theorem Tx.glo_law_some_lost (T : Tx K mg) : mg "_law_some_lost" = some (.ref (He.ga K "_law_some_lost")) := T.hg _ (T.sa.fact 22)
theorem Tx.glo_law (T : Tx K mg) : mg "law" = some (.ref (He.ga K "law")) := T.hg _ (T.sa.fact 23)
theorem Tx.glo_Talk (T : Tx K mg) : mg "Talk" = some (.ref (He.ga K "Talk")) := T.hg _ (T.sa.fact 24)
theorem Tx.free_all (T : Tx K mg) : mg "all" = none := T.hf _ (T.sa.fact 25)
theorem Tx.free_bool (T : Tx K mg) : mg "bool" = none := T.hf _ (T.sa.fact 26)
theorem Tx.free_enumerate (T : Tx K mg) : mg "enumerate" = none := T.hf _ (T.sa.fact 27)
theorem Tx.free_int (T : Tx K mg) : mg "int" = none := T.hf _ (T.sa.fact 28)
theorem Tx.free_isinstance (T : Tx K mg) : mg "isinstance" = none := T.hf _ (T.sa.fact 29)
theorem Tx.free_len (T : Tx K mg) : mg "len" = none := T.hf _ (T.sa.fact 30)
theorem Tx.free_list (T : Tx K mg) : mg "list" = none := T.hf _ (T.sa.fact 31)
theorem Tx.free_max (T : Tx K mg) : mg "max" = none := T.hf _ (T.sa.fact 32)
theorem Tx.free_min (T : Tx K mg) : mg "min" = none := T.hf _ (T.sa.fact 33)
theorem Tx.free_range (T : Tx K mg) : mg "range" = none := T.hf _ (T.sa.fact 34)
theorem Tx.free_set (T : Tx K mg) : mg "set" = none := T.hf _ (T.sa.fact 35)
theorem Tx.free_sorted (T : Tx K mg) : mg "sorted" = none := T.hf _ (T.sa.fact 36)
theorem Tx.free_str (T : Tx K mg) : mg "str" = none := T.hf _ (T.sa.fact 37)
theorem Tx.free_tuple (T : Tx K mg) : mg "tuple" = none := T.hf _ (T.sa.fact 38)
theorem Tx.free_zip (T : Tx K mg) : mg "zip" = none := T.hf _ (T.sa.fact 39)
theorem Tx.glob_MOST_BEATS (T : Tx K mg) : ∃ t, mg "MOST_BEATS" = some (.int 12 t) := T.hi _ _ (T.sa.fact 40)
theorem Tx.glob_MOST_TALKERS (T : Tx K mg) : ∃ t, mg "MOST_TALKERS" = some (.int 4 t) := T.hi _ _ (T.sa.fact 41)
theorem Tx.glob_MOST_DELAY (T : Tx K mg) : ∃ t, mg "MOST_DELAY" = some (.int 9 t) := T.hi _ _ (T.sa.fact 42)
theorem Tx.glob_MOST_TALK (T : Tx K mg) : ∃ t, mg "MOST_TALK" = some (.int 6 t) := T.hi _ _ (T.sa.fact 43)
theorem Tx.glo_RoamError (T : Tx K mg) : mg "RoamError" = some (.ref (He.ga K "RoamError")) := T.hg _ (T.sa.fact 44)
theorem Tx.glo_BadMany (T : Tx K mg) : mg "BadMany" = some (.ref (He.ga K "BadMany")) := T.hg _ (T.sa.fact 45)
theorem Tx.glo_BadWay (T : Tx K mg) : mg "BadWay" = some (.ref (He.ga K "BadWay")) := T.hg _ (T.sa.fact 46)
theorem Tx.glo_BadOrder (T : Tx K mg) : mg "BadOrder" = some (.ref (He.ga K "BadOrder")) := T.hg _ (T.sa.fact 47)
theorem Tx.glo_BadPace (T : Tx K mg) : mg "BadPace" = some (.ref (He.ga K "BadPace")) := T.hg _ (T.sa.fact 48)
theorem Tx.glo_BadLot (T : Tx K mg) : mg "BadLot" = some (.ref (He.ga K "BadLot")) := T.hg _ (T.sa.fact 49)
theorem Tx.glo_BadLook (T : Tx K mg) : mg "BadLook" = some (.ref (He.ga K "BadLook")) := T.hg _ (T.sa.fact 50)
theorem Tx.glo_BadAnswer (T : Tx K mg) : mg "BadAnswer" = some (.ref (He.ga K "BadAnswer")) := T.hg _ (T.sa.fact 51)
theorem Tx.glo_BadStory (T : Tx K mg) : mg "BadStory" = some (.ref (He.ga K "BadStory")) := T.hg _ (T.sa.fact 52)
theorem Tx.glo_BadBeat (T : Tx K mg) : mg "BadBeat" = some (.ref (He.ga K "BadBeat")) := T.hg _ (T.sa.fact 53)
theorem Tx.glo_BadCount (T : Tx K mg) : mg "BadCount" = some (.ref (He.ga K "BadCount")) := T.hg _ (T.sa.fact 54)
theorem Tx.glo_BadHands (T : Tx K mg) : mg "BadHands" = some (.ref (He.ga K "BadHands")) := T.hg _ (T.sa.fact 55)
theorem Tx.glo_BadWish (T : Tx K mg) : mg "BadWish" = some (.ref (He.ga K "BadWish")) := T.hg _ (T.sa.fact 56)
theorem Tx.glo_BadTalk (T : Tx K mg) : mg "BadTalk" = some (.ref (He.ga K "BadTalk")) := T.hg _ (T.sa.fact 57)
theorem Tx.glo_BadLost (T : Tx K mg) : mg "BadLost" = some (.ref (He.ga K "BadLost")) := T.hg _ (T.sa.fact 58)
theorem Tx.glo_BadWorld (T : Tx K mg) : mg "BadWorld" = some (.ref (He.ga K "BadWorld")) := T.hg _ (T.sa.fact 59)
theorem Tx.glo_BadSaying (T : Tx K mg) : mg "BadSaying" = some (.ref (He.ga K "BadSaying")) := T.hg _ (T.sa.fact 60)
theorem Tx.glo_TooMany (T : Tx K mg) : mg "TooMany" = some (.ref (He.ga K "TooMany")) := T.hg _ (T.sa.fact 61)
theorem Tx.glo_BadText (T : Tx K mg) : mg "BadText" = some (.ref (He.ga K "BadText")) := T.hg _ (T.sa.fact 62)
theorem Tx.glo_BadName (T : Tx K mg) : mg "BadName" = some (.ref (He.ga K "BadName")) := T.hg _ (T.sa.fact 63)
theorem Tx.glo_Taken (T : Tx K mg) : mg "Taken" = some (.ref (He.ga K "Taken")) := T.hg _ (T.sa.fact 64)
theorem Tx.glo_Full (T : Tx K mg) : mg "Full" = some (.ref (He.ga K "Full")) := T.hg _ (T.sa.fact 65)
theorem Tx.glo_Unfit (T : Tx K mg) : mg "Unfit" = some (.ref (He.ga K "Unfit")) := T.hg _ (T.sa.fact 66)
theorem Tx.glo_Wrong (T : Tx K mg) : mg "Wrong" = some (.ref (He.ga K "Wrong")) := T.hg _ (T.sa.fact 67)
theorem Tx.glo_Right (T : Tx K mg) : mg "Right" = some (.ref (He.ga K "Right")) := T.hg _ (T.sa.fact 68)
theorem Tx.glo_Late (T : Tx K mg) : mg "Late" = some (.ref (He.ga K "Late")) := T.hg _ (T.sa.fact 69)
theorem Tx.glo_BadDeed (T : Tx K mg) : mg "BadDeed" = some (.ref (He.ga K "BadDeed")) := T.hg _ (T.sa.fact 70)
theorem Tx.glo_Broken (T : Tx K mg) : mg "Broken" = some (.ref (He.ga K "Broken")) := T.hg _ (T.sa.fact 71)
theorem Tx.glo_Missing (T : Tx K mg) : mg "Missing" = some (.ref (He.ga K "Missing")) := T.hg _ (T.sa.fact 72)
theorem Tx.glo_NoPlace (T : Tx K mg) : mg "NoPlace" = some (.ref (He.ga K "NoPlace")) := T.hg _ (T.sa.fact 73)
theorem Tx.glo_NoNumber (T : Tx K mg) : mg "NoNumber" = some (.ref (He.ga K "NoNumber")) := T.hg _ (T.sa.fact 74)
theorem Tx.glo_NoHand (T : Tx K mg) : mg "NoHand" = some (.ref (He.ga K "NoHand")) := T.hg _ (T.sa.fact 75)
theorem Tx.glo_NoThing (T : Tx K mg) : mg "NoThing" = some (.ref (He.ga K "NoThing")) := T.hg _ (T.sa.fact 76)
theorem Tx.glo_NoLook (T : Tx K mg) : mg "NoLook" = some (.ref (He.ga K "NoLook")) := T.hg _ (T.sa.fact 77)
theorem Tx.glo_NoWish (T : Tx K mg) : mg "NoWish" = some (.ref (He.ga K "NoWish")) := T.hg _ (T.sa.fact 78)
theorem Tx.glo_NothingLeft (T : Tx K mg) : mg "NothingLeft" = some (.ref (He.ga K "NothingLeft")) := T.hg _ (T.sa.fact 79)
theorem Tx.free_ValueError (T : Tx K mg) : mg "ValueError" = none := T.hf _ (T.sa.fact 80)
theorem Tx.free_LookupError (T : Tx K mg) : mg "LookupError" = none := T.hf _ (T.sa.fact 81)
theorem Tx.free_IndexError (T : Tx K mg) : mg "IndexError" = none := T.hf _ (T.sa.fact 82)
theorem Tx.cl_Talk (T : Tx K mg) : Cls K (He.ga K "Talk") := He.cls_ok (T.sa.fact 83)
theorem Tx.mk_Talk (T : Tx K mg) : Mk K (He.ga K "Talk") (mC K "Talk" "__init__") := He.mkr_ok (T.sa.fact 84)
theorem Tx.n_Talk_delays (T : Tx K mg) : NoAttr K (He.ga K "Talk") "delays" := He.noat_ok (T.sa.fact 85)
theorem Tx.n_Talk_rows (T : Tx K mg) : NoAttr K (He.ga K "Talk") "rows" := He.noat_ok (T.sa.fact 86)
theorem Tx.m_Talk_hands (T : Tx K mg) : Meth K (He.ga K "Talk") "hands" (mC K "Talk" "hands") := He.meth_ok (T.sa.fact 87)
theorem Tx.m_Talk_looks (T : Tx K mg) : Meth K (He.ga K "Talk") "looks" (mC K "Talk" "looks") := He.meth_ok (T.sa.fact 88)
theorem Tx.m_Talk_letters (T : Tx K mg) : Meth K (He.ga K "Talk") "letters" (mC K "Talk" "letters") := He.meth_ok (T.sa.fact 89)
theorem Tx.m_Talk_comes (T : Tx K mg) : Meth K (He.ga K "Talk") "comes" (mC K "Talk" "comes") := He.meth_ok (T.sa.fact 90)
theorem Tx.m_Talk_heard (T : Tx K mg) : Meth K (He.ga K "Talk") "heard" (mC K "Talk" "heard") := He.meth_ok (T.sa.fact 91)
theorem Tx.m_Talk_arrival (T : Tx K mg) : Meth K (He.ga K "Talk") "arrival" (mC K "Talk" "arrival") := He.meth_ok (T.sa.fact 92)
theorem Tx.m_Talk_check_hand (T : Tx K mg) : Meth K (He.ga K "Talk") "check_hand" (mC K "Talk" "check_hand") := He.meth_ok (T.sa.fact 93)
theorem Tx.m_Talk_check_lost (T : Tx K mg) : Meth K (He.ga K "Talk") "check_lost" (mC K "Talk" "check_lost") := He.meth_ok (T.sa.fact 94)
theorem Tx.m_Talk_came (T : Tx K mg) : Meth K (He.ga K "Talk") "came" (mC K "Talk" "came") := He.meth_ok (T.sa.fact 95)
theorem Tx.m_Talk_contents (T : Tx K mg) : Meth K (He.ga K "Talk") "contents" (mC K "Talk" "contents") := He.meth_ok (T.sa.fact 96)
theorem Tx.d_RoamError_init (T : Tx K mg) : ∃ fd, FnP K "__init__" "RoamError.__init__" s_RoamError_init [V.str "RoamError"] (mC K "RoamError" "__init__") fd := T.sa.def_ 0 (d := _root_.RL.d_RoamError_init) rfl
theorem Tx.d_BadBeat_init (T : Tx K mg) : ∃ fd, FnP K "__init__" "BadBeat.__init__" s_BadBeat_init [] (mC K "BadBeat" "__init__") fd := T.sa.def_ 1 (d := _root_.RL.d_BadBeat_init) rfl
theorem Tx.d_BadLost_init (T : Tx K mg) : ∃ fd, FnP K "__init__" "BadLost.__init__" s_BadLost_init [] (mC K "BadLost" "__init__") fd := T.sa.def_ 2 (d := _root_.RL.d_BadLost_init) rfl
theorem Tx.d_Missing_init (T : Tx K mg) : ∃ fd, FnP K "__init__" "Missing.__init__" s_Missing_init [V.str "Missing"] (mC K "Missing" "__init__") fd := T.sa.def_ 3 (d := _root_.RL.d_Missing_init) rfl
theorem Tx.d_NoHand_init (T : Tx K mg) : ∃ fd, FnP K "__init__" "NoHand.__init__" s_NoHand_init [] (mC K "NoHand" "__init__") fd := T.sa.def_ 4 (d := _root_.RL.d_NoHand_init) rfl
theorem Tx.d_is_number (T : Tx K mg) : ∃ fd, FnP K "is_number" "is_number" s_is_number [] (He.ga K "is_number") fd := T.sa.def_ 5 (d := _root_.RL.d_is_number) rfl
theorem Tx.d_is_between (T : Tx K mg) : ∃ fd, FnP K "is_between" "is_between" s_is_between [] (He.ga K "is_between") fd := T.sa.def_ 6 (d := _root_.RL.d_is_between) rfl
theorem Tx.d_are_delays (T : Tx K mg) : ∃ fd, FnP K "are_delays" "are_delays" s_are_delays [] (He.ga K "are_delays") fd := T.sa.def_ 7 (d := _root_.RL.d_are_delays) rfl
theorem Tx.d_is_delay_row (T : Tx K mg) : ∃ fd, FnP K "is_delay_row" "is_delay_row" s_is_delay_row [] (He.ga K "is_delay_row") fd := T.sa.def_ 8 (d := _root_.RL.d_is_delay_row) rfl
theorem Tx.d_is_talk_look (T : Tx K mg) : ∃ fd, FnP K "is_talk_look" "is_talk_look" s_is_talk_look [] (He.ga K "is_talk_look") fd := T.sa.def_ 9 (d := _root_.RL.d_is_talk_look) rfl
theorem Tx.d_are_talk_looks (T : Tx K mg) : ∃ fd, FnP K "are_talk_looks" "are_talk_looks" s_are_talk_looks [] (He.ga K "are_talk_looks") fd := T.sa.def_ 10 (d := _root_.RL.d_are_talk_looks) rfl
theorem Tx.d_Talk_init (T : Tx K mg) : ∃ fd, FnP K "__init__" "Talk.__init__" s_Talk_init [] (mC K "Talk" "__init__") fd := T.sa.def_ 11 (d := _root_.RL.d_Talk_init) rfl
theorem Tx.d_Talk_hands (T : Tx K mg) : ∃ fd, FnP K "hands" "Talk.hands" s_Talk_hands [] (mC K "Talk" "hands") fd := T.sa.def_ 12 (d := _root_.RL.d_Talk_hands) rfl
theorem Tx.d_Talk_looks (T : Tx K mg) : ∃ fd, FnP K "looks" "Talk.looks" s_Talk_looks [] (mC K "Talk" "looks") fd := T.sa.def_ 13 (d := _root_.RL.d_Talk_looks) rfl
theorem Tx.d_Talk_letters (T : Tx K mg) : ∃ fd, FnP K "letters" "Talk.letters" s_Talk_letters [] (mC K "Talk" "letters") fd := T.sa.def_ 14 (d := _root_.RL.d_Talk_letters) rfl
theorem Tx.d_Talk_comes (T : Tx K mg) : ∃ fd, FnP K "comes" "Talk.comes" s_Talk_comes [] (mC K "Talk" "comes") fd := T.sa.def_ 15 (d := _root_.RL.d_Talk_comes) rfl
theorem Tx.d_Talk_heard (T : Tx K mg) : ∃ fd, FunD K "heard" "Talk.heard" (defArgs s_Talk_heard) (defBody s_Talk_heard) (defScope s_Talk_heard) [] [("lost", V.ref (RLX.kwdAt ("Talk", some "heard") "lost" K))] (mC K "Talk" "heard") fd := T.sa.def_ 16 (d := _root_.RL.d_Talk_heard) rfl
theorem Tx.d_Talk_arrival (T : Tx K mg) : ∃ fd, FnP K "arrival" "Talk.arrival" s_Talk_arrival [] (mC K "Talk" "arrival") fd := T.sa.def_ 17 (d := _root_.RL.d_Talk_arrival) rfl
theorem Tx.d_Talk_check_hand (T : Tx K mg) : ∃ fd, FnP K "check_hand" "Talk.check_hand" s_Talk_check_hand [] (mC K "Talk" "check_hand") fd := T.sa.def_ 18 (d := _root_.RL.d_Talk_check_hand) rfl
theorem Tx.d_Talk_check_lost (T : Tx K mg) : ∃ fd, FnP K "check_lost" "Talk.check_lost" s_Talk_check_lost [] (mC K "Talk" "check_lost") fd := T.sa.def_ 19 (d := _root_.RL.d_Talk_check_lost) rfl
theorem Tx.d_Talk_came (T : Tx K mg) : ∃ fd, FnP K "came" "Talk.came" s_Talk_came [] (mC K "Talk" "came") fd := T.sa.def_ 20 (d := _root_.RL.d_Talk_came) rfl
theorem Tx.d_Talk_contents (T : Tx K mg) : ∃ fd, FnP K "contents" "Talk.contents" s_Talk_contents [] (mC K "Talk" "contents") fd := T.sa.def_ 21 (d := _root_.RL.d_Talk_contents) rfl
theorem Tx.d__law_box (T : Tx K mg) : ∃ fd, FnP K "_law_box" "_law_box" s__law_box [] (He.ga K "_law_box") fd := T.sa.def_ 22 (d := _root_.RL.d__law_box) rfl
theorem Tx.d__law_pick (T : Tx K mg) : ∃ fd, FnP K "_law_pick" "_law_pick" s__law_pick [] (He.ga K "_law_pick") fd := T.sa.def_ 23 (d := _root_.RL.d__law_pick) rfl
theorem Tx.d__law_from (T : Tx K mg) : ∃ fd, FnP K "_law_from" "_law_from" s__law_from [] (He.ga K "_law_from") fd := T.sa.def_ 24 (d := _root_.RL.d__law_from) rfl
theorem Tx.d__law_mixed (T : Tx K mg) : ∃ fd, FnP K "_law_mixed" "_law_mixed" s__law_mixed [] (He.ga K "_law_mixed") fd := T.sa.def_ 25 (d := _root_.RL.d__law_mixed) rfl
theorem Tx.d__law_same (T : Tx K mg) : ∃ fd, FnP K "_law_same" "_law_same" s__law_same [] (He.ga K "_law_same") fd := T.sa.def_ 26 (d := _root_.RL.d__law_same) rfl
theorem Tx.d__law_flags (T : Tx K mg) : ∃ fd, FnP K "_law_flags" "_law_flags" s__law_flags [] (He.ga K "_law_flags") fd := T.sa.def_ 27 (d := _root_.RL.d__law_flags) rfl
theorem Tx.d__law_word (T : Tx K mg) : ∃ fd, FnP K "_law_word" "_law_word" s__law_word [] (He.ga K "_law_word") fd := T.sa.def_ 28 (d := _root_.RL.d__law_word) rfl
theorem Tx.d__law_field (T : Tx K mg) : ∃ fd, FnP K "_law_field" "_law_field" s__law_field [] (He.ga K "_law_field") fd := T.sa.def_ 29 (d := _root_.RL.d__law_field) rfl
theorem Tx.d__law_tried (T : Tx K mg) : ∃ fd, FnP K "_law_tried" "_law_tried" s__law_tried [] (He.ga K "_law_tried") fd := T.sa.def_ 30 (d := _root_.RL.d__law_tried) rfl
theorem Tx.d__law_refused (T : Tx K mg) : ∃ fd, FnP K "_law_refused" "_law_refused" s__law_refused [] (He.ga K "_law_refused") fd := T.sa.def_ 31 (d := _root_.RL.d__law_refused) rfl
theorem Tx.d__law_far_number (T : Tx K mg) : ∃ fd, FnP K "_law_far_number" "_law_far_number" s__law_far_number [] (He.ga K "_law_far_number") fd := T.sa.def_ 32 (d := _root_.RL.d__law_far_number) rfl
theorem Tx.d__law_lot (T : Tx K mg) : ∃ fd, FnP K "_law_lot" "_law_lot" s__law_lot [] (He.ga K "_law_lot") fd := T.sa.def_ 33 (d := _root_.RL.d__law_lot) rfl
theorem Tx.d__law_look (T : Tx K mg) : ∃ fd, FnP K "_law_look" "_law_look" s__law_look [] (He.ga K "_law_look") fd := T.sa.def_ 34 (d := _root_.RL.d__law_look) rfl
theorem Tx.d__law_talk (T : Tx K mg) : ∃ fd, FnP K "_law_talk" "_law_talk" s__law_talk [] (He.ga K "_law_talk") fd := T.sa.def_ 35 (d := _root_.RL.d__law_talk) rfl
theorem Tx.d__law_letters (T : Tx K mg) : ∃ fd, FnP K "_law_letters" "_law_letters" s__law_letters [] (He.ga K "_law_letters") fd := T.sa.def_ 36 (d := _root_.RL.d__law_letters) rfl
theorem Tx.d__law_mail (T : Tx K mg) : ∃ fd, FnP K "_law_mail" "_law_mail" s__law_mail [] (He.ga K "_law_mail") fd := T.sa.def_ 37 (d := _root_.RL.d__law_mail) rfl
theorem Tx.d__law_some_lost (T : Tx K mg) : ∃ fd, FnP K "_law_some_lost" "_law_some_lost" s__law_some_lost [] (He.ga K "_law_some_lost") fd := T.sa.def_ 38 (d := _root_.RL.d__law_some_lost) rfl
theorem Tx.d_law (T : Tx K mg) : ∃ fd, FnP K "law" "law" s_law [] (He.ga K "law") fd := T.sa.def_ 39 (d := _root_.RL.d_law) rfl
theorem Tx.kwd_heard (T : Tx K mg) (H : Hp) : SqT K H (RLX.kwdAt ("Talk", some "heard") "lost" K) [] := RLX.kwd_ok (He.ba T.hx).2 H
theorem Tx.root_Missing (T : Tx K mg) : RLX.RootOk K "Missing" := RLX.rootB_ok (List.all_eq_true.mp (He.ba (He.ba T.hx).1).1 _ (by decide +kernel))
theorem Tx.root_RoamError (T : Tx K mg) : RLX.RootOk K "RoamError" := RLX.rootB_ok (List.all_eq_true.mp (He.ba (He.ba T.hx).1).1 _ (by decide +kernel))
theorem Tx.x_NoHand (T : Tx K mg) : RLX.XnOk K xn_NoHand := RLX.xnB_ok (List.all_eq_true.mp (He.ba (He.ba T.hx).1).2 _ (by simp))
theorem Tx.x_BadBeat (T : Tx K mg) : RLX.XnOk K xn_BadBeat := RLX.xnB_ok (List.all_eq_true.mp (He.ba (He.ba T.hx).1).2 _ (by simp))
theorem Tx.x_BadLost (T : Tx K mg) : RLX.XnOk K xn_BadLost := RLX.xnB_ok (List.all_eq_true.mp (He.ba (He.ba T.hx).1).2 _ (by simp))
end
/-- a def keeps its promise -/
structure Has (P : Program) (w : World) (K : PySem.W.Frag) (mg : Str → Option Value) (base : Heap) (f : Addr) (k : Nat) (ps : List Str) (sp : Sp) : Prop where
  ex : ∃ fd, FnOk P w K mg base CX0 k f fd ps sp ∧ Binds K fd ps []
  kp : PySem.W.keepIn K (.ref f) = true
/-- .. a def that may raise -/
structure HasX (P : Program) (w : World) (K : PySem.W.Frag) (mg : Str → Option Value) (base : Heap) (f : Addr) (k : Nat) (ps : List Str) (sp : Sp) : Prop where
  ex : ∃ fd, FnOk P w K mg base (L2N.CX P w) k f fd ps sp ∧ Binds K fd ps []
  kp : PySem.W.keepIn K (.ref f) = true
end RL
/-! the program's exceptions: their own __init__ -/
namespace RL
open PySem PySem.Spec PyProof.Rows L2
section
variable {P : Program} {w : World} {K : PySem.W.Frag} {mg : Str → Option Value} {base : Heap}
/-- the root's __init__: the word is laid -/
def spRoot (K : PySem.W.Frag) (newId : String) (tail : List Value) : Sp := fun vs H Q _ => ∃ (a C : Addr) (z : Str), vs = [.ref a, .str z] ∧ RLX.XcC K newId tail C ∧ PySem.W.findIn K (.ref C) "word" = some none ∧ H a = some (exo a C none) ∧
  ∀ dx, H dx = none → dx ≠ a → Q .non (upd (upd H dx (exd dx [("word", .str z)])) a (exo a C (some dx)))
theorem sc_Missing_init : FnScope ["self", "word"] ["self", "word"] (defScope s_Missing_init) := ⟨rfl, rfl, rfl, by decide +kernel, rfl, by decide +kernel, by decide +kernel⟩
theorem ok_Missing_init (T : Tx K mg) : Has P w K mg base (mC K "Missing" "__init__") 1 ["self", "word"] (spRoot K "LookupError.__new__" [.type "LookupError", .type "Exception", .type "BaseException", .type "object"]) := by
  obtain ⟨fd, F⟩ := T.d_Missing_init
  have hb : Binds K fd ["self", "word"] [] := by
    obtain ⟨ds, e, b⟩ := F.binds1 (ps := ["self", "word"]) 2 1 (List.cons_ne_nil _ _) rfl (fun T0 kV doc pm an cdv ct us its l1 l2 => match us, its, l1, l2 with
      | [_, _], [_], _, _ => ⟨_, rfl, rfl⟩)
    cases e
    exact b
  refine ⟨⟨fd, F.ok sc_Missing_init (fun vs H Q E h => ?_) (fun cdv A outer s H vs Q E hr h => ?_), hb⟩, F.kp⟩
  · obtain ⟨a, C, z, rfl, _⟩ := h
    rfl
  · obtain ⟨a, C, z, rfl, X, hno, ha, h⟩ := h
    refine ⟨_, PSs.nox (pss_cons (ps_expr (RLX.pe_base (T := "LookupError") RLX.exB_L (by decide +kernel) RLX.typ_L (by decide +kernel) rfl T.free_LookupError (by decide) (by decide) RLX.init_L (by decide +kernel) (pa_cons (pv 0) (pa_cons (pv 1) pa_nil)))) (pss_one (RLX.ps_put RLX.exB_L (pv 0) (pv 1)))), ?_⟩
    refine ⟨_, rfl, _, rfl, a, C, [.str z], rfl, (show 1 ≤ 1000 by decide), X, ha, ?_⟩
    exact ⟨_, rfl, _, rfl, a, C, rfl, X, hno, .inl ⟨ha, h⟩⟩
theorem sc_RoamError_init : FnScope ["self", "word"] ["self", "word"] (defScope s_RoamError_init) := ⟨rfl, rfl, rfl, by decide +kernel, rfl, by decide +kernel, by decide +kernel⟩
theorem ok_RoamError_init (T : Tx K mg) : Has P w K mg base (mC K "RoamError" "__init__") 1 ["self", "word"] (spRoot K "ValueError.__new__" [.type "ValueError", .type "Exception", .type "BaseException", .type "object"]) := by
  obtain ⟨fd, F⟩ := T.d_RoamError_init
  have hb : Binds K fd ["self", "word"] [] := by
    obtain ⟨ds, e, b⟩ := F.binds1 (ps := ["self", "word"]) 2 1 (List.cons_ne_nil _ _) rfl (fun T0 kV doc pm an cdv ct us its l1 l2 => match us, its, l1, l2 with
      | [_, _], [_], _, _ => ⟨_, rfl, rfl⟩)
    cases e
    exact b
  refine ⟨⟨fd, F.ok sc_RoamError_init (fun vs H Q E h => ?_) (fun cdv A outer s H vs Q E hr h => ?_), hb⟩, F.kp⟩
  · obtain ⟨a, C, z, rfl, _⟩ := h
    rfl
  · obtain ⟨a, C, z, rfl, X, hno, ha, h⟩ := h
    refine ⟨_, PSs.nox (pss_cons (ps_expr (RLX.pe_base (T := "ValueError") RLX.exB_V (by decide +kernel) RLX.typ_V (by decide +kernel) rfl T.free_ValueError (by decide) (by decide) RLX.init_V (by decide +kernel) (pa_cons (pv 0) (pa_cons (pv 1) pa_nil)))) (pss_one (RLX.ps_put RLX.exB_V (pv 0) (pv 1)))), ?_⟩
    refine ⟨_, rfl, _, rfl, a, C, [.str z], rfl, (show 1 ≤ 1000 by decide), X, ha, ?_⟩
    exact ⟨_, rfl, _, rfl, a, C, rfl, X, hno, .inl ⟨ha, h⟩⟩
/-- an exception is made with the fields fs -/
def Mkx (a C : Addr) (fs : List (Str × V)) (H : Hp) (Q : VK) : Prop := ∀ (dx : Addr) (H' : Hp), H dx = none → dx ≠ a → H' a = some (exo a C (some dx)) → H' dx = some (exd dx fs) → (∀ b, b ≠ a → b ≠ dx → H' b = H b) → Q .non H'
def spX1 (K : PySem.W.Frag) (n f : Str) (newId : String) (tail : List Value) : Sp := fun vs H Q _ => ∃ (a C : Addr) (v : V), vs = [.ref a, v] ∧ RLX.XcC K newId tail C ∧ PySem.W.findIn K (.ref C) "word" = some none ∧ PySem.W.findIn K (.ref C) f = some none ∧ H a = some (exo a C none) ∧ Mkx a C [(f, v), ("word", .str n)] H Q
def spX0 (K : PySem.W.Frag) (n : Str) (newId : String) (tail : List Value) : Sp := fun vs H Q _ => ∃ (a C : Addr), vs = [.ref a] ∧ RLX.XcC K newId tail C ∧ PySem.W.findIn K (.ref C) "word" = some none ∧ H a = some (exo a C none) ∧ Mkx a C [("word", .str n)] H Q
theorem sc_NoHand_init : FnScope ["self", "hand"] ["self", "hand"] (defScope s_NoHand_init) := ⟨rfl, rfl, rfl, by decide +kernel, rfl, by decide +kernel, by decide +kernel⟩
theorem ok_NoHand_init (T : Tx K mg) : Has P w K mg base (mC K "NoHand" "__init__") 2 ["self", "hand"] (spX1 K "NoHand" "hand" "LookupError.__new__" [.type "LookupError", .type "Exception", .type "BaseException", .type "object"]) := by
  obtain ⟨⟨fd_r, F_r, b_r⟩, kp_r⟩ := ok_Missing_init (P := P) (w := w) (base := base) T
  obtain ⟨fd, F⟩ := T.d_NoHand_init
  refine ⟨⟨fd, F.ok sc_NoHand_init (fun vs H Q E h => ?_) (fun cdv A outer s H vs Q E hr h => ?_), F.bindsN fun _ _ _ _ _ _ us hl => match us, hl with | [_, _], _ => rfl⟩, F.kp⟩
  · obtain ⟨a, C, v, rfl, _⟩ := h
    rfl
  · obtain ⟨a, C, v, rfl, X, hno, hnf, ha, h⟩ := h
    have Ro := T.root_Missing
    refine ⟨_, PSs.nox (pss_cons (ps_expr (RLX.pe_own (x := "Missing") rfl T.glo_Missing Ro.ga Ro.rd Ro.fn Ro.kp F_r (hr.mono (by decide)) b_r .nil pass0 (pa_cons (pv 0) (pa_cons pe_str pa_nil)))) (pss_one (RLX.ps_put RLX.exB_L (pv 0) (pv 1)))), ?_⟩
    refine ⟨_, rfl, a, C, "NoHand", rfl, X, hno, ha, fun dx hd nd => ?_⟩
    have hd1 : (upd (upd H dx (exd dx [("word", .str "NoHand")])) a (exo a C (some dx))) dx = some (exd dx [("word", .str "NoHand")]) := by rw [upd_ne nd, upd_same]
    refine ⟨_, rfl, _, rfl, a, C, rfl, X, hnf, .inr ⟨dx, _, upd_same, hd1, by decide, ?_⟩⟩
    refine h dx _ hd nd (by rw [upd_ne (Ne.symm nd), upd_same]) upd_same fun b b1 b2 => ?_
    rw [upd_ne b2, upd_ne b1, upd_ne b2]
theorem sc_BadBeat_init : FnScope ["self", "beat"] ["self", "beat"] (defScope s_BadBeat_init) := ⟨rfl, rfl, rfl, by decide +kernel, rfl, by decide +kernel, by decide +kernel⟩
theorem ok_BadBeat_init (T : Tx K mg) : Has P w K mg base (mC K "BadBeat" "__init__") 2 ["self", "beat"] (spX1 K "BadBeat" "beat" "ValueError.__new__" [.type "ValueError", .type "Exception", .type "BaseException", .type "object"]) := by
  obtain ⟨⟨fd_r, F_r, b_r⟩, kp_r⟩ := ok_RoamError_init (P := P) (w := w) (base := base) T
  obtain ⟨fd, F⟩ := T.d_BadBeat_init
  refine ⟨⟨fd, F.ok sc_BadBeat_init (fun vs H Q E h => ?_) (fun cdv A outer s H vs Q E hr h => ?_), F.bindsN fun _ _ _ _ _ _ us hl => match us, hl with | [_, _], _ => rfl⟩, F.kp⟩
  · obtain ⟨a, C, v, rfl, _⟩ := h
    rfl
  · obtain ⟨a, C, v, rfl, X, hno, hnf, ha, h⟩ := h
    have Ro := T.root_RoamError
    refine ⟨_, PSs.nox (pss_cons (ps_expr (RLX.pe_own (x := "RoamError") rfl T.glo_RoamError Ro.ga Ro.rd Ro.fn Ro.kp F_r (hr.mono (by decide)) b_r .nil pass0 (pa_cons (pv 0) (pa_cons pe_str pa_nil)))) (pss_one (RLX.ps_put RLX.exB_V (pv 0) (pv 1)))), ?_⟩
    refine ⟨_, rfl, a, C, "BadBeat", rfl, X, hno, ha, fun dx hd nd => ?_⟩
    have hd1 : (upd (upd H dx (exd dx [("word", .str "BadBeat")])) a (exo a C (some dx))) dx = some (exd dx [("word", .str "BadBeat")]) := by rw [upd_ne nd, upd_same]
    refine ⟨_, rfl, _, rfl, a, C, rfl, X, hnf, .inr ⟨dx, _, upd_same, hd1, by decide, ?_⟩⟩
    refine h dx _ hd nd (by rw [upd_ne (Ne.symm nd), upd_same]) upd_same fun b b1 b2 => ?_
    rw [upd_ne b2, upd_ne b1, upd_ne b2]
theorem sc_BadLost_init : FnScope ["self"] ["self"] (defScope s_BadLost_init) := ⟨rfl, rfl, rfl, by decide +kernel, rfl, by decide +kernel, by decide +kernel⟩
theorem ok_BadLost_init (T : Tx K mg) : Has P w K mg base (mC K "BadLost" "__init__") 2 ["self"] (spX0 K "BadLost" "ValueError.__new__" [.type "ValueError", .type "Exception", .type "BaseException", .type "object"]) := by
  obtain ⟨⟨fd_r, F_r, b_r⟩, kp_r⟩ := ok_RoamError_init (P := P) (w := w) (base := base) T
  obtain ⟨fd, F⟩ := T.d_BadLost_init
  refine ⟨⟨fd, F.ok sc_BadLost_init (fun vs H Q E h => ?_) (fun cdv A outer s H vs Q E hr h => ?_), F.bindsN fun _ _ _ _ _ _ us hl => match us, hl with | [_], _ => rfl⟩, F.kp⟩
  · obtain ⟨a, C, rfl, _⟩ := h
    rfl
  · obtain ⟨a, C, rfl, X, hno, ha, h⟩ := h
    have Ro := T.root_RoamError
    refine ⟨_, PSs.nox (pss_one (ps_expr (RLX.pe_own (x := "RoamError") rfl T.glo_RoamError Ro.ga Ro.rd Ro.fn Ro.kp F_r (hr.mono (by decide)) b_r .nil pass0 (pa_cons (pv 0) (pa_cons pe_str pa_nil))))), ?_⟩
    refine ⟨_, rfl, a, C, "BadLost", rfl, X, hno, ha, fun dx hd nd => ?_⟩
    refine h dx _ hd nd upd_same (by rw [upd_ne nd, upd_same]) fun b b1 b2 => ?_
    rw [upd_ne b1, upd_ne b2]
/-- what is wished of a new exception, from what its maker leaves -/
theorem mk_rest {K : PySem.W.Frag} {H : Hp} {C a : Addr} {fs : List (Str × V)} {Q : XK} (ha : H a = none) (h : ∀ d H', H d = none → H' d = some (.xd fs) → Same H H' → Q (.ref C) (some d) H') :
    Mkx a C fs (upd H a (exo a C none)) (fun v H2 => v = .non ∧ ∃ (d : Addr) (fs : List (Str × V)), H2 a = some (exo a C (some d)) ∧ H2 d = some (exd d fs) ∧ H d = none ∧ Q (.ref C) (some d) (upd (del H2 a) d (.xd fs))) := by
  intro dx H' hd nd h1 h2 h3
  have hd' : H dx = none := by rw [upd_ne nd] at hd; exact hd
  refine ⟨rfl, dx, fs, h1, h2, hd', h dx _ hd' upd_same fun b o hb => ?_⟩
  have nb : b ≠ a := ne_of_none hb ha
  have nb2 : b ≠ dx := ne_of_none hb hd'
  rw [upd_ne nb2, del_ne nb, h3 b nb nb2, upd_ne nb]
  exact hb
theorem rmk_NoHand (T : Tx K mg) {H : Hp} {v : V} {Q : XK} (h : ∀ d H', H d = none → H' d = some (.xd [("hand", v), ("word", .str "NoHand")]) → Same H H' → Q (.ref (He.ga K "NoHand")) (some d) H') : RLX.rMk (He.ga K "NoHand") (spX1 K "NoHand" "hand" "LookupError.__new__" [.type "LookupError", .type "Exception", .type "BaseException", .type "object"]) [v] H Q :=
  ⟨(show 1 ≤ 1000 by decide), fun a ha => ⟨a, He.ga K "NoHand", v, rfl, T.x_NoHand.xc, T.x_NoHand.no _ (by decide), T.x_NoHand.no _ (by decide), upd_same, mk_rest (K := K) ha h⟩⟩
theorem rmk_BadBeat (T : Tx K mg) {H : Hp} {v : V} {Q : XK} (h : ∀ d H', H d = none → H' d = some (.xd [("beat", v), ("word", .str "BadBeat")]) → Same H H' → Q (.ref (He.ga K "BadBeat")) (some d) H') : RLX.rMk (He.ga K "BadBeat") (spX1 K "BadBeat" "beat" "ValueError.__new__" [.type "ValueError", .type "Exception", .type "BaseException", .type "object"]) [v] H Q :=
  ⟨(show 1 ≤ 1000 by decide), fun a ha => ⟨a, He.ga K "BadBeat", v, rfl, T.x_BadBeat.xc, T.x_BadBeat.no _ (by decide), T.x_BadBeat.no _ (by decide), upd_same, mk_rest (K := K) ha h⟩⟩
theorem rmk_BadLost (T : Tx K mg) {H : Hp} {Q : XK} (h : ∀ d H', H d = none → H' d = some (.xd [("word", .str "BadLost")]) → Same H H' → Q (.ref (He.ga K "BadLost")) (some d) H') : RLX.rMk (He.ga K "BadLost") (spX0 K "BadLost" "ValueError.__new__" [.type "ValueError", .type "Exception", .type "BaseException", .type "object"]) [] H Q :=
  ⟨by decide, fun a ha => ⟨a, He.ga K "BadLost", rfl, T.x_BadLost.xc, T.x_BadLost.no _ (by decide), upd_same, mk_rest (K := K) ha h⟩⟩
end
end RL
/-! Rules that this program wants besides: len of an own object, sorted and set of a tuple, a tuple's index and multiple, enumerate of a tuple. -/
namespace RL
open PySem PySem.Spec PyProof.Rows L2
section
variable {X : Cx}
/-- set(t), t a tuple of ints -/
def rSetT (w : World) (K : PySem.W.Frag) : List V → Hp → VK → Prop := fun vs H Q => ∃ (a : Addr) (ns : List Int), vs = [.ref a] ∧ SqT K H a (ns.map V.int) ∧ ns.length ≤ 1000 ∧
  ∀ (p : Addr) (c : Nat), H p = none → c ≤ ns.length → Q (.ref p) (upd H p (SetO w p (fun j => decide (j ∈ ns)) c))
theorem cr_setT (hc : X.calm = true) : CallR X (.type "set") (rSetT X.w X.K) := by
  intro pins s σ H vs us Q I r h
  obtain ⟨a, ns, rfl, hs, hz, q⟩ := h
  obtain ⟨its, rv, ht, _⟩ := I.tuple hs
  rw [Vals.ref1 r]
  have hi : IntsAre its.toArray.toList ns := by simpa using rv.ints
  refine call_set_tupI ns (I.ok.hd hc) ht hi (Nat.lt_of_le_of_lt (Nat.succ_le_succ hz) (by decide)) fun h' tk c R hcl hk => ?_
  have fr : H s.heap.objs.size = none := I.hok.fresh (Nat.le_refl _)
  exact ⟨.ref _, _, I.laid hk (Nat.le_refl _) (setO_new R), rfl, q _ c fr hcl⟩
/-- sorted(t), t a tuple of ints, fewer than 64 -/
def rSortT (K : PySem.W.Frag) : List V → Hp → VK → Prop := fun vs H Q => ∃ (a : Addr) (ns : List Int), vs = [.ref a] ∧ SqT K H a (ns.map V.int) ∧ ns.length < 64 ∧
  ∀ (ms : List Int) (p : Addr), ms.Perm ns → ms.Pairwise (· ≤ ·) → H p = none → Q (.ref p) (upd H p (.lst (ms.map V.int)))
theorem cr_sortTup : CallR X (.builtin "sorted") (rSortT X.K) := by
  intro pins s σ H vs us Q I r h
  obtain ⟨a, ns, rfl, hs, h64, q⟩ := h
  obtain ⟨its, rv, ⟨o, ho, hcl, nn, hd⟩, _⟩ := I.tuple hs
  rw [Vals.ref1 r]
  have hi := rv.ints
  have hle : its.length = ns.length := hi.length
  refine Calls.call_function_entry kind_sorted plain_sorted entry_sorted (args_sorted1 _) ?_
  unfold Builtin.«sorted»
  refine wpAny_bind (m := checkCount "sorted" 1 1 _) (wpAny_pure ?_)
  refine wpAny_bind (wpAny_collect_seq a (.inr rfl) ho hcl hd (fun h1 k1 => ?_) (by rw [List.size_toArray, hle, sizeLine_eq]; omega))
  refine wpAny_bind (wpAny_newList ?_ (by rw [sizeLine_eq]; simp; omega))
  have at1 : (h1.push (seqObj "list" its.toArray 0)).get? h1.objs.size = some (seqObj "list" its.toArray 0) := Heap.get?_push_size _ rfl
  refine wpAny_bind (wpAny_holding (wpAny_call_entry slot_list_sort ⟨_, at1, rfl⟩ entry_list_sort (list_sort_tree at1 hi (by omega) fun out ms a1 a2 a3 => ⟨_, rfl, ?_⟩) (args_list_sort _)))
  refine wpAny_pure ⟨_, rfl, ?_⟩
  have I1 : Inv X pins σ H { s with heap := h1 } := I.kept (t' := s.toks) k1
  obtain ⟨ep, he⟩ := PyProof.Rows.sortedHeap_at (vs := its) (out := out) at1
  have hlen : (ms.map V.int).length ≤ sizeLine := by rw [List.length_map, a2.length_eq, sizeLine_eq]; omega
  refine ⟨.ref h1.objs.size, upd H h1.objs.size (.lst (ms.map V.int)), I1.laid (t' := s.toks) (fun b ob e => ?_) (Nat.le_refl _) ⟨hlen, out.toList, ep, vals_of_ints a1, by simpa using he⟩, rfl, q ms _ a2 a3 (I1.hok.fresh (Nat.le_refl _))⟩
  rw [PyProof.Rows.sortedHeap_old (Nat.ne_of_lt (Heap.lt_size e)) (by rw [Heap.size_push]; exact Nat.lt_succ_of_lt (Heap.lt_size e))]
  exact Heap.get?_push_of_some _ e
/-- t.index(k), ints: the first place -/
theorem flat_ints (ys : List Int) : (ys.map V.int).all flatV = true := by
  rw [List.all_map]
  exact List.all_eq_true.mpr fun _ _ => rfl
def rTupIx (K : PySem.W.Frag) : V → List V → Hp → VK → Prop := fun x xs H Q => ∃ (p : Addr) (ys : List Int) (z : Int) (j : Nat), x = .ref p ∧ xs = [.int z] ∧ SqT K H p (ys.map V.int) ∧ ys[j]? = some z ∧ (∀ m : Nat, m < j → ys[m]? ≠ some z) ∧ Q (.int (j : Nat)) H
theorem mt_tupIx : MtR X "tuple.index" (rTupIx X.K) := by
  intro pins s σ H x xs v us Q I rx rs h
  obtain ⟨p, ys, z, j, rfl, rfl, hq, hy, hno, q⟩ := h
  cases rx
  obtain ⟨u, rfl, t, rfl⟩ := vals1 rs
  obtain ⟨its, r, ⟨⟨cls, dd, dt, sl⟩, ho, hc, n, hd⟩, hz⟩ := I.tuple hq
  cases (show cls = _ from hc)
  cases (show dt = _ from hd)
  have hl : its.length = ys.length := by rw [← r.length, List.length_map]
  have each : ∀ (m : Nat) (hm : m < its.toArray.size), ∃ y t', ys[m]? = some y ∧ its.toArray[m] = Value.int y t' := fun m hm => by
    have hm2 : m < ys.length := by rw [← hl]; simpa using hm
    obtain ⟨wv, hw, t', hw'⟩ := r.get (i := m) (x := .int ys[m]) (by simp [hm2])
    refine ⟨ys[m], t', List.getElem?_eq_getElem hm2, ?_⟩
    have e := (List.getElem?_eq_some_iff.mp hw).2
    rw [← hw', ← e]
    simp
  have hj : j < its.toArray.size := by
    rw [List.size_toArray, hl]
    exact (List.getElem?_eq_some_iff.mp hy).1
  refine call_meets PySem.F.slot_tuple_index ⟨_, ho, rfl⟩ PySem.F.entry_tuple_index (PySem.F.args_tuple_index_2 _ _) (TI.tuple_indexAt p its.toArray n dd sl (.int z t) (eqU (.int z)) j hj ?_ ?_)
    ⟨ho, fun wv hw => mem_eqAt (x := .int z) ⟨t, rfl⟩ rfl r (flat_ints ys) wv (by simpa using hw), ⟨.int (j : Nat), H, I.tok _, ⟨_, rfl⟩, q⟩⟩
  · obtain ⟨y, t', h1, h2⟩ := each j hj
    rw [hy] at h1
    cases h1
    rw [h2]
    show decide (z = z) = true
    simp
  · intro m hm hmj
    obtain ⟨y, t', h1, h2⟩ := each m hm
    rw [h2]
    have e : y ≠ z := fun e => hno m hmj (e ▸ h1)
    show decide (y = z) = false
    simp [e]
end
end RL
namespace RL
open PySem PySem.Spec PyProof.Rows L2
open AutoSeq1 (wpAny_loadPart')
/-- t * 1 is t -/
theorem tuple_mul1 (l : Addr) (items : Array Value) (n : Nat) (dd : Option Addr) (sl : Array (Option Value)) (u : Tok) :
    Meets (Builtin.«tuple.__mul__» ⟨[.ref l, .int 1 u], []⟩) (fun _ R s => s.heap.get? l = some { cls := .type "tuple", dict := dd, data := .seq items n, slots := sl } ∧ R (.ok (.ret (.ref l))) s) :=
  .of_wp fun prog w A R s h => by
    obtain ⟨hp, g, d, tk, os⟩ := s
    obtain ⟨hl, h⟩ := h
    have f1 := AutoSeq1.idx_int
    have c1 : (items.isEmpty || (1 : Int) == 1) = true := by simp
    wp_walk using wpAny_loadPart' hl
    exact ⟨_, rfl, h⟩
set_option maxHeartbeats 1000000 in
theorem meets_enum_tup {v : Value} {o : Obj} {H : Heap → Prop} (B : Begins v o H) :
    Meets (Builtin.«enumerate.__new__» ⟨[.type "enumerate", v], []⟩) (fun _ R s => H s.heap ∧
      R (.ok (.ret (.ref (s.heap.push o).objs.size))) { s with heap := (s.heap.push o).push { cls := .type "enumerate", data := .fields #[.none, .bool false, .ref s.heap.objs.size, rawInt 0, .none, .none] } }) :=
  .of_wp fun P0 w0 A R s hh => by
    obtain ⟨hp, g, d, tk, os⟩ := s
    have hsub := sub_enumerate
    have draw : ∀ {A1 : Around} {E1 : Value → Shared → Prop} {Q1 : Value → Shared → Prop}, Q1 (.ref hp.objs.size) ⟨hp.push o, g, d, tk, os⟩ → wpAny (model P0 w0) A1 (pyIter v) Q1 E1 ⟨hp, g, d, tk, os⟩ :=
      fun z => B.iter P0 w0 _ _ ⟨hp, g, d, tk, os⟩ _ hh.1 z
    have fin := hh.2
    wp_walk using draw
    refine wpAny_stack_any fun st => wpAny_pure ?_
    split
    · rename_i c _ _ _ _ _
      cases (c == Value.type "enumerate")
      all_goals
        wp_walk using draw
        exact ⟨_, rfl, fin⟩
    · wp_walk using draw
      exact ⟨_, rfl, fin⟩
theorem call_enum_tup {prog : Program} {w : World} {A : Around} {E : Value → Shared → Prop} {s : Shared} {t : Addr} {items : Array Value} {Q : Value → Shared → Prop} (ht : s.heap.IsTuple t items)
    (h : ∀ h', IsEnum h' (s.heap.objs.size + 1) s.heap.objs.size 0 .none → h'.IsTupleIter s.heap.objs.size t 0 → (∀ b o, s.heap.get? b = some o → h'.get? b = some o) → Q (.ref (s.heap.objs.size + 1)) { s with heap := h' }) :
    wpAny (model prog w) A (call (.type "enumerate") [.ref t]) Q E s := by
  refine callType_new F.called_enumerate (by decide) (F.typeCall_enumerate_1 _) (F.newCall_enumerate_1 _) (fun ob => F.args_object_init_2 ob _) F.entry_enumerate_new (meets_enum_tup (begins_tuple t items)) ⟨ht, ?_⟩
  generalize ho1 : ({ cls := .type "tuple_iterator", data := .fields #[.ref t, .int 0 0] } : Obj) = o1
  have fr1 : o1.isFreed = false := by rw [← ho1]; rfl
  generalize ho2 : ({ cls := .type "enumerate", data := .fields #[.none, .bool false, .ref s.heap.objs.size, rawInt 0, .none, .none] } : Obj) = o2
  have z1 : (s.heap.push o1).objs.size = s.heap.objs.size + 1 := Heap.size_push ..
  have g2 : ((s.heap.push o1).push o2).get? (s.heap.objs.size + 1) = some o2 := by
    rw [← z1]
    exact Heap.get?_push_size _ (by rw [← ho2]; rfl)
  have g1 : ((s.heap.push o1).push o2).get? s.heap.objs.size = some o1 := Heap.get?_push_of_some _ (Heap.get?_push_size _ fr1)
  show _ ∧ _
  rw [z1]
  refine ⟨⟨o2, g2, by rw [← ho2]⟩, h _ (by rw [← ho2] at g2 ⊢; exact g2) ⟨o1, g1, by rw [← ho1], by rw [← ho1]; rfl⟩ fun b o e => Heap.get?_push_of_some _ (Heap.get?_push_of_some _ e)⟩
/-- a tuple at a, its items in new pairs with their numbers -/
def Itu (K : PySem.W.Frag) (a : Addr) : It :=
  ⟨fun i H => ∃ (xs : List V) (x : V), SqT K H a xs ∧ xs[i]? = some x, fun i H v H' => ∃ T x, v = .ref T ∧ H T = none ∧ H' = upd H T (.tup [.int (i : Nat), x]) ∧ ∀ xs, SqT K H a xs → xs[i]? = some x, fun i H => ∃ xs : List V, SqT K H a xs ∧ xs.length = i⟩
theorem turn_enumT {P : Program} {w : World} {K : PySem.W.Frag} {elts : List Expr} {kk : Nat} {tpos : Pos} (a e it : Addr) (hne : e ≠ it) (hai : a ≠ it) (hea : e ≠ a) :
    Turn P w K (.Tuple elts kk tpos) (Itu K a) [e, it] e (fun i h => (∃ old, IsEnum h e it ((i : Nat) : Int) old) ∧ h.IsTupleIter it a i) where
  mem := by simp
  obj := fun i h st b hb => by
    obtain ⟨⟨old, he⟩, ⟨o, ho, hc, hd⟩⟩ := st
    have z : b = e ∨ b = it := by simpa using hb
    rcases z with z | z
    · rw [z]
      exact ⟨_, he, fun v q => nomatch q⟩
    · rw [z]
      exact ⟨o, ho, fun v q => by rw [hd] at q; cases q⟩
  keep := fun i h h' st k => ⟨st.1.imp fun old he => k e (by simp) _ he, st.2.at fun o q => k it (by simp) o q⟩
  item := by
    intro X hP hw hK hc i pins s σ H E I hf st hg
    subst hP hw hK
    obtain ⟨⟨old, he⟩, hit⟩ := st
    obtain ⟨xs, x, hq, hx⟩ := hg
    obtain ⟨its, rv, ht, hz⟩ := I.tuple hq
    obtain ⟨u, hu, ru⟩ := rv.get hx
    have hi : i < its.toArray.size := by
      rw [List.size_toArray]
      exact (List.getElem?_eq_some_iff.mp hu).1
    have el : e < s.heap.objs.size := Heap.lt_size he
    have il : it < s.heap.objs.size := by
      obtain ⟨_, q, _⟩ := hit
      exact Heap.lt_size q
    refine wpAny_pyNext_enum_itemD (Draws.tuple (A := X.A.in1) (show X.A.in1.handled = none from I.ok.hd hc) it a hai its.toArray) he ⟨hit, ht⟩ hi hne (by simp [hne, hea]) fun y h' tk py ho st' hT hsz hk => ?_
    have ey : y = u := by
      have q : its[i]? = some y := by simpa using py
      rw [hu] at q
      exact (Option.some.inj q).symm
    subst ey
    refine ⟨_, rfl, wpAny_letOwnedTupleGo_enum (s := { s with heap := h', toks := tk + 1 }) ho fun h'' he' sb => ?_⟩
    have hT2 : h''.get? s.heap.objs.size = some { cls := .type "tuple", data := .seq #[.int i tk, y] } := (sb.2 _ (Nat.ne_of_gt el)).trans hT
    have new : ObjOk X.prog X.w (upd H s.heap.objs.size (.tup [.int (i : Nat), x])) h'' s.heap.objs.size (.tup [.int (i : Nat), x]) :=
      ⟨by show 2 ≤ sizeLine; decide, [.int i tk, y], .cons ⟨_, rfl⟩ (.cons ru .nil), ⟨_, hT2, rfl, _, rfl⟩⟩
    have I1 : Inv X pins σ (upd H s.heap.objs.size (.tup [.int (i : Nat), x])) { s with heap := h'', toks := tk + 1 } :=
      I.turnedNew (ch := [e, it]) (fun b ob hb q => (sb.2 b (fun z => hb (by simp [z]))).trans (hk b ob (fun z => hb (by simp [z])) (fun z => hb (by simp [z])) q)) hf (Nat.le_refl _) new
    refine ⟨.ref s.heap.objs.size, _, I1, rfl, ⟨_, x, rfl, I.hok.fresh (Nat.le_refl _), rfl, fun ys hy => by rw [I.tuple_inj hy hq]; exact hx⟩, ⟨⟨y, by simpa using he'⟩, st'.1.at fun o q => (sb.2 it (Ne.symm hne)).trans q⟩, fun b hb => ?_⟩
    have lt : b < s.heap.objs.size := by
      have z : b = e ∨ b = it := by simpa using hb
      rcases z with z | z
      · rw [z]; exact el
      · rw [z]; exact il
    rw [upd_ne (Nat.ne_of_lt lt)]
    exact (hf b hb).1
  done := by
    intro X hP hw hK hc i pins s σ H E I hf st hg
    subst hP hw hK
    obtain ⟨⟨old, he⟩, hit⟩ := st
    obtain ⟨xs, hq, hx⟩ := hg
    obtain ⟨its, rv, ht, hz⟩ := I.tuple hq
    obtain ⟨f0, f1, f2, f3, f4, f5⟩ := hf it (by simp)
    have hl : its.toArray.size = i := by
      rw [List.size_toArray, ← rv.length]
      exact hx
    exact wpAny_pyNext_enum_endD (Draws.tuple (A := X.A.in1) (show X.A.in1.handled = none from I.ok.hd hc) it a hai its.toArray) he (by rw [hl]; exact ⟨hit, ht⟩) fun h' eb => ⟨rfl, I.turned (t' := s.toks) (fun b o hb q => eb b o hb q) f0 f1 f3 f4 f5⟩
  self := fun A i s Q E st h => wpAny_pyIter_enum st.1.choose_spec h
def iEnumT (K : PySem.W.Frag) (ta : TA) : TI := fun σ H R => ta σ H fun vs H1 => ∃ a xs, vs = [.ref a] ∧ SqT K H1 a xs ∧ R (Itu K a) H1
theorem pi_enumT {X : Cx} {e : Expr} {ta : TA} {p pos tpos : Pos} {elts : List Expr} {kk : Nat} (hg : Gl X "enumerate") (hm : X.mg "enumerate" = none) (ha : PA X [e] ta) (hs : starEach [e] X.env = [(false, eval e X.env)] := by rfl) :
    PI X (.Tuple elts kk tpos) (.Call (.Name "enumerate" p) [e] [] pos) (iEnumT X.K ta) := by
  refine ⟨fun pins s σ H R I h => ?_⟩
  refine Call_ (ld_blt I hg hm boot_enumerate (PyProof.Rows.callWith_type1 (thn (ha.run pos pins s σ H _ I h) fun us s1 ⟨vs, H1, I1, r1, q1⟩ => ?_) hs rfl))
  obtain ⟨a, xs, ex, hq, q⟩ := q1
  subst ex
  rw [Vals.ref1 r1]
  obtain ⟨its, rv, ht, hz⟩ := I1.tuple hq
  have al : a < s1.heap.objs.size := by
    obtain ⟨o, ho, _⟩ := ht
    exact Heap.lt_size ho
  refine call_enum_tup ht fun h' he hit hk => wpAny_pyIter_enum he ?_
  have I2 : Inv X pins σ H1 { s1 with heap := h' } := I1.kept (t' := s1.toks) hk
  refine ⟨s1.heap.objs.size + 1, [s1.heap.objs.size + 1, s1.heap.objs.size], _, _, H1, rfl, I2, turn_enumT a (s1.heap.objs.size + 1) s1.heap.objs.size (Nat.succ_ne_self _) (Nat.ne_of_lt al) (Nat.ne_of_gt (Nat.lt_succ_of_lt al)), ⟨⟨.none, he⟩, hit⟩, fun b hb => ?_, q⟩
  have hle : s1.heap.objs.size ≤ b := by
    have z : b = s1.heap.objs.size + 1 ∨ b = s1.heap.objs.size := by simpa using hb
    rcases z with z | z
    · rw [z]; exact Nat.le_succ _
    · rw [z]; exact Nat.le_refl _
  exact I1.fpOk hle (I1.hok.fresh hle)
theorem walk_enumT {K : PySem.W.Frag} {a : Addr} {xs : List V} : Walk (Itu K a) xs.length (fun H => SqT K H a xs) (YPair (fun i => some (.int (i : Nat))) (fun i => xs[i]?)) := by
  refine ⟨fun i H hi q => ⟨xs, xs[i], q, by simp [hi]⟩, fun H q => ⟨xs, q, rfl⟩, fun i H v H' hi q y => ?_⟩
  obtain ⟨T, x, e1, e2, e3, e4⟩ := y
  exact ⟨T, _, x, e1, e2, e3, rfl, e4 xs q⟩
section
variable {X : Cx}
/-- t * k, 1 ≤ k -/
def rRepT1 (K : PySem.W.Frag) : R2 := fun x y H Q => ∃ (l : Addr) (k : Int) (xs : List V), x = .ref l ∧ y = .int k ∧ SqT K H l xs ∧ xs ≠ [] ∧ 1 ≤ k ∧ k ≤ 1000 ∧ xs.length ≤ 1000 ∧ (k = 1 → Q (.ref l) H) ∧ ∀ p, H p = none → Q (.ref p) (upd H p (.tup (List.replicate k.toNat xs).flatten))
theorem op_repT1 : OpR X (binaryOp .Mult) (rRepT1 X.K) := by
  intro pins s σ H x y v u Q I rx ry h
  obtain ⟨l, k, xs, hx, hy, hT, hne, h1, h2, hz, q1, q⟩ := h
  by_cases hk : k = 1
  · subst hk hx hy
    cases rx
    obtain ⟨t, rfl⟩ := ry
    obtain ⟨its, r, ⟨⟨cls, dd, data, sl⟩, ho, hc, n, hd⟩, hs⟩ := I.tuple hT
    cases (show cls = _ from hc)
    cases (show data = _ from hd)
    refine wpAny_binaryOp_repeat_ref (T := "tuple") (U := "int") (by decide) ⟨_, ho, rfl⟩ (fun s' => typeIs_int s' 1 t) noFill_tuple_mul F.fills_int_mul F.slot_int_rmul repeat_tuple F.slot_int_index.lookup
      (call_meets F.slot_int_rmul (typeIs_int s 1 t) F.entry_int_rmul (F.args_int_rmul_2 _ _) (int_rmul_tuple 1 t l its.toArray n dd sl)
        ⟨ho, rfl, ⟨_, ho, rfl⟩, call_meets F.slot_tuple_mul ⟨_, ho, rfl⟩ F.entry_tuple_mul (F.args_tuple_mul_2 _ _) (tuple_mul1 l its.toArray n dd sl t) ⟨ho, ?_⟩⟩)
    exact ⟨.ref l, H, I, rfl, q1 rfl⟩
  · exact op_repT pins s σ H x y v u Q I rx ry ⟨l, k, xs, hx, hy, hT, hne, by omega, h2, hz, q⟩
/-- len(o), o of a class with its own __len__ -/
def rLenOwn (C : Addr) (sp : Sp) : List V → Hp → VK → Prop := fun vs H Q => ∃ (a dx : Addr) (fs : List (Str × V)), vs = [.ref a] ∧ H a = some (.ins C dx fs) ∧ sp [.ref a] H (fun v H' => ∃ n : Int, v = .int n ∧ 0 ≤ n ∧ n < 2 ^ 63 ∧ Q (.int n) H') (fun _ _ _ => False)
theorem call_lenOwn {C f : Addr} {fd : FuncData} {ps : List Str} {sp : Sp} {k : Nat} (hm : Meth X.K C "__len__" f) (F : FnOk X.prog X.w X.K X.mg X.base CX0 k f fd ps sp) (hb : Binds X.K fd ps []) (hr : Room (k + 1) X.A) : CallR X (.builtin "len") (rLenOwn C sp) := by
  intro pins s σ H vs us Q I r h
  obtain ⟨a, dx, fs, rfl, ha, q⟩ := h
  rw [Vals.ref1 r]
  obtain ⟨mA, O, _⟩ := ins_get I.hok ha
  obtain ⟨od, J, _⟩ := O.look
  refine Calls.call_function_entry kind_len plain_len entry_len (args_len1 _) ?_
  unfold Builtin.«len»
  refine wpAny_bind (m := oneArg "len" _) (wpAny_pure ?_)
  have ty : PySem.W.typeIn X.K (.ref f) = some (.type "function") := beq_iff_eq.mp hm.fn
  refine wpAny_bind (m := callSpecial? (.ref a) (Str.ofString "__len__")) (PySem.W.special_fn I.kIn J hm.at_ ty ?_)
  refine wpAny_call (codeAny_mono (F.run X.A.in1 X.stack s H ⟨[.ref a], []⟩ [.ref a] [.ref a] _ _ hr.in1 I.env0.in1 (hb s [.ref a] I.kIn (F.len _ _ _ _ q)) (.cons rfl .nil) q) fun rr s1 hq => ?_)
  cases rr with
  | error e => exact hq.elim
  | ok fl =>
    cases fl with
    | ret u =>
      obtain ⟨v, H1, I1, rv, n, e, n0, n1, qq⟩ := I.after hq
      subst e
      obtain ⟨t, rfl⟩ := rv
      refine wpAny_bind (wpAny_holding (wpAny_pure ?_))
      refine wpAny_bind (wpAny_letGo ?_)
      show wpAny _ _ (if n < 0 then _ else _) _ _ _
      rw [if_neg (by omega)]
      show wpAny _ _ (if n ≥ 2 ^ 63 then _ else _) _ _ _
      rw [if_neg (by omega)]
      exact wpAny_bind (wpAny_mkInt (wpAny_pure ⟨_, rfl, .int n, H1, I1.tok _, ⟨_, rfl⟩, qq⟩))
    | next => exact hq.elim
    | brk => exact hq.elim
    | cont => exact hq.elim
end
end RL
/-! A set comprehension with two clauses whose items are ints. -/
namespace RL
open PySem PySem.Spec PyProof.Rows L2
section
variable {prog : Program} {w : World} {A : Around} {R : Result → Shared → Prop} {s : Shared} {el ta ia tb ib : Expr} {fa fb : List Expr} {sc : Scope} {pos : Pos} {it acc : Value} {env : Env}
/-- the expression -/
abbrev sc2E (el ta ia : Expr) (fa : List Expr) (tb ib : Expr) (fb : List Expr) (sc : Scope) (pos : Pos) : Expr := .SetComp el [⟨ta, ia, fa, 0⟩, ⟨tb, ib, fb, 0⟩] sc pos
/-- the tests of a clause -/
abbrev testsOf (fs : List Expr) (env : Env) : Sem Bool := forIn fs true fun c r => if r = true then do let ok ← isTrue c env (eval c env); pure (ForInStep.yield ok) else pure (ForInStep.yield r)
theorem turn2o : compTurn (sc2E el ta ia fa tb ib fb sc pos) 0 it acc env = (do
      standAt ia.pos
      match ← pyNext it with
      | none => pure (.done .next)
      | some v =>
        letOwnedTupleGo ta it v
        assign ta env v
        let ok ← testsOf fa env
        if ok then
          let x ← eval ib env
          standAt ib.pos
          let x ← foldedSetIterable ib env x
          let _ ← runOwn (.compStart (sc2E el ta ia fa tb ib fb sc pos) 1 (← holding [x] (pyIter x)) acc env) env
        again (.compLoop (sc2E el ta ia fa tb ib fb sc pos) 0 it acc env)) := by rfl
theorem turn2i : compTurn (sc2E el ta ia fa tb ib fb sc pos) 1 it acc env = (do
      standAt ib.pos
      match ← pyNext it with
      | none => pure (.done .next)
      | some v =>
        letOwnedTupleGo tb it v
        assign tb env v
        let ok ← testsOf fb env
        if ok then
          (do let v ← eval el env; standAt el.pos; let _ ← call (.builtin "set.add") [acc, v])
        again (.compLoop (sc2E el ta ia fa tb ib fb sc pos) 1 it acc env)) := by rfl
/-- what is noted where it raises -/
abbrev Nt (prog : Program) (w : World) (A : Around) (env : Env) (R : Result → Shared → Prop) : Value → Shared → Prop := notedBy (model prog w) A env fun e s' => R (.error e) s'
theorem loop2o (hs : ∀ x, foldedSetIterable ib env x = pure x) (J : Nat → Shared → Prop)
    (turn : ∀ n s, J n s → wpAny (model prog w) A (pyNext it) (fun r s1 => match r with
      | none => R (.ok .next) s1
      | some v => wpAny (model prog w) A (letOwnedTupleGo ta it v) (fun _ s2 => wpAny (model prog w) A (assign ta env v) (fun _ s3 => wpAny (model prog w) A (testsOf fa env) (fun ok s4 =>
            if ok = true then wpAny (model prog w) A (eval ib env) (fun x s5 => wpAny (model prog w) A (pyIter x) (fun jt s6 =>
              codeAny (model prog w) A (.compStart (sc2E el ta ia fa tb ib fb sc pos) 1 jt acc env) (fun r s' => match r with
                | .ok _ => ∃ m, m < n ∧ J m s'
                | .error _ => False) s6) (Nt prog w A env R) s5) (Nt prog w A env R) s4
            else ∃ m, m < n ∧ J m s4) (Nt prog w A env R) s3) (Nt prog w A env R) s2) (Nt prog w A env R) s1) (Nt prog w A env R) s)
    (n : Nat) (h : J n s) : codeAny (model prog w) A (.compLoop (sc2E el ta ia fa tb ib fb sc pos) 0 it acc env) R s := by
  refine codeAny_loop rfl J (fun n s hJ => ?_) n h
  show wpAny _ A ((compTurn (sc2E el ta ia fa tb ib fb sc pos) 0 it acc env).onRaise (fun x => do noteFrame x env; theTreesLotGoes x)) _ _ s
  refine wpAny_noted ?_
  rw [turn2o]
  refine wpAny_bind (wpAny_standAt (wpAny_bind (wpAny_mono (turn n s hJ) (fun r s1 h1 => ?_) fun _ _ z => z)))
  cases r with
  | none => exact wpAny_pure h1
  | some v =>
    refine wpAny_bind (wpAny_mono h1 (fun _ s2 h2 => wpAny_bind (wpAny_mono h2 (fun _ s3 h3 => wpAny_bind (wpAny_mono h3 (fun ok s4 h4 => ?_) fun _ _ z => z)) fun _ _ z => z)) fun _ _ z => z)
    cases ok with
    | false => exact wpAny_pure ⟨rfl, h4⟩
    | true =>
      refine wpAny_bind (wpAny_mono h4 (fun x s5 h5 => ?_) fun _ _ z => z)
      refine wpAny_bind (wpAny_standAt (wpAny_bind (wpAny_of_eq (hs x) (wpAny_bind (wpAny_holding (wpAny_mono h5 (fun jt s6 h6 => ?_) fun _ _ z => z))))))
      refine wpAny_bind (wpAny_runOwn ?_)
      rw [Around.mark_none]
      refine codeAny_mono h6 fun r s' hr => ?_
      cases r with
      | ok f =>
        first
          | exact wpAny_pure ⟨rfl, hr⟩
          | exact wpAny_bind (wpAny_pure (wpAny_pure ⟨rfl, hr⟩))
      | error e => exact hr.elim
theorem loop2i (J : Nat → Shared → Prop)
    (turn : ∀ n s, J n s → wpAny (model prog w) A (pyNext it) (fun r s1 => match r with
      | none => R (.ok .next) s1
      | some v => wpAny (model prog w) A (letOwnedTupleGo tb it v) (fun _ s2 => wpAny (model prog w) A (assign tb env v) (fun _ s3 => wpAny (model prog w) A (testsOf fb env) (fun ok s4 =>
            if ok = true then wpAny (model prog w) A (eval el env) (fun x s5 => wpAny (model prog w) A (call (.builtin "set.add") [acc, x]) (fun _ s6 => ∃ m, m < n ∧ J m s6) (Nt prog w A env R) s5) (Nt prog w A env R) s4
            else ∃ m, m < n ∧ J m s4) (Nt prog w A env R) s3) (Nt prog w A env R) s2) (Nt prog w A env R) s1) (Nt prog w A env R) s)
    (n : Nat) (h : J n s) : codeAny (model prog w) A (.compLoop (sc2E el ta ia fa tb ib fb sc pos) 1 it acc env) R s := by
  refine codeAny_loop rfl J (fun n s hJ => ?_) n h
  show wpAny _ A ((compTurn (sc2E el ta ia fa tb ib fb sc pos) 1 it acc env).onRaise (fun x => do noteFrame x env; theTreesLotGoes x)) _ _ s
  refine wpAny_noted ?_
  rw [turn2i]
  refine wpAny_bind (wpAny_standAt (wpAny_bind (wpAny_mono (turn n s hJ) (fun r s1 h1 => ?_) fun _ _ z => z)))
  cases r with
  | none => exact wpAny_pure h1
  | some v =>
    refine wpAny_bind (wpAny_mono h1 (fun _ s2 h2 => wpAny_bind (wpAny_mono h2 (fun _ s3 h3 => wpAny_bind (wpAny_mono h3 (fun ok s4 h4 => ?_) fun _ _ z => z)) fun _ _ z => z)) fun _ _ z => z)
    cases ok with
    | false => exact wpAny_pure ⟨rfl, h4⟩
    | true => exact wpAny_bind (wpAny_bind (wpAny_mono h4 (fun x s5 h5 => wpAny_bind (wpAny_standAt (wpAny_bind (wpAny_mono h5 (fun _ s6 h6 => wpAny_pure (wpAny_pure ⟨rfl, h6⟩)) fun _ _ z => z)))) fun _ _ z => z))
theorem start2 {k : Nat} (hk : k = 0 ∨ k = 1) (h0 : codeAny (model prog w) A (.compLoop (sc2E el ta ia fa tb ib fb sc pos) k it acc env) R s)
    (h : wpAny (model prog w) A (pyIter it) (fun jt s' => codeAny (model prog w) A (.compLoop (sc2E el ta ia fa tb ib fb sc pos) k jt acc env) R s') (Nt prog w A env R) s) :
    codeAny (model prog w) A (.compStart (sc2E el ta ia fa tb ib fb sc pos) k it acc env) R s := by
  refine codeAny_of_tree ?_
  show wpAny _ _ ((compStart (sc2E el ta ia fa tb ib fb sc pos) k it acc env).onRaise (fun x => do noteFrame x env; standAt theWindowsPlace)) _ _ s
  refine wpAny_notedAt ?_
  rcases hk with e | e
  all_goals
    subst e
    unfold compStart
    show wpAny _ _ (ask >>= _) _ _ s
    refine wpAny_bind (wpAny_askSetting (wpAny_ite ?_))
    split
    · first
        | exact wpAny_bind (wpAny_pure (wpAny_pure (And.intro rfl h0)))
        | exact wpAny_pure (And.intro rfl h0)
    · refine wpAny_bind (wpAny_rule ?_)
      first
        | (show wpAny _ _ (standAt ia.pos >>= _) _ _ s; exact wpAny_bind (wpAny_standAt (wpAny_bind (wpAny_mono h (fun jt s' h' => wpAny_pure (And.intro rfl h')) fun _ _ z => z))))
        | (show wpAny _ _ (standAt ib.pos >>= _) _ _ s; exact wpAny_bind (wpAny_standAt (wpAny_bind (wpAny_mono h (fun jt s' h' => wpAny_pure (And.intro rfl h')) fun _ _ z => z))))
end
end RL
namespace RL
open PySem PySem.Spec PyProof.Rows L2
section
variable {X : Cx}
theorem newSet_at {prog : Program} {w : World} {A : Around} {E : Value → Shared → Prop} {s : Shared} {Q : Value → Shared → Prop}
    (h : Q (.ref s.heap.objs.size) { s with heap := s.heap.push { cls := .type "set", dict := none, data := .set #[] 0 (.fresh 0 0 (!w.params.followText "set-order")) } }) : wpAny (model prog w) A (newSet (.type "set")) Q E s := PpSet.newSet_ok h
theorem addI {pins : List (Addr × Obj)} {σ : L2.St} {H : Hp} {s : Shared} {E : Value → Shared → Prop} {D : Addr} {S : Int → Bool} {n : Nat} {y : Int} {v : Value} {Q : Value → Shared → Prop} (I : L2.Inv X pins σ H s) (hD : H D = some (SetO X.w D S n)) (room : n + 1 < scanBound) (r : RelV (.int y) v)
    (h : ∀ s', L2.Inv X pins σ (upd H D (SetO X.w D (fun j => S j || decide (j = y)) (if S y = true then n else n + 1))) s' → Q .none s') : wpAny (model X.prog X.w) X.A (call (.builtin "set.add") [.ref D, v]) Q E s := by
  obtain ⟨tk, rfl⟩ := r
  have R := setO_get I hD
  refine setR_add R room fun h1 sb new => ?_
  have ex : ∃ u, h1.get? D = some u := by
    have ⟨o, _, _, _, ho, _⟩ := new
    exact ⟨o, ho⟩
  exact h _ (I.write (e := D) (t' := s.toks + 1) (by rw [hD]; trivial) (.inl rfl) (fun b u hb hu => (sb.2 b hb).trans hu) ex (setO_new new))
/-- the reading: D the new set, its members told by S -/
def tSc2 (w : World) (wa : TI) (ga : TG) (fa : TT) (wb : TI) (gb : TG) (fb : TT) (te : TE) (vs vb : List Nat) : TE := fun σ H Q => wa σ H fun J H1 => ∀ D, H1 D = none → ∃ W : Nat → Nat → Hp → Prop, (∃ m, W 0 m (upd H1 D (SetO w D (fun _ => false) 0))) ∧ ∀ i m H, W i m H →
  (J.stop i H ∧ Q (.ref D) H) ∨ (J.go i H ∧ ∃ Nx : Hp → Prop, (∀ H', Nx H' → ∃ m', m' < m ∧ W (i + 1) m' H') ∧ ∀ x H', J.yld i H x H' → ga x (wipe σ vs) H' fun σ2 H2 => wipe σ2 vs = wipe σ vs ∧ fa σ2 H2 fun b H3 =>
    if b = true then wb σ2 H3 fun J1 H4 => ∃ W1 : Nat → Nat → Hp → Prop, (∃ m, W1 0 m H4) ∧ ∀ j k H, W1 j k H →
      (J1.stop j H ∧ Nx H) ∨ (J1.go j H ∧ ∃ Ny : Hp → Prop, (∀ H', Ny H' → ∃ k', k' < k ∧ W1 (j + 1) k' H') ∧ ∀ x H', J1.yld j H x H' → gb x (wipe σ2 vb) H' fun σ3 H5 => wipe σ3 vb = wipe σ2 vb ∧ fb σ3 H5 fun b H6 =>
        if b = true then te σ3 H6 fun y H7 => ∃ (c : Int) (S : Int → Bool) (n : Nat), y = .int c ∧ H7 D = some (SetO w D S n) ∧ n + 1 < scanBound ∧ Ny (upd H7 D (SetO w D (fun j => S j || decide (j = c)) (if S c = true then n else n + 1))) else Ny H6)
    else Nx H3)
theorem pe_sc2 {el ta ia tb ib : Expr} {ea eb : List Expr} {sc : Scope} {own : List (Str × Nat)} {vs1 : List Nat} {pos : Pos} {wa wb : TI} {ga gb : TG} {fa fb : TT} {te : TE} (hc : X.calm = true) (hN : X.N.Nodup) (hi : PI X ta ia wa) (ok : BlkOk X.N X.env.scope sc own) (hv : ∀ i ∈ vs1, i ∈ own.map (·.2))
    (hg : ∀ (s : Shared) (H : Hp) (C : Addr) (cl : List (Str × Addr)) (fp : List Addr), PG (X.blk s H sc (compEnvC sc cl C X.env) fp) ta ga) (ht : ∀ (s : Shared) (H : Hp) (C : Addr) (cl : List (Str × Addr)) (fp : List Addr), PTs (X.blk s H sc (compEnvC sc cl C X.env) fp) ea fa)
    (hi1 : ∀ (s : Shared) (H : Hp) (C : Addr) (cl : List (Str × Addr)) (fp : List Addr), PI (X.blk s H sc (compEnvC sc cl C X.env) fp) tb ib wb)
    (hg1 : ∀ (s : Shared) (H : Hp) (C : Addr) (cl : List (Str × Addr)) (fp : List Addr), PG (X.blk s H sc (compEnvC sc cl C X.env) fp) tb gb) (ht1 : ∀ (s : Shared) (H : Hp) (C : Addr) (cl : List (Str × Addr)) (fp : List Addr), PTs (X.blk s H sc (compEnvC sc cl C X.env) fp) eb fb)
    (he : ∀ (s : Shared) (H : Hp) (C : Addr) (cl : List (Str × Addr)) (fp : List Addr), PE (X.blk s H sc (compEnvC sc cl C X.env) fp) el te) (hs : ∀ x, foldedSetIterable ia X.env x = pure x := by intro _; rfl) (hs1 : ∀ env x, foldedSetIterable ib env x = pure x := by intro _ _; rfl) :
    PE X (sc2E el ta ia ea tb ib eb sc pos) (tSc2 X.w wa ga fa wb gb fb te (own.map (·.2)) vs1) := by
  refine ⟨fun pins s σ H Q I h => ?_⟩
  rw [PpSet.eval_SetComp]
  have cells : ∀ y ∈ sc.names, y.2 = .free → ∃ c, X.env.cells.lookup y.1 = some c := fun y hy e => (ok.free y hy e).elim (fun k => I.ok.has _ (.inl k)) fun k => I.ok.has _ (.inr k)
  refine wpAny_comprehension_free (use := none) rfl hs (closure_ok cells) ok.kind (fun y hy e => by rw [ok.uniq y hy, e]) (thn (hi.run pins s σ H _ I h) fun xv s1 hx => thn hx fun itv s2 h2 => ?_)
  obtain ⟨it, fp, tn, J, H2, e, I2, T, st2, f2, q⟩ := h2
  subst e
  refine newSet_at (newEnv_comp ?_)
  generalize hD : s2.heap.objs.size = D
  obtain ⟨W, ⟨m0, w0⟩, turn⟩ := q D (I2.hok.fresh (Nat.le_of_eq hD))
  generalize ho : ({ cls := .type "set", dict := none, data := .set #[] 0 (.fresh 0 0 (!X.w.params.followText "set-order")) } : Obj) = oS
  generalize hs3 : ({ s2 with heap := s2.heap.push oS } : Shared) = s3
  have hp3 : s3.heap = s2.heap.push oS := by rw [← hs3]
  have I3 : L2.Inv X pins σ (upd H2 D (SetO X.w D (fun _ => false) 0)) s3 := by
    rw [← hs3]
    refine I2.laid (t' := s2.toks) (fun b o e => Heap.get?_push_of_some _ e) (Nat.le_of_eq hD) ?_
    have g : (s2.heap.push oS).get? D = some oS := by
      rw [← hD]
      exact Heap.get?_push_size _ (by rw [← ho]; rfl)
    rw [← ho] at g ⊢
    exact setO_new (by simpa using setR_new_at (ns := []) g)
  have small : ∀ b ∈ fp, b < s2.heap.objs.size := fun b hb => (T.obj _ _ st2 b hb).elim fun o e => Heap.lt_size e.1
  have f3 : ∀ b ∈ fp, FpOk X pins (upd H2 D (SetO X.w D (fun _ => false) 0)) b ∧ b < s3.heap.objs.size := fun b hb => by
    refine ⟨⟨?_, (f2 b hb).2⟩, by rw [hp3, Heap.size_push]; exact Nat.lt_succ_of_lt (small b hb)⟩
    rw [upd_ne (by rw [← hD]; exact Nat.ne_of_lt (small b hb))]
    exact (f2 b hb).1
  have st3 : tn 0 s3.heap := T.keep _ _ _ st2 fun b _ o e => by rw [hp3]; exact Heap.get?_push_of_some _ e
  have I4 := block_start I3 ok hN f3
  generalize hcs : cellsFrom (s3.heap.objs.size + 1) sc.names (cloFrom X.env.cells sc.names []) = cs at I4
  have pg := hg s3 (upd H2 D (SetO X.w D (fun _ => false) 0)) s3.heap.objs.size cs fp
  have pt := ht s3 (upd H2 D (SetO X.w D (fun _ => false) 0)) s3.heap.objs.size cs fp
  have pe := he s3 (upd H2 D (SetO X.w D (fun _ => false) 0)) s3.heap.objs.size cs fp
  have qi := hi1 s3 (upd H2 D (SetO X.w D (fun _ => false) 0)) s3.heap.objs.size cs fp
  have qg := hg1 s3 (upd H2 D (SetO X.w D (fun _ => false) 0)) s3.heap.objs.size cs fp
  have qt := ht1 s3 (upd H2 D (SetO X.w D (fun _ => false) 0)) s3.heap.objs.size cs fp
  show codeAny _ _ (.compStart (sc2E el ta ia ea tb ib eb sc pos) 0 (.ref it) (.ref D) (compEnvC sc cs s3.heap.objs.size X.env)) (compPost (model X.prog X.w) X.A X.xe none (EP X pins σ Q) (.ref D) s3.heap.objs.size) { s3 with heap := pushCells (s3.heap.push { cls := .type "dict", data := .dict #[] }) sc.names }
  have nfp : ∀ b ∈ fp, (upd H2 D (SetO X.w D (fun _ => false) 0)) b = none := fun b hb => (f3 b hb).1.1
  generalize hce : compEnvC sc cs s3.heap.objs.size X.env = ce at I4 pg pt pe qi qg qt ⊢
  have cL : ce.locals = s3.heap.objs.size := by subst hce; rfl
  generalize hH3 : upd H2 D (SetO X.w D (fun _ => false) 0) = H3 at I3 I4 pg pt pe qi qg qt w0 nfp f3
  generalize hs4 : ({ s3 with heap := pushCells (s3.heap.push { cls := .type "dict", data := .dict #[] }) sc.names } : Shared) = s4 at I4 ⊢
  have st4 : tn 0 s4.heap := T.keep _ _ _ st3 fun b _ o e => by rw [← hs4]; exact pushCells_keeps _ _ _ _ (Heap.get?_push_of_some _ e)
  generalize hv0 : wipe σ (own.map (·.2)) = σ0 at I4 turn
  have len0 : σ0.length = σ.length := by rw [← hv0, wipe_length]
  have stat : ∀ {τ : L2.St} {H' : Hp} {s' : Shared}, L2.Inv (X.blk s3 H3 sc ce fp) [] τ H' s' → (∀ b ∈ fp, H' b = none) → ∀ b ∈ fp, FpOk (X.blk s3 H3 sc ce fp) [] H' b := fun {τ H' s'} I' hn b hb =>
    ⟨hn b hb, (I'.ok.exf b hb).1, I'.ok.exfs b hb, .inl hb, fun x c e => (I'.ok.exf b hb).2 x c e, fun p hp => absurd (show p ∈ ([] : List (Addr × Obj)) ++ [] from hp) (by simp)⟩
  -- between the turns of the first clause
  let Jo : Nat → Shared → Prop := fun n s' => ∃ i H', L2.Inv (X.blk s3 H3 sc ce fp) [] σ0 H' s' ∧ tn i s'.heap ∧ (∀ b ∈ fp, H' b = none) ∧ W i n H'
  have main : codeAny (model X.prog X.w) X.A (.compLoop (sc2E el ta ia ea tb ib eb sc pos) 0 (.ref it) (.ref D) ce) (compPost (model X.prog X.w) X.A X.xe none (EP X pins σ Q) (.ref D) s3.heap.objs.size) s4 := by
    refine loop2o (hs1 ce) Jo ?_ m0 ⟨0, H3, I4, st4, nfp, w0⟩
    rintro n s5 ⟨i, H5, I5, st5, n5, w5⟩
    rcases turn i n H5 w5 with ⟨stop, qq⟩ | ⟨go, Nx, hNx, step⟩
    · refine thnF (T.done (X.blk s3 H3 sc ce fp) rfl rfl rfl hc i [] s5 _ H5 (fun _ _ => False) I5 (stat I5 n5) st5 stop) fun r s6 ⟨hr, I6⟩ => ?_
      subst hr
      have I7 : L2.Inv X pins σ H5 s6 := I3.call' (ch := fp) I6.os I6.base I6.hok I6.bare fun b hb => ⟨(f3 b hb).1.2.2.2.1, (f3 b hb).1.2.1, (f3 b hb).1.2.2.2.2.1, (f3 b hb).1.2.2.2.2.2⟩
      have nC : H5 s3.heap.objs.size = none := by
        rw [← cL]
        exact I6.free
      obtain ⟨m, hn, _⟩ := I6.loc
      have hn : s6.heap.Ns ce.locals m := hn
      rw [cL] at hn
      refine ⟨m, hn, fun h'' sb => ?_⟩
      obtain ⟨g0, g1, g2, g3, g4, g5⟩ := I3.fpOk (Nat.le_refl _) nC
      exact ⟨.ref D, H5, I7.turned (t' := s6.toks) (fun b o hb e => (sb.2 b hb).trans e) g0 g1 g3 g4 g5, rfl, qq⟩
    · refine thnF (T.item (X.blk s3 H3 sc ce fp) rfl rfl rfl hc i [] s5 _ H5 (fun _ _ => False) I5 (stat I5 n5) st5 go) fun r s6 ⟨u, hr, h6⟩ => ?_
      subst hr
      refine thnF h6 fun _ s7 ⟨x, H7, I7, r7, y7, st7, n7⟩ => ?_
      have I7p := I7.pinned (stat I7 n7) (T.obj _ _ st7)
      refine thnF (pg.run _ s7 _ H7 x u _ I7p r7 (step x H7 y7)) fun _ s8 ⟨σ8, H8, I8, hw8, q8⟩ => ?_
      refine thnF (pt.run _ s8 σ8 H8 _ I8 q8) fun b s9 ⟨H9, I9, q9⟩ => ?_
      have back : ∀ {τ : L2.St} {s' : Shared} {H' : Hp}, L2.Inv (X.blk s3 H3 sc ce fp) ([] ++ pinsAt fp s7.heap) τ H' s' → σ0.length = τ.length → (∀ (j : Nat) v, σ0[j]? = some (some v) → τ[j]? = some (some v)) → Nx H' → ∃ m, m < n ∧ Jo m s' := fun {τ s' H'} I' hl hk nx => by
        obtain ⟨m1, hm, w1⟩ := hNx H' nx
        have pin : ∀ b ∈ fp, ∀ o, s7.heap.get? b = some o → s'.heap.get? b = some o ∧ H' b = none := fun b hb o e =>
          let z := I'.pin (b, o) (List.mem_append_right _ (List.mem_append_right _ (mem_pinsAt hb e)))
          ⟨z.1, z.2.1⟩
        refine ⟨m1, hm, i + 1, H', (I'.unpinned (pins := [])).weak hl hk, T.keep _ _ _ st7 fun b hb o e => (pin b hb o e).1, fun b hb => ?_, w1⟩
        obtain ⟨o, e, _⟩ := T.obj _ _ st7 b hb
        exact (pin b hb o e).2
      have l8 : σ0.length = σ8.length := by rw [← hw8, wipe_length]
      have k8 : ∀ (j : Nat) v, σ0[j]? = some (some v) → σ8[j]? = some (some v) ∧ (wipe σ8 vs1)[j]? = some (some v) := fun j v e => by
        rw [← hw8] at e
        obtain ⟨e1, e2⟩ := wipe_some e
        refine ⟨e1, ?_⟩
        rw [wipe_out fun z => e2 (hv j z)]
        exact e1
      cases b with
      | false =>
        simp only [Bool.false_eq_true, if_false] at q9 ⊢
        exact back I9 l8 (fun j v e => (k8 j v e).1) q9
      | true =>
        simp only [if_true] at q9 ⊢
        refine thnF (qi.run _ s9 σ8 H9 _ I9 q9) fun xv s10 hx => thnF hx fun itv s11 h11 => ?_
        obtain ⟨jt, fq, tq, J1, H11, e1, I11, T1, st11, f11, W1, ⟨m1, w1⟩, turn1⟩ := h11
        subst e1
        have stat1 : ∀ {H' : Hp}, (∀ b ∈ fq, H' b = none) → ∀ b ∈ fq, FpOk (X.blk s3 H3 sc ce fp) ([] ++ pinsAt fp s7.heap) H' b := fun hn b hb => ⟨hn b hb, (f11 b hb).2⟩
        let Ji : Nat → Shared → Prop := fun k s' => ∃ j H', L2.Inv (X.blk s3 H3 sc ce fp) ([] ++ pinsAt fp s7.heap) (wipe σ8 vs1) H' s' ∧ tq j s'.heap ∧ (∀ b ∈ fq, H' b = none) ∧ W1 j k H'
        have inner : codeAny (model X.prog X.w) X.A (.compLoop (sc2E el ta ia ea tb ib eb sc pos) 1 (.ref jt) (.ref D) ce) (fun r s' => match r with
              | .ok _ => ∃ m, m < n ∧ Jo m s'
              | .error _ => False) s11 := by
          refine loop2i Ji ?_ m1 ⟨0, H11, I11.weak (wipe_length _ _) (fun j v e => (wipe_some e).1), st11, fun b hb => (f11 b hb).1, w1⟩
          rintro k s12 ⟨j, H12, I12, st12, n12, w12⟩
          rcases turn1 j k H12 w12 with ⟨stop1, nx1⟩ | ⟨go1, Ny, hNy, step1⟩
          · refine thnF (T1.done (X.blk s3 H3 sc ce fp) rfl rfl rfl hc j _ s12 (wipe σ8 vs1) H12 (fun _ _ => False) I12 (stat1 n12) st12 stop1) fun r s13 ⟨hr, I13⟩ => ?_
            subst hr
            exact back I13 (l8.trans (wipe_length σ8 vs1).symm) (fun j v e => (k8 j v e).2) nx1
          · refine thnF (T1.item (X.blk s3 H3 sc ce fp) rfl rfl rfl hc j _ s12 (wipe σ8 vs1) H12 (fun _ _ => False) I12 (stat1 n12) st12 go1) fun r s13 ⟨u1, hr, h13⟩ => ?_
            subst hr
            refine thnF h13 fun _ s14 ⟨x1, H14, I14, r14, y14, st14, n14⟩ => ?_
            have I14p := I14.pinned (stat1 n14) (T1.obj _ _ st14)
            refine thnF (qg.run _ s14 (wipe σ8 vs1) H14 x1 u1 _ I14p r14 (step1 x1 H14 y14)) fun _ s15 ⟨σ15, H15, I15, hw15, q15⟩ => ?_
            refine thnF (qt.run _ s15 σ15 H15 _ I15 q15) fun b1 s16 ⟨H16, I16, q16⟩ => ?_
            have back1 : ∀ {s' : Shared} {H' : Hp}, L2.Inv (X.blk s3 H3 sc ce fp) (([] ++ pinsAt fp s7.heap) ++ pinsAt fq s14.heap) σ15 H' s' → Ny H' → ∃ m, m < k ∧ Ji m s' := fun {s' H'} I' nx => by
              obtain ⟨m2, hm, w2⟩ := hNy H' nx
              have pin : ∀ b ∈ fq, ∀ o, s14.heap.get? b = some o → s'.heap.get? b = some o ∧ H' b = none := fun b hb o e =>
                let z := I'.pin (b, o) (List.mem_append_right _ (List.mem_append_right _ (mem_pinsAt hb e)))
                ⟨z.1, z.2.1⟩
              refine ⟨m2, hm, j + 1, H', I'.unpinned.weak (by rw [← hw15, wipe_length]) (fun j v e => by rw [← hw15] at e; exact (wipe_some e).1), T1.keep _ _ _ st14 fun b hb o e => (pin b hb o e).1, fun b hb => ?_, w2⟩
              obtain ⟨o, e, _⟩ := T1.obj _ _ st14 b hb
              exact (pin b hb o e).2
            cases b1 with
            | false =>
              simp only [Bool.false_eq_true, if_false] at q16 ⊢
              exact back1 I16 q16
            | true =>
              simp only [if_true] at q16 ⊢
              refine thnF (pe.run _ s16 σ15 H16 _ I16 q16) fun z s17 ⟨yv, H17, I17, r17, c, S, nn, ey, hD17, hz17, nx⟩ => ?_
              subst ey
              exact addI (X := X.blk s3 H3 sc ce fp) I17 hD17 hz17 r17 fun s18 I18 => back1 I18 nx
        exact start2 (.inr rfl) inner (T1.self X.A 0 _ _ _ st11 inner)
  exact start2 (.inl rfl) main (T.self X.A 0 _ _ _ st4 main)
end
end RL
/-! The same rules with the written part by its name, for use within a comprehension. -/
namespace RL
open PySem PySem.Spec PyProof.Rows L2
section
variable {X : Cx} {K : PySem.W.Frag}
theorem ixL (h : X.K = K := by rfl) : IxR X (rIxL K) := h ▸ ix_list
theorem ixS (h : X.K = K := by rfl) : IxR X (rIx K) := h ▸ ix_seq
theorem ixT (h : X.K = K := by rfl) : IxR X (rIxT K) := h ▸ ix_tup
theorem inSq (h : X.K = K := by rfl) : OpR X (compareOp .In) (rIn K false) := h ▸ op_in_seq
theorem neD (hu : X.A.units + 64 < cLine) (h : X.K = K := by rfl) : OpR X (compareOp .NotEq) (rNeD K) := h ▸ op_neD hu
theorem eqD (hu : X.A.units + 64 < cLine) (h : X.K = K := by rfl) : OpR X (compareOp .Eq) (rEqD K) := h ▸ op_eqD hu
def rLenK (K : PySem.W.Frag) : List V → Hp → VK → Prop := fun xs H Q => ∃ p ys, xs = [.ref p] ∧ (SqL K H p ys ∨ SqT K H p ys) ∧ Q (.int ys.length) H
theorem lenK (h : X.K = K := by rfl) : CallR X (.builtin "len") (rLenK K) := h ▸ call_len_seq
def rListK (K : PySem.W.Frag) : List V → Hp → VK → Prop := fun xs H Q => ∃ p ys, xs = [.ref p] ∧ (SqL K H p ys ∨ SqT K H p ys) ∧ ∀ l, H l = none → Q (.ref l) (upd H l (.lst ys))
theorem listK (h : X.K = K := by rfl) : CallR X (.type "list") (rListK K) := h ▸ call_list_of
def rTupK (K : PySem.W.Frag) : List V → Hp → VK → Prop := fun xs H Q => ∃ p ys, xs = [.ref p] ∧ ((SqL K H p ys ∧ ∀ l, H l = none → Q (.ref l) (upd H l (.tup ys))) ∨ (SqT K H p ys ∧ Q (.ref p) H))
theorem tupK (h : X.K = K := by rfl) : CallR X (.type "tuple") (rTupK K) := h ▸ call_tuple_of
theorem isiK (h : X.K = K := by rfl) : CallR X (.builtin "isinstance") (rIsi K) := h ▸ call_isi
theorem anyK (hc : X.calm = true := by rfl) (h : X.K = K := by rfl) : CallR X (.builtin "any") (rAny K) := h ▸ cr_any hc
theorem allK (hc : X.calm = true := by rfl) (h : X.K = K := by rfl) : CallR X (.builtin "all") (rAll K) := h ▸ cr_all hc
theorem slL (h : X.K = K := by rfl) : SlR X (rSlL K) := h ▸ sl_list
theorem sortTK (h : X.K = K := by rfl) : CallR X (.builtin "sorted") (rSortT K) := h ▸ cr_sortTup
theorem sortLK (h : X.K = K := by rfl) : CallR X (.builtin "sorted") (rSorted K) := h ▸ cr_sorted
theorem setTK {w : World} (hc : X.calm = true := by rfl) (hw : X.w = w := by rfl) (h : X.K = K := by rfl) : CallR X (.type "set") (rSetT w K) := hw ▸ h ▸ cr_setT hc
theorem sortS {w : World} (hc : X.calm = true := by rfl) (hw : X.w = w := by rfl) : CallR X (.builtin "sorted") (rSortedSet w) := hw ▸ cr_sortedSet hc
theorem tupIxK (h : X.K = K := by rfl) : MtR X "tuple.index" (rTupIx K) := h ▸ mt_tupIx
theorem repTK (h : X.K = K := by rfl) : OpR X (binaryOp .Mult) (rRepT1 K) := h ▸ op_repT1
theorem fldK {e : Expr} {ta : TE} {f : Str} {pos : Pos} (he : PE X e ta) (hb : attributeBase e f X.env (eval e X.env) = eval e X.env) (h : X.K = K := by rfl) : PE X (.Attribute e f pos) (tFld K ta f) := h ▸ pe_fld he hb
theorem piEnum {e : Expr} {ta : TA} {p pos tpos : Pos} {elts : List Expr} {kk : Nat} (hg : Gl X "enumerate") (hm : X.mg "enumerate" = none) (ha : PA X [e] ta) (hs : starEach [e] X.env = [(false, eval e X.env)] := by rfl) (h : X.K = K := by rfl) :
    PI X (.Tuple elts kk tpos) (.Call (.Name "enumerate" p) [e] [] pos) (iEnum K ta) := h ▸ pi_enum hg hm ha hs
theorem piEnumT {e : Expr} {ta : TA} {p pos tpos : Pos} {elts : List Expr} {kk : Nat} (hg : Gl X "enumerate") (hm : X.mg "enumerate" = none) (ha : PA X [e] ta) (hs : starEach [e] X.env = [(false, eval e X.env)] := by rfl) (h : X.K = K := by rfl) :
    PI X (.Tuple elts kk tpos) (.Call (.Name "enumerate" p) [e] [] pos) (iEnumT K ta) := h ▸ pi_enumT hg hm ha hs
theorem piL {tg l : Expr} {tl : TE} (hl : PE X l tl) (h : X.K = K := by rfl) : PI X tg l (iList K tl) := h ▸ pi_list hl
theorem piT {tg l : Expr} {tl : TE} (hl : PE X l tl) (h : X.K = K := by rfl) : PI X tg l (iTup K tl) := h ▸ pi_tup hl
theorem pgT {es : List Expr} {k : Nat} {t : TGs} {n : Nat} {pos : Pos} (hc : X.calm = true) (ht : PGs X es t) (hn : (assignEach es X.env).length = n := by rfl) (hst : (assignEach es X.env).findIdx? (·.1) = none := by rfl) (h : X.K = K := by rfl) : PG X (.Tuple es k pos) (gTup K n t) := h ▸ pg_tup hc ht hn hst
theorem bmK {T id : String} {name : Str} {r : V → List V → Hp → VK → Prop} {o e : Expr} {es : List Expr} {to : TE} {t : TA} {apos cpos : Pos} (pa : PlainAttrs T) (slot : Slot T name id) (hty : typeOf (.builtin id) = pure (.type "method_descriptor")) (hm : MtR X id r) (ho : PE X o to) (ha : PA X (e :: es) t)
    (hbase : attributeBase o name X.env (eval o X.env) = eval o X.env := by rfl)
    (hfew : ((backTo cpos (starEach (e :: es) X.env)).all (fun x => !x.1) && (backToKw cpos (keywordEach [] X.env)).all (fun x => x.1.isSome) && decide ((e :: es).length + ([] : List Keyword).length + (if ([] : List Keyword).isEmpty then 0 else 1) < 30)) = true := by rfl)
    (hline : (apos.endLine == cpos.line) = true := by rfl) (hs : starEach (e :: es) X.env = (false, eval e X.env) :: starEach es X.env := by rfl) (hplain : (backTo cpos (starEach es X.env)).any (·.1) = false := by rfl) (h : X.K = K := by rfl) :
    PE X (.Call (.Attribute o name apos) (e :: es) [] cpos) (tBM K T r to t) := h ▸ pe_bm pa slot hty hm ho ha hbase hfew hline hs hplain
end
end RL
/-! Sets of tuples of ints: set(), add, in. -/
namespace RL
open PySem PySem.Spec PyProof.Rows L2
section
variable {P : Program} {w : World} {A : Around} {E : Value → Shared → Prop} {s : Shared} {a : Addr} {L : List (Addr × List Int)} {es : Array (Int × Value)} {ep : Nat} {t : SetTable}
/-- the probe's stand at its c-th step -/
abbrev stAt (P : Program) (w : World) (t : SetTable) (k : List Int) (c : Nat) : SetTable.Probe := nth t.mask (runAt t.mask (SetTable.bits (thash P w k) % (t.mask + 1)) (SetTable.bits (thash P w k))) c
theorem stAt_dummy (k : List Int) (c : Nat) : (stAt P w t k c).dummy = none := by
  have key : ∀ (n : Nat) (p : SetTable.Probe), p.dummy = none → (nth t.mask p n).dummy = none := by
    intro n
    induction n with
    | zero => exact fun _ z => z
    | succ n ih =>
      intro p z
      refine ih (adv t.mask p) ?_
      unfold adv
      split <;> exact z
  exact key c _ rfl
theorem find_from (R : SetTR P w s.heap a L es ep t) {x : Addr} {k : List Int} (hx : IsT P w s.heap k x) (hu : A.units < cLine) {M : Nat} (hMf : M < 10 * SetTable.turns t.mask)
    (hM : way t.mask (thash P w k) M ∉ t.place.toList) (hMb : ∀ c, c < M → way t.mask (thash P w k) c ∈ t.place.toList) {Q : SetFound → Shared → Prop}
    (yes : ∀ i, k ∈ L.map (·.2) → Q (.there (some i)) s) (no : k ∉ L.map (·.2) → Q (.free (way t.mask (thash P w k) M) false) s) :
    ∀ (f c : Nat) (st : Option SetTable.Probe), st.getD (t.probeStart (thash P w k)) = stAt P w t k c → c ≤ M → M - c < f →
      (∀ (i : Nat) p, L[i]? = some p → p.2 = k → ∃ d, c ≤ d ∧ d < M ∧ t.place.toList[i]? = some (way t.mask (thash P w k) d)) →
      wpAny (model P w) A (setSearchFrom a (.ref x) (thash P w k) false f st) Q E s
  | 0, c, st, _, _, hf, _ => absurd hf (Nat.not_lt_zero _)
  | f + 1, c, st, hst, hcM, hf, ahead => by
    obtain ⟨o, ho, hex, hd⟩ := R.ob
    rw [setSearchFrom_succ]
    refine wpAny_bind (wpAny_setState_of ho hd R.fits ?_)
    dsimp only
    refine wp_if_neg R.gw ?_
    try refine wpAny_bind (wpAny_pure ?_)
    have sh : ∀ q, nth t.mask (stAt P w t k c) q = stAt P w t k (c + q) := fun q => (nth_add t.mask c _ q).symm
    have jj : ∀ q, (nth t.mask (stAt P w t k c) q).j = way t.mask (thash P w k) (c + q) := fun q => congrArg SetTable.Probe.j (sh q)
    have cM : c + (M - c) = M := by omega
    have spec := go_spec t R.tab.ris R.tab.dm (fun i => (es[i]?.map (·.1)).getD 0) (thash P w k) (10 * SetTable.turns t.mask) (M - c) _ (stAt_dummy k c) (by omega)
      (fun q hq => by rw [jj]; exact hMb (c + q) (by omega)) (by rw [jj, cM]; exact hM)
    have hashAt : ∀ (i : Nat) p, L[i]? = some p → (fun i => (es[i]?.map (·.1)).getD 0) i = thash P w p.2 := fun i p hp => by
      show (es[i]?.map (·.1)).getD 0 = _
      rw [R.entry hp]
      rfl
    rcases spec with ⟨q, i, hq, hi, hh, free, pr⟩ | ⟨free, pr⟩
    · have pr1 : t.probe (fun i => (es[i]?.map (·.1)).getD 0) (thash P w k) (st.getD (t.probeStart (thash P w k))) = some (.candidate (way t.mask (thash P w k) (c + q)) i (stAt P w t k (c + (q + 1)))) := by
        rw [hst, ← jj, ← sh]
        exact pr
      rw [pr1]
      dsimp only
      rw [jj] at hi
      have il : i < L.length := by
        have l1 : i < t.place.toList.length := (List.getElem?_eq_some_iff.mp hi).1
        have l2 := R.tab.sz
        rw [List.length_map] at l2
        rw [Array.length_toList] at l1
        omega
      obtain ⟨p, hp⟩ : ∃ p, L[i]? = some p := ⟨_, List.getElem?_eq_getElem il⟩
      have mp : p ∈ L := List.mem_of_getElem? hp
      have live : t.slot (way t.mask (thash P w k) (c + q)) = .live i := slot_live R.tab.ris hi
      have rest : wpAny (model P w) A (searchRest a (.ref x) (thash P w k) false f es t (way t.mask (thash P w k) (c + q)) i (stAt P w t k (c + (q + 1)))) Q E s := by
        unfold searchRest
        rw [R.entry hp]
        dsimp only
        refine wpAny_bind (wpAny_holding (wpAny_eqBool_tuple hu (R.tup p mp) hx ?_))
        refine wpAny_bind (wpAny_setState_of ho hd R.fits ?_)
        dsimp only
        refine wp_if_neg (by simp) ?_
        try refine wpAny_bind (wpAny_pure ?_)
        rw [sameMem]
        dsimp only
        simp only [if_true, live, R.entry hp]
        refine wpAny_bind (wpAny_isSame_ref_self (wpAny_bind (wpAny_pure ?_)))
        simp only [if_true]
        by_cases e : p.2 = k
        · refine wp_if_pos (by simp [e]) ?_
          exact wpAny_pure (yes i (List.mem_map.mpr ⟨p, mp, e⟩))
        · refine wp_if_neg (by simp [e]) ?_
          refine find_from R hx hu hMf hM hMb yes no f (c + (q + 1)) _ rfl (by omega) (by omega) fun i0 p0 h0 k0 => ?_
          obtain ⟨d, d1, d2, d3⟩ := ahead i0 p0 h0 k0
          refine ⟨d, ?_, d2, d3⟩
          have ne : d ≠ c + q := fun z => by
            rw [z] at d3
            have l0 := slot_live R.tab.ris d3
            rw [live] at l0
            injection l0 with l0
            rw [← l0, hp] at h0
            exact e ((congrArg Prod.snd (Option.some.inj h0)).trans k0)
          have ge : ¬ d < c + q := fun z => by
            refine free (d - c) i0 (by omega) (by rw [jj, show c + (d - c) = d by omega]; exact d3) ?_
            exact (hashAt i0 p0 h0).trans (congrArg (thash P w) k0)
          omega
      by_cases led : t.led = true
      · refine wp_if_neg (by simp [led]) ?_
        try refine wpAny_bind (wpAny_pure ?_)
        exact rest
      · refine wp_if_pos (by simp [led]) ?_
        refine wpAny_bind (seen_tup hx (fun y hy => ?_) ?_)
        · obtain ⟨e, he, ee⟩ := List.mem_map.mp hy
          have e1 : e ∈ es ∧ e.1 = thash P w k := by simpa using he
          have e2 : e ∈ es.toList := by simpa using e1.1
          rw [R.rows] at e2
          obtain ⟨p2, hp2, e3⟩ := List.mem_map.mp e2
          exact ⟨p2.2, p2.1, by rw [← ee, ← e3], R.tup p2 hp2⟩
        · refine wp_if_neg (by decide) ?_
          try refine wpAny_bind (wpAny_pure ?_)
          exact rest
    · have pr1 : t.probe (fun i => (es[i]?.map (·.1)).getD 0) (thash P w k) (st.getD (t.probeStart (thash P w k))) = some (.empty (way t.mask (thash P w k) M) none) := by
        have e2 : way t.mask (thash P w k) M = (nth t.mask (stAt P w t k c) (M - c)).j := by rw [jj, cM]
        rw [hst, e2]
        exact pr
      rw [pr1]
      dsimp only
      refine wpAny_pure (no fun hm => ?_)
      obtain ⟨p0, h0, k0⟩ := List.mem_map.mp hm
      obtain ⟨i0, hi0, e0⟩ := List.getElem_of_mem h0
      have h00 : L[i0]? = some p0 := by rw [List.getElem?_eq_getElem hi0, e0]
      obtain ⟨d, d1, d2, d3⟩ := ahead i0 p0 h00 k0
      refine free (d - c) i0 (by omega) (by rw [jj, show c + (d - c) = d by omega]; exact d3) ?_
      exact (hashAt i0 p0 h00).trans (congrArg (thash P w) k0)
theorem find_at (R : SetTR P w s.heap a L es ep t) {x : Addr} {k : List Int} (hx : IsT P w s.heap k x) (hu : A.units < cLine) {Q : Option Nat → Shared → Prop} (h : ∀ r : Option Nat, r.isSome = decide (k ∈ L.map (·.2)) → Q r s) :
    wpAny (model P w) A (setFind a (.ref x) (thash P w k)) Q E s := by
  have room := R.room
  obtain ⟨M, hMf, hM, hMb⟩ := R.tab.first (by rw [List.length_map]; omega) (thash P w k)
  have big : M < 100000 := by
    have : 10 * SetTable.turns t.mask ≤ 1420 := by
      unfold SetTable.turns
      rcases R.tab.mok with e | e | e <;> omega
    omega
  obtain ⟨o, ho, hex, hd⟩ := R.ob
  unfold setFind setFindIn
  refine wpAny_bind (wpAny_setState_of ho hd R.fits ?_)
  dsimp only
  have bs : byScan (.ref x) es = false := by rfl
  rw [bs]
  simp only [Bool.false_eq_true, if_false]
  unfold setSearch
  refine wpAny_bind (find_from R hx hu hMf hM hMb (fun i hm => wpAny_pure (h _ (by simp [hm]))) (fun hm => wpAny_pure (h _ (by simp [hm]))) 100000 0 none rfl (Nat.zero_le _) (by omega) fun i p hp hk => ?_)
  have hi : (L.map fun p => thash P w p.2)[i]? = some (thash P w k) := by
    rw [List.getElem?_map, hp, ← hk]
    rfl
  have il : i < t.place.toList.length := by
    have h1 : i < L.length := (List.getElem?_eq_some_iff.mp hp).1
    have h2 := R.tab.sz
    rw [List.length_map] at h2
    rw [Array.length_toList]
    omega
  have hj := List.getElem?_eq_getElem il
  obtain ⟨c, hc, e⟩ := R.tab.before hM hi hj
  exact ⟨c, Nat.zero_le _, hc, by rw [hj, e]⟩
end
section
variable {X : Cx} {K : PySem.W.Frag} {P : Program} {w : World}
/-- the set's tuples stand -/
def TupsAt (K : PySem.W.Frag) (H : Hp) (L : List (Addr × List Int)) : Prop := ∀ p ∈ L, SqT K H p.1 (p.2.map V.int)
theorem setTR_of {pins : List (Addr × Obj)} {σ : L2.St} {H : Hp} {s : Shared} {a : Addr} {L : List (Addr × List Int)} (I : L2.Inv X pins σ H s) (ha : H a = some (SetTO X.prog X.w a L)) (ht : TupsAt X.K H L) : ∃ es ep t, SetTR X.prog X.w s.heap a L es ep t :=
  SetT0.full (I.hok a _ ha).1 fun p hp => I.isT (ht p hp)
/-- set() that is to hold tuples -/
def rSet0T (P : Program) (w : World) : List V → Hp → VK → Prop := fun xs H Q => xs = [] ∧ ∀ p, H p = none → Q (.ref p) (upd H p (SetTO P w p []))
theorem set0T (hP : X.prog = P := by rfl) (hw : X.w = w := by rfl) : CallR X (.type "set") (rSet0T P w) := by
  subst hP hw
  intro pins s σ H xs us Q I r h
  obtain ⟨rfl, q⟩ := h
  cases r
  refine setR_new fun _ => ?_
  exact ⟨.ref _, _, I.laid (t' := s.toks) (fun b u e => Heap.get?_push_of_some _ e) (Nat.le_refl _) (setTO_new (setTR_fresh (Heap.get?_push_size _ rfl)).t0), rfl, q _ (I.hok.fresh (Nat.le_refl _))⟩
/-- t in seen -/
def rInT (K : PySem.W.Frag) (P : Program) (w : World) : R2 := fun x y H Q => ∃ (b a : Addr) (k : List Int) (L : List (Addr × List Int)), x = .ref b ∧ y = .ref a ∧ SqT K H b (k.map V.int) ∧ H a = some (SetTO P w a L) ∧ TupsAt K H L ∧ Q (.bl (decide (k ∈ L.map (·.2)))) H
theorem inT (hu : X.A.units + 64 < cLine) (hK : X.K = K := by rfl) (hP : X.prog = P := by rfl) (hw : X.w = w := by rfl) : OpR X (compareOp .In) (rInT K P w) := by
  subst hK hP hw
  intro pins s σ H x y v u Q I rx ry h
  obtain ⟨b, a, k, L, rfl, rfl, hb, ha, ht, q⟩ := h
  cases rx
  cases ry
  obtain ⟨es, ep, t, R⟩ := setTR_of I ha ht
  have hx := I.isT hb
  obtain ⟨o, ho, hex, hd⟩ := R.ob
  have ty : s.TypeIs (.ref a) "set" := ⟨o, ho, hex.1⟩
  show wpAny _ _ (do return Value.bool (← contains (.ref a) (.ref b))) _ _ s
  refine wpAny_bind ?_
  unfold contains
  try with_reducible refine wpAny_holding ?_
  refine wpAny_bind (wpAny_specialOf ty F.slot_set_contains.lookup ?_)
  show wpAny _ _ (if (some (Value.builtin "set.__contains__") == some Value.none) = true then _ else _) _ _ s
  rw [if_neg (by rw [beq_builtin_none]; exact Bool.false_ne_true)]
  refine wpAny_bind (wpAny_callSpecialUnlessNone?_slot (name := Str.ofString "__contains__") ty F.slot_set_contains
    (wpAny_call_entry F.slot_set_contains ty entry_set_contains ?_ (F.args_set_contains_2 _ _)))
  unfold Builtin.«frozenset.__contains__» Builtin.Frozenset.oneOther
  simp only [List.isEmpty_nil, bind_assoc]
  unfold Builtin.Frozenset.addrOf Builtin.Frozenset.withSetAsKey setContains
  refine wpAny_bind (wpAny_pure ?_)
  try dsimp only
  refine wpAny_bind (wpAny_pure ?_)
  try dsimp only
  refine wpAny_bind (wpAny_tryCatch ?_)
  refine wpAny_holding ?_
  have hu2 : X.A.in1.units < cLine := by
    show X.A.units + 1 < cLine
    omega
  refine wpAny_bind (wpAny_pyHash_tuple (by simpa using hu2) hx ?_)
  refine wpAny_bind (find_at (s := { s with toks := s.toks + (k.length + 1) }) R hx (by simpa using hu2) fun r hr => ?_)
  refine wpAny_pure ?_
  show wpAny _ _ (ret (Value.bool r.isSome)) _ _ _
  rw [hr]
  exact wpAny_pure ⟨_, rfl, wpAny_truthy_bool (wpAny_pure ⟨.bl _, H, I.tok _, rfl, q⟩)⟩
/-- seen.add(t) -/
def rAddT (K : PySem.W.Frag) (P : Program) (w : World) : V → List V → Hp → VK → Prop := fun x xs H Q => ∃ (a b : Addr) (k : List Int) (L : List (Addr × List Int)), x = .ref a ∧ xs = [.ref b] ∧ SqT K H b (k.map V.int) ∧ H a = some (SetTO P w a L) ∧ TupsAt K H L ∧ L.length < 63 ∧ k ∉ L.map (·.2) ∧
  ∀ L', L'.Perm ((b, k) :: L) → Q .non (upd H a (SetTO P w a L'))
def tAddT (K : PySem.W.Frag) (P : Program) (w : World) (to : TE) (t : TA) : TE := fun σ H Q => to σ H fun x H1 => (∃ a L, x = V.ref a ∧ H1 a = some (SetTO P w a L)) ∧ t σ H1 fun xs H2 => rAddT K P w x xs H2 Q
theorem addT (hu : X.A.units + 64 < cLine) (hK : X.K = K) (hP : X.prog = P) (hw : X.w = w) : MtR X "set.add" (rAddT K P w) := by
  subst hK hP hw
  intro pins s σ H x xs v us Q I rx rxs h
  obtain ⟨a, b, k, L, rfl, rfl, hb, ha, ht, few, nin, q⟩ := h
  cases rx
  rw [Vals.ref1 rxs]
  obtain ⟨es, ep, t, R⟩ := setTR_of I ha ht
  have hx := I.isT hb
  obtain ⟨o, ho, hex, hd⟩ := R.ob
  have ty : s.TypeIs (.ref a) "set" := ⟨o, ho, hex.1⟩
  refine wpAny_call_entry F.slot_set_add ty F.entry_set_add ?_ (F.args_set_add_2 _ _)
  unfold Builtin.«set.add» Builtin.Frozenset.oneOther
  simp only [List.isEmpty_nil, bind_assoc]
  unfold Builtin.Frozenset.addrOf setAdd
  refine wpAny_bind (wpAny_pure ?_)
  try dsimp only
  refine wpAny_bind (wpAny_pure ?_)
  try dsimp only
  have hu2 : X.A.in1.units < cLine := by
    show X.A.units + 1 < cLine
    omega
  refine wpAny_bind (wpAny_holding (wpAny_bind (wpAny_pyHash_tuple hu2 hx ?_)))
  refine add_at (s := { s with toks := s.toks + (k.length + 1) }) R hx hu2 (by omega) fun fl h1 L' es' ep' t' sb R' _ c2 => ?_
  show wpAny _ _ (ret Value.none) _ _ _
  have ex : ∃ u, h1.get? a = some u := by
    obtain ⟨o', ho', _⟩ := R'.ob
    exact ⟨o', ho'⟩
  refine wpAny_pure ⟨_, rfl, ?_⟩
  exact ⟨.non, _, I.write (e := a) (t' := s.toks + (k.length + 1)) (by rw [ha]; trivial) (.inl rfl) (fun c u hc hu => (sb.2 c hc).trans hu) ex (setTO_new R'.t0), rfl, q L' (c2 nin)⟩
theorem pe_addT {o e : Expr} {es : List Expr} {to : TE} {t : TA} {apos cpos : Pos} (hu : X.A.units + 64 < cLine) (ho : PE X o to) (ha : PA X (e :: es) t)
    (hbase : attributeBase o "add" X.env (eval o X.env) = eval o X.env := by rfl)
    (hfew : ((backTo cpos (starEach (e :: es) X.env)).all (fun x => !x.1) && (backToKw cpos (keywordEach [] X.env)).all (fun x => x.1.isSome) && decide ((e :: es).length + ([] : List Keyword).length + (if ([] : List Keyword).isEmpty then 0 else 1) < 30)) = true := by rfl)
    (hline : (apos.endLine == cpos.line) = true := by rfl) (hs : starEach (e :: es) X.env = (false, eval e X.env) :: starEach es X.env := by rfl) (hplain : (backTo cpos (starEach es X.env)).any (·.1) = false := by rfl) (hK : X.K = K := by rfl) (hP : X.prog = P := by rfl) (hw : X.w = w := by rfl) :
    PE X (.Call (.Attribute o "add" apos) (e :: es) [] cpos) (tAddT K P w to t) := by
  refine ⟨fun pins s σ H Q I h => ?_⟩
  refine wpAny_Call_method_late hbase hfew hline rfl (thn (ho.run pins s σ H _ I h) fun v s1 ⟨x, H1, I1, r1, ty, q1⟩ => ?_)
  obtain ⟨a, L, rfl, hka⟩ := ty
  cases r1
  subst hP hw
  obtain ⟨es1, ep1, t1, ⟨ob, hob, hex, hd⟩, _⟩ := SetT0.ex (I1.hok a _ hka).1
  refine ⟨"set", "set.add", F.plainAttrs_set, F.slot_set_add, F.type_set_add, ⟨ob, hob, hex.1⟩, fun b z => by injection z with z; subst z; exact ⟨ob, hob, hex.2.1⟩, ?_⟩
  have hA := ha.run cpos pins s1 σ H1 _ I1 q1
  rw [hs] at hA ⊢
  refine Calls.callWith_builtin (by show (false || (backTo cpos (starEach es X.env)).any (·.1)) = false; rw [hplain]; rfl) (Calls.evalArgs_plain ?_)
  exact thn hA fun us s2 ⟨vs, H2, I2, r2, q2⟩ => addT hu hK rfl rfl pins s2 σ H2 (.ref a) vs (.ref a) us Q I2 rfl r2 q2
theorem sortSetT (hc : X.calm = true := by rfl) (hK : X.K = K := by rfl) (hP : X.prog = P := by rfl) (hw : X.w = w := by rfl) : CallR X (.builtin "sorted") (rSortedT K P w) := by
  subst hK hP hw
  exact cr_sortedT hc
end
end RL
/-! A tuple whose object is known to have no dict of its own: made by tuple(list), asked for index. -/
namespace RL
open PySem PySem.Spec PyProof.Rows L2
section
variable {X : Cx} {K : PySem.W.Frag}
def rTupFz (K : PySem.W.Frag) : List V → Hp → VK → Prop := fun xs H Q => ∃ p ys, xs = [.ref p] ∧ SqL K H p ys ∧ ∀ (l : Addr) (o : Obj), H l = none → o.dict = none → Q (.ref l) (upd H l (.frz o (.tup ys)))
theorem tupFz (h : X.K = K := by rfl) : CallR X (.type "tuple") (rTupFz K) := by
  subst h
  intro pins s σ H xs us Q I r h
  obtain ⟨p, ys, rfl, hq, q⟩ := h
  rw [Vals.ref1 r]
  obtain ⟨its, rv, pl, hz⟩ := I.list hq
  have hlen := rv.length
  refine call_tuple_list pl.isList (fun h1 kp => ?_) (by rw [List.size_toArray]; omega)
  have I1 : L2.Inv X pins σ H { s with heap := h1 } := I.kept (t' := s.toks) kp
  have fr : H h1.objs.size = none := I1.hok.fresh (Nat.le_refl _)
  refine ⟨.ref h1.objs.size, upd H h1.objs.size (.frz { cls := .type "tuple", data := .seq its.toArray } (.tup ys)), I1.laid (t' := s.toks) (fun b o e => Heap.get?_push_of_some _ e) (Nat.le_refl _) ?_, rfl, q _ _ fr rfl⟩
  exact ⟨Heap.get?_push_size _ rfl, hz, its, rv, IsTup.new _ _⟩
def tTupIx (K : PySem.W.Frag) (to : TE) (t : TA) : TE := fun σ H Q => to σ H fun x H1 => (∃ a o xs, x = V.ref a ∧ H1 a = some (.frz o (.tup xs)) ∧ o.dict = none) ∧ t σ H1 fun xs H2 => rTupIx K x xs H2 Q
theorem pe_tupIx {o e : Expr} {es : List Expr} {to : TE} {t : TA} {apos cpos : Pos} (ho : PE X o to) (ha : PA X (e :: es) t)
    (hbase : attributeBase o "index" X.env (eval o X.env) = eval o X.env := by rfl)
    (hfew : ((backTo cpos (starEach (e :: es) X.env)).all (fun x => !x.1) && (backToKw cpos (keywordEach [] X.env)).all (fun x => x.1.isSome) && decide ((e :: es).length + ([] : List Keyword).length + (if ([] : List Keyword).isEmpty then 0 else 1) < 30)) = true := by rfl)
    (hline : (apos.endLine == cpos.line) = true := by rfl) (hs : starEach (e :: es) X.env = (false, eval e X.env) :: starEach es X.env := by rfl) (hplain : (backTo cpos (starEach es X.env)).any (·.1) = false := by rfl) (hK : X.K = K := by rfl) :
    PE X (.Call (.Attribute o "index" apos) (e :: es) [] cpos) (tTupIx K to t) := by
  subst hK
  refine ⟨fun pins s σ H Q I h => ?_⟩
  refine wpAny_Call_method_late hbase hfew hline rfl (thn (ho.run pins s σ H _ I h) fun v s1 ⟨x, H1, I1, r1, ty, q1⟩ => ?_)
  obtain ⟨a, ob, ys, rfl, hka, nd⟩ := ty
  cases r1
  obtain ⟨hob, _, its, rv, ⟨o2, ho2, hc2, _⟩⟩ := (show ObjOk X.prog X.w H1 s1.heap a (.frz ob (.tup ys)) from I1.hok a _ hka)
  refine ⟨"tuple", "tuple.index", F.plainAttrs_tuple, F.slot_tuple_index, F.type_tuple_index, ⟨o2, ho2, hc2⟩, fun b z => by injection z with z; subst z; exact ⟨ob, hob, nd⟩, ?_⟩
  have hA := ha.run cpos pins s1 σ H1 _ I1 q1
  rw [hs] at hA ⊢
  refine Calls.callWith_builtin (by show (false || (backTo cpos (starEach es X.env)).any (·.1)) = false; rw [hplain]; rfl) (Calls.evalArgs_plain ?_)
  exact thn hA fun us s2 ⟨vs, H2, I2, r2, q2⟩ => mt_tupIx pins s2 σ H2 (.ref a) vs (.ref a) us Q I2 rfl r2 q2
end
end RL
/-! what the law tells of an exception: its word, its field -/
namespace RL
open PySem PySem.Spec PyProof.Rows L2
section
variable {P : Program} {w : World} {K : PySem.W.Frag} {mg : Str → Option Value} {base : Heap}
theorem isXK {X : Cx} {a D dd : Addr} (E : RLX.ExA X a D dd) (C : ExcC K D) (h : X.K = K := by rfl) : CallR X (.builtin "isinstance") (RLX.rIsX K D a dd) := by
  subst h
  exact RLX.call_isX E C
theorem isXTK {X : Cx} {a D dd : Addr} (E : RLX.ExA X a D dd) (C : ExcC K D) (h : X.K = K := by rfl) : CallR X (.builtin "isinstance") (RLX.rIsXT K D a dd) := by
  subst h
  exact RLX.call_isXT E C
def fldN : List Str := ["word", "at", "name", "number", "most", "many", "beat", "count", "place", "hand"]
/-- an exception of the name n with the fields fs at dd -/
structure Exn (K : PySem.W.Frag) (n : Str) (D dd : Addr) (fs : List (Str × V)) (H : Hp) : Prop where
  at_ : D = He.ga K n
  ec : ExcC K D
  nw : PySem.W.findIn K (.ref D) "word" = some none
  no : ∀ f ∈ fldN, PySem.W.findIn K (.ref D) f = some none
  kit : ∀ m ∈ RLX.allX, PySem.W.kitOne K (.ref D) (.ref (He.ga K m)) = some (decide (m = n))
  flds : H dd = some (.xd fs)
theorem Exn.same {n : Str} {D dd : Addr} {fs : List (Str × V)} {H H' : Hp} (E : Exn K n D dd fs H) (s : Same H H') : Exn K n D dd fs H' := ⟨E.at_, E.ec, E.nw, E.no, E.kit, s _ _ E.flds⟩
def spFlags (K : PySem.W.Frag) : RLX.SpX := fun a D dd vs H Q => ∃ (n : Str) (fs : List (Str × V)), vs = [.ref a] ∧ Exn K n D dd fs H ∧ ∀ H' l, H l = none → H' l = some (.lst ((RLX.allX.map fun m => decide (m = n)).map V.bl)) → Same H H' → Q (.ref l) H'
theorem flag3 {n x y z : Str} {a l D dd : Addr} {fs : List (Str × V)} {H H1 : Hp} {Dn : Ends} {bs : List Bool} (En : Exn K n D dd fs H) (s : Same H H1) (hl : H1 l = some (.lst (bs.map V.bl))) (lb : bs.length ≤ 40) (mx : x ∈ RLX.allX) (my : y ∈ RLX.allX) (mz : z ∈ RLX.allX)
    (k : ∀ l' H2, H l' = none → H2 l' = some (.lst ((bs ++ [decide (x = n), decide (y = n), decide (z = n)]).map V.bl)) → Same H H2 → Dn.nx [some (.ref a), some (.ref l')] H2) :
    tAsg (tOp rCat (tVar 1) (tLst (tCons (tCB (RLX.rIsX K D a dd) (tCons (tVar 0) (tCons (tC (V.ref (He.ga K x))) tNil))) (tCons (tCB (RLX.rIsX K D a dd) (tCons (tVar 0) (tCons (tC (V.ref (He.ga K y))) tNil))) (tCons (tCB (RLX.rIsX K D a dd) (tCons (tVar 0) (tCons (tC (V.ref (He.ga K z))) tNil))) tNil))))) (gName 1) Dn [some (.ref a), some (.ref l)] H1 := by
  have E1 := En.same s
  refine ⟨_, rfl, ⟨_, rfl, _, _, _, rfl, E1.kit x mx, E1.flds, ⟨_, rfl, _, _, _, rfl, E1.kit y my, E1.flds, ⟨_, rfl, _, _, _, rfl, E1.kit z mz, E1.flds, (by show 3 ≤ sizeLine; decide), fun p np => ?_⟩⟩⟩⟩
  have s2 : Same H1 (upd H1 p (.lst [V.bl (decide (x = n)), .bl (decide (y = n)), .bl (decide (z = n))])) := fun b o hb => by
    rw [upd_ne (ne_of_none hb np)]
    exact hb
  refine ⟨l, p, bs.map V.bl, _, rfl, rfl, s2 _ _ hl, upd_same, ?_, fun q nq => ?_⟩
  · have e := List.length_map (f := V.bl) (as := bs)
    simp only [List.length_cons, List.length_nil, e, sizeLine_eq]
    omega
  · refine k q _ ((s.trans s2).free nq) (by rw [upd_same]; simp) fun b o hb => ?_
    have hb2 := (s.trans s2) _ _ hb
    rw [upd_ne (ne_of_none hb2 nq)]
    exact hb2
theorem flag1 {n x : Str} {a l D dd : Addr} {fs : List (Str × V)} {H H1 : Hp} {Dn : Ends} {bs : List Bool} (En : Exn K n D dd fs H) (s : Same H H1) (hl : H1 l = some (.lst (bs.map V.bl))) (lb : bs.length ≤ 40) (mx : x ∈ RLX.allX)
    (k : ∀ l' H2, H l' = none → H2 l' = some (.lst ((bs ++ [decide (x = n)]).map V.bl)) → Same H H2 → Dn.nx [some (.ref a), some (.ref l')] H2) :
    tAsg (tOp rCat (tVar 1) (tLst (tCons (tCB (RLX.rIsX K D a dd) (tCons (tVar 0) (tCons (tC (V.ref (He.ga K x))) tNil))) tNil))) (gName 1) Dn [some (.ref a), some (.ref l)] H1 := by
  have E1 := En.same s
  refine ⟨_, rfl, ⟨_, rfl, _, _, _, rfl, E1.kit x mx, E1.flds, (by show 1 ≤ sizeLine; decide), fun p np => ?_⟩⟩
  have s2 : Same H1 (upd H1 p (.lst [V.bl (decide (x = n))])) := fun b o hb => by
    rw [upd_ne (ne_of_none hb np)]
    exact hb
  refine ⟨l, p, bs.map V.bl, _, rfl, rfl, s2 _ _ hl, upd_same, ?_, fun q nq => ?_⟩
  · have e := List.length_map (f := V.bl) (as := bs)
    simp only [List.length_cons, List.length_nil, e, sizeLine_eq]
    omega
  · refine k q _ ((s.trans s2).free nq) (by rw [upd_same]; simp) fun b o hb => ?_
    have hb2 := (s.trans s2) _ _ hb
    rw [upd_ne (ne_of_none hb2 nq)]
    exact hb2
theorem sc__law_flags : FnScope ["_law_e", "_law_flags_here"] ["_law_e"] (defScope s__law_flags) := ⟨rfl, rfl, rfl, by decide +kernel, rfl, by decide +kernel, by decide +kernel⟩
theorem okx_flags (T : Tx K mg) : ∃ fd, RLX.FnX P w K mg base 1 (He.ga K "_law_flags") fd ["_law_e"] (spFlags K) ∧ Binds K fd ["_law_e"] [] := by
  obtain ⟨fd, F⟩ := T.d__law_flags
  refine ⟨fd, RLX.fnX_of F sc__law_flags (fun a D dd vs H Q h => ?_) (fun X a D dd H vs Q hX EX hr h => ?_), F.bindsN fun _ _ _ _ _ _ us hl => match us, hl with | [_], _ => rfl⟩
  · obtain ⟨n, fs, rfl, _⟩ := h
    rfl
  · obtain ⟨n, fs, rfl, En, h⟩ := h
    obtain ⟨cdv, A, outer, s, p, rfl⟩ := hX
    have EC := En.ec
    refine ⟨_, (pss_cons (ps_set (i := 1) sc__law_flags.nd rfl (Or.inl rfl) (pe_lst (pa_cons (pe_callB (isXK (K := K) EX EC) (by rfl) T.free_isinstance (by decide +kernel) (pa_cons (pv 0) (pa_cons (pe_glob (v := .ref (He.ga K "BadMany")) rfl T.glo_BadMany rfl) pa_nil))) (pa_cons (pe_callB (isXK (K := K) EX EC) (by rfl) T.free_isinstance (by decide +kernel) (pa_cons (pv 0) (pa_cons (pe_glob (v := .ref (He.ga K "BadWay")) rfl T.glo_BadWay rfl) pa_nil))) (pa_cons (pe_callB (isXK (K := K) EX EC) (by rfl) T.free_isinstance (by decide +kernel) (pa_cons (pv 0) (pa_cons (pe_glob (v := .ref (He.ga K "BadOrder")) rfl T.glo_BadOrder rfl) pa_nil))) pa_nil)))))
      (pss_cons (ps_set (i := 1) sc__law_flags.nd rfl (Or.inl rfl) (pe_op op_cat (pv 1) (pe_lst (pa_cons (pe_callB (isXK (K := K) EX EC) (by rfl) T.free_isinstance (by decide +kernel) (pa_cons (pv 0) (pa_cons (pe_glob (v := .ref (He.ga K "BadPace")) rfl T.glo_BadPace rfl) pa_nil))) (pa_cons (pe_callB (isXK (K := K) EX EC) (by rfl) T.free_isinstance (by decide +kernel) (pa_cons (pv 0) (pa_cons (pe_glob (v := .ref (He.ga K "BadLot")) rfl T.glo_BadLot rfl) pa_nil))) (pa_cons (pe_callB (isXK (K := K) EX EC) (by rfl) T.free_isinstance (by decide +kernel) (pa_cons (pv 0) (pa_cons (pe_glob (v := .ref (He.ga K "BadLook")) rfl T.glo_BadLook rfl) pa_nil))) pa_nil))))))
      (pss_cons (ps_set (i := 1) sc__law_flags.nd rfl (Or.inl rfl) (pe_op op_cat (pv 1) (pe_lst (pa_cons (pe_callB (isXK (K := K) EX EC) (by rfl) T.free_isinstance (by decide +kernel) (pa_cons (pv 0) (pa_cons (pe_glob (v := .ref (He.ga K "BadAnswer")) rfl T.glo_BadAnswer rfl) pa_nil))) (pa_cons (pe_callB (isXK (K := K) EX EC) (by rfl) T.free_isinstance (by decide +kernel) (pa_cons (pv 0) (pa_cons (pe_glob (v := .ref (He.ga K "BadStory")) rfl T.glo_BadStory rfl) pa_nil))) (pa_cons (pe_callB (isXK (K := K) EX EC) (by rfl) T.free_isinstance (by decide +kernel) (pa_cons (pv 0) (pa_cons (pe_glob (v := .ref (He.ga K "BadBeat")) rfl T.glo_BadBeat rfl) pa_nil))) pa_nil))))))
      (pss_cons (ps_set (i := 1) sc__law_flags.nd rfl (Or.inl rfl) (pe_op op_cat (pv 1) (pe_lst (pa_cons (pe_callB (isXK (K := K) EX EC) (by rfl) T.free_isinstance (by decide +kernel) (pa_cons (pv 0) (pa_cons (pe_glob (v := .ref (He.ga K "BadCount")) rfl T.glo_BadCount rfl) pa_nil))) (pa_cons (pe_callB (isXK (K := K) EX EC) (by rfl) T.free_isinstance (by decide +kernel) (pa_cons (pv 0) (pa_cons (pe_glob (v := .ref (He.ga K "BadHands")) rfl T.glo_BadHands rfl) pa_nil))) (pa_cons (pe_callB (isXK (K := K) EX EC) (by rfl) T.free_isinstance (by decide +kernel) (pa_cons (pv 0) (pa_cons (pe_glob (v := .ref (He.ga K "BadWish")) rfl T.glo_BadWish rfl) pa_nil))) pa_nil))))))
      (pss_cons (ps_set (i := 1) sc__law_flags.nd rfl (Or.inl rfl) (pe_op op_cat (pv 1) (pe_lst (pa_cons (pe_callB (isXK (K := K) EX EC) (by rfl) T.free_isinstance (by decide +kernel) (pa_cons (pv 0) (pa_cons (pe_glob (v := .ref (He.ga K "BadTalk")) rfl T.glo_BadTalk rfl) pa_nil))) (pa_cons (pe_callB (isXK (K := K) EX EC) (by rfl) T.free_isinstance (by decide +kernel) (pa_cons (pv 0) (pa_cons (pe_glob (v := .ref (He.ga K "BadLost")) rfl T.glo_BadLost rfl) pa_nil))) (pa_cons (pe_callB (isXK (K := K) EX EC) (by rfl) T.free_isinstance (by decide +kernel) (pa_cons (pv 0) (pa_cons (pe_glob (v := .ref (He.ga K "BadWorld")) rfl T.glo_BadWorld rfl) pa_nil))) pa_nil))))))
      (pss_cons (ps_set (i := 1) sc__law_flags.nd rfl (Or.inl rfl) (pe_op op_cat (pv 1) (pe_lst (pa_cons (pe_callB (isXK (K := K) EX EC) (by rfl) T.free_isinstance (by decide +kernel) (pa_cons (pv 0) (pa_cons (pe_glob (v := .ref (He.ga K "BadSaying")) rfl T.glo_BadSaying rfl) pa_nil))) (pa_cons (pe_callB (isXK (K := K) EX EC) (by rfl) T.free_isinstance (by decide +kernel) (pa_cons (pv 0) (pa_cons (pe_glob (v := .ref (He.ga K "TooMany")) rfl T.glo_TooMany rfl) pa_nil))) (pa_cons (pe_callB (isXK (K := K) EX EC) (by rfl) T.free_isinstance (by decide +kernel) (pa_cons (pv 0) (pa_cons (pe_glob (v := .ref (He.ga K "BadText")) rfl T.glo_BadText rfl) pa_nil))) pa_nil))))))
      (pss_cons (ps_set (i := 1) sc__law_flags.nd rfl (Or.inl rfl) (pe_op op_cat (pv 1) (pe_lst (pa_cons (pe_callB (isXK (K := K) EX EC) (by rfl) T.free_isinstance (by decide +kernel) (pa_cons (pv 0) (pa_cons (pe_glob (v := .ref (He.ga K "BadName")) rfl T.glo_BadName rfl) pa_nil))) (pa_cons (pe_callB (isXK (K := K) EX EC) (by rfl) T.free_isinstance (by decide +kernel) (pa_cons (pv 0) (pa_cons (pe_glob (v := .ref (He.ga K "Taken")) rfl T.glo_Taken rfl) pa_nil))) (pa_cons (pe_callB (isXK (K := K) EX EC) (by rfl) T.free_isinstance (by decide +kernel) (pa_cons (pv 0) (pa_cons (pe_glob (v := .ref (He.ga K "Full")) rfl T.glo_Full rfl) pa_nil))) pa_nil))))))
      (pss_cons (ps_set (i := 1) sc__law_flags.nd rfl (Or.inl rfl) (pe_op op_cat (pv 1) (pe_lst (pa_cons (pe_callB (isXK (K := K) EX EC) (by rfl) T.free_isinstance (by decide +kernel) (pa_cons (pv 0) (pa_cons (pe_glob (v := .ref (He.ga K "Unfit")) rfl T.glo_Unfit rfl) pa_nil))) (pa_cons (pe_callB (isXK (K := K) EX EC) (by rfl) T.free_isinstance (by decide +kernel) (pa_cons (pv 0) (pa_cons (pe_glob (v := .ref (He.ga K "Wrong")) rfl T.glo_Wrong rfl) pa_nil))) (pa_cons (pe_callB (isXK (K := K) EX EC) (by rfl) T.free_isinstance (by decide +kernel) (pa_cons (pv 0) (pa_cons (pe_glob (v := .ref (He.ga K "Right")) rfl T.glo_Right rfl) pa_nil))) pa_nil))))))
      (pss_cons (ps_set (i := 1) sc__law_flags.nd rfl (Or.inl rfl) (pe_op op_cat (pv 1) (pe_lst (pa_cons (pe_callB (isXK (K := K) EX EC) (by rfl) T.free_isinstance (by decide +kernel) (pa_cons (pv 0) (pa_cons (pe_glob (v := .ref (He.ga K "Late")) rfl T.glo_Late rfl) pa_nil))) (pa_cons (pe_callB (isXK (K := K) EX EC) (by rfl) T.free_isinstance (by decide +kernel) (pa_cons (pv 0) (pa_cons (pe_glob (v := .ref (He.ga K "BadDeed")) rfl T.glo_BadDeed rfl) pa_nil))) (pa_cons (pe_callB (isXK (K := K) EX EC) (by rfl) T.free_isinstance (by decide +kernel) (pa_cons (pv 0) (pa_cons (pe_glob (v := .ref (He.ga K "Broken")) rfl T.glo_Broken rfl) pa_nil))) pa_nil))))))
      (pss_cons (ps_set (i := 1) sc__law_flags.nd rfl (Or.inl rfl) (pe_op op_cat (pv 1) (pe_lst (pa_cons (pe_callB (isXK (K := K) EX EC) (by rfl) T.free_isinstance (by decide +kernel) (pa_cons (pv 0) (pa_cons (pe_glob (v := .ref (He.ga K "NoPlace")) rfl T.glo_NoPlace rfl) pa_nil))) (pa_cons (pe_callB (isXK (K := K) EX EC) (by rfl) T.free_isinstance (by decide +kernel) (pa_cons (pv 0) (pa_cons (pe_glob (v := .ref (He.ga K "NoNumber")) rfl T.glo_NoNumber rfl) pa_nil))) (pa_cons (pe_callB (isXK (K := K) EX EC) (by rfl) T.free_isinstance (by decide +kernel) (pa_cons (pv 0) (pa_cons (pe_glob (v := .ref (He.ga K "NoHand")) rfl T.glo_NoHand rfl) pa_nil))) pa_nil))))))
      (pss_cons (ps_set (i := 1) sc__law_flags.nd rfl (Or.inl rfl) (pe_op op_cat (pv 1) (pe_lst (pa_cons (pe_callB (isXK (K := K) EX EC) (by rfl) T.free_isinstance (by decide +kernel) (pa_cons (pv 0) (pa_cons (pe_glob (v := .ref (He.ga K "NoThing")) rfl T.glo_NoThing rfl) pa_nil))) (pa_cons (pe_callB (isXK (K := K) EX EC) (by rfl) T.free_isinstance (by decide +kernel) (pa_cons (pv 0) (pa_cons (pe_glob (v := .ref (He.ga K "NoLook")) rfl T.glo_NoLook rfl) pa_nil))) (pa_cons (pe_callB (isXK (K := K) EX EC) (by rfl) T.free_isinstance (by decide +kernel) (pa_cons (pv 0) (pa_cons (pe_glob (v := .ref (He.ga K "NoWish")) rfl T.glo_NoWish rfl) pa_nil))) pa_nil))))))
      (pss_cons (ps_set (i := 1) sc__law_flags.nd rfl (Or.inl rfl) (pe_op op_cat (pv 1) (pe_lst (pa_cons (pe_callB (isXK (K := K) EX EC) (by rfl) T.free_isinstance (by decide +kernel) (pa_cons (pv 0) (pa_cons (pe_glob (v := .ref (He.ga K "NothingLeft")) rfl T.glo_NothingLeft rfl) pa_nil))) pa_nil))))
      (pss_one (ps_ret (pv 1))))))))))))))), ?_⟩
    refine ⟨_, rfl, _, _, _, rfl, En.kit "BadMany" (by decide), En.flds, ⟨_, rfl, _, _, _, rfl, En.kit "BadWay" (by decide), En.flds, ⟨_, rfl, _, _, _, rfl, En.kit "BadOrder" (by decide), En.flds, (by show 3 ≤ sizeLine; decide), fun l0 n0 => ?_⟩⟩⟩
    have s0 : Same H (upd H l0 (.lst [V.bl (decide ("BadMany" = n)), .bl (decide ("BadWay" = n)), .bl (decide ("BadOrder" = n))])) := fun b o hb => by
      rw [upd_ne (ne_of_none hb n0)]
      exact hb
    have h0 : (upd H l0 (.lst [V.bl (decide ("BadMany" = n)), .bl (decide ("BadWay" = n)), .bl (decide ("BadOrder" = n))])) l0 = some (.lst ([decide (("BadMany" : Str) = n), decide (("BadWay" : Str) = n), decide (("BadOrder" : Str) = n)].map V.bl)) := upd_same
    refine flag3 (x := "BadPace") (y := "BadLot") (z := "BadLook") En s0 h0 (by simp) (by decide) (by decide) (by decide) fun l1 H1 n1 h1 s1 => ?_
    refine flag3 (x := "BadAnswer") (y := "BadStory") (z := "BadBeat") En s1 h1 (by simp) (by decide) (by decide) (by decide) fun l2 H2 n2 h2 s2 => ?_
    refine flag3 (x := "BadCount") (y := "BadHands") (z := "BadWish") En s2 h2 (by simp) (by decide) (by decide) (by decide) fun l3 H3 n3 h3 s3 => ?_
    refine flag3 (x := "BadTalk") (y := "BadLost") (z := "BadWorld") En s3 h3 (by simp) (by decide) (by decide) (by decide) fun l4 H4 n4 h4 s4 => ?_
    refine flag3 (x := "BadSaying") (y := "TooMany") (z := "BadText") En s4 h4 (by simp) (by decide) (by decide) (by decide) fun l5 H5 n5 h5 s5 => ?_
    refine flag3 (x := "BadName") (y := "Taken") (z := "Full") En s5 h5 (by simp) (by decide) (by decide) (by decide) fun l6 H6 n6 h6 s6 => ?_
    refine flag3 (x := "Unfit") (y := "Wrong") (z := "Right") En s6 h6 (by simp) (by decide) (by decide) (by decide) fun l7 H7 n7 h7 s7 => ?_
    refine flag3 (x := "Late") (y := "BadDeed") (z := "Broken") En s7 h7 (by simp) (by decide) (by decide) (by decide) fun l8 H8 n8 h8 s8 => ?_
    refine flag3 (x := "NoPlace") (y := "NoNumber") (z := "NoHand") En s8 h8 (by simp) (by decide) (by decide) (by decide) fun l9 H9 n9 h9 s9 => ?_
    refine flag3 (x := "NoThing") (y := "NoLook") (z := "NoWish") En s9 h9 (by simp) (by decide) (by decide) (by decide) fun l10 H10 n10 h10 s10 => ?_
    refine flag1 (x := "NothingLeft") En s10 h10 (by simp) (by decide) fun l11 H11 n11 h11 s11 => ?_
    refine ⟨_, rfl, h H11 l11 n11 ?_ s11⟩
    rw [h11]
    rfl
theorem words_split : Txt.split ((("BadMany BadWay BadOrder BadPace BadLot BadLook BadAnswer BadStory BadBeat BadCount BadHands BadWish" : Str) ++ (" BadTalk BadLost BadWorld BadSaying TooMany BadText BadName Taken Full Unfit Wrong" : Str)) ++ (" Right Late BadDeed Broken NoPlace NoNumber NoHand NoThing NoLook NoWish NothingLeft" : Str)) " " = RLX.allX := by decide +kernel
theorem sel_one : ∀ n ∈ RLX.allX, RLH.sel RLX.allX (RLX.allX.map fun m => decide (m = n)) = [n] := by decide +kernel
theorem join_one : ∀ n ∈ RLX.allX, Txt.join "+" [n] = n ∧ n.length ≤ 100 := by decide +kernel
/-- the word -/
def spWord (K : PySem.W.Frag) : RLX.SpX := fun a D dd vs H Q => ∃ (n : Str) (fs : List (Str × V)), vs = [.ref a] ∧ n ∈ RLX.allX ∧ fs.lookup ("word" : Str) = some (V.str n) ∧ Exn K n D dd fs H ∧ ∀ H', Same H H' → Q (.str n) H'
theorem sc__law_word : FnScope ["_law_e", "_law_words", "_law_found", "_law_word_here", "_law_here"] ["_law_e"] (defScope s__law_word) := ⟨rfl, rfl, rfl, by decide +kernel, rfl, by decide +kernel, by decide +kernel⟩
theorem okx_word (T : Tx K mg) : ∃ fd, RLX.FnX P w K mg base 2 (He.ga K "_law_word") fd ["_law_e"] (spWord K) ∧ Binds K fd ["_law_e"] [] := by
  obtain ⟨fd_f, F_f, b_f⟩ := okx_flags (P := P) (w := w) (base := base) T
  obtain ⟨fd, F⟩ := T.d__law_word
  refine ⟨fd, RLX.fnX_of F sc__law_word (fun a D dd vs H Q h => ?_) (fun X a D dd H vs Q hX EX hr h => ?_), F.bindsN fun _ _ _ _ _ _ us hl => match us, hl with | [_], _ => rfl⟩
  · obtain ⟨n, fs, rfl, _⟩ := h
    rfl
  · obtain ⟨n, fs, rfl, hn, hw, En, h⟩ := h
    obtain ⟨cdv, A, outer, s, p, rfl⟩ := hX
    have EC := En.ec
    have hrf : L2H.RoomH 1 _ := hr
    have kf : PySem.W.keepIn K (.ref (He.ga K "_law_flags")) = true := by
      obtain ⟨fd', F'⟩ := T.d__law_flags
      exact F'.kp
    refine ⟨_, (pss_cons (ps_set (i := 1) sc__law_word.nd rfl (Or.inl rfl) pe_str)
      (pss_cons (ps_set (i := 1) sc__law_word.nd rfl (Or.inl rfl) (pe_op op_add_str (pv 1) pe_str))
      (pss_cons (ps_set (i := 1) sc__law_word.nd rfl (Or.inl rfl) (pe_op op_add_str (pv 1) pe_str))
      (pss_cons (ps_set (i := 2) sc__law_word.nd rfl (Or.inl rfl) (pe_join pe_str (RLH.pe_lczH (xn := "_law_word_here") (yn := "_law_here") (i := 3) (j := 4) EX.hotC sc__law_word.nd (by decide) rfl rfl rfl T.free_zip (pa_cons (pe_split (pv 1) pe_str) (pa_cons (RLX.pe_callX F_f hrf EX rfl T.glo_law_flags kf b_f (pa_cons (pv 0) pa_nil)) pa_nil)) (blkOk_by (by kernel_rfl)) (Or.inl (by kernel_rfl)) (Or.inl (by kernel_rfl)) (by kernel_rfl) (by kernel_rfl) (by decide) (by decide) (by decide) (by decide))))
      (pss_one (ps_ret (pe_ifExp (pt_cmpR op_eq (RLX.pe_fldX EX EC En.nw (pv 0)) (pv 2) (nomark _)) (pv 2) (pe_op op_add_str (pv 2) pe_str)))))))), ?_⟩
    refine ⟨_, rfl, _, _, rfl, rfl, by decide +kernel, ⟨_, rfl, _, _, rfl, rfl, by decide +kernel, ?_⟩⟩
    refine ⟨⟨_, rfl⟩, ⟨_, rfl, ⟨_, rfl⟩, _, _, rfl, rfl, by decide +kernel, by decide +kernel, fun q nq => ?_⟩⟩
    rw [words_split]
    have s1 : Same H (upd H q (.lst (RLX.allX.map V.str))) := fun b o hb => by
      rw [upd_ne (ne_of_none hb nq)]
      exact hb
    have hq1 : (upd H q (.lst (RLX.allX.map V.str))) q = some (.lst (RLX.allX.map V.str)) := upd_same
    generalize upd H q (.lst (RLX.allX.map V.str)) = H1 at s1 hq1
    refine ⟨_, rfl, n, fs, rfl, En.same s1, fun H2 l nl hl s2 => ?_⟩
    refine ⟨q, l, RLX.allX, _, rfl, SqL.of (s2 _ _ hq1), SqL.of hl, by rw [List.length_map], fun Dl nD => ?_⟩
    rw [sel_one n hn]
    have s3 : Same H2 (upd H2 Dl (.lst ([n].map V.str))) := fun b o hb => by
      rw [upd_ne (ne_of_none hb nD)]
      exact hb
    have j1 := join_one n hn
    have j2 := j1.2
    have plus : ("+" : Str).length = 1 := by decide +kernel
    refine ⟨_, _, [n], rfl, rfl, .inl (SqL.of upd_same), by simp; omega, ?_⟩
    rw [j1.1]
    have E3 := En.same ((s1.trans s2).trans s3)
    refine ⟨_, rfl, fs, .str n, rfl, E3.flds, hw, _, rfl, rfl, _, rfl, ?_⟩
    rw [decide_eq_true rfl]
    exact iteT ⟨_, rfl, h _ ((s1.trans s2).trans s3)⟩
/-- the field -/
def fldOf (n : Str) : Option Str :=
  if n ∈ (["BadWay", "BadStory", "BadHands", "BadTalk", "BadText", "Unfit", "Broken"] : List Str) then some ("at" : Str) else if n ∈ (["BadName", "Taken", "NoThing", "NoWish"] : List Str) then some ("name" : Str) else if n ∈ (["Wrong", "Right", "NoNumber", "NoLook"] : List Str) then some ("number" : Str) else if n ∈ (["BadWish", "TooMany"] : List Str) then some ("most" : Str)
  else if n = "BadMany" then some ("many" : Str) else if n = "BadBeat" then some ("beat" : Str) else if n = "BadCount" then some ("count" : Str) else if n = "NoPlace" then some ("place" : Str) else if n = "NoHand" then some ("hand" : Str) else none
def spField (K : PySem.W.Frag) : RLX.SpX := fun a D dd vs H Q => ∃ (n : Str) (fs : List (Str × V)) (v : V), vs = [.ref a] ∧ Exn K n D dd fs H ∧ (match fldOf n with | some f => fs.lookup f = some v | none => v = .non) ∧ ∀ H', Same H H' → Q v H'
theorem sn {H H1 : Hp} {t : Addr} {o : HO} (s : Same H H1) (nt : H1 t = none) : Same H (upd H1 t o) := fun b u hb => by
  have hb' := s _ _ hb
  rw [upd_ne (ne_of_none hb' nt)]
  exact hb'
theorem kaT {n : Str} {D dd : Addr} {fs : List (Str × V)} {H : Hp} (En : Exn K n D dd fs H) (ms : List Str) (hms : ∀ m ∈ ms, m ∈ RLX.allX) : PySem.W.kitAny K (.ref D) ((ms.map (He.ga K)).map Value.ref) = some (decide (n ∈ ms)) := by
  have ka := RLX.kitAny_of (K := K) (n := n) (ms := ms) fun m hm => by
    have := En.kit m (hms m hm)
    rw [En.at_] at this
    exact this
  rw [En.at_]
  exact ka
theorem sc__law_field : FnScope ["_law_e"] ["_law_e"] (defScope s__law_field) := ⟨rfl, rfl, rfl, by decide +kernel, rfl, by decide +kernel, by decide +kernel⟩
theorem okx_field (T : Tx K mg) : ∃ fd, RLX.FnX P w K mg base 1 (He.ga K "_law_field") fd ["_law_e"] (spField K) ∧ Binds K fd ["_law_e"] [] := by
  obtain ⟨fd, F⟩ := T.d__law_field
  refine ⟨fd, RLX.fnX_of F sc__law_field (fun a D dd vs H Q h => ?_) (fun X a D dd H vs Q hX EX hr h => ?_), F.bindsN fun _ _ _ _ _ _ us hl => match us, hl with | [_], _ => rfl⟩
  · obtain ⟨n, fs, v, rfl, _⟩ := h
    rfl
  · obtain ⟨n, fs, v, rfl, En, hv, h⟩ := h
    obtain ⟨cdv, A, outer, s, p, rfl⟩ := hX
    have EC := En.ec
    refine ⟨_, (pss_cons (ps_if (pt_val (pe_callB (isXTK (K := K) EX EC) (by rfl) T.free_isinstance (by decide +kernel) (pa_cons (pv 0) (pa_cons (pe_tup (pa_cons (pe_glob (v := .ref (He.ga K "BadWay")) rfl T.glo_BadWay rfl) (pa_cons (pe_glob (v := .ref (He.ga K "BadStory")) rfl T.glo_BadStory rfl) (pa_cons (pe_glob (v := .ref (He.ga K "BadHands")) rfl T.glo_BadHands rfl) (pa_cons (pe_glob (v := .ref (He.ga K "BadTalk")) rfl T.glo_BadTalk rfl) (pa_cons (pe_glob (v := .ref (He.ga K "BadText")) rfl T.glo_BadText rfl) (pa_cons (pe_glob (v := .ref (He.ga K "Unfit")) rfl T.glo_Unfit rfl) (pa_cons (pe_glob (v := .ref (He.ga K "Broken")) rfl T.glo_Broken rfl) pa_nil)))))))) pa_nil)))) (pss_one (ps_ret (RLX.pe_fldX EX EC (En.no "at" (by decide)) (pv 0)))) pss_nil)
      (pss_cons (ps_if (pt_val (pe_callB (isXTK (K := K) EX EC) (by rfl) T.free_isinstance (by decide +kernel) (pa_cons (pv 0) (pa_cons (pe_tup (pa_cons (pe_glob (v := .ref (He.ga K "BadName")) rfl T.glo_BadName rfl) (pa_cons (pe_glob (v := .ref (He.ga K "Taken")) rfl T.glo_Taken rfl) (pa_cons (pe_glob (v := .ref (He.ga K "NoThing")) rfl T.glo_NoThing rfl) (pa_cons (pe_glob (v := .ref (He.ga K "NoWish")) rfl T.glo_NoWish rfl) pa_nil))))) pa_nil)))) (pss_one (ps_ret (RLX.pe_fldX EX EC (En.no "name" (by decide)) (pv 0)))) pss_nil)
      (pss_cons (ps_if (pt_val (pe_callB (isXTK (K := K) EX EC) (by rfl) T.free_isinstance (by decide +kernel) (pa_cons (pv 0) (pa_cons (pe_tup (pa_cons (pe_glob (v := .ref (He.ga K "Wrong")) rfl T.glo_Wrong rfl) (pa_cons (pe_glob (v := .ref (He.ga K "Right")) rfl T.glo_Right rfl) (pa_cons (pe_glob (v := .ref (He.ga K "NoNumber")) rfl T.glo_NoNumber rfl) (pa_cons (pe_glob (v := .ref (He.ga K "NoLook")) rfl T.glo_NoLook rfl) pa_nil))))) pa_nil)))) (pss_one (ps_ret (RLX.pe_fldX EX EC (En.no "number" (by decide)) (pv 0)))) pss_nil)
      (pss_cons (ps_if (pt_val (pe_callB (isXTK (K := K) EX EC) (by rfl) T.free_isinstance (by decide +kernel) (pa_cons (pv 0) (pa_cons (pe_tup (pa_cons (pe_glob (v := .ref (He.ga K "BadWish")) rfl T.glo_BadWish rfl) (pa_cons (pe_glob (v := .ref (He.ga K "TooMany")) rfl T.glo_TooMany rfl) pa_nil))) pa_nil)))) (pss_one (ps_ret (RLX.pe_fldX EX EC (En.no "most" (by decide)) (pv 0)))) pss_nil)
      (pss_cons (ps_if (pt_val (pe_callB (isXK (K := K) EX EC) (by rfl) T.free_isinstance (by decide +kernel) (pa_cons (pv 0) (pa_cons (pe_glob (v := .ref (He.ga K "BadMany")) rfl T.glo_BadMany rfl) pa_nil)))) (pss_one (ps_ret (RLX.pe_fldX EX EC (En.no "many" (by decide)) (pv 0)))) pss_nil)
      (pss_cons (ps_if (pt_val (pe_callB (isXK (K := K) EX EC) (by rfl) T.free_isinstance (by decide +kernel) (pa_cons (pv 0) (pa_cons (pe_glob (v := .ref (He.ga K "BadBeat")) rfl T.glo_BadBeat rfl) pa_nil)))) (pss_one (ps_ret (RLX.pe_fldX EX EC (En.no "beat" (by decide)) (pv 0)))) pss_nil)
      (pss_cons (ps_if (pt_val (pe_callB (isXK (K := K) EX EC) (by rfl) T.free_isinstance (by decide +kernel) (pa_cons (pv 0) (pa_cons (pe_glob (v := .ref (He.ga K "BadCount")) rfl T.glo_BadCount rfl) pa_nil)))) (pss_one (ps_ret (RLX.pe_fldX EX EC (En.no "count" (by decide)) (pv 0)))) pss_nil)
      (pss_cons (ps_if (pt_val (pe_callB (isXK (K := K) EX EC) (by rfl) T.free_isinstance (by decide +kernel) (pa_cons (pv 0) (pa_cons (pe_glob (v := .ref (He.ga K "NoPlace")) rfl T.glo_NoPlace rfl) pa_nil)))) (pss_one (ps_ret (RLX.pe_fldX EX EC (En.no "place" (by decide)) (pv 0)))) pss_nil)
      (pss_one (ps_ret (pe_ifExp (pt_val (pe_callB (isXK (K := K) EX EC) (by rfl) T.free_isinstance (by decide +kernel) (pa_cons (pv 0) (pa_cons (pe_glob (v := .ref (He.ga K "NoHand")) rfl T.glo_NoHand rfl) pa_nil)))) (RLX.pe_fldX EX EC (En.no "hand" (by decide)) (pv 0)) pe_non))))))))))), ?_⟩
    refine ⟨_, rfl, (by show 7 ≤ sizeLine; decide), fun t1 n1 => ?_⟩
    refine ⟨t1, _, _, fs, rfl, upd_same, kaT En ["BadWay", "BadStory", "BadHands", "BadTalk", "BadText", "Unfit", "Broken"] (by decide), (En.same (sn (Same.refl H) n1)).flds, _, rfl, ?_⟩
    by_cases m1 : n ∈ (["BadWay", "BadStory", "BadHands", "BadTalk", "BadText", "Unfit", "Broken"] : List Str)
    · rw [decide_eq_true m1]
      have e : fldOf n = some ("at" : Str) := by
        unfold fldOf
        rw [if_pos m1]
      rw [e] at hv
      exact iteT ⟨_, rfl, fs, v, rfl, (En.same (sn (Same.refl H) n1)).flds, hv, h _ (sn (Same.refl H) n1)⟩
    rw [decide_eq_false m1]
    refine iteF ?_
    refine ⟨_, rfl, (by show 4 ≤ sizeLine; decide), fun t2 n2 => ?_⟩
    refine ⟨t2, _, _, fs, rfl, upd_same, kaT En ["BadName", "Taken", "NoThing", "NoWish"] (by decide), (En.same (sn (sn (Same.refl H) n1) n2)).flds, _, rfl, ?_⟩
    by_cases m2 : n ∈ (["BadName", "Taken", "NoThing", "NoWish"] : List Str)
    · rw [decide_eq_true m2]
      have e : fldOf n = some ("name" : Str) := by
        unfold fldOf
        rw [if_neg m1, if_pos m2]
      rw [e] at hv
      exact iteT ⟨_, rfl, fs, v, rfl, (En.same (sn (sn (Same.refl H) n1) n2)).flds, hv, h _ (sn (sn (Same.refl H) n1) n2)⟩
    rw [decide_eq_false m2]
    refine iteF ?_
    refine ⟨_, rfl, (by show 4 ≤ sizeLine; decide), fun t3 n3 => ?_⟩
    refine ⟨t3, _, _, fs, rfl, upd_same, kaT En ["Wrong", "Right", "NoNumber", "NoLook"] (by decide), (En.same (sn (sn (sn (Same.refl H) n1) n2) n3)).flds, _, rfl, ?_⟩
    by_cases m3 : n ∈ (["Wrong", "Right", "NoNumber", "NoLook"] : List Str)
    · rw [decide_eq_true m3]
      have e : fldOf n = some ("number" : Str) := by
        unfold fldOf
        rw [if_neg m1, if_neg m2, if_pos m3]
      rw [e] at hv
      exact iteT ⟨_, rfl, fs, v, rfl, (En.same (sn (sn (sn (Same.refl H) n1) n2) n3)).flds, hv, h _ (sn (sn (sn (Same.refl H) n1) n2) n3)⟩
    rw [decide_eq_false m3]
    refine iteF ?_
    refine ⟨_, rfl, (by show 2 ≤ sizeLine; decide), fun t4 n4 => ?_⟩
    refine ⟨t4, _, _, fs, rfl, upd_same, kaT En ["BadWish", "TooMany"] (by decide), (En.same (sn (sn (sn (sn (Same.refl H) n1) n2) n3) n4)).flds, _, rfl, ?_⟩
    by_cases m4 : n ∈ (["BadWish", "TooMany"] : List Str)
    · rw [decide_eq_true m4]
      have e : fldOf n = some ("most" : Str) := by
        unfold fldOf
        rw [if_neg m1, if_neg m2, if_neg m3, if_pos m4]
      rw [e] at hv
      exact iteT ⟨_, rfl, fs, v, rfl, (En.same (sn (sn (sn (sn (Same.refl H) n1) n2) n3) n4)).flds, hv, h _ (sn (sn (sn (sn (Same.refl H) n1) n2) n3) n4)⟩
    rw [decide_eq_false m4]
    refine iteF ?_
    refine ⟨_, rfl, _, _, _, rfl, En.kit "BadMany" (by decide), (En.same (sn (sn (sn (sn (Same.refl H) n1) n2) n3) n4)).flds, _, rfl, ?_⟩
    by_cases m5 : n = "BadMany"
    · rw [decide_eq_true m5.symm]
      have e : fldOf n = some ("many" : Str) := by
        unfold fldOf
        rw [if_neg m1, if_neg m2, if_neg m3, if_neg m4, if_pos m5]
      rw [e] at hv
      exact iteT ⟨_, rfl, fs, v, rfl, (En.same (sn (sn (sn (sn (Same.refl H) n1) n2) n3) n4)).flds, hv, h _ (sn (sn (sn (sn (Same.refl H) n1) n2) n3) n4)⟩
    rw [decide_eq_false (fun z => m5 z.symm)]
    refine iteF ?_
    refine ⟨_, rfl, _, _, _, rfl, En.kit "BadBeat" (by decide), (En.same (sn (sn (sn (sn (Same.refl H) n1) n2) n3) n4)).flds, _, rfl, ?_⟩
    by_cases m6 : n = "BadBeat"
    · rw [decide_eq_true m6.symm]
      have e : fldOf n = some ("beat" : Str) := by
        unfold fldOf
        rw [if_neg m1, if_neg m2, if_neg m3, if_neg m4, if_neg m5, if_pos m6]
      rw [e] at hv
      exact iteT ⟨_, rfl, fs, v, rfl, (En.same (sn (sn (sn (sn (Same.refl H) n1) n2) n3) n4)).flds, hv, h _ (sn (sn (sn (sn (Same.refl H) n1) n2) n3) n4)⟩
    rw [decide_eq_false (fun z => m6 z.symm)]
    refine iteF ?_
    refine ⟨_, rfl, _, _, _, rfl, En.kit "BadCount" (by decide), (En.same (sn (sn (sn (sn (Same.refl H) n1) n2) n3) n4)).flds, _, rfl, ?_⟩
    by_cases m7 : n = "BadCount"
    · rw [decide_eq_true m7.symm]
      have e : fldOf n = some ("count" : Str) := by
        unfold fldOf
        rw [if_neg m1, if_neg m2, if_neg m3, if_neg m4, if_neg m5, if_neg m6, if_pos m7]
      rw [e] at hv
      exact iteT ⟨_, rfl, fs, v, rfl, (En.same (sn (sn (sn (sn (Same.refl H) n1) n2) n3) n4)).flds, hv, h _ (sn (sn (sn (sn (Same.refl H) n1) n2) n3) n4)⟩
    rw [decide_eq_false (fun z => m7 z.symm)]
    refine iteF ?_
    refine ⟨_, rfl, _, _, _, rfl, En.kit "NoPlace" (by decide), (En.same (sn (sn (sn (sn (Same.refl H) n1) n2) n3) n4)).flds, _, rfl, ?_⟩
    by_cases m8 : n = "NoPlace"
    · rw [decide_eq_true m8.symm]
      have e : fldOf n = some ("place" : Str) := by
        unfold fldOf
        rw [if_neg m1, if_neg m2, if_neg m3, if_neg m4, if_neg m5, if_neg m6, if_neg m7, if_pos m8]
      rw [e] at hv
      exact iteT ⟨_, rfl, fs, v, rfl, (En.same (sn (sn (sn (sn (Same.refl H) n1) n2) n3) n4)).flds, hv, h _ (sn (sn (sn (sn (Same.refl H) n1) n2) n3) n4)⟩
    rw [decide_eq_false (fun z => m8 z.symm)]
    refine iteF ?_
    refine ⟨_, rfl, _, _, _, rfl, En.kit "NoHand" (by decide), (En.same (sn (sn (sn (sn (Same.refl H) n1) n2) n3) n4)).flds, _, rfl, ?_⟩
    by_cases m9 : n = "NoHand"
    · rw [decide_eq_true m9.symm]
      have e : fldOf n = some ("hand" : Str) := by
        unfold fldOf
        rw [if_neg m1, if_neg m2, if_neg m3, if_neg m4, if_neg m5, if_neg m6, if_neg m7, if_neg m8, if_pos m9]
      rw [e] at hv
      exact iteT ⟨_, rfl, fs, v, rfl, (En.same (sn (sn (sn (sn (Same.refl H) n1) n2) n3) n4)).flds, hv, h _ (sn (sn (sn (sn (Same.refl H) n1) n2) n3) n4)⟩
    rw [decide_eq_false (fun z => m9 z.symm)]
    have e : fldOf n = none := by
      unfold fldOf
      rw [if_neg m1, if_neg m2, if_neg m3, if_neg m4, if_neg m5, if_neg m6, if_neg m7, if_neg m8, if_neg m9]
    rw [e] at hv
    have ev : v = .non := hv
    subst ev
    exact iteF (h _ (sn (sn (sn (sn (Same.refl H) n1) n2) n3) n4))
end
end RL
/-! zip of two things, each a list or a tuple. -/
namespace RL
open PySem PySem.Spec PyProof.Rows L2
/-- what is drawn from: true a tuple, false a list -/
def hIt : Bool → Heap → Addr → Addr → Nat → Prop
  | true, h, i, l, k => h.IsTupleIter i l k
  | false, h, i, l, k => h.IsListIter i l k
def hSq : Bool → Heap → Addr → Array Value → Prop
  | true, h, l, xs => h.IsTuple l xs
  | false, h, l, xs => h.IsList l xs
theorem hIt.but {u : Bool} {h g : Heap} {c i l : Addr} {k : Nat} (x : hIt u h i l k) (e : Heap.ExtBut c h g) (n : i ≠ c) : hIt u g i l k := by
  cases u with
  | true => exact Heap.IsTupleIter.extBut x e n
  | false => exact Heap.IsListIter.extBut x e n
theorem hSq.but {u : Bool} {h g : Heap} {c l : Addr} {xs : Array Value} (x : hSq u h l xs) (e : Heap.ExtBut c h g) (n : l ≠ c) : hSq u g l xs := by
  cases u with
  | true => exact Heap.IsTuple.extBut x e n
  | false => exact Heap.IsList.extBut x e n
theorem hIt.to {u : Bool} {h g : Heap} {i l : Addr} {k : Nat} (x : hIt u h i l k) (e : ∀ o, h.get? i = some o → g.get? i = some o) : hIt u g i l k := by
  cases u with
  | true => exact Heap.IsTupleIter.at x e
  | false => exact Heap.IsListIter.at x e
theorem hIt.obj {u : Bool} {h : Heap} {i l : Addr} {k : Nat} (x : hIt u h i l k) : ∃ o, h.get? i = some o ∧ ∀ v, o.data ≠ .cell v := by
  cases u with
  | true =>
    obtain ⟨o, e, _, d⟩ := x
    exact ⟨o, e, fun v q => by rw [d] at q; cases q⟩
  | false =>
    obtain ⟨o, e, _, d⟩ := x
    exact ⟨o, e, fun v q => by rw [d] at q; cases q⟩
theorem hIt.small {u : Bool} {h : Heap} {i l : Addr} {k : Nat} (x : hIt u h i l k) : i < h.objs.size := by
  obtain ⟨o, e, _⟩ := x.obj
  exact Heap.lt_size e
section
variable {prog : Program} {w : World} {A : Around} {E : Value → Shared → Prop} {s : Shared}
theorem half_item {u : Bool} {it l : Addr} {k : Nat} {xs : Array Value} {x : Value} {Q : Value → Shared → Prop} (a1 : hIt u s.heap it l k) (a2 : hSq u s.heap l xs) (hx : xs[k]? = some x)
    (hq : ∀ g, hIt u g it l (k + 1) → Heap.SameBut it s.heap g → Q x { s with heap := g }) : wpAny (model prog w) A (Builtin.SmallTypes.nextOf (.ref it)) Q E s := by
  cases u with
  | true => exact RZ.nextOf_tuple_item a1 a2 hx hq
  | false => exact wpAny_nextOf_list_item a1 a2 hx hq
theorem half_end {u : Bool} {it l : Addr} {k : Nat} {xs : Array Value} {Q : Value → Shared → Prop} (hh : A.handled = none) (a1 : hIt u s.heap it l k) (a2 : hSq u s.heap l xs) (hx : xs[k]? = none)
    (he : ∀ g e, Heap.ExtBut it s.heap g → (∃ o, g.get? e = some o ∧ o.cls = .type "StopIteration") → E (.ref e) { s with heap := g }) : wpAny (model prog w) A (Builtin.SmallTypes.nextOf (.ref it)) Q E s := by
  cases u with
  | true => exact RZ.nextOf_tuple_end hh a1 a2 hx he
  | false => exact wpAny_nextOf_list_end hh a1 a2 hx he
theorem zh_item {q ti to m1 m2 d1 d2 : Addr} {u1 u2 : Bool} {n1 n2 : Nat} {vs1 vs2 : Array Value} {x y a b : Value} {Q : Value → Shared → Prop} (D : ZipApart q ti to m1 m2 d1 d2)
    (zz : IsZip s.heap q ti to .none) (pi : IsPair s.heap ti (.ref m1) (.ref m2)) (po : IsPair s.heap to a b)
    (w1 : hIt u1 s.heap m1 d1 n1) (w2 : hIt u2 s.heap m2 d2 n2) (s1 : hSq u1 s.heap d1 vs1) (s2 : hSq u2 s.heap d2 vs2) (hx : vs1[n1]? = some x) (hy : vs2[n2]? = some y)
    (hq : ∀ g, IsZip g q ti to (rawInt s.heap.objs.size) → IsPair g to x y → hIt u1 g m1 d1 (n1 + 1) → hIt u2 g m2 d2 (n2 + 1) → IsPair g s.heap.objs.size x y → g.objs.size = s.heap.objs.size + 1 →
      (∀ c o, c ≠ q → c ≠ to → c ≠ m1 → c ≠ m2 → s.heap.get? c = some o → g.get? c = some o) → Q (.ref s.heap.objs.size) { s with heap := g }) :
    wpAny (model prog w) A (Builtin.«zip.__next__» ⟨[.ref q], []⟩) (fun f s' => ∃ v, f = .done (.ret v) ∧ Q v s') E s := by
  show wpAny _ _ (field (.ref q) 2 >>= _) _ _ _
  refine wpAny_bind (wpAny_field zz rfl (x := .bool false) rfl ?_)
  show wpAny _ _ (field (.ref q) 3 >>= _) _ _ _
  refine wpAny_bind (wpAny_field zz rfl (x := .ref ti) rfl (wpAny_bind (wpAny_seqItems pi rfl ?_)))
  show wpAny _ _ (Builtin.SmallTypes.ownedTupleIsFree (.ref q) >>= _) _ _ _
  refine wpAny_bind ?_; unfold Builtin.SmallTypes.ownedTupleIsFree
  refine wpAny_bind (wpAny_field zz rfl (x := .none) rfl (wpAny_pure ?_))
  simp only [if_true]
  refine wpAny_bind (wpAny_rule (wpAny_bind (wpAny_field zz rfl (x := .ref to) rfl (wpAny_bind (wpAny_setField_rec zz (by simp) fun g1 zz1 b1 => ?_)))))
  replace zz1 : IsZip g1 q ti to .ellipsis := zz1
  refine wpAny_bind ?_
  simp only [List.zipIdx_nil, List.zipIdx_cons, List.forIn_nil, List.forIn_cons]
  refine wpAny_bind (wpAny_bind (wpAny_onRaise ?_))
  show wpAny _ _ (Builtin.SmallTypes.nextOf (.ref m1) >>= _) _ _ _
  refine wpAny_bind (half_item (w1.but b1.extBut D.i1z) (s1.but b1.extBut D.l1z) hx fun g2 v1 b2 => wpAny_pure ?_)
  have po2 : IsPair g2 to a b := b2.extBut _ _ D.TOi1 (b1.extBut _ _ D.TOz po)
  refine wpAny_bind (wpAny_seqItems po2 rfl (wpAny_bind (wpAny_updateSeq_pair po2 fun g3 po3 b3 => ?_)))
  replace po3 : IsPair g3 to x b := po3
  refine wpAny_bind (wpAny_letGo (wpAny_pure (wpAny_bind (wpAny_bind (wpAny_onRaise ?_)))))
  show wpAny _ _ (Builtin.SmallTypes.nextOf (.ref m2) >>= _) _ _ _
  refine wpAny_bind (half_item (((w2.but b1.extBut D.i2z).but b2.extBut D.i12.symm).but b3.extBut D.TOi2.symm) (((s2.but b1.extBut D.l2z).but b2.extBut D.l2i1).but b3.extBut D.l2TO) hy fun g4 v2 b4 => wpAny_pure ?_)
  have po4 : IsPair g4 to x b := b4.extBut _ _ D.TOi2 po3
  refine wpAny_bind (wpAny_seqItems po4 rfl (wpAny_bind (wpAny_updateSeq_pair po4 fun g5 po5 b5 => ?_)))
  replace po5 : IsPair g5 to x y := po5
  refine wpAny_bind (wpAny_letGo (wpAny_pure (wpAny_pure (wpAny_bind (wpAny_seqItems po5 rfl (wpAny_bind (wpAny_newTuple ?_)))))))
  have sz : g5.objs.size = s.heap.objs.size := by rw [b5.1, b4.1, b3.1, b2.1, b1.1]
  have zz5 : IsZip g5 q ti to .ellipsis := b5.extBut _ _ D.TOz.symm (b4.extBut _ _ D.i2z.symm (b3.extBut _ _ D.TOz.symm (b2.extBut _ _ D.i1z.symm zz1)))
  have old5 : ∀ c o, c ≠ q → c ≠ to → c ≠ m1 → c ≠ m2 → s.heap.get? c = some o → g5.get? c = some o := fun c o c1 c2 c3 c4 e => b5.extBut _ _ c2 (b4.extBut _ _ c4 (b3.extBut _ _ c2 (b2.extBut _ _ c3 (b1.extBut _ _ c1 e))))
  have v15 : hIt u1 g5 m1 d1 (n1 + 1) := ((v1.but b3.extBut D.TOi1.symm).but b4.extBut D.i12).but b5.extBut D.TOi1.symm
  have v25 : hIt u2 g5 m2 d2 (n2 + 1) := v2.but b5.extBut D.TOi2.symm
  have ql : q < g5.objs.size := Heap.lt_size zz5
  show wpAny _ _ (Builtin.SmallTypes.ownedTupleHandOut (.ref q) (.ref g5.objs.size) >>= _) _ _ _
  refine wpAny_bind ?_; unfold Builtin.SmallTypes.ownedTupleHandOut
  have zz6 : IsZip (g5.push { cls := .type "tuple", data := .seq #[x, y] }) q ti to .ellipsis := Heap.get?_push_of_some _ zz5
  refine wpAny_bind (wpAny_setField_rec zz6 (by simp) fun g7 zz7 b7 => ?_)
  replace zz7 : IsZip g7 q ti to (rawInt g5.objs.size) := zz7
  refine wpAny_setField_rec zz7 (by simp) fun g8 zz8 b8 => ?_
  replace zz8 : IsZip g8 q ti to (rawInt g5.objs.size) := zz8
  have up : ∀ c o, c ≠ q → g5.get? c = some o → g8.get? c = some o := fun c o c1 e => b8.extBut _ _ c1 (b7.extBut _ _ c1 (Heap.get?_push_of_some _ e))
  have t8 : IsPair g8 g5.objs.size x y := b8.extBut _ _ (Nat.ne_of_gt ql) (b7.extBut _ _ (Nat.ne_of_gt ql) (Heap.get?_push_size _ rfl))
  have sz8 : g8.objs.size = g5.objs.size + 1 := by rw [b8.1, b7.1, Heap.size_push]
  rw [sz] at zz8 t8 sz8
  refine wpAny_pure ⟨_, rfl, ?_⟩
  show Q (.ref g5.objs.size) _
  rw [sz]
  exact hq g8 zz8 (up _ _ D.TOz po5) (v15.to fun o e => up _ o D.i1z e) (v25.to fun o e => up _ o D.i2z e) t8 sz8 fun c o c1 c2 c3 c4 e => up c o c1 (old5 c o c1 c2 c3 c4 e)
theorem zh_end {q ti to m1 m2 d1 d2 : Addr} {u1 u2 : Bool} {n1 n2 : Nat} {vs1 vs2 : Array Value} {a b : Value} {Q : Fin → Shared → Prop} (hh : A.handled = none) (D : ZipApart q ti to m1 m2 d1 d2)
    (zz : IsZip s.heap q ti to .none) (pi : IsPair s.heap ti (.ref m1) (.ref m2)) (po : IsPair s.heap to a b)
    (w1 : hIt u1 s.heap m1 d1 n1) (w2 : hIt u2 s.heap m2 d2 n2) (s1 : hSq u1 s.heap d1 vs1) (s2 : hSq u2 s.heap d2 vs2) (he : vs1[n1]? = none ∨ vs2[n2]? = none)
    (hE : ∀ g e, (∀ c o, c ≠ q → c ≠ to → c ≠ m1 → c ≠ m2 → s.heap.get? c = some o → g.get? c = some o) → (∃ o, g.get? e = some o ∧ o.cls = .type "StopIteration") → E (.ref e) { s with heap := g }) :
    wpAny (model prog w) A (Builtin.«zip.__next__» ⟨[.ref q], []⟩) Q E s := by
  show wpAny _ _ (field (.ref q) 2 >>= _) _ _ _
  refine wpAny_bind (wpAny_field zz rfl (x := .bool false) rfl ?_)
  show wpAny _ _ (field (.ref q) 3 >>= _) _ _ _
  refine wpAny_bind (wpAny_field zz rfl (x := .ref ti) rfl (wpAny_bind (wpAny_seqItems pi rfl ?_)))
  show wpAny _ _ (Builtin.SmallTypes.ownedTupleIsFree (.ref q) >>= _) _ _ _
  refine wpAny_bind ?_; unfold Builtin.SmallTypes.ownedTupleIsFree
  refine wpAny_bind (wpAny_field zz rfl (x := .none) rfl (wpAny_pure ?_))
  simp only [if_true]
  refine wpAny_bind (wpAny_rule (wpAny_bind (wpAny_field zz rfl (x := .ref to) rfl (wpAny_bind (wpAny_setField_rec zz (by simp) fun g1 zz1 b1 => ?_)))))
  replace zz1 : IsZip g1 q ti to .ellipsis := zz1
  refine wpAny_bind ?_
  simp only [List.zipIdx_nil, List.zipIdx_cons, List.forIn_nil, List.forIn_cons]
  refine wpAny_bind (wpAny_bind (wpAny_onRaise ?_))
  show wpAny _ _ (Builtin.SmallTypes.nextOf (.ref m1) >>= _) _ _ _
  cases hx : vs1[n1]? with
  | none =>
    refine wpAny_bind (half_end hh (w1.but b1.extBut D.i1z) (s1.but b1.extBut D.l1z) hx fun g2 e b2 ⟨oe, hoe, hce⟩ => ?_)
    have zz2 : IsZip g2 q ti to .ellipsis := b2 _ _ D.i1z.symm zz1
    have ne : e ≠ q := fun x => by
      subst x
      rw [zz2] at hoe
      cases hoe
      simp at hce
    exact wpAny_setField_rec zz2 (by simp) fun g3 _ b3 => hE g3 e (fun c o c1 _ c3 _ x => b3.extBut _ _ c1 (b2 _ _ c3 (b1.extBut _ _ c1 x))) ⟨oe, b3.extBut _ _ ne hoe, hce⟩
  | some x =>
    have hy : vs2[n2]? = none := he.elim (fun z => by rw [hx] at z; cases z) id
    refine wpAny_bind (half_item (w1.but b1.extBut D.i1z) (s1.but b1.extBut D.l1z) hx fun g2 v1 b2 => wpAny_pure ?_)
    have po2 : IsPair g2 to a b := b2.extBut _ _ D.TOi1 (b1.extBut _ _ D.TOz po)
    refine wpAny_bind (wpAny_seqItems po2 rfl (wpAny_bind (wpAny_updateSeq_pair po2 fun g3 po3 b3 => ?_)))
    refine wpAny_bind (wpAny_letGo (wpAny_pure (wpAny_bind (wpAny_bind (wpAny_onRaise ?_)))))
    show wpAny _ _ (Builtin.SmallTypes.nextOf (.ref m2) >>= _) _ _ _
    refine wpAny_bind (half_end hh (((w2.but b1.extBut D.i2z).but b2.extBut D.i12.symm).but b3.extBut D.TOi2.symm) (((s2.but b1.extBut D.l2z).but b2.extBut D.l2i1).but b3.extBut D.l2TO) hy fun g4 e b4 ⟨oe, hoe, hce⟩ => ?_)
    have zz4 : IsZip g4 q ti to .ellipsis := b4 _ _ D.i2z.symm (b3.extBut _ _ D.TOz.symm (b2.extBut _ _ D.i1z.symm zz1))
    have ne : e ≠ q := fun x => by
      subst x
      rw [zz4] at hoe
      cases hoe
      simp at hce
    exact wpAny_setField_rec zz4 (by simp) fun g5 _ b5 => hE g5 e (fun c o c1 c2 c3 c4 x => b5.extBut _ _ c1 (b4 _ _ c4 (b3.extBut _ _ c2 (b2.extBut _ _ c3 (b1.extBut _ _ c1 x))))) ⟨oe, b5.extBut _ _ ne hoe, hce⟩
theorem zh_next_item {q ti to m1 m2 d1 d2 : Addr} {u1 u2 : Bool} {n1 n2 : Nat} {vs1 vs2 : Array Value} {x y a b : Value} {Q : Option Value → Shared → Prop} (D : ZipApart q ti to m1 m2 d1 d2)
    (zz : IsZip s.heap q ti to .none) (pi : IsPair s.heap ti (.ref m1) (.ref m2)) (po : IsPair s.heap to a b)
    (w1 : hIt u1 s.heap m1 d1 n1) (w2 : hIt u2 s.heap m2 d2 n2) (s1 : hSq u1 s.heap d1 vs1) (s2 : hSq u2 s.heap d2 vs2) (hx : vs1[n1]? = some x) (hy : vs2[n2]? = some y)
    (hq : ∀ g, IsZip g q ti to (rawInt s.heap.objs.size) → IsPair g to x y → hIt u1 g m1 d1 (n1 + 1) → hIt u2 g m2 d2 (n2 + 1) → IsPair g s.heap.objs.size x y → g.objs.size = s.heap.objs.size + 1 →
      (∀ c o, c ≠ q → c ≠ to → c ≠ m1 → c ≠ m2 → s.heap.get? c = some o → g.get? c = some o) → Q (some (.ref s.heap.objs.size)) { s with heap := g }) :
    wpAny (model prog w) A (pyNext (.ref q)) Q E s := by
  have ty : s.TypeIs (.ref q) "zip" := ⟨_, zz, rfl⟩
  unfold pyNext
  exact wpAny_bind (wpAny_attempt (wpAny_callSpecial?_slot (name := Str.ofString "__next__") ty F.slot_zip_next (wpAny_call_entry F.slot_zip_next ty F.entry_zip_next
    (zh_item D zz pi po w1 w2 s1 s2 hx hy fun g a1 a2 a3 a4 a5 a6 a7 => wpAny_pure (hq g a1 a2 a3 a4 a5 a6 a7)) (F.args_zip_next_1 _))))
theorem zh_next_end {q ti to m1 m2 d1 d2 : Addr} {u1 u2 : Bool} {n1 n2 : Nat} {vs1 vs2 : Array Value} {a b : Value} {Q : Option Value → Shared → Prop} (hh : A.handled = none) (D : ZipApart q ti to m1 m2 d1 d2)
    (zz : IsZip s.heap q ti to .none) (pi : IsPair s.heap ti (.ref m1) (.ref m2)) (po : IsPair s.heap to a b)
    (w1 : hIt u1 s.heap m1 d1 n1) (w2 : hIt u2 s.heap m2 d2 n2) (s1 : hSq u1 s.heap d1 vs1) (s2 : hSq u2 s.heap d2 vs2) (he : vs1[n1]? = none ∨ vs2[n2]? = none)
    (hq : ∀ g, (∀ c o, c ≠ q → c ≠ to → c ≠ m1 → c ≠ m2 → s.heap.get? c = some o → g.get? c = some o) → Q none { s with heap := g }) : wpAny (model prog w) A (pyNext (.ref q)) Q E s := by
  have ty : s.TypeIs (.ref q) "zip" := ⟨_, zz, rfl⟩
  unfold pyNext
  refine wpAny_bind (wpAny_attempt (wpAny_callSpecial?_slot (name := Str.ofString "__next__") ty F.slot_zip_next (wpAny_call_entry F.slot_zip_next ty F.entry_zip_next
    (zh_end hh D zz pi po w1 w2 s1 s2 he fun g e hk ⟨o, ho, hc⟩ => ?_) (F.args_zip_next_1 _))))
  exact wpAny_bind (wpAny_isInstance (T := "StopIteration") (b := true) ⟨o, ho, hc⟩ isSubtype_stop (wpAny_pure (hq _ hk)))
end
/-- the iterator of either -/
def itO : Bool → Addr → Obj
  | true, l => { cls := .type "tuple_iterator", data := .fields #[.ref l, .int 0 0] }
  | false, l => { cls := .type "list_iterator", data := .fields #[.ref l, .int 0 0] }
theorem itO_free (u : Bool) (l : Addr) : (itO u l).isFreed = false := by cases u <;> rfl
theorem itO_is {u : Bool} {h : Heap} {i l : Addr} (e : h.get? i = some (itO u l)) : hIt u h i l 0 := by
  cases u with
  | true => exact ⟨_, e, rfl, rfl⟩
  | false => exact ⟨_, e, rfl, rfl⟩
theorem half_iter {prog : Program} {w : World} {A : Around} {E : Value → Shared → Prop} {s : Shared} {u : Bool} {l : Addr} {xs : Array Value} {Q : Value → Shared → Prop} (h : hSq u s.heap l xs) (q : Q (.ref s.heap.objs.size) { s with heap := s.heap.push (itO u l) }) :
    wpAny (model prog w) A (pyIter (.ref l)) Q E s := by
  cases u with
  | true => exact wpAny_pyIter_tuple h q
  | false => exact wpAny_pyIter_list h q
theorem hSq.push {u : Bool} {h : Heap} {l : Addr} {xs : Array Value} (x : hSq u h l xs) (o : Obj) : hSq u (h.push o) l xs := by
  cases u with
  | true => exact Heap.IsTuple.push x o
  | false => exact Heap.IsList.push x o
abbrev zg1 (h : Heap) (u1 : Bool) (d1 : Addr) : Heap := h.push (itO u1 d1)
abbrev zg2 (h : Heap) (u1 u2 : Bool) (d1 d2 : Addr) : Heap := (zg1 h u1 d1).push (itO u2 d2)
abbrev zg3 (h : Heap) (u1 u2 : Bool) (d1 d2 : Addr) : Heap := (zg2 h u1 u2 d1 d2).push { cls := .type "tuple", data := .seq #[.ref h.objs.size, .ref (zg1 h u1 d1).objs.size] }
abbrev zg4 (h : Heap) (u1 u2 : Bool) (d1 d2 : Addr) : Heap := (zg3 h u1 u2 d1 d2).push { cls := .type "tuple", data := .seq #[.none, .none] }
abbrev zg5 (h : Heap) (u1 u2 : Bool) (d1 d2 : Addr) : Heap := (zg4 h u1 u2 d1 d2).push { cls := .type "zip", data := .fields #[.none, .bool false, .bool false, .ref (zg2 h u1 u2 d1 d2).objs.size, .ref (zg3 h u1 u2 d1 d2).objs.size] }
theorem zh_made (u1 u2 : Bool) (d1 d2 : Addr) (vs1 vs2 : Array Value) :
    Meets (Builtin.«zip.__new__» ⟨[.type "zip", .ref d1, .ref d2], []⟩) (fun _ R s => hSq u1 s.heap d1 vs1 ∧ hSq u2 s.heap d2 vs2 ∧ R (.ok (.ret (.ref (zg4 s.heap u1 u2 d1 d2).objs.size))) { s with heap := zg5 s.heap u1 u2 d1 d2 }) :=
  .of_wp fun prog w A R s h => by
    obtain ⟨hp, g, d, tk, os⟩ := s
    obtain ⟨k1, k2, h⟩ := h
    have sub := sub_zip
    have K1 : hSq u1 (Shared.heap ⟨hp, g, d, tk, os⟩) d1 vs1 := k1
    have K2 : hSq u2 (Shared.heap ⟨hp.push (itO u1 d1), g, d, tk, os⟩) d2 vs2 := k2.push _
    wp_walk using half_iter K1, half_iter K2
    exact ⟨_, rfl, h⟩
theorem zh_call {prog : Program} {w : World} {A : Around} {E : Value → Shared → Prop} {s : Shared} {u1 u2 : Bool} {d1 d2 : Addr} {vs1 vs2 : Array Value} {Q : Value → Shared → Prop} (s1 : hSq u1 s.heap d1 vs1) (s2 : hSq u2 s.heap d2 vs2)
    (h : ∀ g, IsZip g (s.heap.objs.size + 4) (s.heap.objs.size + 2) (s.heap.objs.size + 3) .none → IsPair g (s.heap.objs.size + 2) (.ref s.heap.objs.size) (.ref (s.heap.objs.size + 1)) → IsPair g (s.heap.objs.size + 3) .none .none → hIt u1 g s.heap.objs.size d1 0 → hIt u2 g (s.heap.objs.size + 1) d2 0 →
      (∀ c o, s.heap.get? c = some o → g.get? c = some o) → Q (.ref (s.heap.objs.size + 4)) { s with heap := g }) :
    wpAny (model prog w) A (call (.type "zip") [.ref d1, .ref d2]) Q E s := by
  refine callType_new F.called_zip (by decide) (F.typeCall_zip_2 _ _) (F.newCall_zip_2 _ _) (fun ob => F.args_object_init_3 ob _ _) F.entry_zip_new (zh_made u1 u2 d1 d2 vs1 vs2) ⟨s1, s2, ?_⟩
  have e1 : (zg1 s.heap u1 d1).objs.size = s.heap.objs.size + 1 := Heap.size_push ..
  have e2 : (zg2 s.heap u1 u2 d1 d2).objs.size = s.heap.objs.size + 2 := by rw [Heap.size_push, e1]
  have e3 : (zg3 s.heap u1 u2 d1 d2).objs.size = s.heap.objs.size + 3 := by rw [Heap.size_push, e2]
  have e4 : (zg4 s.heap u1 u2 d1 d2).objs.size = s.heap.objs.size + 4 := by rw [Heap.size_push, e3]
  have f5 : (zg5 s.heap u1 u2 d1 d2).get? (zg4 s.heap u1 u2 d1 d2).objs.size = some _ := Heap.get?_push_size _ rfl
  have f4 : (zg5 s.heap u1 u2 d1 d2).get? (zg3 s.heap u1 u2 d1 d2).objs.size = some _ := Heap.get?_push_of_some _ (Heap.get?_push_size _ rfl)
  have f3 : (zg5 s.heap u1 u2 d1 d2).get? (zg2 s.heap u1 u2 d1 d2).objs.size = some _ := Heap.get?_push_of_some _ (Heap.get?_push_of_some _ (Heap.get?_push_size _ rfl))
  have f2 : (zg5 s.heap u1 u2 d1 d2).get? (zg1 s.heap u1 d1).objs.size = some _ := Heap.get?_push_of_some _ (Heap.get?_push_of_some _ (Heap.get?_push_of_some _ (Heap.get?_push_size _ (itO_free u2 d2))))
  have f1 : (zg5 s.heap u1 u2 d1 d2).get? s.heap.objs.size = some _ := Heap.get?_push_of_some _ (Heap.get?_push_of_some _ (Heap.get?_push_of_some _ (Heap.get?_push_of_some _ (Heap.get?_push_size _ (itO_free u1 d1)))))
  show _ ∧ _
  rw [e2, e3, e4] at f5
  rw [e1, e2] at f3
  rw [e3] at f4
  rw [e1] at f2
  rw [e4]
  exact ⟨⟨_, f5, rfl⟩, h _ f5 f3 f4 (itO_is f1) (itO_is f2) fun c o x => Heap.get?_push_of_some _ (Heap.get?_push_of_some _ (Heap.get?_push_of_some _ (Heap.get?_push_of_some _ (Heap.get?_push_of_some _ x))))⟩
/-- a list or a tuple as it stands -/
def SqH (u : Bool) (K : PySem.W.Frag) (H : Hp) (a : Addr) (xs : List V) : Prop := match u with
  | true => SqT K H a xs
  | false => SqL K H a xs
def Itzh (u1 u2 : Bool) (K : PySem.W.Frag) (a b : Addr) : It :=
  ⟨fun i H => ∃ (xs ys : List V) (x y : V), SqH u1 K H a xs ∧ SqH u2 K H b ys ∧ xs[i]? = some x ∧ ys[i]? = some y,
    fun i H v H' => ∃ T x y, v = .ref T ∧ H T = none ∧ H' = upd H T (.tup [x, y]) ∧ (∀ xs, SqH u1 K H a xs → xs[i]? = some x) ∧ ∀ ys, SqH u2 K H b ys → ys[i]? = some y,
    fun i H => ∃ xs ys : List V, SqH u1 K H a xs ∧ SqH u2 K H b ys ∧ (xs.length ≤ i ∨ ys.length ≤ i)⟩
theorem inv_half {X : Cx} {pins : List (Addr × Obj)} {σ : L2.St} {H : Hp} {s : Shared} {u : Bool} {a : Addr} {xs : List V} (I : L2.Inv X pins σ H s) (h : SqH u X.K H a xs) : ∃ its, Vals xs its ∧ hSq u s.heap a its.toArray ∧ a < s.heap.objs.size := by
  cases u with
  | true =>
    obtain ⟨its, rv, p, _⟩ := I.tuple h
    refine ⟨its, rv, p, ?_⟩
    obtain ⟨o, ho, _⟩ := id p
    exact Heap.lt_size ho
  | false =>
    obtain ⟨its, rv, p, _⟩ := I.list h
    exact ⟨its, rv, p.isList, p.lt⟩
theorem inv_half_inj {X : Cx} {pins : List (Addr × Obj)} {σ : L2.St} {H : Hp} {s : Shared} {u : Bool} {a : Addr} {xs ys : List V} (I : L2.Inv X pins σ H s) (h : SqH u X.K H a xs) (g : SqH u X.K H a ys) : xs = ys := by
  cases u with
  | true => exact I.tuple_inj h g
  | false => exact I.list_inj h g
theorem turn_zh {P : Program} {w : World} {K : PySem.W.Frag} {elts : List Expr} {kk : Nat} {tpos : Pos} {u1 u2 : Bool} {a b q ti to m1 m2 : Addr} (D : ZipApart q ti to m1 m2 a b) :
    Turn P w K (.Tuple elts kk tpos) (Itzh u1 u2 K a b) [q, ti, to, m1, m2] q (fun i h => IsZip h q ti to .none ∧ IsPair h ti (.ref m1) (.ref m2) ∧ (∃ x y, IsPair h to x y) ∧ hIt u1 h m1 a i ∧ hIt u2 h m2 b i) where
  mem := by simp
  obj := fun i h st c hc => by
    obtain ⟨zz, pi, ⟨x, y, po⟩, w1, w2⟩ := st
    have e : c = q ∨ c = ti ∨ c = to ∨ c = m1 ∨ c = m2 := by simpa using hc
    rcases e with z | z | z | z | z
    · rw [z]; exact ⟨_, zz, fun v e => nomatch e⟩
    · rw [z]; exact ⟨_, pi, fun v e => nomatch e⟩
    · rw [z]; exact ⟨_, po, fun v e => nomatch e⟩
    · rw [z]; exact w1.obj
    · rw [z]; exact w2.obj
  keep := fun i h h' st k => by
    obtain ⟨zz, pi, ⟨x, y, po⟩, w1, w2⟩ := st
    exact ⟨k q (by simp) _ zz, k ti (by simp) _ pi, ⟨x, y, k to (by simp) _ po⟩, w1.to fun o e => k m1 (by simp) o e, w2.to fun o e => k m2 (by simp) o e⟩
  item := by
    intro X hP hw hK hc i pins s σ H E I hf st hg
    subst hP hw hK
    obtain ⟨zz, pi, ⟨x0, y0, po⟩, w1, w2⟩ := st
    obtain ⟨xs, ys, x, y, hqx, hqy, hx, hy⟩ := hg
    obtain ⟨its, rv, p, _⟩ := inv_half I hqx
    obtain ⟨its2, rv2, p2, _⟩ := inv_half I hqy
    obtain ⟨v, hv, ru⟩ := rv.get hx
    obtain ⟨v2, hv2, ru2⟩ := rv2.get hy
    have ql : q < s.heap.objs.size := Heap.lt_size zz
    refine zh_next_item D zz pi po w1 w2 p p2 (x := v) (y := v2) (by simpa using hv) (by simpa using hv2) fun g z1 po1 w11 w21 hT hsz hk => ?_
    refine ⟨_, rfl, wpAny_letOwnedTupleGo_zip (s := { s with heap := g }) z1 fun g2 z2 sb => ?_⟩
    have hT2 : g2.get? s.heap.objs.size = some { cls := .type "tuple", data := .seq #[v, v2] } := (sb.2 _ (Nat.ne_of_gt ql)).trans hT
    have new : ObjOk X.prog X.w (upd H s.heap.objs.size (.tup [x, y])) g2 s.heap.objs.size (.tup [x, y]) := ⟨by show 2 ≤ sizeLine; decide, [v, v2], .cons ru (.cons ru2 .nil), ⟨_, hT2, rfl, _, rfl⟩⟩
    have I1 : Inv X pins σ (upd H s.heap.objs.size (.tup [x, y])) { s with heap := g2 } := I.turnedNew (t' := s.toks) (ch := [q, ti, to, m1, m2])
      (fun c o hb e => (sb.2 c (fun z => hb (by simp [z]))).trans (hk c o (fun z => hb (by simp [z])) (fun z => hb (by simp [z])) (fun z => hb (by simp [z])) (fun z => hb (by simp [z])) e)) hf (Nat.le_refl _) new
    refine ⟨.ref s.heap.objs.size, _, I1, rfl, ⟨_, x, y, rfl, I.hok.fresh (Nat.le_refl _), rfl, fun l hl => by rw [inv_half_inj I hl hqx]; exact hx, fun l hl => by rw [inv_half_inj I hl hqy]; exact hy⟩, ⟨z2, ?_, ⟨v, v2, ?_⟩, ?_, ?_⟩, fun c hcm => ?_⟩
    · exact (sb.2 _ D.TIz).trans (hk _ _ D.TIz D.TITO D.TIi1 D.TIi2 pi)
    · exact (sb.2 _ D.TOz).trans po1
    · exact w11.to fun o e => (sb.2 _ D.i1z).trans e
    · exact w21.to fun o e => (sb.2 _ D.i2z).trans e
    · have lt : c < s.heap.objs.size := by
        have e : c = q ∨ c = ti ∨ c = to ∨ c = m1 ∨ c = m2 := by simpa using hcm
        rcases e with z | z | z | z | z
        · rw [z]; exact ql
        · rw [z]; exact Heap.lt_size pi
        · rw [z]; exact Heap.lt_size po
        · rw [z]; exact w1.small
        · rw [z]; exact w2.small
      rw [upd_ne (Nat.ne_of_lt lt)]
      exact (hf c hcm).1
  done := by
    intro X hP hw hK hc i pins s σ H E I hf st hg
    subst hP hw hK
    obtain ⟨zz, pi, ⟨x0, y0, po⟩, w1, w2⟩ := st
    obtain ⟨xs, ys, hqx, hqy, hend⟩ := hg
    obtain ⟨its, rv, p, _⟩ := inv_half I hqx
    obtain ⟨its2, rv2, p2, _⟩ := inv_half I hqy
    have l1 := rv.length
    have l2 := rv2.length
    have he : its.toArray[i]? = none ∨ its2.toArray[i]? = none := hend.imp (fun z => by simp; omega) fun z => by simp; omega
    exact zh_next_end (I.ok.hd hc) D zz pi po w1 w2 p p2 he fun g hk => ⟨rfl, I.turnedL (t' := s.toks) (ch := [q, ti, to, m1, m2]) (fun c o hb e =>
      hk c o (fun z => hb (by simp [z])) (fun z => hb (by simp [z])) (fun z => hb (by simp [z])) (fun z => hb (by simp [z])) e) hf⟩
  self := fun A i s Q E st h => wpAny_pyIter_zip st.1 h
section
variable {X : Cx} {K : PySem.W.Frag}
def iZh (u1 u2 : Bool) (K : PySem.W.Frag) (ta : TA) : TI := fun σ H R => ta σ H fun vs H1 => ∃ a b xs ys, vs = [.ref a, .ref b] ∧ SqH u1 K H1 a xs ∧ SqH u2 K H1 b ys ∧ R (Itzh u1 u2 K a b) H1
theorem pi_zh (u1 u2 : Bool) {e e2 : Expr} {ta : TA} {p pos tpos : Pos} {elts : List Expr} {kk : Nat} (hg : Gl X "zip") (hm : X.mg "zip" = none) (ha : PA X [e, e2] ta)
    (hs : starEach [e, e2] X.env = (false, eval e X.env) :: starEach [e2] X.env := by rfl) (hpl : (backTo pos (starEach [e2] X.env)).any (·.1) = false := by rfl) (hK : X.K = K := by rfl) :
    PI X (.Tuple elts kk tpos) (.Call (.Name "zip" p) [e, e2] [] pos) (iZh u1 u2 K ta) := by
  subst hK
  refine ⟨fun pins s σ H R I h => ?_⟩
  refine Call_ (ld_blt I hg hm PyProof.Rows.boot_zip (PyProof.Rows.callWith_type1 (thn (ha.run pos pins s σ H _ I h) fun us s1 ⟨vs, H1, I1, r1, q1⟩ => ?_) hs hpl))
  obtain ⟨a, b, xs, ys, rfl, hqx, hqy, q⟩ := q1
  cases r1 with
  | cons r rr =>
    cases rr with
    | cons r' rr =>
      cases rr
      cases r
      cases r'
      have new5 : ∀ c, c ∈ [s1.heap.objs.size + 4, s1.heap.objs.size + 2, s1.heap.objs.size + 3, s1.heap.objs.size, s1.heap.objs.size + 1] → FpOk X pins H1 c := fun c hcm => by
        have le : s1.heap.objs.size ≤ c := by
          simp only [List.mem_cons, List.not_mem_nil, or_false] at hcm
          rcases hcm with z | z | z | z | z <;> rw [z] <;> first | exact Nat.le_refl _ | exact Nat.le_add_right _ _
        exact I1.fpOk le (I1.hok.fresh le)
      obtain ⟨its, rv, p1, lt1⟩ := inv_half I1 hqx
      obtain ⟨its2, rv2, p2, lt2⟩ := inv_half I1 hqy
      refine zh_call p1 p2 fun g zz pi po w1 w2 hk => wpAny_pyIter_zip zz ?_
      have I2 : Inv X pins σ H1 { s1 with heap := g } := I1.kept (t' := s1.toks) hk
      exact ⟨s1.heap.objs.size + 4, [s1.heap.objs.size + 4, s1.heap.objs.size + 2, s1.heap.objs.size + 3, s1.heap.objs.size, s1.heap.objs.size + 1], _, _, H1, rfl, I2, turn_zh (PySem.W.ktu_apart s1.heap.objs.size a b lt1 lt2), ⟨zz, pi, ⟨_, _, po⟩, w1, w2⟩, new5, q⟩
theorem walk_zh {u1 u2 : Bool} {a b : Addr} {xs ys : List V} {n : Nat} (hn : n = min xs.length ys.length) : Walk (Itzh u1 u2 K a b) n (fun H => SqH u1 K H a xs ∧ SqH u2 K H b ys) (YPair (fun i => xs[i]?) (fun i => ys[i]?)) := by
  subst hn
  refine ⟨fun i H hi q => ⟨xs, ys, xs[i]'(by omega), ys[i]'(by omega), q.1, q.2, List.getElem?_eq_getElem _, List.getElem?_eq_getElem _⟩, fun H q => ⟨xs, ys, q.1, q.2, by omega⟩, fun i H v H' hi q y => ?_⟩
  obtain ⟨T, x, z, h1, h2, h3, h4, h5⟩ := y
  exact ⟨T, x, z, h1, h2, h3, h4 xs q.1, h5 ys q.2⟩
/-- t[::-1], t a tuple -/
def tRevT (K : PySem.W.Frag) (te : TE) : TE := fun σ H Q => te σ H fun x H1 => ∃ a xs, x = .ref a ∧ SqT K H1 a xs ∧ ∀ p, H1 p = none → Q (.ref p) (upd H1 p (.tup xs.reverse))
end
end RL
/-! set(l) of a list of ints; xs[::-1]. -/
namespace RL
open PySem PySem.Spec PyProof.Rows L2
abbrev nSet (w : World) : Obj := { cls := .type "set", dict := none, data := .set #[] 0 (.fresh 0 0 (!w.params.followText "set-order")) }
set_option maxHeartbeats 3200000 in
theorem set_of_list {P : Program} {w : World} {A : Around} {E : Value → Shared → Prop} {s : Shared} {l : Addr} {items : Array Value} (ms : List Int) {Q : Value → Shared → Prop} (hh : A.handled = none) (hl : s.heap.IsList l items) (im : IntsAre items.toList ms) (hb : ms.length + 1 < scanBound)
    (h : ∀ (g : Heap) (tk c : Nat), SetR w g s.heap.objs.size (fun j => decide (j ∈ ms)) c → c ≤ ms.length → (∀ b o, s.heap.get? b = some o → g.get? b = some o) → Q (.ref s.heap.objs.size) { s with heap := g, toks := tk }) :
    wpAny (model P w) A (call (.type "set") [.ref l]) Q E s := by
  have isz : items.size = ms.length := by
    have z := IntsAre.length im
    rwa [Array.length_toList] at z
  obtain ⟨cc, tl, mro⟩ := F.called_set.mro
  have made := F.called_set.made
  have sub := F.called_set.sub
  refine wpAny_call (codeAny_of_tree ?_)
  show wpAny _ _ (callAny (.type "set") _) _ _ _
  refine wpAny_pure ⟨Code.quiet_builtin _ (by decide +kernel), codeAny_builtin F.entry_type_call ?_⟩
  rw [Around.under_plain (weight_type_call_type "set" [.ref l] []) rfl]
  have q1 := F.called_set.notType
  have q2 := F.called_set.canCreate
  have q3 := F.typeCall_set_1 (.ref l)
  repeat (any_goals (first | assumption | wp_step))
  refine codeAny_mono (code_set_led1 (.ref l) (E := E) (Q₁ := fun ob s1 => ob = .ref s.heap.objs.size ∧ s1 = { s with heap := s.heap.push (nSet w) }) ⟨rfl, rfl⟩) fun r s1 hr => ?_
  cases r with
  | error e => exact hr
  | ok fl =>
    cases fl with
    | ret ob =>
      obtain ⟨rfl, rfl⟩ := hr
      have nS : (s.heap.push (nSet w)).get? s.heap.objs.size = some (nSet w) := Heap.get?_push_size _ rfl
      have ty : Shared.TypeIs { s with heap := s.heap.push (nSet w) } (.ref s.heap.objs.size) "set" := ⟨_, nS, rfl⟩
      have li := F.called_set.init.lookup
      have bi := F.called_set.init.bind (.ref s.heap.objs.size)
      repeat (any_goals (first | assumption | wp_step))
      refine codeAny_mono (codeAny_call_builtin (R := wants (fun r s2 => r = .none ∧ ∃ g tk c, s2 = { s with heap := g, toks := tk } ∧ SetR w g s.heap.objs.size (fun j => decide (j ∈ ms)) c ∧ c ≤ ms.length ∧ (∀ b o, s.heap.get? b = some o → g.get? b = some o)) E) F.called_set.init.plain F.entry_set_init (check_set_init_1 ty ?_)) fun r2 s2 hr2 => ?_
      · have l1 : (s.heap.push (nSet w)).IsList l items := hl.push _
        have lty : Shared.TypeIs { s with heap := s.heap.push (nSet w) } (.ref l) "list" := l1.typeIs
        obtain ⟨ol, hol, hcl, el, hdl⟩ := id hl
        obtain ⟨oc, od, odt, os⟩ := ol
        simp only at hcl hdl
        subst hcl; subst hdl
        have hol' : (s.heap.push (nSet w)).get? l = some { cls := .type "list", dict := od, data := .seq items el, slots := os } := Heap.get?_push_of_some _ hol
        have b1 := F.sub_list_set
        have b2 := F.sub_list_frozenset
        have nd : (Value.type "list" == Value.type "dict") = false := by decide
        unfold Builtin.«set.__init__» noKeywords Builtin.Frozenset.updateFrom
        generalize hPI : pyIter = PI
        wp_walk
        subst hPI
        refine wpAny_pyIter_list l1 (wpAny_bind (wpAny_runValue ?_))
        have lS : l < s.heap.objs.size := Heap.lt_size hol
        have hh3 : A.in1.in1.in1.handled = none := by simp [hh]
        have neI : l ≠ (s.heap.push (nSet w)).objs.size := by rw [Heap.size_push]; exact Nat.ne_of_lt (Nat.lt_succ_of_lt lS)
        have nf : s.heap.objs.size ∉ [(s.heap.push (nSet w)).objs.size, l] := by
          rw [Heap.size_push]
          simp only [List.mem_cons, List.mem_singleton, List.not_mem_nil, or_false, not_or]
          exact ⟨Nat.ne_of_lt (Nat.lt_succ_self _), Nat.ne_of_gt lS⟩
        have val : ∀ (i : Nat) (v : Value), items[i]? = some v → ∃ k t, ms[i]? = some k ∧ v = .int k t := fun i v hv => by
          have hi : i < ms.length := by rw [← isz]; exact (Array.getElem?_eq_some_iff.mp hv).1
          obtain ⟨t, e⟩ := PyProof.Rows.IntsAre.int_at im i v (by rw [Array.getElem?_toList]; exact hv)
          refine ⟨ms[i], t, List.getElem?_eq_getElem hi, ?_⟩
          rw [e, List.getD_eq_getElem?_getD, List.getElem?_eq_getElem hi] <;> rfl
        refine set_update_ints ((Walks.list hh3 _ l neI items).toS) s.heap.objs.size nf ms isz hb val (items.size - 0) 0 _ (by omega) (Nat.zero_le _) ⟨⟨_, Heap.get?_push_size _ rfl, rfl, rfl⟩, (l1.push _)⟩ ?hS0 ?hR
        case hS0 => exact ⟨0, Nat.le_refl 0, setR_new_at (Heap.get?_push_of_some _ nS)⟩
        case hR =>
          rintro ⟨g, g2, d2, tk2, os2⟩ c2 hm hc2 hS2
          have eg : g2 = s.gens := hm.gens
          have ed : d2 = s.drawn := hm.drawn
          have eo : os2 = s.os := hm.os
          subst eg; subst ed; subst eo
          show wpAny _ _ _ _ _ _
          refine wpAny_pure ?_
          show wpAny _ _ (ret Value.none) _ _ _
          rw [isz] at hc2
          refine wpAny_pure ⟨rfl, g, tk2, c2, rfl, hS2, hc2, fun b o e => ?_⟩
          have h0 : b < s.heap.objs.size := Heap.lt_size e
          refine hm.heap b o ?_ (Heap.get?_push_of_some _ (Heap.get?_push_of_some _ e))
          rw [Heap.size_push]
          simp only [List.mem_cons, List.mem_singleton, List.not_mem_nil, or_false, not_or]
          exact ⟨Nat.ne_of_lt h0, Nat.ne_of_lt (Nat.lt_succ_of_lt h0)⟩
      · cases r2 with
        | error e => exact hr2
        | ok f2 =>
          cases f2 with
          | ret r =>
            obtain ⟨rfl, g, tk, c2, rfl, hS2, hc2, hk2⟩ := hr2
            repeat (any_goals (first | assumption | wp_step))
            exact h _ _ _ hS2 hc2 hk2
          | _ => exact hr2.elim
    | _ => exact hr.elim
section
variable {X : Cx} {K : PySem.W.Frag}
def rSetL (w : World) (K : PySem.W.Frag) : List V → Hp → VK → Prop := fun vs H Q => ∃ (a : Addr) (ns : List Int), vs = [.ref a] ∧ SqL K H a (ns.map V.int) ∧ ns.length ≤ 4000 ∧
  ∀ (p : Addr) (c : Nat), H p = none → c ≤ ns.length → (∀ m : List Int, (∀ k ∈ ns, k ∈ m) → c ≤ m.length) → Q (.ref p) (upd H p (SetO w p (fun j => decide (j ∈ ns)) c))
theorem setLK {w : World} (hc : X.calm = true := by rfl) (hw : X.w = w := by rfl) (hK : X.K = K := by rfl) : CallR X (.type "set") (rSetL w K) := by
  subst hw hK
  intro pins s σ H vs us Q I r h
  obtain ⟨a, ns, rfl, hs, hz, q⟩ := h
  obtain ⟨its, rv, ht, _⟩ := I.list hs
  rw [Vals.ref1 r]
  have hi : IntsAre its.toArray.toList ns := by simpa using rv.ints
  refine set_of_list ns (I.ok.hd hc) ht.isList hi (Nat.lt_of_le_of_lt (Nat.succ_le_succ hz) (by decide)) fun h' tk c R hcl hk => ?_
  refine ⟨.ref _, _, I.laid hk (Nat.le_refl _) (setO_new R), rfl, q _ c (I.hok.fresh (Nat.le_refl _)) hcl fun m hm => ?_⟩
  obtain ⟨o, es, ep, t, _, _, _, _, nd, mem, _, _, sz, _⟩ := R
  have le : (es.toList.map keyOf).length ≤ m.length := nd.length_le_of_subset fun k hk => hm k (of_decide_eq_true ((mem k).2 hk))
  rw [List.length_map, Array.length_toList, sz] at le
  exact le
theorem pe_revLK {e : Expr} {te : TE} {k : Nat} {p1 p2 p3 pos : Pos} (he : PE X e te) (hK : X.K = K := by rfl) : PE X (.Subscript e (.Slice none none (some (.UnaryOp .USub (.Constant (.int 1) k p1) p2)) p3) pos) (tRevL K te) := hK ▸ pe_revL he
end
end RL
/-! t[::-1], t a tuple. -/
namespace RL
open PySem PySem.Spec PyProof.Rows L2
theorem turned_pick (xs : Array Value) : ((List.range xs.size).filterMap fun (m : Nat) => xs[(((xs.size : Nat) : Int) - 1 + (m : Int) * (-1)).toNat]?).toArray = xs.toList.reverse.toArray := by
  congr 1
  have e : ∀ m ∈ List.range xs.size, xs[(((xs.size : Nat) : Int) - 1 + (m : Int) * (-1)).toNat]? = ((fun k => xs[k]?) ∘ fun k => xs.size - 1 - k) m := fun m hm => by
    have hm := List.mem_range.mp hm
    rw [show (((xs.size : Nat) : Int) - 1 + (m : Int) * (-1)).toNat = xs.size - 1 - m by omega]
    rfl
  have fc : ∀ (l : List Nat) (f g : Nat → Option Value), (∀ m ∈ l, f m = g m) → l.filterMap f = l.filterMap g := fun l f g h => by
    induction l with
    | nil => rfl
    | cons x l ih => rw [List.filterMap_cons, List.filterMap_cons, h x (by simp), ih fun m hm => h m (List.mem_cons_of_mem _ hm)]
  rw [fc _ _ _ e, ← List.filterMap_map, PySem.W.krv_range, List.filterMap_reverse, PySem.W.krv_all]
theorem turned_adjust (n : Nat) : Builtin.Slice.sliceAdjust none none (-1) (n : Int) = ((n : Int) - 1, -1) := by
  unfold Builtin.Slice.sliceAdjust
  simp
theorem turned_places (n : Nat) : Builtin.Slice.slicePlaces ((n : Int) - 1) (-1) (-1) = n := by
  unfold Builtin.Slice.slicePlaces
  have h1 : ¬ ((-1 : Int) > 0) := by decide
  simp only [h1, if_false, Int.neg_neg, Int.ediv_one]
  split <;> omega
section
variable {prog : Program} {w : World} {A : Around} {E : Value → Shared → Prop} {s : Shared}
theorem turned_applied {sl : Addr} {vl vu vs : Value} {n : Nat} {Q : Int × Int × Nat → Shared → Prop} (hs : s.heap.IsSliceOf sl vl vu vs) (pl : IsPart vl none) (pu : IsPart vu none) (ps : IsPart vs (some (-1)))
    (h : Q ((n : Int) - 1, -1, n) s) : wpAny (model prog w) A (Builtin.Slice.sliceApplied (.ref sl) (pure (n : Int))) Q E s := by
  obtain ⟨os, ho, hc, hd⟩ := id hs
  unfold Builtin.Slice.sliceApplied Builtin.Slice.sliceFields
  refine wpAny_bind (wpAny_bind (wpAny_field ho hd (x := vl) rfl (wpAny_bind (wpAny_field ho hd (x := vu) rfl (wpAny_bind (wpAny_field ho hd (x := vs) rfl (wpAny_pure ?_)))))))
  refine wpAny_bind (HT.slicePart_ ps ?_)
  show wpAny _ _ (if ((-1 : Int) == 0) = true then _ else _) _ _ s
  rw [if_neg (by decide)]
  refine wpAny_bind (HT.slicePart_ pl (wpAny_bind (HT.slicePart_ pu (wpAny_bind (wpAny_pure ?_)))))
  show wpAny _ _ (match Builtin.Slice.sliceAdjust none none (-1) (n : Int) with | (lo, hi) => pure (lo, (-1 : Int), Builtin.Slice.slicePlaces lo hi (-1))) _ _ s
  rw [turned_adjust]
  show wpAny _ _ (pure ((n : Int) - 1, (-1 : Int), Builtin.Slice.slicePlaces ((n : Int) - 1) (-1) (-1))) _ _ s
  rw [turned_places]
  exact wpAny_pure h
theorem turned_item {t sl : Addr} {items : Array Value} {vl vu vs : Value} {Q : Value → Shared → Prop} (ht : IsTup s.heap t items) (hs : s.heap.IsSliceOf sl vl vu vs) (pl : IsPart vl none) (pu : IsPart vu none) (ps : IsPart vs (some (-1)))
    (h : Q (.ref s.heap.objs.size) { s with heap := s.heap.push { cls := .type "tuple", data := .seq items.toList.reverse.toArray } }) (hz : items.size ≤ sizeLine) : wpAny (model prog w) A (getItem (.ref t) (.ref sl)) Q E s := by
  have fits : sizeOk (.seq items.toList.reverse.toArray) := by
    show items.toList.reverse.toArray.size ≤ sizeLine
    rw [List.size_toArray, List.length_reverse, Array.length_toList]
    exact hz
  obtain ⟨os, ho, hc, hd⟩ := id hs
  have ty : s.TypeIs (.ref sl) "slice" := ⟨os, ho, hc⟩
  unfold getItem
  try with_reducible refine wpAny_holding ?_
  first | refine wpAny_bind (wpAny_pure ?_) | skip
  refine wpAny_bind (wpAny_sequenceKey ht.typeIs (by decide) (wpAny_bind (wpAny_callSpecial?_slot (name := Str.ofString "__getitem__") ht.typeIs PyProof.Rows.slot_tuple_getitem (wpAny_call_entry PyProof.Rows.slot_tuple_getitem ht.typeIs PyProof.Rows.entry_tuple_getitem ?_ (PyProof.Rows.args_tuple_getitem _ _)))))
  show wpAny _ _ (Builtin.Tuple.tupleItemsOf (.ref t) >>= _) _ _ s
  refine wpAny_bind (tupleItemsOf_ ht (wpAny_bind (wpAny_typeOf ty ?_)))
  rw [if_pos (by decide)]
  refine wpAny_bind (turned_applied hs pl pu ps ?_)
  have no : ¬ ((((items.size : Nat) : Int) - 1 == 0 && (-1 : Int) == 1 && items.size == items.size) = true) := by simp
  show wpAny _ _ (if (((items.size : Nat) : Int) - 1 == 0 && (-1 : Int) == 1 && items.size == items.size) = true then _ else _) _ _ s
  rw [if_neg no, turned_pick]
  first
    | exact wpAny_bind (m := Builtin.Tuple.tupleExact _) (wpAny_newObj_type (wpAny_pure ⟨_, rfl, wpAny_pure h⟩) fits)
    | exact wpAny_bind (m := Builtin.Tuple.tupleExact _) (wpAny_newObj_type (wpAny_bind (wpAny_pure (wpAny_pure ⟨_, rfl, wpAny_pure h⟩))) fits)
    | exact wpAny_bind (wpAny_bind (m := Builtin.Tuple.tupleExact _) (wpAny_newObj_type (wpAny_pure (wpAny_pure ⟨_, rfl, wpAny_pure h⟩)) fits))
    | exact wpAny_bind (wpAny_bind (m := Builtin.Tuple.tupleExact _) (wpAny_newObj_type (wpAny_pure ⟨_, rfl, wpAny_pure h⟩) fits))
end
section
variable {X : Cx} {K : PySem.W.Frag}
theorem pe_revT {e : Expr} {te : TE} {k : Nat} {p1 p2 p3 pos : Pos} (he : PE X e te) (hK : X.K = K := by rfl) : PE X (.Subscript e (.Slice none none (some (.UnaryOp .USub (.Constant (.int 1) k p1) p2)) p3) pos) (tRevT K te) := by
  subst hK
  refine ⟨fun pins s σ H Q I h => Subscript_ (thn (he.run pins s σ H _ I h) fun v s1 ⟨x, H1, I1, r1, q1⟩ => ?_)⟩
  obtain ⟨a, xs, rfl, hx, q⟩ := q1
  cases r1
  have stp : PO X (some (.UnaryOp .USub (.Constant (.int 1) k p1) p2)) (tPart (tUn (rU fun i => .int (-i)) (tC (.int 1)))) := po_some (pe_un un_neg pe_int)
  refine wpAny_Slice (thn (po_none.run pins s1 σ H1 (fun o H2 => o = none ∧ H2 = H1) I1 ⟨rfl, rfl⟩) fun vl s2 ⟨l, H2, I2, pl, el, e2⟩ => ?_)
  subst el e2
  refine thn (po_none.run pins s2 σ H2 (fun o H3 => o = none ∧ H3 = H2) I2 ⟨rfl, rfl⟩) fun vu s3 ⟨u, H3, I3, pu, eu, e3⟩ => ?_
  subst eu e3
  refine thn (stp.run pins s3 σ H3 (fun o H4 => o = some (-1) ∧ H4 = H3) I3 ⟨1, rfl, -1, rfl, rfl, rfl⟩) fun vs s4 ⟨o, H4, I4, ps, eo, e4⟩ => ?_
  subst eo e4
  have I5 : Inv X pins σ H4 { s4 with heap := s4.heap.push { cls := .type "slice", data := .fields #[vl, vu, vs] } } := I4.kept (t' := s4.toks) fun b ob q => Heap.get?_push_of_some _ q
  obtain ⟨its, r, ht, hz⟩ := I5.tuple hx
  have len := r.length
  show wpAny (model X.prog X.w) X.A (subscriptTail e (.Slice none none (some (.UnaryOp .USub (.Constant (.int 1) k p1) p2)) p3) (.ref a) (.ref s4.heap.objs.size)) (EP X pins σ Q) X.xe { s4 with heap := s4.heap.push { cls := .type "slice", data := .fields #[vl, vu, vs] } }
  refine tail_any (ops := [.ref a, .ref s4.heap.objs.size]) ht.typeIs (PyProof.Rows.slot_tuple_getitem.lookup) ?_ (by with_unfolding_all rfl)
  refine turned_item ht (Heap.IsSliceOf.new _ vl vu vs) pl pu ps ?_ (by rw [List.size_toArray]; omega)
  refine ⟨.ref _, _, I5.laid (t' := s4.toks) (o := .tup xs.reverse) (fun b ob q => Heap.get?_push_of_some _ q) (Nat.le_refl _) ?_, rfl, q _ (I5.hok.fresh (Nat.le_refl _))⟩
  exact ⟨by rw [List.length_reverse]; exact hz, _, r.reverse, IsTup.new _ _⟩
theorem sumK (hc : X.calm = true := by rfl) (h : X.K = K := by rfl) : CallR X (.builtin "sum") (rSum K) := h ▸ cr_sum hc
theorem catA (h : X.K = K := by rfl) : OpR X (binaryOp .Add) (rCatA K) := h ▸ op_catA
theorem slTA (h : X.K = K := by rfl) : SlR X (rSlA K) := h ▸ sl_tupA
theorem same_new {H : Hp} {p : Addr} {o : HO} (h : H p = none) : Same H (upd H p o) := fun b u e => by
  rw [upd_ne (ne_of_none e h)]
  exact e
/-- t[lo:hi] of a tuple, whichever it is -/
def rSlS : V → Option Int → Option Int → Hp → VK → Prop := fun x lo hi H Q => ∃ a xs, x = .ref a ∧ H a = some (.tup xs) ∧ ∀ q H', H' q = some (.tup (cutV xs lo hi)) → Same H H' → Q (.ref q) H'
theorem slTS : SlR X rSlS := by
  intro pins s σ H x v vl vu lo hi sl Q I rx hs pl pu h
  obtain ⟨a, xs, rfl, ha, q⟩ := h
  refine sl_tupA pins s σ H (.ref a) v vl vu lo hi sl Q I rx hs pl pu ⟨a, xs, rfl, .inl (.inl ha), fun hw => q a H ?_ fun _ _ e => e, fun _ p hp => q p _ upd_same (same_new hp)⟩
  unfold cutV
  rw [hw.1, hw.2, List.drop_zero, Nat.sub_zero, List.take_length]
  exact ha
/-- t + u of two tuples, whichever it is -/
def rCatS : R2 := fun x y H Q => ∃ a b xs ys, x = .ref a ∧ y = .ref b ∧ H a = some (.tup xs) ∧ H b = some (.tup ys) ∧ xs.length + ys.length ≤ sizeLine ∧ ∀ q H', H' q = some (.tup (xs ++ ys)) → Same H H' → Q (.ref q) H'
theorem catS : OpR X (binaryOp .Add) rCatS := by
  intro pins s σ H x y v u Q I rx ry h
  obtain ⟨a, b, xs, ys, rfl, rfl, ha, hb, hz, q⟩ := h
  refine op_catA pins s σ H (.ref a) (.ref b) v u Q I rx ry ⟨a, b, xs, ys, rfl, rfl, .inl (.inl ha), .inl (.inl hb), hz, fun e => q b H ?_ fun _ _ e => e, fun _ e => q a H ?_ fun _ _ e => e, fun _ _ p hp => q p _ upd_same (same_new hp)⟩
  · rw [e]
    exact hb
  · rw [e, List.append_nil]
    exact ha
end
end RL
/-! what is asked is tried: told, or the word and the field of what is refused -/
namespace RL
open PySem PySem.Spec PyProof.Rows L2
section
variable {P : Program} {w : World} {K : PySem.W.Frag} {mg : Str → Option Value} {base : Heap}
/-- a(), within a try, the wish at the slots as they are -/
theorem pe_actAt {N : List Str} {qual a : Str} {scope : Scope} {g f : Addr} {cdv : Value} {A : Around} {outer : List Env} {s : Shared} {H : Hp} {tl : XK → Hp → VK → Prop} {kl i : Nat} {p1 p2 : Pos} {pn : List (Addr × Obj)} {xe : Value → Shared → Prop} {W : WX} (act : RLX.LamAct P w K mg base kl (frs outer) s H f tl)
    (tk : L2N.Takes ((cxOf CX0 P w K mg base N qual scope g cdv A outer s H E0).nox.tr pn xe) W) (hr : Room kl (A.deeper (envOfC qual scope s.heap.objs.size g cdv))) (hN : N[i]? = some a) (hv : Vis scope a) (hd : (a == ("__debug__" : Str)) = false := by decide) (hcd : (a == ("__classdict__" : Str)) = false := by decide) :
    PE ((cxOf CX0 P w K mg base N qual scope g cdv A outer s H E0).nox.tr pn xe) (.Call (.Name a p1) [] [] p2) (fun σZ HZ Q => σZ[i]? = some (some (.ref f)) ∧ ∃ E : XK, (∀ cls d H', E cls d H' → W cls d σZ H') ∧ tl E HZ Q) := by
  refine ⟨fun pins sZ σZ HZ Q IZ h => ?_⟩
  obtain ⟨hs, E, hW, ht⟩ := h
  refine wpAny_Call_Name_kw (thn ((pe_var (pos := p1) (i := i) hN hv hd hcd).run pins sZ σZ HZ (fun v H1 => v = .ref f ∧ H1 = HZ) IZ ⟨.ref f, hs, rfl, rfl⟩) fun u s1 ⟨v, H1, I1, r1, ev, eH⟩ => ?_)
  subst ev
  rw [eH] at I1
  obtain rfl : u = Value.ref f := r1
  have un : Un (frs outer) [] H HZ s.heap s1.heap := I1.base
  refine PySem.W.callWith_F0 (act.fn s1 HZ I1.hok un) (wpAny_call (codeAny_mono (act.run _ _ s1 HZ Q E hr I1.env0 un ht) fun r s' hq => ?_))
  cases r with
  | error e => exact tk e s' (L2N.XE.of_call I1 (fun cls d H' z => hW cls d H' z) hq)
  | ok fl =>
    cases fl with
    | ret u => exact I1.after hq
    | next => exact hq.elim
    | brk => exact hq.elim
    | cont => exact hq.elim
theorem pss_some {X : Cx} {sts : List Stmt} {α : Type} {t : α → TS} (h : ∀ x, PSs X sts (t x)) : PSs X sts (fun D σ H => ∃ x, t x D σ H) := ⟨fun pins s σ H D I ⟨x, q⟩ => (h x).run pins s σ H D I q⟩
theorem pss_if {X : Cx} {sts : List Stmt} {p : Prop} {t : TS} (h : p → PSs X sts t) : PSs X sts (fun D σ H => p ∧ t D σ H) := ⟨fun pins s σ H D I ⟨x, q⟩ => (h x).run pins s σ H D I q⟩
theorem exA_of {X : Cx} {a C dd : Addr} {oe : Obj} {cls : Value} {d : Option Addr} {pn : List (Addr × Obj)} (hz : L2N.Zn cls d oe) (hf : ∃ vs, oe.data = .fields vs) (e1 : cls = .ref C) (e2 : d = some dd) : RLX.ExA (X.suite a ((a, oe) :: pn)) a C dd := by
  subst e1 e2
  obtain ⟨vs, hd⟩ := hf
  exact ⟨⟨oe, vs, List.mem_cons_self, hz, hd⟩, rfl⟩
/-- an exception of the name n, as it is caught -/
def ExQ (K : PySem.W.Frag) (Q : V → V → Hp → Prop) : XK := fun cls d H' => ∃ (n : Str) (dd : Addr) (fs : List (Str × V)) (v : V), cls = .ref (He.ga K n) ∧ d = some dd ∧ n ∈ RLX.allX ∧ Exn K n (He.ga K n) dd fs H' ∧ PySem.W.exmAny K (.ref (He.ga K n)) (RLX.caught K) = some true ∧ fs.lookup ("word" : Str) = some (V.str n) ∧
  (match fldOf n with | some f => fs.lookup f = some v | none => v = .non) ∧ ∀ H2, Same H' H2 → Q (.str n) v H2
def ttTried (K : PySem.W.Frag) : RLX.TTL := fun tl H Q => ∀ (H1 : Hp) (E' : XK) (Q' : VK), Same H H1 → (∀ cls d H', ExQ K (fun x v H2 => ∀ t, H2 t = none → Q (.ref t) (upd H2 t (.tup [.non, x, v]))) cls d H' → E' cls d H') → (∀ v H', (∀ t, H' t = none → Q (.ref t) (upd H' t (.tup [v, .str "", .non]))) → Q' v H') → tl E' H1 Q'
theorem sc__law_tried : FnScope ["_law_ask", "_law_told", "_law_word_here", "_law_field_here", "_law_e"] ["_law_ask"] (defScope s__law_tried) := ⟨rfl, rfl, rfl, by decide +kernel, rfl, by decide +kernel, by decide +kernel⟩
theorem okl_tried (T : Tx K mg) {kl : Nat} : RLX.FnL P w K mg base (Nat.max 2 kl + 1) kl (He.ga K "_law_tried") (ttTried K) := by
  obtain ⟨fd_w, F_w, b_w⟩ := okx_word (P := P) (w := w) (base := base) T
  obtain ⟨fd_f, F_f, b_f⟩ := okx_field (P := P) (w := w) (base := base) T
  have kw : PySem.W.keepIn K (.ref (He.ga K "_law_word")) = true := by
    obtain ⟨_, F'⟩ := T.d__law_word
    exact F'.kp
  have kf : PySem.W.keepIn K (.ref (He.ga K "_law_field")) = true := by
    obtain ⟨_, F'⟩ := T.d__law_field
    exact F'.kp
  obtain ⟨fd, F⟩ := T.d__law_tried
  refine RLX.fnL_of F sc__law_tried (F.bindsN fun _ _ _ _ _ _ us hl => match us, hl with | [_], _ => rfl) fun cdv A outer s H f Q tl hr act h => ?_
  have hr2 : Room 2 (A.deeper (envOfC "_law_tried" (defScope s__law_tried) s.heap.objs.size (He.ga K "_law_tried") cdv)) := hr.mono (Nat.le_max_left _ _)
  have hrl : Room kl (A.deeper (envOfC "_law_tried" (defScope s__law_tried) s.heap.objs.size (He.ga K "_law_tried") cdv)) := hr.mono (Nat.le_max_right _ _)
  refine ⟨_, pss_cons (ps_asg (pe_tup (pa_cons pe_non (pa_cons pe_str (pa_cons pe_non pa_nil)))) (pgT (K := K) (n := 3) rfl (pgs_cons (pg_name (i := 1) sc__law_tried.nd rfl (Or.inl rfl)) (pgs_cons (pg_name (i := 2) sc__law_tried.nd rfl (Or.inl rfl)) (pgs_cons (pg_name (i := 3) sc__law_tried.nd rfl (Or.inl rfl)) pgs_nil)))))
    (pss_cons (RLX.ps_tryT (i := 4) (x1 := "RoamError") (x2 := "Missing") (x3 := "NothingLeft") (tb := fun W => tAsg (fun σZ HZ Q => σZ[0]? = some (some (.ref f)) ∧ ∃ E : XK, (∀ cls d H', E cls d H' → W cls d σZ H') ∧ tl E HZ Q) (gName 1))
      (ts := fun a cls d D σ H => ∃ C, ∃ dd, cls = .ref C ∧ d = some dd ∧ tSeq (tAsg (fun σ H Q => tCons (tVar 4) tNil σ H fun vs H1 => spWord K a C dd vs H1 Q) (gName 2)) (tAsg (fun σ H Q => tCons (tVar 4) tNil σ H fun vs H1 => spField K a C dd vs H1 Q) (gName 3)) D σ H)
      rfl rfl sc__law_tried.nd rfl rfl rfl T.glo_RoamError (by decide) rfl T.glo_Missing (by decide) rfl T.glo_NothingLeft (by decide)
      (fun W pn xe tk => pss_one (ps_set (i := 1) sc__law_tried.nd rfl (Or.inl rfl) (pe_actAt (i := 0) act tk hrl rfl (Or.inl rfl))))
      (fun a oe cls d pn hz hf => pss_some fun C => pss_some fun dd => pss_if fun e1 => pss_if fun e2 =>
        pss_cons (ps_set (i := 2) sc__law_tried.nd rfl (Or.inl rfl) (RLX.pe_callX F_w ⟨hr2.dp, hr2.un⟩ (exA_of hz hf e1 e2) rfl T.glo_law_word kw b_w (pa_cons (pv 4) pa_nil))) (pss_one (ps_set (i := 3) sc__law_tried.nd rfl (Or.inl rfl) (RLX.pe_callX F_f (L2H.RoomH.mono (k := 2) ⟨hr2.dp, hr2.un⟩ (by decide)) (exA_of hz hf e1 e2) rfl T.glo_law_field kf b_f (pa_cons (pv 4) pa_nil))))))
    (pss_one (ps_ret (pe_tup (pa_cons (pv 1) (pa_cons (pv 2) (pa_cons (pv 3) pa_nil))))))), ?_⟩
  refine ⟨(by show 3 ≤ sizeLine; decide), fun p np => ⟨p, _, rfl, SqT.of upd_same, rfl, _, _, rfl, _, _, rfl, _, _, rfl, rfl, ?_⟩⟩
  refine ⟨rfl, ExQ K (fun x v H2 => ∀ t, H2 t = none → Q (.ref t) (upd H2 t (.tup [.non, x, v]))), fun cls d H' hx => ?_, h _ _ _ (sn (Same.refl H) np) (fun _ _ _ z => z) fun v H' k => ?_⟩
  · obtain ⟨n, dd, fs, v, rfl, rfl, hn, En, hx, hw, hv, k⟩ := hx
    refine ⟨hx, fun a na => ⟨_, dd, rfl, rfl, ?_⟩⟩
    refine ⟨_, rfl, n, fs, rfl, hn, hw, En, fun H2 s2 => ⟨_, rfl, n, fs, v, rfl, En.same s2, hv, fun H3 s3 => ?_⟩⟩
    exact ⟨_, rfl, _, rfl, _, rfl, (by show 3 ≤ sizeLine; decide), fun t nt => k H3 (s2.trans s3) t nt⟩
  · exact ⟨_, rfl, _, rfl, _, rfl, (by show 3 ≤ sizeLine; decide), fun t nt => k t nt⟩
/-- .. its word and field alone -/
def ttRefused (K : PySem.W.Frag) : RLX.TTL := fun tl H Q => ∀ (H1 : Hp) (E' : XK) (Q' : VK), Same H H1 → (∀ cls d H', ExQ K (fun x v H2 => ∀ H3 t, H3 t = some (.tup [x, v]) → Same H2 H3 → Q (.ref t) H3) cls d H' → E' cls d H') → tl E' H1 Q'
theorem sc__law_refused : FnScope ["_law_ask"] ["_law_ask"] (defScope s__law_refused) := ⟨rfl, rfl, rfl, by decide +kernel, rfl, by decide +kernel, by decide +kernel⟩
theorem okl_refused (T : Tx K mg) {kl : Nat} : RLX.FnL P w K mg base (Nat.max 2 kl + 2) kl (He.ga K "_law_refused") (ttRefused K) := by
  have Ft := okl_tried (P := P) (w := w) (base := base) T (kl := kl)
  have kt : PySem.W.keepIn K (.ref (He.ga K "_law_tried")) = true := by
    obtain ⟨_, F'⟩ := T.d__law_tried
    exact F'.kp
  obtain ⟨fd, F⟩ := T.d__law_refused
  refine RLX.fnL_of F sc__law_refused (F.bindsN fun _ _ _ _ _ _ us hl => match us, hl with | [_], _ => rfl) fun cdv A outer s H f Q tl hr act h => ?_
  refine ⟨_, pss_one (ps_ret (pe_slice slTS (RLX.pe_handL (i := 0) act Ft (Nat.le_refl _) hr rfl T.glo_law_tried kt rfl (Or.inl rfl)) (po_some pe_int) po_none)), ?_⟩
  refine ⟨rfl, fun H1 E' Q' s1 hE hQ => h H1 E' Q' s1 fun cls d H' hx => hE cls d H' ?_⟩
  obtain ⟨n, dd, fs, v, e1, e2, hn, En, hx, hw, hv, k⟩ := hx
  refine ⟨n, dd, fs, v, e1, e2, hn, En, hx, hw, hv, fun H2 s2 t nt => ?_⟩
  exact ⟨1, rfl, t, _, rfl, upd_same, fun q H3 hq s3 => k H2 s2 H3 q hq ((sn (Same.refl H2) nt).trans s3)⟩
end
end RL
/-! Walks on a board, how far places are, lots: plain mathematics. -/
namespace RLM
/-- a walk of so many ways -/
inductive Wk (E : List (Nat × Nat)) : Nat → Nat → Nat → Prop where
  | z (a : Nat) : Wk E 0 a a
  | s {k a b c : Nat} (h : Wk E k a b) (e : (b, c) ∈ E) : Wk E (k + 1) a c
def Near (E : List (Nat × Nat)) (m : Int) (a b : Nat) : Prop := ∃ k : Nat, (k : Int) ≤ m ∧ Wk E k a b
/-- all ways lie on n places -/
def On (n : Nat) (E : List (Nat × Nat)) : Prop := ∀ p ∈ E, p.1 < n ∧ p.2 < n ∧ p.1 ≠ p.2
theorem Wk.lt {n : Nat} {E : List (Nat × Nat)} (h : On n E) {k a b : Nat} (w : Wk E k a b) (ha : a < n) : b < n := by
  induction w with
  | z a => exact ha
  | s w e ih => exact (h _ e).2.1
theorem Wk.left {E : List (Nat × Nat)} {k a b c : Nat} (e : (a, b) ∈ E) (w : Wk E k b c) : Wk E (k + 1) a c := by
  induction w with
  | z b => exact .s (.z a) e
  | s w e2 ih => exact .s (ih e) e2
theorem Wk.turn {E F : List (Nat × Nat)} (h : ∀ a b, (a, b) ∈ E → (b, a) ∈ F) {k a b : Nat} (w : Wk E k a b) : Wk F k b a := by
  induction w with
  | z a => exact .z a
  | s w e ih => exact ih.left (h _ _ e)
theorem Wk.map {E F : List (Nat × Nat)} (f : Nat → Nat) (h : ∀ a b, (a, b) ∈ E → (f a, f b) ∈ F) {k a b : Nat} (w : Wk E k a b) : Wk F k (f a) (f b) := by
  induction w with
  | z a => exact .z _
  | s w e ih => exact .s ih (h _ _ e)
theorem Wk.mono {E F : List (Nat × Nat)} (h : ∀ p, p ∈ E → p ∈ F) {k a b : Nat} (w : Wk E k a b) : Wk F k a b := by
  induction w with
  | z a => exact .z _
  | s w e ih => exact .s ih (h _ e)
theorem near_refl {E : List (Nat × Nat)} {m : Int} {a : Nat} (h : 0 ≤ m) : Near E m a a := ⟨0, h, .z a⟩
theorem near_mono {E : List (Nat × Nat)} {m m' : Int} {a b : Nat} (h : m ≤ m') (x : Near E m a b) : Near E m' a b := by
  obtain ⟨k, h1, h2⟩ := x
  exact ⟨k, Int.le_trans h1 h, h2⟩
theorem near_turn {E F : List (Nat × Nat)} (h : ∀ a b, (a, b) ∈ E ↔ (b, a) ∈ F) {m : Int} {a b : Nat} : Near E m a b ↔ Near F m b a := by
  constructor
  · rintro ⟨k, h1, h2⟩
    exact ⟨k, h1, h2.turn fun a b => (h a b).1⟩
  · rintro ⟨k, h1, h2⟩
    exact ⟨k, h1, h2.turn fun a b => (h b a).2⟩
/-! ### how far: breadth first -/
/-- the lists of how far while the places that are l far are looked at -/
structure Lev (n : Nat) (E : List (Nat × Nat)) (a l : Nat) (fs : List (Option Nat)) (edge : List Nat) : Prop where
  len : fs.length = n
  some_ : ∀ (b d : Nat), fs[b]? = some (some d) → d ≤ l ∧ Wk E d a b ∧ ∀ k, Wk E k a b → d ≤ k
  none_ : ∀ b : Nat, fs[b]? = some none → ∀ k, Wk E k a b → l < k
  edge_ : ∀ b, b ∈ edge ↔ fs[b]? = some (some l)
theorem lev_start {n : Nat} {E : List (Nat × Nat)} {a : Nat} (ha : a < n) : Lev n E a 0 ((List.replicate n none).set a (some 0)) [a] := by
  refine ⟨by simp, fun b d h => ?_, fun b h k w => ?_, fun b => ?_⟩
  · rw [List.getElem?_set] at h
    by_cases e : a = b
    · subst e
      simp [ha] at h
      subst h
      exact ⟨Nat.le_refl _, .z _, fun k _ => Nat.zero_le _⟩
    · rw [if_neg e, List.getElem?_replicate] at h
      split at h <;> simp at h
  · rw [List.getElem?_set] at h
    by_cases e : a = b
    · subst e
      simp [ha] at h
    · cases w with
      | z => exact absurd rfl e
      | s w e2 => omega
  · rw [List.getElem?_set]
    by_cases e : a = b
    · subst e
      simp [ha]
    · rw [if_neg e, List.getElem?_replicate]
      simp
      exact fun h => e h.symm
/-- within a level: done are the ends looked at -/
structure Mid (n : Nat) (E : List (Nat × Nat)) (l : Nat) (fs0 : List (Option Nat)) (edge done : List Nat) (fs : List (Option Nat)) (bey : List Nat) : Prop where
  len : fs.length = n
  old : ∀ (b d : Nat), fs0[b]? = some (some d) → fs[b]? = some (some d)
  new : ∀ (b d : Nat), fs[b]? = some (some d) → fs0[b]? = some (some d) ∨ (fs0[b]? = some none ∧ d = l + 1 ∧ b ∈ bey)
  bey_ : ∀ b : Nat, b ∈ bey → fs0[b]? = some none ∧ fs[b]? = some (some (l + 1)) ∧ ∃ c, c ∈ edge ∧ (c, b) ∈ E
  done_ : ∀ o : Nat, o ∈ done → ∃ d, fs[o]? = some (some d)
  cnt : fs.count none + bey.length = fs0.count none
theorem mid_start {n l : Nat} {E : List (Nat × Nat)} {fs0 : List (Option Nat)} {edge : List Nat} (h : fs0.length = n) : Mid n E l fs0 edge [] fs0 [] :=
  ⟨h, fun _ _ h => h, fun _ _ h => .inl h, fun _ h => (by cases h), fun _ h => (by cases h), by simp⟩
theorem count_set : ∀ (fs : List (Option Nat)) (o d : Nat), fs[o]? = some none → (fs.set o (some d)).count none + 1 = fs.count none
  | [], o, d, h => by simp at h
  | x :: r, 0, d, h => by
    simp at h
    subst h
    simp
  | x :: r, o + 1, d, h => by
    simp at h
    have ih := count_set r o d h
    rw [List.set_cons_succ, List.count_cons, List.count_cons]
    omega
theorem Mid.hit {n l : Nat} {E : List (Nat × Nat)} {fs0 fs : List (Option Nat)} {edge done bey : List Nat} {o d : Nat} (M : Mid n E l fs0 edge done fs bey) (h : fs[o]? = some (some d)) : Mid n E l fs0 edge (done ++ [o]) fs bey :=
  ⟨M.len, M.old, M.new, M.bey_, fun p hp => (List.mem_append.mp hp).elim (M.done_ p) (fun hq => ⟨d, by rw [List.mem_singleton.mp hq]; exact h⟩), M.cnt⟩
theorem Mid.put {n l : Nat} {E : List (Nat × Nat)} {fs0 fs : List (Option Nat)} {edge done bey : List Nat} {o c : Nat} (M : Mid n E l fs0 edge done fs bey) (h0 : fs0.length = n) (h : fs[o]? = some none) (hc : c ∈ edge) (he : (c, o) ∈ E) :
    Mid n E l fs0 edge (done ++ [o]) (fs.set o (some (l + 1))) (bey ++ [o]) := by
  have hl : o < fs.length := (List.getElem?_eq_some_iff.mp h).1
  have h00 : fs0[o]? = some none := by
    have h1 : o < fs0.length := by rw [h0, ← M.len]; exact hl
    rw [List.getElem?_eq_getElem h1]
    cases e : fs0[o] with
    | none => rfl
    | some d =>
      have q := M.old o d (by rw [List.getElem?_eq_getElem h1, e])
      rw [h] at q
      cases q
  refine ⟨by simp [M.len], fun b d hb => ?_, fun b d hb => ?_, fun b hb => ?_, fun p hp => ?_, ?_⟩
  · have q := M.old b d hb
    rw [List.getElem?_set]
    by_cases e : o = b
    · subst e
      rw [h] at q
      cases q
    · rw [if_neg e]
      exact q
  · rw [List.getElem?_set] at hb
    by_cases e : o = b
    · subst e
      simp [hl] at hb
      exact .inr ⟨h00, hb.symm, by simp⟩
    · rw [if_neg e] at hb
      rcases M.new b d hb with q | ⟨q1, q2, q3⟩
      · exact .inl q
      · exact .inr ⟨q1, q2, List.mem_append_left _ q3⟩
  · rcases List.mem_append.mp hb with hb | hb
    · obtain ⟨q1, q2, q3⟩ := M.bey_ b hb
      refine ⟨q1, ?_, q3⟩
      rw [List.getElem?_set]
      by_cases e : o = b
      · subst e
        simp [hl]
      · rw [if_neg e]
        exact q2
    · rw [List.mem_singleton.mp hb]
      exact ⟨h00, by simp [hl], c, hc, he⟩
  · rw [List.getElem?_set]
    by_cases e : o = p
    · subst e
      exact ⟨l + 1, by simp [hl]⟩
    · rw [if_neg e]
      rcases List.mem_append.mp hp with hp | hp
      · exact M.done_ p hp
      · exact absurd (List.mem_singleton.mp hp).symm e
  · have q := count_set fs o (l + 1) h
    have q2 := M.cnt
    rw [List.length_append]
    simp
    omega
/-- a level's end -/
theorem Mid.next {n l a : Nat} {E : List (Nat × Nat)} {fs0 fs : List (Option Nat)} {edge done bey : List Nat} (M : Mid n E l fs0 edge done fs bey) (L : Lev n E a l fs0 edge) (hE : On n E) (ha : a < n) (hd : ∀ c o, c ∈ edge → (c, o) ∈ E → o ∈ done) : Lev n E a (l + 1) fs bey := by
  have key : ∀ b, fs[b]? = some none → fs0[b]? = some none := fun b h => by
    have hl : b < fs.length := (List.getElem?_eq_some_iff.mp h).1
    have h1 : b < fs0.length := by rw [L.len, ← M.len]; exact hl
    rw [List.getElem?_eq_getElem h1]
    cases e : fs0[b] with
    | none => rfl
    | some d =>
      have q := M.old b d (by rw [List.getElem?_eq_getElem h1, e])
      rw [h] at q
      cases q
  refine ⟨M.len, fun b d h => ?_, fun b h k w => ?_, fun b => ⟨fun h => (M.bey_ b h).2.1, fun h => ?_⟩⟩
  · rcases M.new b d h with q | ⟨q1, q2, q3⟩
    · obtain ⟨r1, r2, r3⟩ := L.some_ b d q
      exact ⟨Nat.le_succ_of_le r1, r2, r3⟩
    · subst q2
      obtain ⟨_, _, c, hc, he⟩ := M.bey_ b q3
      have r := (L.some_ c l ((L.edge_ c).1 hc)).2.1
      exact ⟨Nat.le_refl _, .s r he, fun k w => L.none_ b q1 k w⟩
  · have h0 := key b h
    have q := L.none_ b h0 k w
    rcases Nat.lt_or_ge (l + 1) k with c | c
    · exact c
    · exfalso
      have e : k = l + 1 := by omega
      subst e
      cases w with
      | s w e =>
        rename_i c
        have hc : c < n := w.lt hE ha
        have hcl : c < fs0.length := by rw [L.len]; exact hc
        have hcs : fs0[c]? = some (some l) := by
          rw [List.getElem?_eq_getElem hcl]
          cases z : fs0[c] with
          | none =>
            have := L.none_ c (by rw [List.getElem?_eq_getElem hcl, z]) l w
            omega
          | some d =>
            have hz : fs0[c]? = some (some d) := by rw [List.getElem?_eq_getElem hcl, z]
            obtain ⟨r1, r2, r3⟩ := L.some_ c d hz
            have r4 := r3 l w
            have r5 : l + 1 ≤ d + 1 := by
              have := L.none_ b h0 (d + 1) (.s r2 e)
              omega
            have : d = l := by omega
            rw [this]
        obtain ⟨d, hd2⟩ := M.done_ b (hd c b ((L.edge_ c).2 hcs) e)
        rw [h] at hd2
        cases hd2
  · rcases M.new b (l + 1) h with q | ⟨_, _, q3⟩
    · have := (L.some_ b _ q).1
      omega
    · exact q3
/-- what a list of how far tells -/
def Fars (n : Nat) (E : List (Nat × Nat)) (a : Nat) (fs : List (Option Nat)) : Prop := fs.length = n ∧ ∀ (b : Nat) (d : Option Nat), fs[b]? = some d → (∀ m : Int, (∃ k : Nat, d = some k ∧ (k : Int) ≤ m) ↔ Near E m a b)
theorem Lev.fars {n l a : Nat} {E : List (Nat × Nat)} {fs : List (Option Nat)} (L : Lev n E a l fs []) (hE : On n E) (ha : a < n) : Fars n E a fs := by
  have all : ∀ k b, Wk E k a b → ∃ d, fs[b]? = some (some d) := by
    intro k
    induction k with
    | zero =>
      intro b w
      cases w
      have hl : a < fs.length := by rw [L.len]; exact ha
      cases z : fs[a] with
      | none =>
        have := L.none_ a (by rw [List.getElem?_eq_getElem hl, z]) 0 (.z a)
        omega
      | some d => exact ⟨d, by rw [List.getElem?_eq_getElem hl, z]⟩
    | succ k ih =>
      intro b w
      have hb : b < n := w.lt hE ha
      have hbl : b < fs.length := by rw [L.len]; exact hb
      cases w with
      | s w e =>
        rename_i c
        obtain ⟨d, hd⟩ := ih c w
        obtain ⟨r1, r2, r3⟩ := L.some_ c d hd
        have r4 : d ≠ l := fun z => by
          subst z
          have := (L.edge_ c).2 hd
          cases this
        cases z : fs[b] with
        | none =>
          have := L.none_ b (by rw [List.getElem?_eq_getElem hbl, z]) (d + 1) (.s r2 e)
          omega
        | some d2 => exact ⟨d2, by rw [List.getElem?_eq_getElem hbl, z]⟩
  refine ⟨L.len, fun b d h m => ⟨?_, ?_⟩⟩
  · rintro ⟨k, rfl, hk⟩
    exact ⟨k, hk, (L.some_ b k h).2.1⟩
  · rintro ⟨k, hk, w⟩
    obtain ⟨d2, hd2⟩ := all k b w
    rw [h] at hd2
    have e : d = some d2 := Option.some.inj hd2
    subst e
    have := (L.some_ b d2 h).2.2 k w
    exact ⟨d2, rfl, by omega⟩
/-! ### lots -/
open Classical in
noncomputable def lotP (n : Nat) (p : Nat → Prop) : List Nat := (List.range n).filter fun b => decide (p b)
open Classical in
theorem mem_lotP {n : Nat} {p : Nat → Prop} {b : Nat} : b ∈ lotP n p ↔ b < n ∧ p b := by
  unfold lotP
  rw [List.mem_filter, List.mem_range, decide_eq_true_iff]
open Classical in
theorem lotP_congr {n : Nat} {p q : Nat → Prop} (h : ∀ b, b < n → (p b ↔ q b)) : lotP n p = lotP n q := by
  unfold lotP
  refine List.filter_congr fun b hb => ?_
  rw [decide_eq_decide]
  exact h b (List.mem_range.mp hb)
theorem sorted_eq : ∀ {xs ys : List Nat}, xs.Pairwise (· < ·) → ys.Pairwise (· < ·) → (∀ b, b ∈ xs ↔ b ∈ ys) → xs = ys
  | [], [], _, _, _ => rfl
  | [], y :: ys, _, _, h => by
    have := (h y).2 (by simp)
    cases this
  | x :: xs, [], _, _, h => by
    have := (h x).1 (by simp)
    cases this
  | x :: xs, y :: ys, h1, h2, h => by
    rw [List.pairwise_cons] at h1 h2
    have exy : x = y := by
      rcases List.mem_cons.mp ((h x).1 (by simp)) with e | e
      · exact e
      · rcases List.mem_cons.mp ((h y).2 (by simp)) with e2 | e2
        · exact e2.symm
        · have a := h1.1 y e2
          have b := h2.1 x e
          omega
    subst exy
    congr 1
    refine sorted_eq h1.2 h2.2 fun b => ⟨fun hb => ?_, fun hb => ?_⟩
    · rcases List.mem_cons.mp ((h b).1 (List.mem_cons_of_mem _ hb)) with e | e
      · have := h1.1 b hb
        omega
      · exact e
    · rcases List.mem_cons.mp ((h b).2 (List.mem_cons_of_mem _ hb)) with e | e
      · have := h2.1 b hb
        omega
      · exact e
theorem range_sorted (n : Nat) : (List.range n).Pairwise (· < ·) := List.pairwise_lt_range
theorem lotP_sorted (n : Nat) (p : Nat → Prop) : (lotP n p).Pairwise (· < ·) := (range_sorted n).filter _
theorem lotP_of {n : Nat} {p : Nat → Prop} {xs : List Nat} (h : xs.Pairwise (· < ·)) (hm : ∀ b, b ∈ xs ↔ b < n ∧ p b) : xs = lotP n p :=
  sorted_eq h (lotP_sorted n p) fun b => (hm b).trans mem_lotP.symm
theorem lotP_len (n : Nat) (p : Nat → Prop) : (lotP n p).length ≤ n := by
  have := List.length_filter_le (fun b => @decide (p b) (Classical.propDecidable _)) (List.range n)
  rw [List.length_range] at this
  exact this
end RLM
/-! (x, ..) * k of a tuple, whichever it is. -/
namespace RL
open PySem PySem.Spec PyProof.Rows L2
section
variable {X : Cx}
def rRepS : R2 := fun x y H Q => ∃ (l : Addr) (k : Int) (xs : List V), x = .ref l ∧ y = .int k ∧ H l = some (.tup xs) ∧ xs ≠ [] ∧ 1 ≤ k ∧ k ≤ 1000 ∧ xs.length ≤ 1000 ∧ ∀ q H', H' q = some (.tup (List.replicate k.toNat xs).flatten) → Same H H' → Q (.ref q) H'
theorem repTS : OpR X (binaryOp .Mult) rRepS := by
  intro pins s σ H x y v u Q I rx ry h
  obtain ⟨l, k, xs, rfl, rfl, hl, ne, k1, k2, lx, q⟩ := h
  refine op_repT1 pins s σ H (.ref l) (.int k) v u Q I rx ry ⟨l, k, xs, rfl, rfl, SqT.of hl, ne, k1, k2, lx, fun e => q l H ?_ fun _ _ e => e, fun p hp => q p _ upd_same (same_new hp)⟩
  subst e
  rw [hl]
  simp
end
end RL
/-! in, over nested data -/
namespace RL
open PySem PySem.Spec PyProof.Rows L2
theorem inDK {X : Cx} {K : PySem.W.Frag} (hu : X.A.units + 65 < cLine) (h : X.K = K := by rfl) : OpR X (compareOp .In) (rInD K) := h ▸ op_inD hu
theorem hr65 {k : Nat} {A : Around} (hr : Room k A) : A.units + 65 < cLine := by
  have := hr.un
  omega
end RL
/-! What stands in the heap: numbers, lots, boards, the law's box. -/
namespace RL
open PySem PySem.Spec PyProof.Rows L2 RLM
def vI (k : Nat) : V := .int (k : Nat)
def vO : Option Nat → V
  | none => .non
  | some k => .int (k : Nat)
/-- all but the list at c and dicts stay -/
def Kc (c : Addr) (H H' : Hp) : Prop := ∀ a o, a ≠ c → (∀ kvs, o ≠ .dK kvs) → H a = some o → H' a = some o
theorem Kc.refl (c : Addr) (H : Hp) : Kc c H H := fun _ _ _ _ h => h
theorem Kc.trans {c : Addr} {H H1 H2 : Hp} (a : Kc c H H1) (b : Kc c H1 H2) : Kc c H H2 := fun x o h1 h2 h => b x o h1 h2 (a x o h1 h2 h)
theorem kc_same {c : Addr} {H H' : Hp} (s : Same H H') : Kc c H H' := fun x o _ _ h => s x o h
theorem same_upd {H : Hp} {p : Addr} {o : HO} (h : H p = none) : Same H (upd H p o) := fun b u e => by
  rw [upd_ne (ne_of_none e h)]
  exact e
/-- an object that H does not know may change -/
theorem same_mut {H H' : Hp} {p : Addr} {o : HO} (s : Same H H') (h : H p = none) : Same H (upd H' p o) := fun b u e => by
  rw [upd_ne (ne_of_none e h)]
  exact s b u e
theorem Kc.upd {c : Addr} {H H' : Hp} {p : Addr} {o : HO} (s : Kc c H H') (h : H p = none) : Kc c H (L2.upd H' p o) := fun b u h1 h2 e => by
  rw [upd_ne (ne_of_none e h)]
  exact s b u h1 h2 e
theorem Kc.tup {c : Addr} {H H' : Hp} {a : Addr} {xs : List V} (k : Kc c H H') (hc : ∃ ys, H c = some (.lst ys)) (h : H a = some (.tup xs)) : H' a = some (.tup xs) := by
  refine k a _ (fun e => ?_) (fun kvs z => by cases z) h
  obtain ⟨ys, hc⟩ := hc
  rw [e, hc] at h
  cases h
/-- a list of pairs: where each stands, and what it is -/
structure PairsAt (c : Addr) (H : Hp) (l : Addr) (L : List (Addr × Nat × Nat)) : Prop where
  at_ : H l = some (.lst (L.map fun q => V.ref q.1))
  ne : l ≠ c
  tup : ∀ q ∈ L, H q.1 = some (.tup [vI q.2.1, vI q.2.2])
theorem PairsAt.keep {c : Addr} {H H' : Hp} {l : Addr} {L : List (Addr × Nat × Nat)} (k : Kc c H H') (hc : ∃ ys, H c = some (.lst ys)) (h : PairsAt c H l L) : PairsAt c H' l L :=
  ⟨k _ _ h.ne (fun _ z => by cases z) h.at_, h.ne, fun q hq => k.tup hc (h.tup q hq)⟩
theorem PairsAt.same {c : Addr} {H H' : Hp} {l : Addr} {L : List (Addr × Nat × Nat)} (k : Same H H') (h : PairsAt c H l L) : PairsAt c H' l L :=
  ⟨k _ _ h.at_, h.ne, fun q hq => k _ _ (h.tup q hq)⟩
/-- a board's attributes -/
def bf (n : Nat) (lp ll lf : Addr) : List (Str × V) := putF "fars" (.ref lf) (putF "leads" (.ref ll) (putF "pairs" (.ref lp) (putF "many" (.int (n : Nat)) [])))
structure BoardAt (K : PySem.W.Frag) (c : Addr) (H : Hp) (x : Addr) (n : Nat) (E : List (Nat × Nat)) : Prop where
  ex : ∃ (dx lp ll lf : Addr) (L : List (Addr × Nat × Nat)) (ls : List V) (F : List (Addr × List (Option Nat))), H x = some (.ins (cB K) dx (bf n lp ll lf)) ∧ PairsAt c H lp L ∧ L.map (·.2) = E ∧
    H ll = some (.lst ls) ∧ ll ≠ c ∧ ls.length = n ∧ H lf = some (.lst (F.map fun q => V.ref q.1)) ∧ lf ≠ c ∧ F.length = n ∧ ∀ (a : Nat) (q : Addr × List (Option Nat)), F[a]? = some q → H q.1 = some (.lst (q.2.map vO)) ∧ q.1 ≠ c ∧ Fars n E a q.2
  lo : 1 ≤ n
  hi : n ≤ 8
  on : On n E
  nd : E.Nodup
theorem BoardAt.keep {K : PySem.W.Frag} {c : Addr} {H H' : Hp} {x : Addr} {n : Nat} {E : List (Nat × Nat)} (k : Kc c H H') (hc : ∃ ys, H c = some (.lst ys)) (h : BoardAt K c H x n E) : BoardAt K c H' x n E := by
  obtain ⟨dx, lp, ll, lf, L, ls, F, h1, h2, h3, h4, h5, h6, h7, h8, h9, h10⟩ := h.ex
  refine ⟨⟨dx, lp, ll, lf, L, ls, F, ?_, h2.keep k hc, h3, k _ _ h5 (fun _ z => by cases z) h4, h5, h6, k _ _ h8 (fun _ z => by cases z) h7, h8, h9, fun a q e => ?_⟩, h.lo, h.hi, h.on, h.nd⟩
  · refine k _ _ (fun e => ?_) (fun _ z => by cases z) h1
    obtain ⟨ys, hc⟩ := hc
    rw [e, hc] at h1
    cases h1
  · obtain ⟨q1, q2, q3⟩ := h10 a q e
    exact ⟨k _ _ q2 (fun _ z => by cases z) q1, q2, q3⟩
theorem BoardAt.same {K : PySem.W.Frag} {c : Addr} {H H' : Hp} {x : Addr} {n : Nat} {E : List (Nat × Nat)} (k : Same H H') (h : BoardAt K c H x n E) : BoardAt K c H' x n E := by
  obtain ⟨dx, lp, ll, lf, L, ls, F, h1, h2, h3, h4, h5, h6, h7, h8, h9, h10⟩ := h.ex
  exact ⟨⟨dx, lp, ll, lf, L, ls, F, k _ _ h1, h2.same k, h3, k _ _ h4, h5, h6, k _ _ h7, h8, h9, fun a q e => ⟨k _ _ (h10 a q e).1, (h10 a q e).2⟩⟩, h.lo, h.hi, h.on, h.nd⟩
theorem BoardAt.obj {K : PySem.W.Frag} {c : Addr} {H : Hp} {x : Addr} {n : Nat} {E : List (Nat × Nat)} (h : BoardAt K c H x n E) : ∃ dx lp ll lf, H x = some (.ins (cB K) dx (bf n lp ll lf)) := by
  obtain ⟨dx, lp, ll, lf, L, ls, F, h1, _⟩ := h.ex
  exact ⟨dx, lp, ll, lf, h1⟩
theorem bf_eq (n : Nat) (lp ll lf : Addr) : bf n lp ll lf = ([("many", .int (n : Nat)), ("pairs", .ref lp), ("leads", .ref ll), ("fars", .ref lf)] : List (Str × V)) := by rfl
theorem bf_many (n : Nat) (lp ll lf : Addr) : (bf n lp ll lf).lookup ("many" : Str) = some (.int (n : Nat)) := by rfl
theorem bf_pairs (n : Nat) (lp ll lf : Addr) : (bf n lp ll lf).lookup ("pairs" : Str) = some (.ref lp) := by rfl
theorem bf_leads (n : Nat) (lp ll lf : Addr) : (bf n lp ll lf).lookup ("leads" : Str) = some (.ref ll) := by rfl
theorem bf_fars (n : Nat) (lp ll lf : Addr) : (bf n lp ll lf).lookup ("fars" : Str) = some (.ref lf) := by rfl
theorem bf_check (n : Nat) (lp ll lf : Addr) : (bf n lp ll lf).lookup ("check_place" : Str) = none := by rfl
theorem bf_within (n : Nat) (lp ll lf : Addr) : (bf n lp ll lf).lookup ("within" : Str) = none := by rfl
theorem bf_turned (n : Nat) (lp ll lf : Addr) : (bf n lp ll lf).lookup ("turned" : Str) = none := by rfl
theorem bf_renamed (n : Nat) (lp ll lf : Addr) : (bf n lp ll lf).lookup ("renamed" : Str) = none := by rfl
/-! ### the law's box -/
def boxK (c : Addr) (r s t : Int) : List (Key × V) := [(Sum.inr "cells", .ref c), (Sum.inr "rest", .int r), (Sum.inr "seed", .int s), (Sum.inr "turn", .int t)]
structure Box (b c : Addr) (H : Hp) : Prop where
  ex : ∃ (ns : List Int) (r s t : Int), H b = some (.dK (boxK c r s t)) ∧ H c = some (.lst (ns.map V.int)) ∧ 0 ≤ r ∧ 0 ≤ s ∧ s < 2147483629 ∧ ns.length ≤ 63
theorem Box.same {b c : Addr} {H H' : Hp} (k : Same H H') (h : Box b c H) : Box b c H' := by
  obtain ⟨ns, r, s, t, h1, h2, h3⟩ := h.ex
  exact ⟨ns, r, s, t, k _ _ h1, k _ _ h2, h3⟩
theorem Box.lst {b c : Addr} {H : Hp} (h : Box b c H) : ∃ ys, H c = some (.lst ys) := by
  obtain ⟨ns, r, s, t, h1, h2, h3⟩ := h.ex
  exact ⟨_, h2⟩
theorem bx_cells (c : Addr) (r s t : Int) : valV (boxK c r s t) (Sum.inr "cells" : Key) = some (.ref c) := by rfl
theorem bx_rest (c : Addr) (r s t : Int) : valV (boxK c r s t) (Sum.inr "rest" : Key) = some (.int r) := by rfl
theorem bx_seed (c : Addr) (r s t : Int) : valV (boxK c r s t) (Sum.inr "seed" : Key) = some (.int s) := by rfl
theorem bx_turn (c : Addr) (r s t : Int) : valV (boxK c r s t) (Sum.inr "turn" : Key) = some (.int t) := by rfl
theorem bx_rest_put (c : Addr) (r s t x : Int) : putK (boxK c r s t) (Sum.inr "rest" : Key) (.int x) = boxK c x s t := by rfl
theorem bx_seed_put (c : Addr) (r s t x : Int) : putK (boxK c r s t) (Sum.inr "seed" : Key) (.int x) = boxK c r x t := by rfl
theorem bx_turn_put (c : Addr) (r s t x : Int) : putK (boxK c r s t) (Sum.inr "turn" : Key) (.int x) = boxK c r s x := by rfl
theorem bg_cells {H : Hp} {b c : Addr} {r s t : Int} (hb : H b = some (.dK (boxK c r s t))) : DGet H b (.str "cells") (some (.ref c)) := DGet.k (k := Sum.inr "cells") hb
theorem bg_rest {H : Hp} {b c : Addr} {r s t : Int} (hb : H b = some (.dK (boxK c r s t))) : DGet H b (.str "rest") (some (.int r)) := DGet.k (k := Sum.inr "rest") hb
theorem bg_seed {H : Hp} {b c : Addr} {r s t : Int} (hb : H b = some (.dK (boxK c r s t))) : DGet H b (.str "seed") (some (.int s)) := DGet.k (k := Sum.inr "seed") hb
theorem bg_turn {H : Hp} {b c : Addr} {r s t : Int} (hb : H b = some (.dK (boxK c r s t))) : DGet H b (.str "turn") (some (.int t)) := DGet.k (k := Sum.inr "turn") hb
theorem bp_rest {H : Hp} {b c : Addr} {r s t x : Int} (hb : H b = some (.dK (boxK c r s t))) : DPut H b (.str "rest") (.int x) (upd H b (.dK (boxK c x s t))) := DPut.k (k := Sum.inr "rest") hb (by show 4 < sizeLine; decide)
theorem bp_seed {H : Hp} {b c : Addr} {r s t x : Int} (hb : H b = some (.dK (boxK c r s t))) : DPut H b (.str "seed") (.int x) (upd H b (.dK (boxK c r x t))) := DPut.k (k := Sum.inr "seed") hb (by show 4 < sizeLine; decide)
theorem bp_turn {H : Hp} {b c : Addr} {r s t x : Int} (hb : H b = some (.dK (boxK c r s t))) : DPut H b (.str "turn") (.int x) (upd H b (.dK (boxK c r s x))) := DPut.k (k := Sum.inr "turn") hb (by show 4 < sizeLine; decide)
/-- the dict changes -/
theorem Kc.dict {c b : Addr} {H H' : Hp} {o : HO} (k : Kc c H H') (hb : ∃ kvs, H b = some (.dK kvs)) : Kc c H (L2.upd H' b o) := fun a u h1 h2 e => by
  have ne : a ≠ b := fun z => by
    obtain ⟨kvs, hb⟩ := hb
    rw [z, hb] at e
    exact h2 kvs (Option.some.inj e).symm
  rw [upd_ne ne]
  exact k a u h1 h2 e
theorem Kc.cell {c : Addr} {H H' : Hp} {o : HO} (k : Kc c H H') : Kc c H (L2.upd H' c o) := fun a u h1 h2 e => by
  rw [upd_ne h1]
  exact k a u h1 h2 e
theorem Box.dict {b c : Addr} {H : Hp} (h : Box b c H) : ∃ kvs, H b = some (.dK kvs) := by
  obtain ⟨ns, r, s, t, h1, h2, h3⟩ := h.ex
  exact ⟨_, h1⟩
theorem Box.ne {b c : Addr} {H : Hp} (h : Box b c H) : b ≠ c := by
  obtain ⟨ns, r, s, t, h1, h2, h3⟩ := h.ex
  exact ne_of h1 h2 (by intro z; cases z)
end RL
namespace RL
open PySem PySem.Spec PyProof.Rows L2 RLM
section
variable {P : Program} {w : World} {K : PySem.W.Frag} {mg : Str → Option Value} {base : Heap}
/-! ### data -/
theorem dp_ints {H : Hp} : ∀ ns : List Int, DpAll K H (ns.map V.int) (ns.map PyData.int)
  | [] => .nil
  | n :: ns => .cons (.int n) (dp_ints ns)
theorem shaped_ints (ns : List Int) : SeqAt.shaped (.list (ns.map PyData.int)) = true := PySem.W.ke_shaped_ints ns
theorem shaped_tup (ns : List Int) : SeqAt.shaped (.tuple (ns.map PyData.int)) = true := by
  have h := PySem.W.ke_shaped_ints ns
  exact h
theorem eqv_tup (ns : List Int) : PyData.eqv (.tuple (ns.map PyData.int)) (.tuple (ns.map PyData.int)) = true := SeqAt.eqv_refl _ (SeqAt.canLay_of_shaped (shaped_tup ns))
theorem six0 (n : Nat) : seqIndex? 0 (n + 1) = some 0 := by
  unfold seqIndex?
  simp
theorem cut_ints (ns : List Int) (lo hi : Option Int) : ∃ ms : List Int, cutV (ns.map V.int) lo hi = ms.map V.int ∧ ms.length ≤ ns.length := by
  unfold cutV
  rw [← List.map_drop, ← List.map_take]
  exact ⟨_, rfl, by rw [List.length_take, List.length_drop]; omega⟩
/-! ### is_number, is_between -/
def spNumber : Sp := fun vs H Q _ => ∃ i : Int, vs = [.int i] ∧ Q (.bl true) H
theorem sc_is_number : FnScope ["thing"] ["thing"] (defScope s_is_number) := ⟨rfl, rfl, rfl, by decide +kernel, rfl, by decide +kernel, by decide +kernel⟩
theorem ok_is_number (T : Tx K mg) : Has P w K mg base (He.ga K "is_number") 1 ["thing"] spNumber := by
  obtain ⟨fd, F⟩ := T.d_is_number
  refine ⟨⟨fd, F.ok sc_is_number (fun vs H Q E h => ?_) (fun cdv A outer s H vs Q E hr h => ?_), F.bindsN fun _ _ _ _ _ _ us hl => match us, hl with | [_], _ => rfl⟩, F.kp⟩
  · obtain ⟨i, rfl, _⟩ := h
    rfl
  · obtain ⟨i, rfl, h⟩ := h
    refine ⟨_, PSs.nox (pss_one (ps_ret (pe_and (pe_callB (isiK (K := K)) (by rfl) T.free_isinstance (by decide +kernel) (pa_cons (pv 0) (pa_cons (pe_bltn (v := .ty "int") (u := .type "int") (by rfl) T.free_int (by decide +kernel) rfl) pa_nil))) (pe_one (pe_not (pe_callB (isiK (K := K)) (by rfl) T.free_isinstance (by decide +kernel) (pa_cons (pv 0) (pa_cons (pe_bltn (v := .ty "bool") (u := .type "bool") (by rfl) T.free_bool (by decide +kernel) rfl) pa_nil)))))))), ?_⟩
    refine ⟨_, rfl, _, _, _, _, true, rfl, .ty _, .base (.int i), kit_ty (by decide +kernel), true, rfl, iteT ?_⟩
    exact ⟨_, rfl, _, _, _, _, false, rfl, .ty _, .base (.int i), kit_ty (by decide +kernel), false, rfl, h⟩
def spBetween : Sp := fun vs H Q _ => ∃ i a b : Int, vs = [.int i, .int a, .int b] ∧ Q (.bl (decide (a ≤ i ∧ i ≤ b))) H
theorem sc_is_between : FnScope ["thing", "least", "most"] ["thing", "least", "most"] (defScope s_is_between) := ⟨rfl, rfl, rfl, by decide +kernel, rfl, by decide +kernel, by decide +kernel⟩
theorem ok_is_between (T : Tx K mg) : Has P w K mg base (He.ga K "is_between") 2 ["thing", "least", "most"] spBetween := by
  obtain ⟨⟨fd_is_number, F_is_number, b_is_number⟩, kp_is_number⟩ := ok_is_number (P := P) (w := w) (base := base) T
  obtain ⟨fd, F⟩ := T.d_is_between
  refine ⟨⟨fd, F.ok sc_is_between (fun vs H Q E h => ?_) (fun cdv A outer s H vs Q E hr h => ?_), F.bindsN fun _ _ _ _ _ _ us hl => match us, hl with | [_, _, _], _ => rfl⟩, F.kp⟩
  · obtain ⟨i, a, b, rfl, _⟩ := h
    rfl
  · obtain ⟨i, a, b, rfl, h⟩ := h
    have hr_is_number : Room 1 _ := hr.mono (by decide)
    refine ⟨_, PSs.nox (pss_one (ps_ret (pe_and (pe_call F_is_number hr_is_number rfl T.glo_is_number kp_is_number b_is_number .nil pass0 (pa_cons (pv 0) pa_nil)) (pe_one (pe_chain op_le op_le (pv 1) (pv 0) (pv 2)))))), ?_⟩
    refine ⟨_, rfl, i, rfl, _, rfl, iteT ?_⟩
    refine ⟨_, rfl, _, rfl, _, _, rfl, rfl, _, rfl, ?_⟩
    by_cases h1 : a ≤ i
    · rw [decide_eq_true h1]
      refine iteT ⟨_, rfl, _, _, rfl, rfl, ?_⟩
      have e : decide (a ≤ i ∧ i ≤ b) = decide (i ≤ b) := by simp [h1]
      rw [e] at h
      exact h
    · rw [decide_eq_false h1]
      refine iteF ?_
      have e : decide (a ≤ i ∧ i ≤ b) = false := by simp [h1]
      rw [e] at h
      exact h
/-! ### the box -/
def spBox (K : PySem.W.Frag) : Sp := fun vs H Q _ => ∃ (a : Addr) (ns : List Int), vs = [.ref a] ∧ SqL K H a (ns.map V.int) ∧ ns.length ≤ 63 ∧ ∀ H' b c, Same H H' → Box b c H' → Q (.ref b) H'
theorem sc__law_box : FnScope ["_law_script"] ["_law_script"] (defScope s__law_box) := ⟨rfl, rfl, rfl, by decide +kernel, rfl, by decide +kernel, by decide +kernel⟩
theorem ok_box (T : Tx K mg) : Has P w K mg base (He.ga K "_law_box") 1 ["_law_script"] (spBox K) := by
  obtain ⟨fd, F⟩ := T.d__law_box
  refine ⟨⟨fd, F.ok sc__law_box (fun vs H Q E h => ?_) (fun cdv A outer s H vs Q E hr h => ?_), F.bindsN fun _ _ _ _ _ _ us hl => match us, hl with | [_], _ => rfl⟩, F.kp⟩
  · obtain ⟨a, ns, rfl, _⟩ := h
    rfl
  · obtain ⟨a, ns, rfl, hS, hl, h⟩ := h
    refine ⟨_, PSs.nox (pss_one (ps_ret (pe_disp (pps_cons pe_str (pe_callTy (listK (K := K)) (by rfl) T.free_list (by decide +kernel) (pa_cons (pe_slice (slL (K := K)) (pv 0) po_none (po_some pe_int)) pa_nil)) (pps_cons pe_str pe_int (pps_cons pe_str pe_int (pps_cons pe_str pe_int pps_nil)))) (by rfl) (by rfl) (fun z => by cases z) (by decide)))), ?_⟩
    intro b hb
    have sb : Same H (upd H b (.dK [])) := same_upd hb
    refine ⟨_, rfl, ?_⟩
    refine ⟨63, rfl, a, _, rfl, sb.seq hS, fun q hq => ?_⟩
    have sq := same_upd (o := .lst (cutV (List.map V.int ns) none (some 63))) hq
    obtain ⟨ms, em, lm⟩ := cut_ints ns none (some 63)
    refine ⟨q, _, rfl, .inl (SqL.of upd_same), fun l hl => ?_⟩
    have s2 := same_upd (o := .lst (cutV (List.map V.int ns) none (some 63))) hl
    have s3 := (sb.trans sq).trans s2
    refine ⟨?_, [(Sum.inr "cells", .ref l), (Sum.inr "rest", .int 0), (Sum.inr "seed", .int 9121001), (Sum.inr "turn", .int 0)], rfl, (by show 4 ≤ 15; decide), ?_⟩
    · exact s2 _ _ (sq _ _ upd_same)
    · have nlb : l ≠ b := fun z => by
        rw [z, sq _ _ upd_same] at hl
        cases hl
      refine h _ b l (same_mut s3 hb) ⟨ms, 0, 9121001, 0, upd_same, ?_, by decide, by decide, by decide, by omega⟩
      rw [upd_ne nlb, upd_same, em]
/-! ### pick -/
def spPick : Sp := fun vs H Q _ => ∃ (b c : Addr) (m : Int), vs = [.ref b, .int m] ∧ Box b c H ∧ 1 ≤ m ∧ m < 1073741824 ∧ ∀ H' i, Kc c H H' → Box b c H' → 0 ≤ i → i < m → Q (.int i) H'
theorem sc__law_pick : FnScope ["_law_box_here", "_law_many", "_law_cell", "_law_digit", "_law_seed"] ["_law_box_here", "_law_many"] (defScope s__law_pick) := ⟨rfl, rfl, rfl, by decide +kernel, rfl, by decide +kernel, by decide +kernel⟩
theorem ok_pick (T : Tx K mg) : Has P w K mg base (He.ga K "_law_pick") 1 ["_law_box_here", "_law_many"] spPick := by
  obtain ⟨fd, F⟩ := T.d__law_pick
  refine ⟨⟨fd, F.ok sc__law_pick (fun vs H Q E h => ?_) (fun cdv A outer s H vs Q E hr h => ?_), F.bindsN fun _ _ _ _ _ _ us hl => match us, hl with | [_, _], _ => rfl⟩, F.kp⟩
  · obtain ⟨b, c, m, rfl, _⟩ := h
    rfl
  · obtain ⟨b, c, m, rfl, B, m1, m2, h⟩ := h
    have hu := hu_of hr
    refine ⟨_, PSs.nox (C8.pss_cut (ps_if (PW.pt (pw_and (pt_cmpR op_eq (pe_dget hu (pv 0) pe_str (fun _ _ => rfl)) pe_int (nomark _)) (pw_and1 (pt_cmpR (neD (K := K) hr.units) (pe_dget hu (pv 0) pe_str (fun _ _ => rfl)) (pe_lst pa_nil) (nomark _))))) (pss_cons (ps_set (i := 2) sc__law_pick.nd rfl (Or.inl rfl) (bmK (K := K) PySem.F.plainAttrs_list PySem.F.slot_list_pop PySem.F.type_list_pop mt_popAt (pe_dget hu (pv 0) pe_str (fun _ _ => rfl)) (pa_cons pe_int pa_nil)))
      (pss_cons (ps_dput hu (pv 0) pe_str (pe_callB (call_max2 rfl) (by rfl) T.free_max (by decide +kernel) (pa_cons pe_int (pa_cons (pe_op op_sub (pv 2) (pe_op op_pow pe_int pe_int)) pa_nil))) rfl)
      (pss_one (ps_dput hu (pv 0) pe_str (pe_op op_mod (pe_op op_add (pe_op op_add (pe_op op_mul (pe_dget hu (pv 0) pe_str (fun _ _ => rfl)) pe_int) (pe_op op_mul (pe_op op_mod (pv 2) pe_int) pe_int)) pe_int) pe_int) rfl)))) pss_nil)
      (pss_cons (ps_if (pt_cmpR op_gt (pe_dget hu (pv 0) pe_str (fun _ _ => rfl)) pe_int (nomark _)) (pss_cons (ps_set (i := 3) sc__law_pick.nd rfl (Or.inl rfl) (pe_op op_modN (pe_dget hu (pv 0) pe_str (fun _ _ => rfl)) (pv 1)))
      (pss_cons (ps_dput hu (pv 0) pe_str (pe_op op_fdivN (pe_dget hu (pv 0) pe_str (fun _ _ => rfl)) (pv 1)) rfl)
      (pss_one (ps_ret (pv 3))))) pss_nil)
      (pss_cons (ps_dput hu (pv 0) pe_str (pe_op op_add (pe_dget hu (pv 0) pe_str (fun _ _ => rfl)) pe_int) rfl)
      (pss_cons (ps_set (i := 4) sc__law_pick.nd rfl (Or.inl rfl) (pe_op op_mod (pe_op op_add (pe_op op_add (pe_op op_mul (pe_dget hu (pv 0) pe_str (fun _ _ => rfl)) pe_int) (pe_op op_mul (pe_dget hu (pv 0) pe_str (fun _ _ => rfl)) pe_int)) pe_int) pe_int))
      (pss_cons (ps_dput hu (pv 0) pe_str (pe_op op_mod (pe_op op_add (pe_op op_add (pe_op op_mul (pv 4) (pv 4)) (pe_op op_mul pe_int (pv 4))) pe_int) pe_int) rfl)
      (pss_one (ps_ret (pe_op op_modN (pe_op op_add (pe_op op_fdiv (pe_dget hu (pv 0) pe_str (fun _ _ => rfl)) pe_int) (pe_op op_mul (pe_op op_mod (pe_dget hu (pv 0) pe_str (fun _ _ => rfl)) pe_int) pe_int)) (pv 1))))))))), ?_⟩
    refine ⟨fun σ H1 => (∃ v2, σ = [some (.ref b), some (.int m), v2, none, none]) ∧ Kc c H H1 ∧ Box b c H1, ?_, ?_⟩
    · obtain ⟨ns, r, z, t, hb, hc, r0, z0, z1, nl⟩ := B.ex
      have nbc := B.ne
      refine ⟨_, rfl, b, _, rfl, bg_rest hb, rfl, _, rfl, ?_⟩
      refine ite2 (fun hr0 => ?_) (fun hr0 => iteF ⟨⟨none, rfl⟩, Kc.refl c H, B⟩)
      refine ⟨_, rfl, b, _, rfl, bg_cells hb, Nat.zero_le _, fun l hl => ?_⟩
      have sl : Same H (upd H l (.lst [])) := same_upd hl
      refine ⟨.list (ns.map .int), .list [], .lst (SqL.of (sl _ _ hc)) (dp_ints ns), .lst (SqL.of upd_same) .nil, shaped_ints ns, shaped_ints [], _, rfl, ?_⟩
      cases ns with
      | nil => exact iteF ⟨⟨none, rfl⟩, kc_same sl, B.same sl⟩
      | cons n0 ns =>
        refine iteT ?_
        have hb1 := sl _ _ hb
        have hc1 := sl _ _ hc
        generalize hH1 : upd H l (.lst []) = H1 at sl hb1 hc1
        refine ⟨_, rfl, b, _, rfl, bg_cells hb1, .inl ⟨rfl, _, SqL.of hc1⟩, c, _, 0, 0, _, rfl, rfl, hc1, by decide, by decide, six0 _, rfl, ?_⟩
        have hb2 : (upd H1 c (.lst (ns.map V.int))) b = some (.dK (boxK c r z t)) := by
          rw [upd_ne nbc]
          exact hb1
        have hc2 : (upd H1 c (.lst (ns.map V.int))) c = some (.lst (ns.map V.int)) := upd_same
        have k2 : Kc c H (upd H1 c (.lst (ns.map V.int))) := (kc_same sl).cell
        have e2 : ((n0 :: ns).map V.int).eraseIdx 0 = ns.map V.int := rfl
        rw [e2]
        generalize upd H1 c (.lst (ns.map V.int)) = H2 at hb2 hc2 k2
        refine ⟨_, rfl, _, _, rfl, rfl, ⟨by decide, by decide, by decide⟩, _, _, rfl, rfl, _, _, rfl, _, rfl, b, _, rfl, bp_rest hb2, ?_⟩
        have hb3 : (upd H2 b (.dK (boxK c (if n0 - 10 ^ (18 : Int).toNat > 0 then n0 - 10 ^ (18 : Int).toNat else 0) z t))) b = _ := upd_same
        have hc3 : (upd H2 b (.dK (boxK c (if n0 - 10 ^ (18 : Int).toNat > 0 then n0 - 10 ^ (18 : Int).toNat else 0) z t))) c = some (.lst (ns.map V.int)) := by
          rw [upd_ne nbc.symm]
          exact hc2
        have k3 : Kc c H (upd H2 b (.dK (boxK c (if n0 - 10 ^ (18 : Int).toNat > 0 then n0 - 10 ^ (18 : Int).toNat else 0) z t))) := k2.dict ⟨_, hb⟩
        have r3 : 0 ≤ (if n0 - 10 ^ (18 : Int).toNat > 0 then n0 - 10 ^ (18 : Int).toNat else 0) := by split <;> omega
        generalize (if n0 - 10 ^ (18 : Int).toNat > 0 then n0 - 10 ^ (18 : Int).toNat else 0) = r1 at hb3 hc3 k3 r3
        generalize upd H2 b (.dK (boxK c r1 z t)) = H3 at hb3 hc3 k3
        refine ⟨_, rfl, b, _, rfl, bg_seed hb3, _, _, rfl, rfl, .inl ⟨by omega, by omega⟩, _, rfl, _, _, rfl, rfl, (by show (0 : Int) < 1000003; decide), _, _, rfl, rfl, .inr ⟨by decide, by decide⟩, _, _, rfl, rfl, _, _, rfl, rfl, _, _, rfl, rfl, (by show (0 : Int) < 2147483629; decide), _, rfl, b, _, rfl, bp_seed hb3, ?_⟩
        refine ⟨⟨_, rfl⟩, k3.dict ⟨_, hb⟩, ⟨ns, r1, _, t, upd_same, ?_, r3, Int.emod_nonneg _ (by decide), Int.emod_lt_of_pos _ (by decide), ?_⟩⟩
        · rw [upd_ne nbc.symm]
          exact hc3
        · rw [List.length_cons] at nl
          omega
    · rintro σ H1 ⟨⟨v2, rfl⟩, k1, B1⟩
      obtain ⟨ns, r, z, t, hb, hc, r0, z0, z1, nl⟩ := B1.ex
      have nbc := B1.ne
      refine ⟨_, rfl, b, _, rfl, bg_rest hb, _, _, rfl, rfl, _, rfl, ?_⟩
      refine ite2 (fun hr0 => ?_) (fun hr0 => ?_)
      · refine ⟨_, rfl, b, _, rfl, bg_rest hb, _, rfl, _, _, rfl, rfl, by omega, ?_⟩
        refine ⟨_, rfl, b, _, rfl, bg_rest hb, _, rfl, _, _, rfl, rfl, ⟨by omega, by omega⟩, _, rfl, b, _, rfl, bp_rest hb, ?_⟩
        refine ⟨_, rfl, ?_⟩
        have e1 : r.fmod m = r % m := Int.fmod_eq_emod_of_nonneg _ (by omega)
        have e2 : r.fdiv m = r / m := Int.fdiv_eq_ediv_of_nonneg _ (by omega)
        refine h _ _ (k1.dict B.dict) ⟨ns, _, z, t, upd_same, ?_, ?_, z0, z1, nl⟩ ?_ ?_
        · rw [upd_ne nbc.symm]
          exact hc
        · rw [e2]
          exact Int.ediv_nonneg r0 (by omega)
        · rw [e1]
          exact Int.emod_nonneg _ (by omega)
        · rw [e1]
          exact Int.emod_lt_of_pos _ (by omega)
      · refine ⟨_, rfl, b, _, rfl, bg_turn hb, _, _, rfl, rfl, _, rfl, b, _, rfl, bp_turn hb, ?_⟩
        have hb2 : (upd H1 b (.dK (boxK c r z (t + 1)))) b = _ := upd_same
        have hc2 : (upd H1 b (.dK (boxK c r z (t + 1)))) c = some (.lst (ns.map V.int)) := by
          rw [upd_ne nbc.symm]
          exact hc
        have k2 : Kc c H (upd H1 b (.dK (boxK c r z (t + 1)))) := k1.dict B.dict
        generalize upd H1 b (.dK (boxK c r z (t + 1))) = H2 at hb2 hc2 k2
        refine ⟨_, rfl, b, _, rfl, bg_seed hb2, _, _, rfl, rfl, .inl ⟨by omega, by omega⟩, _, rfl, b, _, rfl, bg_turn hb2, _, _, rfl, rfl, .inr ⟨by decide, by decide⟩, _, _, rfl, rfl, _, _, rfl, rfl, _, _, rfl, rfl, (by show (0 : Int) < 2147483629; decide), ?_⟩
        have y0 : 0 ≤ (z * 16807 + (t + 1) * 7919 + 3) % 2147483629 := Int.emod_nonneg _ (by decide)
        have y1 : (z * 16807 + (t + 1) * 7919 + 3) % 2147483629 < 2147483629 := Int.emod_lt_of_pos _ (by decide)
        refine ⟨_, rfl, _, rfl, _, _, rfl, rfl, .inl ⟨by omega, by omega⟩, _, rfl, _, _, rfl, rfl, .inl ⟨by decide, by decide⟩, _, _, rfl, rfl, _, _, rfl, rfl, _, _, rfl, rfl, (by show (0 : Int) < 2147483629; decide), _, rfl, b, _, rfl, bp_seed hb2, ?_⟩
        refine ⟨_, rfl, b, _, rfl, bg_seed upd_same, _, _, rfl, rfl, ⟨by decide, by decide⟩, _, rfl, b, _, rfl, bg_seed upd_same, _, _, rfl, rfl, (by show (0 : Int) < 127; decide), _, _, rfl, rfl, .inr ⟨by decide, by decide⟩, _, _, rfl, rfl, _, rfl, _, _, rfl, rfl, by omega, ?_⟩
        show Q (.int (Int.fmod _ m)) _
        rw [Int.fmod_eq_emod_of_nonneg _ (by omega)]
        refine h _ _ (k2.dict B.dict) ⟨ns, r, _, t + 1, upd_same, ?_, r0, Int.emod_nonneg _ (by decide), Int.emod_lt_of_pos _ (by decide), nl⟩ (Int.emod_nonneg _ (by omega)) (Int.emod_lt_of_pos _ (by omega))
        rw [upd_ne nbc.symm]
        exact hc2
end
end RL
/-! rows of any numbers as data, for == and != -/
namespace RL
open PySem PySem.Spec PyProof.Rows L2 RLM
def lotD (ns : List Int) : PyData := .tuple (ns.map PyData.int)
theorem lots_lay : ∀ dss : List (List Int), PyData.canLayAll0 (dss.map lotD) = true
  | [] => by simp [PyData.canLayAll0]
  | ns :: dss => by
    have h := SeqAt.canLay_of_shaped (shaped_tup ns)
    rw [List.map_cons]
    unfold PyData.canLayAll0
    rw [lots_lay dss]
    show ((lotD ns).canLay0 && true) = true
    rw [Bool.and_true]
    exact h
theorem lots_depth : ∀ dss : List (List Int), PyData.depthAll (dss.map lotD) ≤ 60
  | [] => by simp [PyData.depthAll]
  | ns :: dss => by
    have ih := lots_depth dss
    have h : (lotD ns).depth ≤ 60 := by
      unfold lotD
      simp [PyData.depth, PySem.W.ke_depthAll]
      try omega
    rw [List.map_cons]
    unfold PyData.depthAll
    omega
theorem lots_shaped (dss : List (List Int)) : SeqAt.shaped (.list (dss.map lotD)) = true := by
  unfold SeqAt.shaped
  rw [Bool.and_eq_true]
  constructor
  · unfold PyData.canLay0
    exact lots_lay dss
  · refine decide_eq_true ?_
    unfold PyData.depth
    have := lots_depth dss
    omega
theorem lots_eqvA : ∀ xs ys : List (List Int), PyData.eqvAll (xs.map lotD) (ys.map lotD) = decide (xs = ys)
  | [], [] => by simp [PyData.eqvAll]
  | [], _ :: _ => by simp [PyData.eqvAll]
  | _ :: _, [] => by simp [PyData.eqvAll]
  | x :: xs, y :: ys => by
    rw [List.map_cons, List.map_cons, PyData.eqvAll, lots_eqvA xs ys]
    have e : PyData.eqv (lotD x) (lotD y) = decide (x = y) := by
      unfold lotD
      rw [PyData.eqv]
      exact PySem.W.ked_eqvAll x y
    rw [e]
    by_cases h1 : x = y
    · by_cases h2 : xs = ys <;> simp [h1, h2]
    · simp [h1]
theorem dp_rowsA {K : PySem.W.Frag} {H : Hp} : ∀ {L : List (Addr × List Int)}, (∀ q ∈ L, H q.1 = some (.tup (q.2.map V.int))) → DpAll K H (L.map fun q => V.ref q.1) ((L.map (·.2)).map lotD)
  | [], _ => .nil
  | q :: L, h => .cons (.tup (SqT.of (h q (List.mem_cons_self ..))) (dp_ints _)) (dp_rowsA fun y hy => h y (List.mem_cons_of_mem _ hy))
theorem dp_rowsZ {K : PySem.W.Frag} {H : Hp} {l : Addr} {L : List (Addr × List Int)} (hl : H l = some (.lst (L.map fun q => V.ref q.1))) (h : ∀ q ∈ L, H q.1 = some (.tup (q.2.map V.int))) : Dp K H (.ref l) (.list ((L.map (·.2)).map lotD)) := .lst (SqL.of hl) (dp_rowsA h)
theorem rowsZ_eqv {xs ys : List (List Int)} : PyData.eqv (.list (xs.map lotD)) (.list (ys.map lotD)) = decide (xs = ys) := by
  rw [PyData.eqv, lots_eqvA]
end RL
/-! in and not in, over a tuple of nested data -/
namespace RL
open PySem PySem.Spec PyProof.Rows L2
section
variable {X : Cx} {K : PySem.W.Frag}
def rInTD (K : PySem.W.Frag) (ng : Bool) : R2 := fun x y H Q => ∃ d ds, Dp K H x d ∧ Dp K H y (.tuple ds) ∧ SeqAt.shaped d = true ∧ SeqAt.shaped (.tuple ds) = true ∧ Q (.bl (ng ^^ ds.any fun z => PyData.eqv z d)) H
theorem inDT (hu : X.A.units + 65 < cLine) (h : X.K = K := by rfl) : OpR X (compareOp .In) (rInTD K false) := by
  subst h
  intro pins s σ H x y v u Q I rx ry h
  obtain ⟨d, ds, hd, he, sd, se, q⟩ := h
  obtain ⟨_, r1⟩ := Dp.reads I d x v hd rx
  obtain ⟨_, r2⟩ := Dp.reads I (.tuple ds) y u he ry
  rw [Bool.false_xor] at q
  exact SeqAt.in_tuple_reads r2 r1 (SeqAt.canLay_of_shaped se) (SeqAt.canLay_of_shaped sd) (room_in_shaped sd hu) ⟨.bl _, H, I, rfl, q⟩
theorem notDT (hu : X.A.units + 65 < cLine) (h : X.K = K := by rfl) : OpR X (compareOp .NotIn) (rInTD K true) := by
  subst h
  intro pins s σ H x y v u Q I rx ry h
  obtain ⟨d, ds, hd, he, sd, se, q⟩ := h
  obtain ⟨_, r1⟩ := Dp.reads I d x v hd rx
  obtain ⟨_, r2⟩ := Dp.reads I (.tuple ds) y u he ry
  rw [Bool.true_xor] at q
  exact SeqAt.notIn_tuple_reads r2 r1 (SeqAt.canLay_of_shaped se) (SeqAt.canLay_of_shaped sd) (room_in_shaped sd hu) ⟨.bl _, H, I, rfl, q⟩
end
theorem lotsT_shaped (dss : List (List Int)) : SeqAt.shaped (.tuple (dss.map lotD)) = true := by
  unfold SeqAt.shaped
  rw [Bool.and_eq_true]
  constructor
  · unfold PyData.canLay0
    exact lots_lay dss
  · refine decide_eq_true ?_
    unfold PyData.depth
    have := lots_depth dss
    omega
end RL
/-! o.m(e, .., x=e2, ..) of an own class -/
namespace RL
open PySem PySem.Spec PyProof.Rows L2
def tMethN (C : Addr) (m : Str) (n c : Nat) (sp : Sp) (gV : List V → List V → List V) (E : XK) (ta : TE) (t tk : TA) : TE := fun σ H Q => ta σ H fun x H1 => ∃ a dx fs, x = .ref a ∧ H1 a = some (.ins C dx fs) ∧ fs.lookup m = none ∧
  t σ H1 fun vs H2 => tk σ H2 fun zs H3 => vs.length + 1 = n ∧ zs.length = c ∧ sp (gV (x :: vs) zs) H3 Q E
section
variable {X : Cx} {CX : CXT} {k n : Nat} {C f : Addr} {fd : FuncData} {ps ks : List Str} {sp : Sp} {E : XK} {m : Str} {apos pos : Pos} {o e : Expr} {es : List Expr} {kws : List Keyword} {ta : TE} {t tk : TA} {g : List Value → List Value → List Value} {gV : List V → List V → List V}
theorem pe_methN {pl : Sem Bool} (he : PE X o ta) (c : Cls X.K C) (hm : Meth X.K C m f) (F : FnOk X.prog X.w X.K X.mg X.base CX k f fd ps sp) (hr : Room k X.A) (hb : KBn X.K fd ps n ks g gV) (hx : Passes CX X E)
    (ha : PA X (e :: es) t) (hkw : PK X kws tk) (hall : (backToKw pos (keywordEach kws X.env)).all (·.1.isSome) = true := by rfl) (hks : (backToKw pos (keywordEach kws X.env)).filterMap (·.1) = ks := by rfl)
    (hst : starEach (e :: es) X.env = (false, eval e X.env) :: starEach es X.env := by rfl)
    (hpl : ((backTo pos (starEach (e :: es) X.env)).any (·.1) || (backToKw pos (keywordEach kws X.env)).any (·.1.isNone)) = false := by rfl)
    (ht : eval (.Call (.Attribute o m apos) (e :: es) kws pos) X.env = (do
      let ov ← eval o X.env
      standAt apos.atName
      let (f, first) ← holding [ov] (getMethod ov m pl)
      callWith pos f first (backTo pos (starEach (e :: es) X.env)) (backToKw pos (keywordEach kws X.env))) := by rfl) :
    PE X (.Call (.Attribute o m apos) (e :: es) kws pos) (tMethN C m n ks.length sp gV E ta t tk) := by
  refine ⟨fun pins s σ H Q I h => ?_⟩
  refine PySem.W.methodCall_KW (pl := pl) (thn (he.run pins s σ H _ I h) fun u s1 ⟨x, H1, I1, rx, a, dx, fs, ex, ea, l, q⟩ => ?_) ht
  subst ex
  obtain rfl : u = Value.ref a := rx
  refine getmeth_ok I1 ea c hm l ?_
  refine PySem.W.callWith_KW (first := [.ref a]) (h₀ := X.base) I.ok.mod.kin hm.kp hall (thn (ha.run pos pins s1 σ H1 _ I1 q) fun us s2 ⟨vs, H2, I2, r, q2⟩ => ?_) hpl hst
  refine thn (hkw.run pos pins s2 σ H2 _ I2 q2) fun ws s3 ⟨zs, H3, I3, rz, l1, l2, q3⟩ => ⟨I3.kIn, ?_⟩
  rw [hks]
  exact run_fnN (us := .ref a :: us) (vs := .ref a :: vs) F hr hb hx I3 (.cons rfl r) rz (by rw [List.length_cons]; exact l1) l2 q3
end
end RL
/-! defs with keywords -/
namespace RL
open PySem PySem.Spec PyProof.Rows L2
/-- no defaults: positional values, the rest by keywords in the parameters' order -/
theorem kbindsA {K : PySem.W.Frag} {x qual : Str} {params : Arguments} {body : List Stmt} {scope : Scope} {kws : List (Str × V)} {f : Addr} {fd : FuncData} {ps : List Str} (F : FunD K x qual params body scope [] kws f fd) (n : Nat) (ks : List Str)
    (h : ∀ (kV doc pm : Value) (an : Option Addr) (cdv ct : Value) (us ws : List Value), us.length = n → ws.length = ks.length → bindArgs (PySem.W.fnOf x qual params body scope .none kV doc pm an cdv ct) ⟨us, ks.zip ws⟩ = pure (ps.zip (us ++ ws))) : KBn K fd ps n ks (fun us ws => us ++ ws) (fun vs zs => vs ++ zs) := by
  obtain ⟨oc, od, dV, kV, doc, pm, an, cdv, ct, osl, rfl, lk, hcd, hD, hK⟩ := F.ex
  rcases hD with ⟨_, rfl⟩ | ⟨e, _⟩
  · exact ⟨fun s us ws _ l1 l2 => .of_eq (h kV doc pm an cdv ct us ws l1 l2), fun r1 r2 => r1.append r2⟩
  · exact absurd rfl e
/-- a def with keywords keeps its promise -/
structure HasK (P : Program) (w : World) (K : PySem.W.Frag) (mg : Str → Option Value) (base : Heap) (f : Addr) (k : Nat) (ps : List Str) (n : Nat) (ks : List Str) (sp : Sp) : Prop where
  ex : ∃ fd, FnOk P w K mg base CX0 k f fd ps sp ∧ KBn K fd ps n ks (fun us ws => us ++ ws) (fun vs zs => vs ++ zs)
  kp : PySem.W.keepIn K (.ref f) = true
end RL
/-! Comprehensions whose turns leave all that was there as it was. -/
namespace RL
open PySem PySem.Spec PyProof.Rows L2 RLM
/-- all tuples stay -/
def TK (H H' : Hp) : Prop := ∀ (a : Addr) (xs : List V), H a = some (.tup xs) → H' a = some (.tup xs)
theorem TK.refl (H : Hp) : TK H H := fun _ _ h => h
theorem TK.trans {H H1 H2 : Hp} (a : TK H H1) (b : TK H1 H2) : TK H H2 := fun x xs h => b x xs (a x xs h)
theorem tk_same {H H' : Hp} (s : Same H H') : TK H H' := fun a xs h => s _ _ h
theorem tk_lst {H : Hp} {D : Addr} {acc bcc : List V} (h : H D = some (.lst acc)) : TK H (upd H D (.lst bcc)) := fun a xs e => by
  rw [upd_ne (ne_of e h (by intro z; cases z))]
  exact e
theorem Kc.tk {c : Addr} {H H' : Hp} (k : Kc c H H') (hc : ∃ ys, H c = some (.lst ys)) : TK H H' := fun a xs h => k.tup hc h
section
variable {J : It} {n : Nat} {G : Hp → Prop} {Y : Nat → Hp → V → Hp → Prop} {g : TG} {tt : TT} {te : TE} {vs : List Nat} {σ : L2.St} {H : Hp} {D : Addr} {Qd : Hp → Prop}
/-- [e for x in ..]: what R says of each -/
theorem lc_rel (w : Walk J n G Y) (R : Nat → V → Hp → Prop) (hn : n ≤ 100000) (hD : H D = none) (tk : ∀ k v H1 H2, R k v H1 → TK H1 H2 → R k v H2) (hG : ∀ H1, Same H H1 → G H1)
    (hs : ∀ i x H1 H2 (Nx : V → Hp → Prop), i < n → Same H H1 → Y i H1 x H2 → (∀ y H4, R i y H4 → Same H1 H4 → Nx y H4) → g x (wipe σ vs) H2 fun σ2 H3 => wipe σ2 vs = wipe σ vs ∧ te σ2 H3 Nx)
    (hd : ∀ H1 ys, H1 D = some (.lst ys) → ys.length = n → (∀ k y, ys[k]? = some y → R k y H1) → Same H H1 → Qd H1) :
    ∃ W : Nat → Nat → Hp → Prop, (∃ m, W 0 m (upd H D (.lst []))) ∧ ∀ i m H, W i m H →
      (J.stop i H ∧ Qd H) ∨ (J.go i H ∧ ∃ Nx : Hp → Prop, (∀ H', Nx H' → ∃ m', m' < m ∧ W (i + 1) m' H') ∧ ∀ x H', J.yld i H x H' → g x (wipe σ vs) H' fun σ2 H2 => wipe σ2 vs = wipe σ vs ∧ tYes σ2 H2 fun b H3 =>
        if b = true then te σ2 H3 fun y H4 => ∃ acc, H4 D = some (.lst acc) ∧ acc.length < sizeLine ∧ Nx (upd H4 D (.lst (acc ++ [y]))) else Nx H3) := by
  refine lc_it w (fun i H1 => ∃ ys, H1 D = some (.lst ys) ∧ ys.length = i ∧ (∀ k y, ys[k]? = some y → R k y H1) ∧ Same H H1) ⟨[], upd_same, rfl, fun k y e => (by simp at e), same_upd hD⟩ (fun i H1 _ ⟨_, _, _, _, s1⟩ => hG H1 s1) ?_ (fun H1 ⟨ys, h1, h2, h3, h4⟩ => hd H1 ys h1 h2 h3 h4)
  rintro i x H1 H2 hi ⟨ys, h1, h2, h3, s1⟩ hY
  refine hs i x H1 H2 (fun y H4 => ∃ acc, H4 D = some (.lst acc) ∧ acc.length < sizeLine ∧ ∃ zs, (upd H4 D (.lst (acc ++ [y]))) D = some (.lst zs) ∧ zs.length = i + 1 ∧ (∀ k y', zs[k]? = some y' → R k y' (upd H4 D (.lst (acc ++ [y])))) ∧ Same H (upd H4 D (.lst (acc ++ [y])))) hi s1 hY fun y H4 r s4 => ?_
  have h4 := s4 _ _ h1
  refine ⟨ys, h4, ?_, ys ++ [y], upd_same, by simp [h2], fun k y' e => ?_, same_mut (s1.trans s4) hD⟩
  · rw [h2]
    exact Nat.lt_of_lt_of_le hi (Nat.le_trans hn (by decide))
  · by_cases hk : k < ys.length
    · rw [List.getElem?_append_left hk] at e
      exact tk _ _ _ _ (h3 k y' e) ((tk_same s4).trans (tk_lst h4))
    · rw [List.getElem?_append_right (by omega)] at e
      have ek : k = ys.length := by
        obtain ⟨z1, _⟩ := List.getElem?_eq_some_iff.mp e
        simp at z1
        omega
      rw [ek, Nat.sub_self] at e
      cases e
      rw [ek, h2]
      exact tk _ _ _ _ r (tk_lst h4)
/-- [f(x) for x in ..]: plain values -/
theorem lc_val (w : Walk J n G Y) (f : Nat → V) (hn : n ≤ 100000) (hD : H D = none) (hG : ∀ H1, Same H H1 → G H1)
    (hs : ∀ i x H1 H2 (Nx : V → Hp → Prop), i < n → Same H H1 → Y i H1 x H2 → (∀ H4, Same H1 H4 → Nx (f i) H4) → g x (wipe σ vs) H2 fun σ2 H3 => wipe σ2 vs = wipe σ vs ∧ te σ2 H3 Nx)
    (hd : ∀ H1, H1 D = some (.lst ((List.range n).map f)) → Same H H1 → Qd H1) :
    ∃ W : Nat → Nat → Hp → Prop, (∃ m, W 0 m (upd H D (.lst []))) ∧ ∀ i m H, W i m H →
      (J.stop i H ∧ Qd H) ∨ (J.go i H ∧ ∃ Nx : Hp → Prop, (∀ H', Nx H' → ∃ m', m' < m ∧ W (i + 1) m' H') ∧ ∀ x H', J.yld i H x H' → g x (wipe σ vs) H' fun σ2 H2 => wipe σ2 vs = wipe σ vs ∧ tYes σ2 H2 fun b H3 =>
        if b = true then te σ2 H3 fun y H4 => ∃ acc, H4 D = some (.lst acc) ∧ acc.length < sizeLine ∧ Nx (upd H4 D (.lst (acc ++ [y]))) else Nx H3) := by
  refine lc_rel w (fun k v _ => v = f k) hn hD (fun _ _ _ _ h _ => h) hG (fun i x H1 H2 Nx hi s1 hY h => hs i x H1 H2 Nx hi s1 hY fun H4 s4 => h _ _ rfl s4) fun H1 ys h1 h2 h3 s1 => hd H1 ?_ s1
  rw [h1]
  congr 2
  refine List.ext_getElem? fun k => ?_
  by_cases hk : k < n
  · have e : ys[k]? = some ys[k] := List.getElem?_eq_getElem (by omega)
    rw [e, h3 k _ e, List.getElem?_map, List.getElem?_range hk]
    rfl
  · rw [List.getElem?_eq_none (by omega), List.getElem?_eq_none (by simp; omega)]
/-- [b for b in .. if t(b)], the b numbers -/
theorem lc_filt (w : Walk J n G Y) (xs : List Nat) (t : Nat → Bool) (hx : n = xs.length) (hn : n ≤ 100000) (hD : H D = none) (hG : ∀ H1, Same H H1 → G H1)
    (hs : ∀ i b x H1 H2 (N1 : V → Hp → Prop) (N0 : Hp → Prop), xs[i]? = some b → Same H H1 → Y i H1 x H2 → (∀ H4, t b = true → Same H1 H4 → N1 (vI b) H4) → (∀ H4, t b = false → Same H1 H4 → N0 H4) →
      g x (wipe σ vs) H2 fun σ2 H3 => wipe σ2 vs = wipe σ vs ∧ tt σ2 H3 fun c H4 => if c = true then te σ2 H4 N1 else N0 H4)
    (hd : ∀ H1, H1 D = some (.lst ((xs.filter t).map vI)) → Same H H1 → Qd H1) :
    ∃ W : Nat → Nat → Hp → Prop, (∃ m, W 0 m (upd H D (.lst []))) ∧ ∀ i m H, W i m H →
      (J.stop i H ∧ Qd H) ∨ (J.go i H ∧ ∃ Nx : Hp → Prop, (∀ H', Nx H' → ∃ m', m' < m ∧ W (i + 1) m' H') ∧ ∀ x H', J.yld i H x H' → g x (wipe σ vs) H' fun σ2 H2 => wipe σ2 vs = wipe σ vs ∧ tt σ2 H2 fun b H3 =>
        if b = true then te σ2 H3 fun y H4 => ∃ acc, H4 D = some (.lst acc) ∧ acc.length < sizeLine ∧ Nx (upd H4 D (.lst (acc ++ [y]))) else Nx H3) := by
  refine lc_it w (fun i H1 => H1 D = some (.lst (((xs.take i).filter t).map vI)) ∧ Same H H1) ⟨upd_same, same_upd hD⟩ (fun i H1 _ ⟨_, s1⟩ => hG H1 s1) ?_ (fun H1 ⟨h1, h2⟩ => hd H1 (by rw [hx, List.take_length] at h1; exact h1) h2)
  rintro i x H1 H2 hi ⟨h1, s1⟩ hY
  have hb : xs[i]? = some (xs[i]'(by omega)) := List.getElem?_eq_getElem _
  generalize xs[i]'(by omega) = b at hb
  have et : xs.take (i + 1) = xs.take i ++ [b] := by
    rw [List.take_add_one, hb]
    rfl
  refine hs i b x H1 H2 _ _ hb s1 hY (fun H4 tb s4 => ⟨_, s4 _ _ h1, ?_, ?_, same_mut (s1.trans s4) hD⟩) (fun H4 tb s4 => ⟨?_, s1.trans s4⟩)
  · rw [List.length_map]
    refine Nat.lt_of_le_of_lt (List.length_filter_le _ _) (Nat.lt_of_le_of_lt (?_ : _ ≤ 100000) (by decide))
    rw [List.length_take]
    omega
  · rw [upd_same, et, List.filter_append, List.filter_cons, if_pos tb, List.map_append]
    rfl
  · rw [s4 _ _ h1, et, List.filter_append, List.filter_cons, if_neg (by rw [tb]; exact Bool.false_ne_true), List.filter_nil, List.append_nil]
end
/-- what stands in a list or a tuple of numbers -/
theorem get_vI {xs : List Nat} {i : Nat} {x : V} (h : (xs.map vI)[i]? = some x) : ∃ b, xs[i]? = some b ∧ x = vI b := by
  rw [List.getElem?_map] at h
  cases e : xs[i]? with
  | none => rw [e] at h; cases h
  | some b => rw [e] at h; exact ⟨b, rfl, (Option.some.inj h).symm⟩
theorem get_mapV {α : Type} {f : α → V} {xs : List α} {i : Nat} {x : V} (h : (xs.map f)[i]? = some x) : ∃ b, xs[i]? = some b ∧ x = f b := by
  rw [List.getElem?_map] at h
  cases e : xs[i]? with
  | none => rw [e] at h; cases h
  | some b => rw [e] at h; exact ⟨b, rfl, (Option.some.inj h).symm⟩
theorem range_vI (n : Nat) (f : Nat → Nat) : (List.range n).map (fun i => vI (f i)) = ((List.range n).map f).map vI := by rw [List.map_map]; rfl
theorem filter_lot {n : Nat} {p : Nat → Prop} {t : Nat → Bool} {xs : List Nat} (hs : xs.Pairwise (· < ·)) (hm : ∀ b, b ∈ xs ∧ t b = true ↔ b < n ∧ p b) : xs.filter t = lotP n p :=
  lotP_of (hs.filter _) fun b => by rw [List.mem_filter]; exact hm b
end RL
namespace RL
open PySem PySem.Spec PyProof.Rows L2 RLM
section
variable {P : Program} {w : World} {K : PySem.W.Frag} {mg : Str → Option Value} {base : Heap}
/-! ### from a menu -/
def spFrom : Sp := fun vs H Q _ => ∃ (b c l : Addr) (xs : List V), vs = [.ref b, .ref l] ∧ Box b c H ∧ H l = some (.lst xs) ∧ l ≠ c ∧ 1 ≤ xs.length ∧ xs.length ≤ 1000 ∧ ∀ H' x, Kc c H H' → Box b c H' → x ∈ xs → Q x H'
theorem sc__law_from : FnScope ["_law_box_here", "_law_menu"] ["_law_box_here", "_law_menu"] (defScope s__law_from) := ⟨rfl, rfl, rfl, by decide +kernel, rfl, by decide +kernel, by decide +kernel⟩
theorem ok_from (T : Tx K mg) : Has P w K mg base (He.ga K "_law_from") 2 ["_law_box_here", "_law_menu"] spFrom := by
  obtain ⟨⟨fd_law_pick, F_law_pick, b_law_pick⟩, kp_law_pick⟩ := ok_pick (P := P) (w := w) (base := base) T
  obtain ⟨fd, F⟩ := T.d__law_from
  refine ⟨⟨fd, F.ok sc__law_from (fun vs H Q E h => ?_) (fun cdv A outer s H vs Q E hr h => ?_), F.bindsN fun _ _ _ _ _ _ us hl => match us, hl with | [_, _], _ => rfl⟩, F.kp⟩
  · obtain ⟨b, c, l, xs, rfl, _⟩ := h
    rfl
  · obtain ⟨b, c, l, xs, rfl, B, hl, nc, l1, l2, h⟩ := h
    have hr_law_pick : Room 1 _ := hr.mono (by decide)
    refine ⟨_, PSs.nox (pss_one (ps_ret (pe_ix (ixS (K := K)) (pv 1) (pe_call F_law_pick hr_law_pick rfl T.glo_law_pick kp_law_pick b_law_pick .nil pass0 (pa_cons (pv 0) (pa_cons (pe_callB (lenK (K := K)) (by rfl) T.free_len (by decide +kernel) (pa_cons (pv 1) pa_nil)) pa_nil))) (fun _ _ => rfl)))), ?_⟩
    refine ⟨_, rfl, _, rfl, _, rfl, l, _, rfl, .inl (SqL.of hl), b, c, _, rfl, B, by omega, by omega, fun H1 i k1 B1 i0 i1 => ?_⟩
    have hl1 : H1 l = some (.lst xs) := k1 _ _ nc (fun _ z => by cases z) hl
    obtain ⟨j, rfl⟩ : ∃ j : Nat, i = (j : Nat) := ⟨i.toNat, by omega⟩
    have hj : j < xs.length := by omega
    refine .inl ⟨l, xs, _, xs[j], rfl, rfl, SqL.of hl1, atI_nat (by simp [hj]), h H1 _ k1 B1 (List.getElem_mem hj)⟩
/-! ### from a tuple -/
def spFromT : Sp := fun vs H Q _ => ∃ (b c l : Addr) (xs : List V), vs = [.ref b, .ref l] ∧ Box b c H ∧ H l = some (.tup xs) ∧ 1 ≤ xs.length ∧ xs.length ≤ 1000 ∧ ∀ H' x, Kc c H H' → Box b c H' → x ∈ xs → Q x H'
theorem ok_fromT (T : Tx K mg) : Has P w K mg base (He.ga K "_law_from") 2 ["_law_box_here", "_law_menu"] spFromT := by
  obtain ⟨⟨fd_law_pick, F_law_pick, b_law_pick⟩, kp_law_pick⟩ := ok_pick (P := P) (w := w) (base := base) T
  obtain ⟨fd, F⟩ := T.d__law_from
  refine ⟨⟨fd, F.ok sc__law_from (fun vs H Q E h => ?_) (fun cdv A outer s H vs Q E hr h => ?_), F.bindsN fun _ _ _ _ _ _ us hl => match us, hl with | [_, _], _ => rfl⟩, F.kp⟩
  · obtain ⟨b, c, l, xs, rfl, _⟩ := h
    rfl
  · obtain ⟨b, c, l, xs, rfl, B, hl, l1, l2, h⟩ := h
    have hr_law_pick : Room 1 _ := hr.mono (by decide)
    refine ⟨_, PSs.nox (pss_one (ps_ret (pe_ix (ixS (K := K)) (pv 1) (pe_call F_law_pick hr_law_pick rfl T.glo_law_pick kp_law_pick b_law_pick .nil pass0 (pa_cons (pv 0) (pa_cons (pe_callB (lenK (K := K)) (by rfl) T.free_len (by decide +kernel) (pa_cons (pv 1) pa_nil)) pa_nil))) (fun _ _ => rfl)))), ?_⟩
    refine ⟨_, rfl, _, rfl, _, rfl, l, _, rfl, (.inr (SqT.of hl)), b, c, _, rfl, B, by omega, by omega, fun H1 i k1 B1 i0 i1 => ?_⟩
    have hl1 : H1 l = some (.tup xs) := k1.tup B.lst hl
    obtain ⟨j, rfl⟩ : ∃ j : Nat, i = (j : Nat) := ⟨i.toNat, by omega⟩
    have hj : j < xs.length := by omega
    refine .inr (.inl ⟨l, xs, _, xs[j], rfl, rfl, SqT.of hl1, atI_nat (by simp [hj]), h H1 _ k1 B1 (List.getElem_mem hj)⟩)
/-! ### mixed -/
def spMixed : Sp := fun vs H Q _ => ∃ (b c l : Addr) (xs : List V), vs = [.ref b, .ref l] ∧ Box b c H ∧ H l = some (.lst xs) ∧ l ≠ c ∧ xs.length ≤ 1000 ∧ ∀ H' p ys, ys.Perm xs → H' p = some (.lst ys) → p ≠ c → Kc c H H' → Box b c H' → Q (.ref p) H'
theorem perm_ins {α : Type} (ys : List α) (j : Nat) (y : α) : (ys.take j ++ [y] ++ ys.drop j).Perm (ys ++ [y]) := by
  have e : ys ++ [y] = ys.take j ++ (ys.drop j ++ [y]) := by rw [← List.append_assoc, List.take_append_drop]
  rw [e, List.append_assoc]
  exact (List.perm_append_comm).append_left _
theorem sc__law_mixed : FnScope ["_law_box_here", "_law_things", "_law_found", "_law_thing"] ["_law_box_here", "_law_things"] (defScope s__law_mixed) := ⟨rfl, rfl, rfl, by decide +kernel, rfl, by decide +kernel, by decide +kernel⟩
theorem ok_mixed (T : Tx K mg) : Has P w K mg base (He.ga K "_law_mixed") 2 ["_law_box_here", "_law_things"] spMixed := by
  obtain ⟨⟨fd_law_pick, F_law_pick, b_law_pick⟩, kp_law_pick⟩ := ok_pick (P := P) (w := w) (base := base) T
  obtain ⟨fd, F⟩ := T.d__law_mixed
  refine ⟨⟨fd, F.ok sc__law_mixed (fun vs H Q E h => ?_) (fun cdv A outer s H vs Q E hr h => ?_), F.bindsN fun _ _ _ _ _ _ us hl => match us, hl with | [_, _], _ => rfl⟩, F.kp⟩
  · obtain ⟨b, c, l, xs, rfl, _⟩ := h
    rfl
  · obtain ⟨b, c, l, xs, rfl, B, hl, nc, l2, h⟩ := h
    have hr_law_pick : Room 1 _ := hr.mono (by decide)
    refine ⟨_, PSs.nox (pss_cons (ps_set (i := 2) sc__law_mixed.nd rfl (Or.inl rfl) (pe_lst pa_nil))
      (pss_cons (ps_for PassesOwn.never rfl (piL (K := K) (pv 1)) (pg_name (i := 3) sc__law_mixed.nd rfl (Or.inl rfl)) (pss_one (ps_expr (bmK (K := K) PySem.F.plainAttrs_list PySem.F.slot_list_insert PySem.F.type_list_insert mt_insert (pv 2) (pa_cons (pe_call F_law_pick hr_law_pick rfl T.glo_law_pick kp_law_pick b_law_pick .nil pass0 (pa_cons (pv 0) (pa_cons (pe_op op_add (pe_callB (lenK (K := K)) (by rfl) T.free_len (by decide +kernel) (pa_cons (pv 2) pa_nil)) pe_int) pa_nil))) (pa_cons (pv 3) pa_nil))))))
      (pss_one (ps_ret (pv 2))))), ?_⟩
    refine ⟨Nat.zero_le _, fun p hp => ?_⟩
    have s0 : Same H (upd H p (.lst [])) := same_upd hp
    have hpc : p ≠ c := fun z => by
      obtain ⟨ys, hc⟩ := B.lst
      rw [z, hc] at hp
      cases hp
    refine ⟨_, rfl, l, rfl, ⟨_, SqL.of (s0 _ _ hl)⟩, for_list (K := K) (a := l) (xs := xs) (fun i σ H1 => ∃ (ys : List V) (v : Option V), σ = [some (.ref b), some (.ref l), some (.ref p), v] ∧ ys.Perm (xs.take i) ∧ H1 p = some (.lst ys) ∧ Kc c H H1 ∧ Box b c H1)
      ⟨[], none, rfl, by simp, upd_same, kc_same s0, B.same s0⟩ (fun i σ H1 _ ⟨_, _, _, _, _, k1, _⟩ => SqL.of (k1 _ _ nc (fun _ z => by cases z) hl)) ?_ ?_⟩
    · rintro i y σ H1 hi ⟨ys, v, rfl, pm, h1, k1, B1⟩
      have li : i < xs.length := (List.getElem?_eq_some_iff.mp hi).1
      have ly : ys.length = i := by
        rw [pm.length_eq, List.length_take]
        omega
      refine ⟨_, rfl, .inl ⟨rfl, _, SqL.of h1⟩, _, rfl, _, rfl, p, _, rfl, .inl (SqL.of h1), _, _, rfl, rfl, b, c, _, rfl, B1, by omega, by omega, fun H2 j k2 B2 j0 j1 => ?_⟩
      have h2 : H2 p = some (.lst ys) := k2 _ _ hpc (fun _ z => by cases z) h1
      refine ⟨_, rfl, p, ys, j, y, rfl, rfl, h2, Nat.lt_of_le_of_lt (show ys.length ≤ 1000 by omega) (by decide), j0, by omega, ?_⟩
      refine ⟨_, _, rfl, ?_, upd_same, (k1.trans k2).upd hp, ?_⟩
      · have e : xs.take (i + 1) = xs.take i ++ [y] := by
          rw [List.take_add_one, hi]
          rfl
        rw [e]
        exact (perm_ins ys j.toNat y).trans (pm.append_right _)
      · obtain ⟨ns, r, z, t, g1, g2, g3⟩ := B2.ex
        refine ⟨ns, r, z, t, ?_, ?_, g3⟩
        · rw [upd_ne (ne_of g1 h2 (by intro z; cases z))]
          exact g1
        · rw [upd_ne hpc.symm]
          exact g2
    · rintro σ H1 ⟨ys, v, rfl, pm, h1, k1, B1⟩
      rw [List.take_length] at pm
      exact ⟨_, rfl, h H1 p ys pm h1 hpc k1 B1⟩
end
end RL
namespace RL
open PySem PySem.Spec PyProof.Rows L2 RLM
theorem Box.upd {b c p : Addr} {H : Hp} {o : HO} (h : Box b c H) (hp : p ≠ c) (hb : p ≠ b) : Box b c (L2.upd H p o) := by
  obtain ⟨ns, r, s, t, h1, h2, h3⟩ := h.ex
  exact ⟨ns, r, s, t, by rw [upd_ne hb.symm]; exact h1, by rw [upd_ne hp.symm]; exact h2, h3⟩
theorem Box.new {b c p : Addr} {H : Hp} (h : Box b c H) (hp : H p = none) : p ≠ c ∧ p ≠ b := by
  obtain ⟨ns, r, s, t, h1, h2, h3⟩ := h.ex
  exact ⟨(ne_of_none h2 hp).symm, (ne_of_none h1 hp).symm⟩
/-- the ways of a list -/
def WaysOk (n : Nat) (L : List (Addr × Nat × Nat)) : Prop := (L.map (·.2)).Nodup ∧ (∀ q ∈ L, q.2.1 < n ∧ q.2.2 < n ∧ q.2.1 ≠ q.2.2) ∧ L.length ≤ 64
theorem WaysOk.sub {n : Nat} {L M : List (Addr × Nat × Nat)} (h : WaysOk n L) (s : M.Sublist L) : WaysOk n M :=
  ⟨(s.map _).nodup h.1, fun q hq => h.2.1 q (s.subset hq), Nat.le_trans s.length_le h.2.2⟩
theorem perm_map {α β : Type} {f : α → β} : ∀ {xs : List α} {ys : List β}, ys.Perm (xs.map f) → ∃ zs : List α, ys = zs.map f ∧ zs.Perm xs
  | [], ys, h => ⟨[], by rw [List.Perm.eq_nil h]; rfl, List.Perm.refl _⟩
  | x :: xs, ys, h => by
    have hm : f x ∈ ys := h.mem_iff.mpr (by simp)
    obtain ⟨y1, y2, rfl⟩ := List.append_of_mem hm
    have h2 : (y1 ++ y2).Perm (xs.map f) := by
      have := List.perm_middle.symm.trans h
      exact this.cons_inv
    obtain ⟨zs, e, p⟩ := perm_map h2
    obtain ⟨z1, z2, rfl, e1, e2⟩ := List.map_eq_append_iff.mp e.symm
    refine ⟨z1 ++ x :: z2, ?_, List.perm_middle.trans (p.cons x)⟩
    rw [List.map_append, List.map_cons, e1, e2]
/-- [way for way in ways if ..], whatever the test says -/
theorem filt {K : PySem.W.Frag} {b c l D : Addr} {k : Nat} {H : Hp} {σ : L2.St} {vs : List Nat} {tt : TT} {L : List (Addr × Nat × Nat)} {Qd : Hp → Prop} (PL : PairsAt c H l L) (B : Box b c H) (len : L.length ≤ 64) (hD : H D = none)
    (hw : ∀ x : V, wipe ((wipe σ vs).set k (some x)) vs = wipe σ vs) (hk : ∀ x : V, ((wipe σ vs).set k (some x))[k]? = some (some x))
    (htt : ∀ q ∈ L, ∀ H1, Kc c H H1 → Box b c H1 → ∀ R : Bool → Hp → Prop, (∀ t H2, Kc c H1 H2 → Box b c H2 → R t H2) → tt ((wipe σ vs).set k (some (.ref q.1))) H1 R)
    (hd : ∀ H1 M, M.Sublist L → PairsAt c H1 D M → Kc c H H1 → Box b c H1 → Qd H1) :
    ∃ W : Nat → Nat → Hp → Prop, (∃ m, W 0 m (upd H D (.lst []))) ∧ ∀ i m H, W i m H →
      ((Itl K l).stop i H ∧ Qd H) ∨ ((Itl K l).go i H ∧ ∃ Nx : Hp → Prop, (∀ H', Nx H' → ∃ m', m' < m ∧ W (i + 1) m' H') ∧ ∀ x H', (Itl K l).yld i H x H' → gName k x (wipe σ vs) H' fun σ2 H2 => wipe σ2 vs = wipe σ vs ∧ tt σ2 H2 fun b H3 =>
        if b = true then tVar k σ2 H3 fun y H4 => ∃ acc, H4 D = some (.lst acc) ∧ acc.length < sizeLine ∧ Nx (upd H4 D (.lst (acc ++ [y]))) else Nx H3) := by
  have Dc := (B.new hD).1
  have Db := (B.new hD).2
  have s0 : Same H (upd H D (.lst [])) := same_upd hD
  refine lc_list (K := K) (a := l) (xs := L.map fun q => V.ref q.1) (fun i H1 => ∃ M : List (Addr × Nat × Nat), M.Sublist (L.take i) ∧ H1 D = some (.lst (M.map fun q => V.ref q.1)) ∧ Kc c H H1 ∧ Box b c H1)
    ⟨[], by simp, upd_same, kc_same s0, B.same s0⟩ (fun i H1 _ ⟨_, _, _, k1, _⟩ => SqL.of (k1 _ _ PL.ne (fun _ z => by cases z) PL.at_)) ?_ ?_
  · rintro i x H1 hx ⟨M, sM, hM, k1, B1⟩
    rw [List.getElem?_map] at hx
    obtain ⟨q, hq, rfl⟩ : ∃ q, L[i]? = some q ∧ V.ref q.1 = x := by
      cases e : L[i]? with
      | none => rw [e] at hx; cases hx
      | some q => rw [e] at hx; exact ⟨q, rfl, Option.some.inj hx⟩
    have et : L.take (i + 1) = L.take i ++ [q] := by
      rw [List.take_add_one, hq]
      rfl
    refine ⟨hw _, htt q (List.mem_of_getElem? hq) H1 k1 B1 _ fun t H2 k2 B2 => ?_⟩
    have hM2 : H2 D = some (.lst (M.map fun q => V.ref q.1)) := k2 _ _ Dc (fun _ z => by cases z) hM
    have lM : M.length ≤ 64 := Nat.le_trans sM.length_le (by rw [List.length_take]; omega)
    cases t with
    | false =>
      refine iteF ⟨M, ?_, hM2, k1.trans k2, B2⟩
      rw [et]
      exact sM.trans (List.sublist_append_left _ _)
    | true =>
      refine iteT ⟨_, hk _, _, hM2, ?_, M ++ [q], ?_, ?_, (k1.trans k2).upd hD, B2.upd Dc Db⟩
      · rw [List.length_map]
        exact Nat.lt_of_le_of_lt lM (by decide)
      · rw [et]
        exact sM.append (List.Sublist.refl _)
      · rw [upd_same, List.map_append]
        rfl
  · rintro H1 ⟨M, sM, hM, k1, B1⟩
    rw [List.length_map, List.take_length] at sM
    exact hd H1 M sM ⟨hM, Dc, fun q hq => k1.tup B.lst (PL.tup q (sM.subset hq))⟩ k1 B1
section
variable {P : Program} {w : World} {K : PySem.W.Frag} {mg : Str → Option Value} {base : Heap}
def spWays : Sp := fun vs H Q _ => ∃ (b c : Addr) (n : Nat), vs = [.ref b, vI n] ∧ Box b c H ∧ 1 ≤ n ∧ n ≤ 8 ∧ ∀ H' l L, PairsAt c H' l L → WaysOk n L → Kc c H H' → Box b c H' → Q (.ref l) H'
/-! ### a board's data -/
def spBoard : Sp := fun vs H Q _ => ∃ (b c : Addr), vs = [.ref b, vI 8] ∧ Box b c H ∧ ∀ H' t n l L, 1 ≤ n → n ≤ 8 → H' t = some (.tup [vI n, .ref l]) → PairsAt c H' l L → WaysOk n L → Kc c H H' → Box b c H' → Q (.ref t) H'
end
end RL
namespace RL
open PySem PySem.Spec PyProof.Rows L2 RLM
theorem rep_flat {α : Type} (x : α) : ∀ k : Nat, (List.replicate k [x]).flatten = List.replicate k x
  | 0 => rfl
  | k + 1 => by
    rw [List.replicate_succ, List.flatten_cons, rep_flat x k]
    rfl
theorem menu_small {xs : List V} {x : V} (h : x ∈ xs) (hs : xs.all (fun v => match v with | .int i => decide (0 ≤ i ∧ i ≤ 7) | _ => false) = true) : ∃ p : Nat, x = vI p ∧ p ≤ 7 := by
  have := List.all_eq_true.mp hs x h
  cases x with
  | int i =>
    have z : 0 ≤ i ∧ i ≤ 7 := of_decide_eq_true this
    refine ⟨i.toNat, ?_, by omega⟩
    show V.int i = V.int (i.toNat : Nat)
    rw [Int.toNat_of_nonneg z.1]
  | _ => cases this
section
variable {P : Program} {w : World} {K : PySem.W.Frag} {mg : Str → Option Value} {base : Heap}
def spPace : Sp := fun vs H Q _ => ∃ (b c : Addr) (n : Nat), vs = [.ref b, vI n] ∧ Box b c H ∧ 1 ≤ n ∧ n ≤ 8 ∧ ∀ H' t (ps : List Nat), ps.length = n → (∀ p ∈ ps, p ≤ 7) → H' t = some (.tup (ps.map vI)) → Kc c H H' → Box b c H' → Q (.ref t) H'
/-! ### lots -/
def spLot : Sp := fun vs H Q _ => ∃ (b c : Addr) (n : Nat), vs = [.ref b, vI n] ∧ Box b c H ∧ 1 ≤ n ∧ n ≤ 8 ∧ ∀ H' t p, H' t = some (.tup ((lotP n p).map vI)) → Kc c H H' → Box b c H' → Q (.ref t) H'
theorem rg_range (n : Nat) : rgV 0 (n : Int) = (List.range n).map vI := by
  unfold rgV
  rw [Int.sub_zero, Int.toNat_natCast]
  refine List.map_congr_left fun i _ => ?_
  show V.int (0 + (i : Nat)) = V.int (i : Nat)
  rw [Int.zero_add]
theorem lotP_true (n : Nat) : lotP n (fun _ => True) = List.range n := (lotP_of (range_sorted n) fun b => by simp [List.mem_range]).symm
theorem sc__law_lot : FnScope ["_law_box_here", "_law_many", "_law_thick", "_law_place"] ["_law_box_here", "_law_many"] (defScope s__law_lot) := ⟨rfl, rfl, rfl, by decide +kernel, rfl, by decide +kernel, by decide +kernel⟩
theorem ok_lot (T : Tx K mg) : Has P w K mg base (He.ga K "_law_lot") 2 ["_law_box_here", "_law_many"] spLot := by
  obtain ⟨⟨fd_law_pick, F_law_pick, b_law_pick⟩, kp_law_pick⟩ := ok_pick (P := P) (w := w) (base := base) T
  obtain ⟨fd, F⟩ := T.d__law_lot
  refine ⟨⟨fd, F.ok sc__law_lot (fun vs H Q E h => ?_) (fun cdv A outer s H vs Q E hr h => ?_), F.bindsN fun _ _ _ _ _ _ us hl => match us, hl with | [_, _], _ => rfl⟩, F.kp⟩
  · obtain ⟨b, c, n, rfl, _⟩ := h
    rfl
  · obtain ⟨b, c, n, rfl, B, n1, n8, h⟩ := h
    have hr_law_pick : Room 1 _ := hr.mono (by decide)
    refine ⟨_, PSs.nox (pss_cons (ps_if (pt_cmpR op_eq (pe_call F_law_pick hr_law_pick rfl T.glo_law_pick kp_law_pick b_law_pick .nil pass0 (pa_cons (pv 0) (pa_cons pe_int pa_nil))) pe_int (nomark _)) (pss_one (ps_ret (pe_tupRg rfl (by rfl) T.free_tuple (prg_1 (by rfl) T.free_range (pv 1))))) pss_nil)
      (pss_cons (ps_set (i := 2) sc__law_lot.nd rfl (Or.inr rfl) (pe_op op_add pe_int (pe_call F_law_pick hr_law_pick rfl T.glo_law_pick kp_law_pick b_law_pick .nil pass0 (pa_cons (pv 0) (pa_cons pe_int pa_nil)))))
      (pss_one (ps_ret (pe_callTy (tupK (K := K)) (by rfl) T.free_tuple (by decide +kernel) (pa_cons (pe_lc (own := [("_law_place", 3)]) (g := (gName 3)) rfl sc__law_lot.nd (pi_range1 (by rfl) T.free_range (pa_cons (pv 1) pa_nil)) (blkOk_by (by kernel_rfl)) (fun _ _ _ _ _ => (pg_name (i := 3) sc__law_lot.nd rfl (Or.inl rfl))) (fun _ _ _ _ _ => (pts_one (pt_cmpR op_lt (pe_call F_law_pick hr_law_pick rfl T.glo_law_pick kp_law_pick b_law_pick .nil pass0 (pa_cons (pv 0) (pa_cons pe_int pa_nil))) (pv 2) (nomark _)))) (fun _ _ _ _ _ => (pv 3))) pa_nil)))))), ?_⟩
    refine ⟨_, rfl, b, c, _, rfl, B, by decide, by decide, fun H1 i k1 B1 i0 i1 => ?_⟩
    refine ⟨rfl, _, rfl, ?_⟩
    refine ite2 (fun _ => ?_) (fun _ => ?_)
    · refine ⟨_, rfl, (n : Int), rfl, RgOk.of_le (by decide) (by omega) (by decide) (by omega), fun q hq => ?_⟩
      have s2 := same_upd (o := HO.tup (rgV 0 (n : Int))) hq
      refine h _ q (fun _ => True) ?_ (k1.trans (kc_same s2)) (B1.same s2)
      rw [upd_same, rg_range, lotP_true]
    · refine ⟨_, rfl, b, c, _, rfl, B1, by decide, by decide, fun H2 j k2 B2 j0 j1 => ?_⟩
      refine ⟨_, _, rfl, rfl, ?_⟩
      refine ⟨_, rfl, (n : Int), rfl, by omega, by omega, fun D hD => ?_⟩
      have s3 : Same H2 (upd H2 D (.lst [])) := same_upd hD
      have Dc := (B2.new hD).1
      have Db := (B2.new hD).2
      refine lc_range (lo := 0) (n := ((n : Nat) : Int).toNat) (fun j H3 => ∃ ps : List Nat, ps.Sublist (List.range j) ∧ H3 D = some (.lst (ps.map vI)) ∧ Kc c H2 H3 ∧ Box b c H3)
        ⟨[], by simp, upd_same, kc_same s3, B2.same s3⟩ ?_ ?_
      · rintro j H3 hj ⟨ps, sp, hp, k3, B3⟩
        refine ⟨rfl, _, rfl, b, c, _, rfl, B3, by decide, by decide, fun H4 x k4 B4 x0 x1 => ?_⟩
        refine ⟨_, rfl, _, _, rfl, rfl, _, rfl, ?_⟩
        have hp4 : H4 D = some (.lst (ps.map vI)) := k4 _ _ Dc (fun _ z => by cases z) hp
        have lp : ps.length ≤ 8 := Nat.le_trans sp.length_le (by rw [List.length_range]; omega)
        refine ite2 (fun _ => ?_) (fun _ => ?_)
        · refine ⟨_, rfl, _, hp4, ?_, ps ++ [j], ?_, ?_, (k3.trans k4).upd hD, B4.upd Dc Db⟩
          · rw [List.length_map]
            exact Nat.lt_of_le_of_lt lp (by decide)
          · rw [List.range_succ]
            exact sp.append (List.Sublist.refl _)
          · rw [upd_same, List.map_append, Int.zero_add]
            rfl
        · refine ⟨ps, ?_, hp4, k3.trans k4, B4⟩
          rw [List.range_succ]
          exact sp.trans (List.sublist_append_left _ _)
      · rintro H3 ⟨ps, sp, hp, k3, B3⟩
        rw [Int.toNat_natCast] at sp
        refine ⟨D, _, rfl, .inl ⟨SqL.of hp, fun t ht => ?_⟩⟩
        have s4 := same_upd (o := HO.tup (ps.map vI)) ht
        refine h _ t (fun b => b ∈ ps) ?_ (((k1.trans k2).trans k3).trans (kc_same s4)) (B3.same s4)
        rw [upd_same, ← lotP_of (n := n) (p := fun b => b ∈ ps) ((range_sorted n).sublist sp) fun b => ⟨fun hb => ⟨List.mem_range.mp (sp.subset hb), hb⟩, fun hb => hb.2⟩]
/-! ### two lots put together -/
def spJoined : Sp := fun vs H Q _ => ∃ (s t : Addr) (n : Nat) (p q : Nat → Prop), vs = [.ref s, .ref t] ∧ H s = some (.tup ((lotP n p).map vI)) ∧ H t = some (.tup ((lotP n q).map vI)) ∧ n ≤ 8 ∧ ∀ H' u, H' u = some (.tup ((lotP n fun b => p b ∨ q b).map vI)) → Same H H' → Q (.ref u) H'
def nI (k : Nat) : Int := (k : Nat)
theorem vI_map (xs : List Nat) : xs.map vI = (xs.map nI).map V.int := by
  rw [List.map_map]
  rfl
/-- a rising list of ints that has just the places of a lot is it -/
theorem rise_lot {n : Nat} {p : Nat → Prop} {ns : List Int} (h : ns.Pairwise (· < ·)) (hm : ∀ k : Int, k ∈ ns ↔ ∃ b : Nat, k = nI b ∧ b < n ∧ p b) : ns.map V.int = (lotP n p).map vI := by
  have e : ns = (ns.map Int.toNat).map nI := by
    rw [List.map_map]
    refine (List.map_id' ns).symm.trans (List.map_congr_left fun k hk => ?_)
    obtain ⟨b, rfl, _⟩ := (hm k).1 hk
    rfl
  have s2 : (ns.map Int.toNat).Pairwise (· < ·) := by
    rw [List.pairwise_map]
    refine h.imp_of_mem fun {x y} hx hy hxy => ?_
    obtain ⟨a, rfl, _⟩ := (hm x).1 hx
    obtain ⟨b, rfl, _⟩ := (hm y).1 hy
    have : (a : Int) < (b : Int) := hxy
    show a < b
    omega
  have : ns.map Int.toNat = lotP n p := by
    refine lotP_of s2 fun b => ⟨fun hb => ?_, fun hb => ?_⟩
    · obtain ⟨k, hk, rfl⟩ := List.mem_map.mp hb
      obtain ⟨b, rfl, hb2⟩ := (hm k).1 hk
      exact hb2
    · exact List.mem_map.mpr ⟨nI b, (hm _).2 ⟨b, rfl, hb⟩, rfl⟩
  rw [vI_map, ← this, ← e]
end
end RL
namespace RL
open PySem PySem.Spec PyProof.Rows L2 RLM
section
variable {P : Program} {w : World} {K : PySem.W.Frag} {mg : Str → Option Value} {base : Heap}
def pairL (q : Nat × Nat) : List Int := [nI q.1, nI q.2]
theorem pairL_inj {a b : Nat × Nat} (h : pairL a = pairL b) : a = b := by
  unfold pairL nI at h
  simp at h
  exact Prod.ext (by omega) (by omega)
/-- a list of ways that a set of tuples tells -/
def toT (q : Addr × Nat × Nat) : Addr × List Int := (q.1, pairL q.2)
def lexLt (a b : Nat × Nat) : Prop := a.1 < b.1 ∨ (a.1 = b.1 ∧ a.2 < b.2)
def spRising (K : PySem.W.Frag) : Sp := fun vs H Q _ => ∃ (n : Nat) (l : Addr) (L : List (Addr × Nat × Nat)), vs = [vI n, .ref l] ∧ H l = some (.lst (L.map fun q => V.ref q.1)) ∧ (∀ q ∈ L, H q.1 = some (.tup [vI q.2.1, vI q.2.2])) ∧ WaysOk n L ∧ n ≤ 8 ∧ L.length < 63 ∧
  ∀ (H' : Hp) (p : Addr) (M : List (Addr × Nat × Nat)), H' p = some (.lst (M.map fun q => V.ref q.1)) → (∀ q ∈ M, H' q.1 = some (.tup [vI q.2.1, vI q.2.2])) → (∀ e, e ∈ M.map (·.2) ↔ e ∈ L.map (·.2)) → (M.map (·.2)).Pairwise lexLt → Same H H' → H p = none → Q (.ref p) H'
end
end RL
namespace RL
open PySem PySem.Spec PyProof.Rows L2 RLM
theorem ixN_nat {n j : Nat} (h : j < n) : ixN n (j : Int) = some j := by
  unfold ixN
  have h1 : (0 : Int) ≤ (j : Int) := Int.natCast_nonneg j
  have h2 : (j : Int) < (n : Int) := by omega
  rw [if_pos h1, if_pos h2, Int.toNat_natCast]
theorem get_map {α β : Type} {f : α → β} {xs : List α} {i : Nat} {x : α} (h : xs[i]? = some x) : (xs.map f)[i]? = some (f x) := by
  rw [List.getElem?_map, h]
  rfl
/-- the leads' lists -/
structure LeadsAt (H : Hp) (ll : Addr) (n : Nat) (E : List (Nat × Nat)) (G : List (Addr × List Nat)) : Prop where
  at_ : H ll = some (.lst (G.map fun g => V.ref g.1))
  len : G.length = n
  each : ∀ (c : Nat) (g : Addr × List Nat), G[c]? = some g → H g.1 = some (.lst (g.2.map vI)) ∧ g.2.length ≤ 64 ∧ ∀ o, o ∈ g.2 ↔ (c, o) ∈ E
theorem LeadsAt.same {H H' : Hp} {ll : Addr} {n : Nat} {E : List (Nat × Nat)} {G : List (Addr × List Nat)} (s : Same H H') (h : LeadsAt H ll n E G) : LeadsAt H' ll n E G :=
  ⟨s _ _ h.at_, h.len, fun c g e => ⟨s _ _ (h.each c g e).1, (h.each c g e).2⟩⟩
section
variable {P : Program} {w : World} {K : PySem.W.Frag} {mg : Str → Option Value} {base : Heap}
def spFars : Sp := fun vs H Q _ => ∃ (ll : Addr) (a n : Nat) (E : List (Nat × Nat)) (G : List (Addr × List Nat)), vs = [.ref ll, vI a] ∧ LeadsAt H ll n E G ∧ On n E ∧ n ≤ 8 ∧ a < n ∧
  ∀ (H' : Hp) (p : Addr) (fs : List (Option Nat)), H' p = some (.lst (fs.map vO)) → H p = none → Fars n E a fs → Same H H' → Q (.ref p) H'
end
end RL
/-! Spans by closing over middle places: plain mathematics. -/
namespace RLM
/-- a walk whose inner places are below m -/
inductive Wm (E : List (Nat × Nat)) (m : Nat) : Nat → Nat → Nat → Prop where
  | z (a : Nat) : Wm E m 0 a a
  | o {a b : Nat} : (a, b) ∈ E → Wm E m 1 a b
  | s {k a b c : Nat} : Wm E m k a b → b < m → (b, c) ∈ E → Wm E m (k + 1) a c
theorem Wm.split {E : List (Nat × Nat)} {m k a b : Nat} (w : Wm E (m + 1) k a b) : Wm E m k a b ∨ ∃ k1 k2, k1 + k2 ≤ k ∧ Wm E m k1 a m ∧ Wm E m k2 m b := by
  induction w with
  | z a => exact .inl (.z a)
  | o e => exact .inl (.o e)
  | @s k a b c w hb e ih =>
    rcases ih with w' | ⟨k1, k2, hk, w1, w2⟩
    · by_cases h : b < m
      · exact .inl (.s w' h e)
      · have : b = m := by omega
        subst this
        exact .inr ⟨k, 1, Nat.le_refl _, w', .o e⟩
    · by_cases h : b < m
      · exact .inr ⟨k1, k2 + 1, by omega, w1, .s w2 h e⟩
      · have : b = m := by omega
        subst this
        exact .inr ⟨k1, 1, by omega, w1, .o e⟩
theorem Wk.wm {n : Nat} {E : List (Nat × Nat)} (h : On n E) {k a b : Nat} (w : Wk E k a b) (ha : a < n) : Wm E n k a b := by
  induction w with
  | z a => exact .z a
  | s w e ih => exact .s (ih ha) (w.lt h ha) e
theorem Wk.app {E : List (Nat × Nat)} {k a b : Nat} (w : Wk E k a b) {l c : Nat} (v : Wk E l b c) : Wk E (k + l) a c := by
  induction v with
  | z _ => exact w
  | s v e ih => exact .s (ih w) e
/-- no entry says too little -/
structure Sound (n : Nat) (E : List (Nat × Nat)) (M : Nat → Nat → Nat) : Prop where
  hi : ∀ a b, a < n → b < n → M a b ≤ 99
  wk : ∀ a b, a < n → b < n → M a b < 99 → Wk E (M a b) a b
/-- no entry says too much -/
def Full (n : Nat) (E : List (Nat × Nat)) (m : Nat) (M : Nat → Nat → Nat) : Prop := ∀ k a b, a < n → b < n → Wm E m k a b → M a b ≤ k
/-- a table with one entry put -/
def put (M : Nat → Nat → Nat) (a b v : Nat) : Nat → Nat → Nat := fun x y => if x = a ∧ y = b then v else M x y
theorem put_at (M : Nat → Nat → Nat) (a b v : Nat) : put M a b v a b = v := if_pos ⟨rfl, rfl⟩
theorem put_ne (M : Nat → Nat → Nat) {a b v x y : Nat} (h : ¬ (x = a ∧ y = b)) : put M a b v x y = M x y := if_neg h
/-- within the pass of the middle m: the pairs that are done -/
structure Pass (n : Nat) (E : List (Nat × Nat)) (m : Nat) (M0 : Nat → Nat → Nat) (done : Nat → Nat → Prop) (M : Nat → Nat → Nat) : Prop where
  sn : Sound n E M
  le : ∀ a b, a < n → b < n → M a b ≤ M0 a b
  dn : ∀ a b, a < n → b < n → done a b → M a b ≤ M0 a m + M0 m b
theorem Pass.start {n m : Nat} {E : List (Nat × Nat)} {M : Nat → Nat → Nat} (s : Sound n E M) : Pass n E m M (fun _ _ => False) M :=
  ⟨s, fun _ _ _ _ => Nat.le_refl _, fun _ _ _ _ h => h.elim⟩
theorem Pass.weak {n m : Nat} {E : List (Nat × Nat)} {M0 M : Nat → Nat → Nat} {d d' : Nat → Nat → Prop} (p : Pass n E m M0 d M) (h : ∀ a b, a < n → b < n → d' a b → d a b) : Pass n E m M0 d' M :=
  ⟨p.sn, p.le, fun a b ha hb x => p.dn a b ha hb (h a b ha hb x)⟩
theorem Pass.one {n m : Nat} {E : List (Nat × Nat)} {M0 M : Nat → Nat → Nat} {d : Nat → Nat → Prop} (p : Pass n E m M0 d M) {a b : Nat} (ha : a < n) (hb : b < n) (hm : m < n) :
    Pass n E m M0 (fun x y => d x y ∨ (x = a ∧ y = b)) (put M a b (min (min (M a b) (M a m + M m b)) 99)) := by
  have lo : min (min (M a b) (M a m + M m b)) 99 ≤ M a b := by omega
  refine ⟨⟨fun x y hx hy => ?_, fun x y hx hy h => ?_⟩, fun x y hx hy => ?_, fun x y hx hy h => ?_⟩
  · by_cases e : x = a ∧ y = b
    · obtain ⟨rfl, rfl⟩ := e
      rw [put_at]; omega
    · rw [put_ne _ e]; exact p.sn.hi x y hx hy
  · by_cases e : x = a ∧ y = b
    · obtain ⟨rfl, rfl⟩ := e
      rw [put_at] at h ⊢
      by_cases c : M x y ≤ M x m + M m y
      · have e : min (min (M x y) (M x m + M m y)) 99 = M x y := by
          have := p.sn.hi x y hx hy
          omega
        rw [e] at h ⊢
        exact p.sn.wk x y hx hy h
      · have e : min (min (M x y) (M x m + M m y)) 99 = M x m + M m y := by omega
        rw [e] at h ⊢
        exact (p.sn.wk x m hx hm (by omega)).app (p.sn.wk m y hm hy (by omega))
    · rw [put_ne _ e] at h ⊢
      exact p.sn.wk x y hx hy h
  · by_cases e : x = a ∧ y = b
    · obtain ⟨rfl, rfl⟩ := e
      rw [put_at]
      exact Nat.le_trans lo (p.le x y hx hy)
    · rw [put_ne _ e]; exact p.le x y hx hy
  · by_cases e : x = a ∧ y = b
    · obtain ⟨rfl, rfl⟩ := e
      rw [put_at]
      have := p.le x m hx hm
      have := p.le m y hm hy
      omega
    · rw [put_ne _ e]
      rcases h with h | h
      · exact p.dn x y hx hy h
      · exact absurd h e
theorem Pass.full {n m : Nat} {E : List (Nat × Nat)} {M0 M : Nat → Nat → Nat} {d : Nat → Nat → Prop} (p : Pass n E m M0 d M) (h : ∀ a b, a < n → b < n → d a b) (f : Full n E m M0) (hm : m < n) : Full n E (m + 1) M := by
  intro k a b ha hb w
  rcases w.split with w | ⟨k1, k2, hk, w1, w2⟩
  · exact Nat.le_trans (p.le a b ha hb) (f k a b ha hb w)
  · have := p.dn a b ha hb (h a b ha hb)
    have := f _ _ _ ha hm w1
    have := f _ _ _ hm hb w2
    omega
/-- how far places are, 99 and above for never -/
structure Spans (n : Nat) (E : List (Nat × Nat)) (M : Nat → Nat → Nat) : Prop where
  hi : ∀ a b, a < n → b < n → M a b ≤ 99
  nr : ∀ (a b : Nat) (m : Int), a < n → b < n → m < 99 → ((M a b : Int) ≤ m ↔ Near E m a b)
theorem Spans.of {n : Nat} {E : List (Nat × Nat)} {M : Nat → Nat → Nat} (h : On n E) (s : Sound n E M) (f : Full n E n M) : Spans n E M := by
  refine ⟨s.hi, fun a b m ha hb hm => ⟨fun l => ?_, fun ⟨k, hk, w⟩ => ?_⟩⟩
  · exact ⟨M a b, l, s.wk a b ha hb (by omega)⟩
  · have := f k a b ha hb (w.wm h ha)
    omega
/-- before the first pass: the ways that are put so far -/
def first (W : List (Nat × Nat)) : Nat → Nat → Nat := fun a b => if (a, b) ∈ W then 1 else if a = b then 0 else 99
theorem first_nil (a b : Nat) : first [] a b = 99 * (if a ≠ b then 1 else 0) := by
  unfold first
  by_cases h : a = b <;> simp [h]
theorem first_put {W : List (Nat × Nat)} {a b : Nat} : put (first W) a b 1 = first (W ++ [(a, b)]) := by
  funext x y
  by_cases e : x = a ∧ y = b
  · obtain ⟨rfl, rfl⟩ := e
    rw [put_at]
    unfold first
    rw [if_pos (by simp)]
  · rw [put_ne _ e]
    unfold first
    by_cases h : (x, y) ∈ W
    · rw [if_pos h, if_pos (List.mem_append_left _ h)]
    · have g : (x, y) ∉ W ++ [(a, b)] := fun z => by
        rcases List.mem_append.mp z with z | z
        · exact h z
        · exact e (by simpa using z)
      rw [if_neg h, if_neg g]
theorem first_sound {n : Nat} {E : List (Nat × Nat)} (h : On n E) : Sound n E (first E) := by
  refine ⟨fun a b _ _ => ?_, fun a b _ _ l => ?_⟩
  · unfold first
    split
    · omega
    · split <;> omega
  · unfold first at l ⊢
    by_cases e : (a, b) ∈ E
    · rw [if_pos e] at l ⊢
      exact .s (.z a) e
    · rw [if_neg e] at l ⊢
      by_cases c : a = b
      · rw [if_pos c]
        subst c
        exact .z a
      · rw [if_neg c] at l
        omega
theorem first_full {n : Nat} {E : List (Nat × Nat)} (h : On n E) : Full n E 0 (first E) := by
  intro k a b _ _ w
  cases w with
  | z => 
    unfold first
    rw [if_neg fun z => (h _ z).2.2 rfl, if_pos rfl]
    omega
  | o e =>
    unfold first
    rw [if_pos e]
    omega
  | s w hb e => omega
end RLM
namespace RL
open PySem PySem.Spec PyProof.Rows L2 RLM
theorem yesT {σ : L2.St} {H : Hp} {A B : Hp → Prop} (h : A H) : tYes σ H (fun b H3 => if b = true then A H3 else B H3) := by
  unfold tYes
  exact iteT h
theorem nuMin2_int (i j : Int) : nuMin2 (.int i) (.int j) = some (.int (min i j)) := by
  have e : nuMin2 (.int i) (.int j) = some (if decide (j < i) = true then V.int j else V.int i) := rfl
  rw [e]
  by_cases h : j < i
  · rw [if_pos (decide_eq_true h), Int.min_eq_right (by omega)]
  · rw [if_neg (by simpa using h), Int.min_eq_left (by omega)]
theorem nuMin3_int (i j k : Int) : nuMin3 (.int i) (.int j) (.int k) = some (.int (min (min i j) k)) := by
  unfold nuMin3
  rw [nuMin2_int]
  exact nuMin2_int _ _
theorem cmul99 (b : Bool) : CMul 99 (if b = true then 1 else 0) := by
  exact .inl ⟨by decide, by decide⟩
theorem at0 {xs : List V} {j : Nat} {x : V} (h : xs[j]? = some x) : atI xs (0 + (j : Int)) = some x := by
  rw [Int.zero_add]
  exact atI_nat h
theorem ix0 {n j : Nat} (h : j < n) : ixN n (0 + (j : Int)) = some j := by
  rw [Int.zero_add]
  exact ixN_nat h
/-- a table of numbers: a list of lists -/
structure TabAt (c : Addr) (H : Hp) (D : Addr) (n : Nat) (rs : List Addr) (M : Nat → Nat → Nat) : Prop where
  at_ : H D = some (.lst (rs.map V.ref))
  len : rs.length = n
  nd : rs.Nodup
  nD : D ∉ rs
  nc : D ≠ c ∧ c ∉ rs
  row : ∀ (i : Nat) (r : Addr), rs[i]? = some r → H r = some (.lst ((List.range n).map fun j => vI (M i j)))
theorem TabAt.same {c : Addr} {H H' : Hp} {D : Addr} {n : Nat} {rs : List Addr} {M : Nat → Nat → Nat} (s : Same H H') (h : TabAt c H D n rs M) : TabAt c H' D n rs M :=
  ⟨s _ _ h.at_, h.len, h.nd, h.nD, h.nc, fun i r e => s _ _ (h.row i r e)⟩
theorem TabAt.keep {c : Addr} {H H' : Hp} {D : Addr} {n : Nat} {rs : List Addr} {M : Nat → Nat → Nat} (k : Kc c H H') (h : TabAt c H D n rs M) : TabAt c H' D n rs M :=
  ⟨k _ _ h.nc.1 (fun _ z => by cases z) h.at_, h.len, h.nd, h.nD, h.nc, fun i r e => k _ _ (fun z => h.nc.2 (z ▸ List.mem_of_getElem? e)) (fun _ z => by cases z) (h.row i r e)⟩
theorem TabAt.get {c : Addr} {H : Hp} {D : Addr} {n : Nat} {rs : List Addr} {M : Nat → Nat → Nat} (h : TabAt c H D n rs M) {a : Nat} (ha : a < n) : ∃ r, rs[a]? = some r ∧ H r = some (.lst ((List.range n).map fun j => vI (M a j))) := by
  have e : a < rs.length := by rw [h.len]; exact ha
  exact ⟨rs[a], List.getElem?_eq_getElem e, h.row a _ (List.getElem?_eq_getElem e)⟩
theorem row_get {n b : Nat} {f : Nat → V} (h : b < n) : ((List.range n).map f)[b]? = some (f b) := by
  rw [List.getElem?_map, List.getElem?_range h]
  rfl
theorem TabAt.put {c : Addr} {H : Hp} {D : Addr} {n : Nat} {rs : List Addr} {M : Nat → Nat → Nat} (h : TabAt c H D n rs M) {a b v : Nat} {r : Addr} (hr : rs[a]? = some r) :
    TabAt c (upd H r (.lst (((List.range n).map fun j => vI (M a j)).set b (vI v)))) D n rs (RLM.put M a b v) := by
  have mr : r ∈ rs := List.mem_of_getElem? hr
  refine ⟨?_, h.len, h.nd, h.nD, h.nc, fun i r' e => ?_⟩
  · rw [upd_ne (fun z => h.nD (by rw [z]; exact mr))]
    exact h.at_
  · by_cases ei : i = a
    · subst ei
      rw [hr] at e
      cases e
      rw [upd_same]
      congr 2
      apply List.ext_getElem
      · simp
      · intro j h1 h2
        have hj : j < n := by simpa using h2
        rw [List.getElem_set]
        simp only [List.getElem_map, List.getElem_range]
        by_cases eb : b = j
        · subst eb
          rw [if_pos rfl, put_at]
        · rw [if_neg eb, put_ne _ (fun z => eb z.2.symm)]
    · have ne : r' ≠ r := fun z => by
        subst z
        obtain ⟨h1, e1⟩ := List.getElem?_eq_some_iff.mp e
        obtain ⟨h2, e2⟩ := List.getElem?_eq_some_iff.mp hr
        exact ei ((List.getElem_inj h.nd).mp (e1.trans e2.symm))
      rw [upd_ne ne, h.row i r' e]
      congr 2
      refine List.map_congr_left fun j _ => ?_
      rw [put_ne _ (fun z => ei z.1)]
section
variable {P : Program} {w : World} {K : PySem.W.Frag} {mg : Str → Option Value} {base : Heap}
def spSpans : Sp := fun vs H Q _ => ∃ (c t l : Addr) (n : Nat) (L : List (Addr × Nat × Nat)), vs = [.ref t] ∧ H t = some (.tup [vI n, .ref l]) ∧ PairsAt c H l L ∧ WaysOk n L ∧ 1 ≤ n ∧ n ≤ 8 ∧ (∃ ys, H c = some (.lst ys)) ∧
  ∀ (H' : Hp) (D : Addr) (rs : List Addr) (M : Nat → Nat → Nat), TabAt c H' D n rs M → Spans n (L.map (·.2)) M → Same H H' → Q (.ref D) H'
end
end RL
namespace RL
open PySem PySem.Spec PyProof.Rows L2 RLM
theorem isiTK {X : Cx} {K : PySem.W.Frag} (h : X.K = K := by rfl) : CallR X (.builtin "isinstance") (rIsiT K) := h ▸ call_isiT
/-! ### things that are alike, to a depth -/
def ScalV (x y : V) : Prop := x = y ∧ ((∃ i, x = .int i) ∨ (∃ b, x = .bl b) ∨ x = .non ∨ ∃ s, x = .str s)
def SameV : Nat → Hp → V → V → Prop
  | 0, _, x, y => ScalV x y
  | d + 1, H, x, y => ScalV x y ∨ ∃ (a b : Addr) (xs ys : List V), x = .ref a ∧ y = .ref b ∧ ((Rd H a (.lst xs) ∧ Rd H b (.lst ys)) ∨ (Rd H a (.tup xs) ∧ Rd H b (.tup ys))) ∧ xs.length = ys.length ∧ xs.length ≤ 1000 ∧ ∀ (k : Nat) (u v : V), xs[k]? = some u → ys[k]? = some v → SameV d H u v
theorem rd_same {H H' : Hp} {a : Addr} {o : HO} (s : Same H H') (h : Rd H a o) : Rd H' a o := by
  rcases h with h | ⟨u, h⟩
  · exact .inl (s _ _ h)
  · exact .inr ⟨u, s _ _ h⟩
theorem SameV.same {H H' : Hp} (s : Same H H') : ∀ {d : Nat} {x y : V}, SameV d H x y → SameV d H' x y
  | 0, _, _, h => h
  | d + 1, x, y, h => by
    rcases h with h | ⟨a, b, xs, ys, rfl, rfl, ab, l1, l2, each⟩
    · exact .inl h
    · refine .inr ⟨a, b, xs, ys, rfl, rfl, ?_, l1, l2, fun k u v h1 h2 => SameV.same s (each k u v h1 h2)⟩
      rcases ab with ⟨h1, h2⟩ | ⟨h1, h2⟩
      · exact .inl ⟨rd_same s h1, rd_same s h2⟩
      · exact .inr ⟨rd_same s h1, rd_same s h2⟩
theorem SameV.of0 {H : Hp} : ∀ {d : Nat} {x y : V}, ScalV x y → SameV d H x y
  | 0, _, _, h => h
  | _ + 1, _, _, h => .inl h
theorem ty_lst {K : PySem.W.Frag} {H : Hp} {a : Addr} {xs : List V} (h : Rd H a (.lst xs)) : TyX K H (.ref a) (.type "list") := by
  rcases h with h | ⟨o, h⟩
  · exact .base (.lst h)
  · exact .base (.frz h)
theorem ty_tup {K : PySem.W.Frag} {H : Hp} {a : Addr} {xs : List V} (h : Rd H a (.tup xs)) : TyX K H (.ref a) (.type "tuple") := by
  rcases h with h | ⟨o, h⟩
  · exact .base (.tup h)
  · exact .fTuple h
section
variable {P : Program} {w : World} {K : PySem.W.Frag} {mg : Str → Option Value} {base : Heap}
def spSame : Nat → Sp
  | 0 => fun _ _ _ _ => False
  | d + 1 => fun vs H Q _ => ∃ x y : V, vs = [x, y] ∧ SameV d H x y ∧ ∀ H', Same H H' → Q (.bl true) H'
theorem sc__law_same : FnScope ["_law_found", "_law_due", "_law_k"] ["_law_found", "_law_due"] (defScope s__law_same) := ⟨rfl, rfl, rfl, by decide +kernel, rfl, by decide +kernel, by decide +kernel⟩
theorem ok_same (T : Tx K mg) : ∀ d : Nat, Has P w K mg base (He.ga K "_law_same") (d + 1) ["_law_found", "_law_due"] (spSame d)
  | 0 => by
    obtain ⟨fd, F⟩ := T.d__law_same
    exact ⟨⟨fd, F.ok sc__law_same (fun vs H Q E h => h.elim) (fun cdv A outer s H vs Q E hr h => h.elim), F.bindsN fun _ _ _ _ _ _ us hl => match us, hl with | [_, _], _ => rfl⟩, F.kp⟩
  | d + 1 => by
    obtain ⟨⟨fd_law_same, F_law_same, b_law_same⟩, kp_law_same⟩ := ok_same T d
    obtain ⟨fd, F⟩ := T.d__law_same
    refine ⟨⟨fd, F.ok sc__law_same (fun vs H Q E h => ?_) (fun cdv A outer s H vs Q E hr h => ?_), F.bindsN fun _ _ _ _ _ _ us hl => match us, hl with | [_, _], _ => rfl⟩, F.kp⟩
    · obtain ⟨x, y, rfl, _⟩ := h
      rfl
    · obtain ⟨x, y, rfl, sv, h⟩ := h
      have hr_law_same : Room (d + 1) _ := hr
      refine ⟨_, PSs.nox (pss_cons (ps_if (pt_cmpR op_isN (pv 1) pe_non (nomark _)) (pss_one (ps_ret (pe_cmpR op_isN (pv 0) pe_non (nomark _)))) pss_nil)
      (pss_cons (ps_if (pt_val (pe_callB (isiTK (K := K)) (by rfl) T.free_isinstance (by decide +kernel) (pa_cons (pv 1) (pa_cons (pe_tup (pa_cons (pe_bltn (v := .ty "list") (u := .type "list") (by rfl) T.free_list (by decide +kernel) rfl) (pa_cons (pe_bltn (v := .ty "tuple") (u := .type "tuple") (by rfl) T.free_tuple (by decide +kernel) rfl) pa_nil))) pa_nil)))) (pss_cons (ps_if (PW.pt (pw_or (pt_cmpR op_ne (pe_callB (isiK (K := K)) (by rfl) T.free_isinstance (by decide +kernel) (pa_cons (pv 0) (pa_cons (pe_bltn (v := .ty "list") (u := .type "list") (by rfl) T.free_list (by decide +kernel) rfl) pa_nil))) (pe_callB (isiK (K := K)) (by rfl) T.free_isinstance (by decide +kernel) (pa_cons (pv 1) (pa_cons (pe_bltn (v := .ty "list") (u := .type "list") (by rfl) T.free_list (by decide +kernel) rfl) pa_nil))) (nomark _)) (pw_or1 (pt_cmpR op_ne (pe_callB (isiK (K := K)) (by rfl) T.free_isinstance (by decide +kernel) (pa_cons (pv 0) (pa_cons (pe_bltn (v := .ty "tuple") (u := .type "tuple") (by rfl) T.free_tuple (by decide +kernel) rfl) pa_nil))) (pe_callB (isiK (K := K)) (by rfl) T.free_isinstance (by decide +kernel) (pa_cons (pv 1) (pa_cons (pe_bltn (v := .ty "tuple") (u := .type "tuple") (by rfl) T.free_tuple (by decide +kernel) rfl) pa_nil))) (nomark _))))) (pss_one (ps_ret pe_bl)) pss_nil)
      (pss_one (ps_ret (pe_and (pe_cmpR op_eq (pe_callB (lenK (K := K)) (by rfl) T.free_len (by decide +kernel) (pa_cons (pv 0) pa_nil)) (pe_callB (lenK (K := K)) (by rfl) T.free_len (by decide +kernel) (pa_cons (pv 1) pa_nil)) (nomark _)) (pe_one (pe_callB (allK (K := K)) (by rfl) T.free_all (by decide +kernel) (pa_cons (pe_lc (own := [("_law_k", 2)]) (g := (gName 2)) (tt := tYes) rfl sc__law_same.nd (pi_range1 (by rfl) T.free_range (pa_cons (pe_callB (lenK (K := K)) (by rfl) T.free_len (by decide +kernel) (pa_cons (pv 1) pa_nil)) pa_nil)) (blkOk_by (by kernel_rfl)) (fun _ _ _ _ _ => (pg_name (i := 2) sc__law_same.nd rfl (Or.inl rfl))) (fun _ _ _ _ _ => pts_nil) (fun _ _ _ _ _ => (pe_call F_law_same hr_law_same rfl T.glo_law_same kp_law_same b_law_same .nil pass0 (pa_cons (pe_ix (ixS (K := K)) (pv 0) (pv 2) (fun _ _ => rfl)) (pa_cons (pe_ix (ixS (K := K)) (pv 1) (pv 2) (fun _ _ => rfl)) pa_nil))))) pa_nil))))))) pss_nil)
      (pss_cons (ps_if (PW.pt (pw_or (pt_cmpR op_ne (pe_callB (isiK (K := K)) (by rfl) T.free_isinstance (by decide +kernel) (pa_cons (pv 0) (pa_cons (pe_bltn (v := .ty "bool") (u := .type "bool") (by rfl) T.free_bool (by decide +kernel) rfl) pa_nil))) (pe_callB (isiK (K := K)) (by rfl) T.free_isinstance (by decide +kernel) (pa_cons (pv 1) (pa_cons (pe_bltn (v := .ty "bool") (u := .type "bool") (by rfl) T.free_bool (by decide +kernel) rfl) pa_nil))) (nomark _)) (pw_or1 (pt_cmpR op_ne (pe_callB (isiK (K := K)) (by rfl) T.free_isinstance (by decide +kernel) (pa_cons (pv 0) (pa_cons (pe_bltn (v := .ty "str") (u := .type "str") (by rfl) T.free_str (by decide +kernel) rfl) pa_nil))) (pe_callB (isiK (K := K)) (by rfl) T.free_isinstance (by decide +kernel) (pa_cons (pv 1) (pa_cons (pe_bltn (v := .ty "str") (u := .type "str") (by rfl) T.free_str (by decide +kernel) rfl) pa_nil))) (nomark _))))) (pss_one (ps_ret pe_bl)) pss_nil)
      (pss_one (ps_ret (pe_and (pe_cmpR op_eq (pe_callB (isiK (K := K)) (by rfl) T.free_isinstance (by decide +kernel) (pa_cons (pv 0) (pa_cons (pe_bltn (v := .ty "int") (u := .type "int") (by rfl) T.free_int (by decide +kernel) rfl) pa_nil))) (pe_callB (isiK (K := K)) (by rfl) T.free_isinstance (by decide +kernel) (pa_cons (pv 1) (pa_cons (pe_bltn (v := .ty "int") (u := .type "int") (by rfl) T.free_int (by decide +kernel) rfl) pa_nil))) (nomark _)) (pe_one (pe_cmpR op_eq (pv 0) (pv 1) (nomark _))))))))), ?_⟩
      have sv' : ScalV x y ∨ ∃ (a b : Addr) (xs ys : List V), x = .ref a ∧ y = .ref b ∧ ((Rd H a (.lst xs) ∧ Rd H b (.lst ys)) ∨ (Rd H a (.tup xs) ∧ Rd H b (.tup ys))) ∧ xs.length = ys.length ∧ xs.length ≤ 1000 ∧ ∃ d', d = d' + 1 ∧ ∀ (k : Nat) (u v : V), xs[k]? = some u → ys[k]? = some v → SameV d' H u v := by
        match d, sv with
        | 0, sv => exact .inl sv
        | d' + 1, .inl sv => exact .inl sv
        | d' + 1, .inr ⟨a, b, xs, ys, e1, e2, e3, e4, e5, e6⟩ => exact .inr ⟨a, b, xs, ys, e1, e2, e3, e4, e5, d', rfl, e6⟩
      rcases sv' with ⟨rfl, h4⟩ | ⟨a, b, xs, ys, rfl, rfl, ab, l1, l2, d', rfl, each⟩
      · rcases h4 with ⟨i, rfl⟩ | ⟨b, rfl⟩ | rfl | ⟨z, rfl⟩
        · refine ⟨_, rfl, rfl, _, rfl, iteF ?_⟩
          refine ⟨_, rfl, (by show 2 ≤ sizeLine; decide), fun tp htp => ?_⟩
          have s1 := same_upd (o := HO.tup [V.ty "list", V.ty "tuple"]) htp
          refine ⟨_, tp, _, _, _, false, rfl, upd_same, .cons (.ty _) (.cons (.ty _) .nil), .base (.int i), kitAny_cons (kit_ty (b := "list") (r := false) (by decide +kernel)) (fun _ => kitAny_cons (kit_ty (b := "tuple") (r := false) (by decide +kernel)) (fun _ => kitAny_nil) (fun z => by cases z)) (fun z => by cases z), _, rfl, iteF ?_⟩
          refine ⟨_, rfl, _, _, _, _, false, rfl, .ty _, .base (.int i), kit_ty (by decide +kernel), _, rfl, _, _, _, _, false, rfl, .ty _, .base (.int i), kit_ty (by decide +kernel), rfl, _, rfl, iteF ?_⟩
          refine ⟨_, rfl, _, _, _, _, false, rfl, .ty _, .base (.int i), kit_ty (by decide +kernel), _, rfl, _, _, _, _, false, rfl, .ty _, .base (.int i), kit_ty (by decide +kernel), rfl, _, rfl, iteF ?_⟩
          refine ⟨_, rfl, _, _, _, _, true, rfl, .ty _, .base (.int i), kit_ty (by decide +kernel), _, rfl, _, _, _, _, true, rfl, .ty _, .base (.int i), kit_ty (by decide +kernel), rfl, _, rfl, iteT ⟨_, rfl, _, rfl, rfl, ?_⟩⟩
          rw [decide_eq_true rfl]
          exact h _ s1
        · refine ⟨_, rfl, rfl, _, rfl, iteF ?_⟩
          refine ⟨_, rfl, (by show 2 ≤ sizeLine; decide), fun tp htp => ?_⟩
          have s1 := same_upd (o := HO.tup [V.ty "list", V.ty "tuple"]) htp
          refine ⟨_, tp, _, _, _, false, rfl, upd_same, .cons (.ty _) (.cons (.ty _) .nil), .base (.bl b), kitAny_cons (kit_ty (b := "list") (r := false) (by decide +kernel)) (fun _ => kitAny_cons (kit_ty (b := "tuple") (r := false) (by decide +kernel)) (fun _ => kitAny_nil) (fun z => by cases z)) (fun z => by cases z), _, rfl, iteF ?_⟩
          refine ⟨_, rfl, _, _, _, _, true, rfl, .ty _, .base (.bl b), kit_ty (by decide +kernel), _, rfl, _, _, _, _, true, rfl, .ty _, .base (.bl b), kit_ty (by decide +kernel), rfl, _, rfl, iteF ?_⟩
          refine ⟨_, rfl, _, _, _, _, false, rfl, .ty _, .base (.bl b), kit_ty (by decide +kernel), _, rfl, _, _, _, _, false, rfl, .ty _, .base (.bl b), kit_ty (by decide +kernel), rfl, _, rfl, iteF ?_⟩
          refine ⟨_, rfl, _, _, _, _, true, rfl, .ty _, .base (.bl b), kit_ty (by decide +kernel), _, rfl, _, _, _, _, true, rfl, .ty _, .base (.bl b), kit_ty (by decide +kernel), rfl, _, rfl, iteT ⟨_, rfl, _, rfl, rfl, ?_⟩⟩
          rw [decide_eq_true rfl]
          exact h _ s1
        · exact ⟨_, rfl, rfl, _, rfl, iteT ⟨_, rfl, rfl, h H fun _ _ e => e⟩⟩
        · refine ⟨_, rfl, rfl, _, rfl, iteF ?_⟩
          refine ⟨_, rfl, (by show 2 ≤ sizeLine; decide), fun tp htp => ?_⟩
          have s1 := same_upd (o := HO.tup [V.ty "list", V.ty "tuple"]) htp
          refine ⟨_, tp, _, _, _, false, rfl, upd_same, .cons (.ty _) (.cons (.ty _) .nil), .base (.str z), kitAny_cons (kit_ty (b := "list") (r := false) (by decide +kernel)) (fun _ => kitAny_cons (kit_ty (b := "tuple") (r := false) (by decide +kernel)) (fun _ => kitAny_nil) (fun z => by cases z)) (fun z => by cases z), _, rfl, iteF ?_⟩
          refine ⟨_, rfl, _, _, _, _, false, rfl, .ty _, .base (.str z), kit_ty (by decide +kernel), _, rfl, _, _, _, _, false, rfl, .ty _, .base (.str z), kit_ty (by decide +kernel), rfl, _, rfl, iteF ?_⟩
          refine ⟨_, rfl, _, _, _, _, true, rfl, .ty _, .base (.str z), kit_ty (by decide +kernel), _, rfl, _, _, _, _, true, rfl, .ty _, .base (.str z), kit_ty (by decide +kernel), rfl, _, rfl, iteF ?_⟩
          refine ⟨_, rfl, _, _, _, _, false, rfl, .ty _, .base (.str z), kit_ty (by decide +kernel), _, rfl, _, _, _, _, false, rfl, .ty _, .base (.str z), kit_ty (by decide +kernel), rfl, _, rfl, iteT ⟨_, rfl, _, rfl, rfl, ?_⟩⟩
          rw [decide_eq_true rfl]
          exact h _ s1
      · have each' : ∀ {H1 : Hp} (k : Nat) (u v : V), Same H H1 → xs[k]? = some u → ys[k]? = some v → SameV d' H1 u v := fun k u v s1 h1 h2 => (each k u v h1 h2).same s1
        refine ⟨_, rfl, rfl, _, rfl, iteF ?_⟩
        refine ⟨_, rfl, (by show 2 ≤ sizeLine; decide), fun tp htp => ?_⟩
        have s1 := same_upd (o := HO.tup [V.ty "list", V.ty "tuple"]) htp
        have h1 : (upd H tp (HO.tup [V.ty "list", V.ty "tuple"])) tp = some (.tup [V.ty "list", V.ty "tuple"]) := upd_same
        generalize upd H tp (HO.tup [V.ty "list", V.ty "tuple"]) = H1 at s1 h1
        rcases ab with ⟨ra, rb⟩ | ⟨ra, rb⟩
        · refine ⟨_, tp, _, _, _, true, rfl, h1, .cons (.ty _) (.cons (.ty _) .nil), ty_lst (rd_same s1 rb), kitAny_cons (kit_ty (b := "list") (r := true) (by decide +kernel)) (fun z => by cases z) (fun _ => rfl), _, rfl, iteT ?_⟩
          refine ⟨_, rfl, _, _, _, _, true, rfl, .ty _, ty_lst (rd_same s1 ra), kit_ty (by decide +kernel), _, rfl, _, _, _, _, true, rfl, .ty _, ty_lst (rd_same s1 rb), kit_ty (by decide +kernel), rfl, _, rfl, iteF ?_⟩
          refine ⟨_, rfl, _, _, _, _, false, rfl, .ty _, ty_lst (rd_same s1 ra), kit_ty (by decide +kernel), _, rfl, _, _, _, _, false, rfl, .ty _, ty_lst (rd_same s1 rb), kit_ty (by decide +kernel), rfl, _, rfl, iteF ?_⟩
          refine ⟨_, rfl, a, xs, rfl, .inl (.inl (rd_same s1 ra)), _, rfl, b, ys, rfl, .inl (.inl (rd_same s1 rb)), rfl, _, rfl, ?_⟩
          rw [l1, decide_eq_true rfl]
          refine iteT ⟨_, rfl, b, ys, rfl, .inl (.inl (rd_same s1 rb)), _, rfl, by omega, by omega, fun D hD => ?_⟩
          refine lc_range (lo := 0) (n := ((ys.length : Nat) : Int).toNat) (fun k H2 => H2 D = some (.lst ((List.replicate k true).map V.bl)) ∧ Same H1 H2) ⟨upd_same, same_upd hD⟩ ?_ ?_
          · rintro k H2 hk ⟨h2, s2⟩
            have kl : k < ys.length := by omega
            have s12 := s1.trans s2
            have hu : xs[k]? = some (xs[k]'(by omega)) := List.getElem?_eq_getElem _
            have hv : ys[k]? = some (ys[k]) := List.getElem?_eq_getElem _
            refine ⟨rfl, yesT ?_⟩
            refine ⟨_, rfl, _, rfl, .inl ⟨a, _, _, _, rfl, rfl, .inl (rd_same s12 ra), at0 hu, _, rfl, _, rfl, .inl ⟨b, _, _, _, rfl, rfl, .inl (rd_same s12 rb), at0 hv, _, _, rfl, each' k _ _ s12 hu hv, fun H3 s3 => ?_⟩⟩⟩
            refine ⟨_, s3 _ _ h2, ?_, ?_, same_mut (s2.trans s3) hD⟩
            · rw [List.length_map, List.length_replicate]
              exact Nat.lt_of_le_of_lt (show k ≤ 1000 by omega) (by decide)
            · rw [upd_same, List.replicate_succ', List.map_append]
              rfl
          · rintro H2 ⟨h2, s2⟩
            refine ⟨D, _, rfl, SqL.of h2, ?_⟩
            rw [show (List.replicate ((ys.length : Nat) : Int).toNat true).all id = true from List.all_eq_true.mpr fun z hz => by rw [(List.mem_replicate.mp hz).2]; rfl]
            exact h _ (s1.trans s2)
        · refine ⟨_, tp, _, _, _, true, rfl, h1, .cons (.ty _) (.cons (.ty _) .nil), ty_tup (rd_same s1 rb), kitAny_cons (kit_ty (b := "list") (r := false) (by decide +kernel)) (fun _ => kitAny_cons (kit_ty (b := "tuple") (r := true) (by decide +kernel)) (fun z => by cases z) (fun _ => rfl)) (fun z => by cases z), _, rfl, iteT ?_⟩
          refine ⟨_, rfl, _, _, _, _, false, rfl, .ty _, ty_tup (rd_same s1 ra), kit_ty (by decide +kernel), _, rfl, _, _, _, _, false, rfl, .ty _, ty_tup (rd_same s1 rb), kit_ty (by decide +kernel), rfl, _, rfl, iteF ?_⟩
          refine ⟨_, rfl, _, _, _, _, true, rfl, .ty _, ty_tup (rd_same s1 ra), kit_ty (by decide +kernel), _, rfl, _, _, _, _, true, rfl, .ty _, ty_tup (rd_same s1 rb), kit_ty (by decide +kernel), rfl, _, rfl, iteF ?_⟩
          refine ⟨_, rfl, a, xs, rfl, .inr (.inl (rd_same s1 ra)), _, rfl, b, ys, rfl, .inr (.inl (rd_same s1 rb)), rfl, _, rfl, ?_⟩
          rw [l1, decide_eq_true rfl]
          refine iteT ⟨_, rfl, b, ys, rfl, .inr (.inl (rd_same s1 rb)), _, rfl, by omega, by omega, fun D hD => ?_⟩
          refine lc_range (lo := 0) (n := ((ys.length : Nat) : Int).toNat) (fun k H2 => H2 D = some (.lst ((List.replicate k true).map V.bl)) ∧ Same H1 H2) ⟨upd_same, same_upd hD⟩ ?_ ?_
          · rintro k H2 hk ⟨h2, s2⟩
            have kl : k < ys.length := by omega
            have s12 := s1.trans s2
            have hu : xs[k]? = some (xs[k]'(by omega)) := List.getElem?_eq_getElem _
            have hv : ys[k]? = some (ys[k]) := List.getElem?_eq_getElem _
            refine ⟨rfl, yesT ?_⟩
            refine ⟨_, rfl, _, rfl, .inr (.inl ⟨a, _, _, _, rfl, rfl, .inl (rd_same s12 ra), at0 hu, _, rfl, _, rfl, .inr (.inl ⟨b, _, _, _, rfl, rfl, .inl (rd_same s12 rb), at0 hv, _, _, rfl, each' k _ _ s12 hu hv, fun H3 s3 => ?_⟩)⟩)⟩
            refine ⟨_, s3 _ _ h2, ?_, ?_, same_mut (s2.trans s3) hD⟩
            · rw [List.length_map, List.length_replicate]
              exact Nat.lt_of_le_of_lt (show k ≤ 1000 by omega) (by decide)
            · rw [upd_same, List.replicate_succ', List.map_append]
              rfl
          · rintro H2 ⟨h2, s2⟩
            refine ⟨D, _, rfl, SqL.of h2, ?_⟩
            rw [show (List.replicate ((ys.length : Nat) : Int).toNat true).all id = true from List.all_eq_true.mpr fun z hz => by rw [(List.mem_replicate.mp hz).2]; rfl]
            exact h _ (s1.trans s2)
end
end RL
/-! what a refusal is asked with -/
namespace RL
open PySem PySem.Spec PyProof.Rows L2
section
variable {K : PySem.W.Frag}
/-- what a refusal is asked with -/
def Refuse (K : PySem.W.Frag) (C f : Str) (z : Int) (H : Hp) (X : XK) : Prop := ∀ d H', H' d = some (.xd [(f, .int z), ("word", .str C)]) → Same H H' → X (.ref (He.ga K C)) (some d) H'
theorem Refuse.on {C f : Str} {z : Int} {H H1 : Hp} {X : XK} (r : Refuse K C f z H X) (s : Same H H1) : Refuse K C f z H1 X := fun d H' hd s' => r d H' hd (s.trans s')
end
end RL
namespace RL
open PySem PySem.Spec PyProof.Rows L2 RLM
section
variable {P : Program} {w : World} {K : PySem.W.Frag} {mg : Str → Option Value} {base : Heap}
def spInit (K : PySem.W.Frag) : Sp := fun vs H Q _ => ∃ (H0 : Hp) (x dx c l : Addr) (n : Nat) (L : List (Addr × Nat × Nat)), vs = [.ref x, vI n, .ref l] ∧ Same H0 H ∧ H0 x = none ∧ H x = some (.ins (cB K) dx []) ∧ (∃ ys, H0 c = some (.lst ys)) ∧
  H0 l = some (.lst (L.map fun q => V.ref q.1)) ∧ (∀ q ∈ L, H0 q.1 = some (.tup [vI q.2.1, vI q.2.2])) ∧ WaysOk n L ∧ 1 ≤ n ∧ n ≤ 8 ∧ L.length < 63 ∧
  ∀ (H' : Hp) (E : List (Nat × Nat)), BoardAt K c H' x n E → (∀ e, e ∈ E ↔ e ∈ L.map (·.2)) → E.Pairwise lexLt → Same H0 H' → Q .non H'
end
end RL
namespace RL
open PySem PySem.Spec PyProof.Rows L2 RLM
section
variable {P : Program} {w : World} {K : PySem.W.Frag} {mg : Str → Option Value} {base : Heap}
def spCheck (K : PySem.W.Frag) : Sp := fun vs H Q _ => ∃ (c x : Addr) (n a : Nat) (E : List (Nat × Nat)), vs = [.ref x, vI a] ∧ BoardAt K c H x n E ∧ a < n ∧ Q .non H
def spLen (K : PySem.W.Frag) : Sp := fun vs H Q _ => ∃ (c x : Addr) (n : Nat) (E : List (Nat × Nat)), vs = [.ref x] ∧ BoardAt K c H x n E ∧ Q (vI n) H
def spWithin (K : PySem.W.Frag) : Sp := fun vs H Q _ => ∃ (c x : Addr) (n a : Nat) (m : Int) (E : List (Nat × Nat)), vs = [.ref x, vI a, .int m] ∧ BoardAt K c H x n E ∧ a < n ∧ ∀ H' t, H' t = some (.tup ((lotP n (Near E m a)).map vI)) → Same H H' → Q (.ref t) H'
end
end RL
namespace RL
open PySem PySem.Spec PyProof.Rows L2 RLM
/-! few ways -/
def allW : List (Nat × Nat) := (List.range 8).flatMap fun a => (List.range 8).filterMap fun b => if a = b then none else some (a, b)
theorem allW_len : allW.length = 56 := by decide +kernel
theorem mem_allW {e : Nat × Nat} (h1 : e.1 < 8) (h2 : e.2 < 8) (h3 : e.1 ≠ e.2) : e ∈ allW := by
  unfold allW
  rw [List.mem_flatMap]
  refine ⟨e.1, List.mem_range.mpr h1, List.mem_filterMap.mpr ⟨e.2, List.mem_range.mpr h2, ?_⟩⟩
  rw [if_neg h3]
theorem on_few {n : Nat} {E : List (Nat × Nat)} (hn : n ≤ 8) (on : On n E) (nd : E.Nodup) : E.length ≤ 56 := by
  rw [← allW_len]
  refine nd.length_le_of_subset fun e he => ?_
  obtain ⟨h1, h2, h3⟩ := on e he
  exact mem_allW (by omega) (by omega) h3
theorem WaysOk.few {n : Nat} {L : List (Addr × Nat × Nat)} (hn : n ≤ 8) (h : WaysOk n L) : L.length < 63 := by
  have := on_few (E := L.map (·.2)) hn (fun e he => by
    obtain ⟨q, hq, rfl⟩ := List.mem_map.mp he
    exact h.2.1 q hq) h.1
  rw [List.length_map] at this
  omega
section
variable {P : Program} {w : World} {K : PySem.W.Frag} {mg : Str → Option Value} {base : Heap}
/-- Board(n, l) is asked where l has been made -/
theorem init_at {H : Hp} {c l x dx : Addr} {n : Nat} {L : List (Addr × Nat × Nat)} {Q : VK} (hc : ∃ ys, H c = some (.lst ys)) (hl : H l = some (.lst (L.map fun q => V.ref q.1))) (tL : ∀ q ∈ L, H q.1 = some (.tup [vI q.2.1, vI q.2.2])) (W : WaysOk n L) (n1 : 1 ≤ n) (n8 : n ≤ 8)
    (hx : H x = none) (hdx : H dx = none) (ne : dx ≠ x) (h : ∀ (H' : Hp) (E : List (Nat × Nat)), BoardAt K c H' x n E → (∀ e, e ∈ E ↔ e ∈ L.map (·.2)) → E.Pairwise lexLt → Same H H' → Q .non H') :
    spInit K [.ref x, vI n, .ref l] (upd (upd H dx (.own x)) x (.ins (cB K) dx [])) Q E0 := by
  refine ⟨H, x, dx, c, l, n, L, rfl, fun b o e => ?_, hx, upd_same, hc, hl, tL, W, n1, n8, W.few n8, h⟩
  rw [upd_ne (ne_of_none e hx), upd_ne (ne_of_none e hdx)]
  exact e
def spMade (K : PySem.W.Frag) : Sp := fun vs H Q _ => ∃ (c t l : Addr) (n : Nat) (L : List (Addr × Nat × Nat)), vs = [.ref t] ∧ H t = some (.tup [vI n, .ref l]) ∧ PairsAt c H l L ∧ WaysOk n L ∧ 1 ≤ n ∧ n ≤ 8 ∧ (∃ ys, H c = some (.lst ys)) ∧
  ∀ (H' : Hp) (x : Addr) (E : List (Nat × Nat)), BoardAt K c H' x n E → (∀ e, e ∈ E ↔ e ∈ L.map (·.2)) → E.Pairwise lexLt → Same H H' → Q (.ref x) H'
def spTurned (K : PySem.W.Frag) : Sp := fun vs H Q _ => ∃ (c x : Addr) (n : Nat) (E : List (Nat × Nat)), vs = [.ref x] ∧ BoardAt K c H x n E ∧ (∃ ys, H c = some (.lst ys)) ∧
  ∀ (H' : Hp) (y : Addr) (E' : List (Nat × Nat)), BoardAt K c H' y n E' → (∀ a b, (a, b) ∈ E' ↔ (b, a) ∈ E) → E'.Pairwise lexLt → Same H H' → Q (.ref y) H'
theorem nodup_inj {α β : Type} {f : α → β} : ∀ {l : List α}, l.Nodup → (∀ x ∈ l, ∀ y ∈ l, f x = f y → x = y) → (l.map f).Nodup
  | [], _, _ => List.nodup_nil
  | a :: l, h, hf => by
    rw [List.map_cons, List.nodup_cons]
    rw [List.nodup_cons] at h
    refine ⟨fun hm => ?_, nodup_inj h.2 fun x hx y hy => hf x (List.mem_cons_of_mem _ hx) y (List.mem_cons_of_mem _ hy)⟩
    obtain ⟨b, hb, e⟩ := List.mem_map.mp hm
    exact h.1 (hf b (List.mem_cons_of_mem _ hb) a List.mem_cons_self e ▸ hb)
theorem sqt_same {H H' : Hp} {a : Addr} {xs : List V} (s : Same H H') (h : SqT K H a xs) : SqT K H' a xs := by
  rcases h with (h | ⟨o, h⟩) | h
  · exact .inl (.inl (s _ _ h))
  · exact .inl (.inr ⟨o, s _ _ h⟩)
  · exact .inr h
def spRenamed (K : PySem.W.Frag) : Sp := fun vs H Q _ => ∃ (c x t : Addr) (n : Nat) (E : List (Nat × Nat)) (os : List Nat), vs = [.ref x, .ref t] ∧ BoardAt K c H x n E ∧ (∃ ys, H c = some (.lst ys)) ∧ SqT K H t (os.map vI) ∧ os.Perm (List.range n) ∧
  ∀ (H' : Hp) (y : Addr) (E' : List (Nat × Nat)), BoardAt K c H' y n E' → (∀ e, e ∈ E' ↔ ∃ p, p ∈ E ∧ e = (os.getD p.1 0, os.getD p.2 0)) → E'.Pairwise lexLt → Same H H' → Q (.ref y) H'
theorem int_maps : ∀ {xs ys : List Int}, xs.map V.int = ys.map V.int → xs = ys
  | [], [], _ => rfl
  | [], _ :: _, h => by cases h
  | _ :: _, [], h => by cases h
  | x :: xs, y :: ys, h => by
    rw [List.map_cons, List.map_cons] at h
    injection h with h1 h2
    injection h1 with h1
    rw [h1, int_maps h2]
/-- what is sorted of an order of the places -/
theorem sorted_order {n : Nat} {os : List Nat} {ms : List Int} (h : os.Perm (List.range n)) (p : ms.Perm (os.map nI)) (s : ms.Pairwise (· ≤ ·)) : ms = (List.range n).map nI := by
  have pm : ms.Perm ((List.range n).map nI) := p.trans (h.map nI)
  have nd : ms.Nodup := pm.nodup_iff.mpr (nodup_inj List.nodup_range fun x _ y _ e => by
    unfold nI at e
    omega)
  have lt : ms.Pairwise (· < ·) := (s.and nd).imp fun {a b} ⟨z1, z2⟩ => by
    have z2 : a ≠ b := z2
    omega
  have e := rise_lot (n := n) (p := fun _ => True) lt fun k => by
    rw [pm.mem_iff, List.mem_map]
    constructor
    · rintro ⟨b, hb, rfl⟩
      exact ⟨b, rfl, List.mem_range.mp hb, trivial⟩
    · rintro ⟨b, rfl, hb, _⟩
      exact ⟨b, List.mem_range.mpr hb, rfl⟩
  rw [lotP_true, vI_map] at e
  exact int_maps e
theorem os_get {n : Nat} {os : List Nat} (h : os.Perm (List.range n)) {a : Nat} (ha : a < n) : os[a]? = some (os.getD a 0) ∧ os.getD a 0 < n := by
  have hl : a < os.length := by rw [h.length_eq, List.length_range]; exact ha
  have e : os.getD a 0 = os[a] := by rw [List.getD_eq_getElem?_getD, List.getElem?_eq_getElem hl]; rfl
  refine ⟨by rw [e]; exact List.getElem?_eq_getElem hl, ?_⟩
  rw [e]
  exact List.mem_range.mp (h.mem_iff.mp (List.getElem_mem hl))
theorem os_inj {n : Nat} {os : List Nat} (h : os.Perm (List.range n)) {a b : Nat} (ha : a < n) (hb : b < n) (e : os.getD a 0 = os.getD b 0) : a = b := by
  have nd : os.Nodup := h.nodup_iff.mpr List.nodup_range
  have h1 := (os_get h ha).1
  have h2 := (os_get h hb).1
  rw [e, ← h2] at h1
  have hl : a < os.length := by rw [h.length_eq, List.length_range]; exact ha
  exact (List.getElem?_inj hl nd).mp h1
end
end RL
namespace RL
open PySem PySem.Spec PyProof.Rows L2 RLM
section
variable {P : Program} {w : World} {K : PySem.W.Frag} {mg : Str → Option Value} {base : Heap}
theorem all_true {bs : List Bool} (h : ∀ b ∈ bs, b = true) : bs.all id = true := List.all_eq_true.mpr h
def spIsLot (K : PySem.W.Frag) : Sp := fun vs H Q _ => ∃ (c x t : Addr) (n : Nat) (E : List (Nat × Nat)) (p : Nat → Prop), vs = [.ref x, .ref t] ∧ BoardAt K c H x n E ∧ H t = some (.tup ((lotP n p).map vI)) ∧ ∀ H', Same H H' → Q (.bl true) H'
def spChkLot (K : PySem.W.Frag) : Sp := fun vs H Q _ => ∃ (c x t : Addr) (n : Nat) (E : List (Nat × Nat)) (p : Nat → Prop), vs = [.ref x, .ref t] ∧ BoardAt K c H x n E ∧ H t = some (.tup ((lotP n p).map vI)) ∧ ∀ H', Same H H' → Q .non H'
/-- a pace -/
def PaceOk (n : Nat) (ps : List Nat) : Prop := ps.length = n ∧ ∀ q ∈ ps, q ≤ 7
def spIsPace (K : PySem.W.Frag) : Sp := fun vs H Q _ => ∃ (c x t : Addr) (n : Nat) (E : List (Nat × Nat)) (ps : List Nat), vs = [.ref x, .ref t] ∧ BoardAt K c H x n E ∧ H t = some (.tup (ps.map vI)) ∧ PaceOk n ps ∧ ∀ H', Same H H' → Q (.bl true) H'
def spChkPace (K : PySem.W.Frag) : Sp := fun vs H Q _ => ∃ (c x t : Addr) (n : Nat) (E : List (Nat × Nat)) (ps : List Nat), vs = [.ref x, .ref t] ∧ BoardAt K c H x n E ∧ H t = some (.tup (ps.map vI)) ∧ PaceOk n ps ∧ ∀ H', Same H H' → Q .non H'
end
end RL
namespace RL
open PySem PySem.Spec PyProof.Rows L2 RLM
theorem in_lot (b : Nat) (xs : List Nat) : inV (vI b) (xs.map vI) = decide (b ∈ xs) := by
  unfold inV
  rw [List.any_map]
  have e : ((fun y => eqV y (vI b)) ∘ vI) = fun q : Nat => decide (q = b) := by
    funext q
    show ((q : Int) == (b : Int)) = decide (q = b)
    by_cases h : q = b
    · subst h
      simp
    · have h2 : ¬ ((q : Int) = (b : Int)) := by omega
      rw [decide_eq_false h]
      exact beq_eq_false_iff_ne.mpr h2
  rw [e]
  by_cases h : b ∈ xs
  · rw [decide_eq_true h]
    exact List.any_eq_true.mpr ⟨b, h, by simp⟩
  · rw [decide_eq_false h]
    refine Bool.eq_false_iff.mpr fun z => ?_
    obtain ⟨q, hq, e⟩ := List.any_eq_true.mp z
    exact h (of_decide_eq_true e ▸ hq)
theorem flat_vI (xs : List Nat) : (xs.map vI).all flatV = true := by
  rw [List.all_map]
  exact List.all_eq_true.mpr fun _ _ => rfl
theorem count_more {p q : Nat → Bool} : ∀ (xs : List Nat) {b : Nat}, b ∈ xs → (∀ x, p x = true → q x = true) → p b = false → q b = true → xs.countP p + 1 ≤ xs.countP q
  | x :: xs, b, hb, hpq, h0, h1 => by
    have mono : ∀ ys : List Nat, ys.countP p ≤ ys.countP q := fun ys => List.countP_mono_left fun x _ hx => hpq x hx
    rw [List.countP_cons, List.countP_cons]
    rcases List.mem_cons.mp hb with e | e
    · subst e
      rw [h0, h1]
      have := mono xs
      simp
      omega
    · have ih := count_more xs e hpq h0 h1
      have : (if p x = true then 1 else 0) ≤ (if q x = true then 1 else 0) := by
        by_cases hx : p x = true
        · rw [if_pos hx, if_pos (hpq x hx)]
          exact Nat.le_refl _
        · rw [if_neg hx]
          exact Nat.zero_le _
      omega
section
variable {P : Program} {w : World} {K : PySem.W.Frag} {mg : Str → Option Value} {base : Heap}
/-- where a step leads from a lot -/
def stepP (n : Nat) (E : List (Nat × Nat)) (ps : List Nat) (p : Nat → Prop) (b : Nat) : Prop := ∃ a, a < n ∧ p a ∧ Near E ((ps.getD a 0 : Nat) : Int) a b
def spStep (K : PySem.W.Frag) : Sp := fun vs H Q _ => ∃ (c x tp tl : Addr) (n : Nat) (E : List (Nat × Nat)) (ps : List Nat) (p : Nat → Prop), vs = [.ref x, .ref tp, .ref tl] ∧ BoardAt K c H x n E ∧ H tp = some (.tup (ps.map vI)) ∧ PaceOk n ps ∧ H tl = some (.tup ((lotP n p).map vI)) ∧
  ∀ H' t, H' t = some (.tup ((lotP n (stepP n E ps p)).map vI)) → Same H H' → Q (.ref t) H'
/-- the set so far -/
def SetIs (w : World) (n : Nat) (D : Addr) (H : Hp) (r : Nat → Prop) : Prop := ∃ (S : Int → Bool) (cnt : Nat), H D = some (SetO w D S cnt) ∧ cnt ≤ (List.range 8).countP (fun b => S (nI b)) ∧ ∀ k : Int, S k = true ↔ ∃ b : Nat, k = nI b ∧ b < n ∧ r b
theorem pace_get {n : Nat} {ps : List Nat} (h : PaceOk n ps) {a : Nat} (ha : a < n) : ps[a]? = some (ps.getD a 0) := by
  have hl : a < ps.length := by rw [h.1]; exact ha
  rw [List.getD_eq_getElem?_getD, List.getElem?_eq_getElem hl]
  rfl
def beforeP (n : Nat) (E : List (Nat × Nat)) (ps : List Nat) (p : Nat → Prop) (a : Nat) : Prop := ∃ b, b < n ∧ p b ∧ Near E ((ps.getD a 0 : Nat) : Int) a b
def spBefore (K : PySem.W.Frag) : Sp := fun vs H Q _ => ∃ (c x tp tl : Addr) (n : Nat) (E : List (Nat × Nat)) (ps : List Nat) (p : Nat → Prop), vs = [.ref x, .ref tp, .ref tl] ∧ BoardAt K c H x n E ∧ H tp = some (.tup (ps.map vI)) ∧ PaceOk n ps ∧ H tl = some (.tup ((lotP n p).map vI)) ∧
  ∀ H' t, H' t = some (.tup ((lotP n (beforeP n E ps p)).map vI)) → Same H H' → Q (.ref t) H'
end
end RL
namespace RL
open PySem PySem.Spec PyProof.Rows L2 RLM
section
variable {P : Program} {w : World} {K : PySem.W.Frag} {mg : Str → Option Value} {base : Heap}
/-- [b for b in range(n) if t(b)]: the places of which t holds -/
theorem reach_any {n : Nat} {E : List (Nat × Nat)} {M : Nat → Nat → Nat} {ps : List Nat} {p : Nat → Prop} (S : Spans n E M) (PO : PaceOk n ps) {b : Nat} (hb : b < n) :
    (((lotP n p).map fun a => decide (M a b ≤ ps.getD a 0)).any id = true) ↔ stepP n E ps p b := by
  have key : ∀ a, a < n → (M a b ≤ ps.getD a 0 ↔ Near E ((ps.getD a 0 : Nat) : Int) a b) := fun a ha => by
    have h7 : ps.getD a 0 ≤ 7 := PO.2 _ (List.mem_of_getElem? (pace_get PO ha))
    rw [← S.nr a b _ ha hb (by omega)]
    omega
  rw [List.any_eq_true]
  constructor
  · rintro ⟨v, hv, ev⟩
    obtain ⟨a, ha, rfl⟩ := List.mem_map.mp hv
    have m := mem_lotP.mp ha
    exact ⟨a, m.1, m.2, (key a m.1).1 (of_decide_eq_true ev)⟩
  · rintro ⟨a, h1, h2, h3⟩
    exact ⟨true, List.mem_map.mpr ⟨a, mem_lotP.mpr ⟨h1, h2⟩, decide_eq_true ((key a h1).2 h3)⟩, rfl⟩
def spReached (K : PySem.W.Frag) : Sp := fun vs H Q _ => ∃ (c D tp tl : Addr) (rs : List Addr) (M : Nat → Nat → Nat) (n : Nat) (E : List (Nat × Nat)) (ps : List Nat) (p : Nat → Prop), vs = [.ref D, .ref tp, .ref tl] ∧ TabAt c H D n rs M ∧ Spans n E M ∧ n ≤ 8 ∧ H tp = some (.tup (ps.map vI)) ∧ PaceOk n ps ∧ H tl = some (.tup ((lotP n p).map vI)) ∧
  ∀ H' t, H' t = some (.tup ((lotP n (stepP n E ps p)).map vI)) → Same H H' → Q (.ref t) H'
/-! ### a board, its spans, the program's own board -/
def spGround (K : PySem.W.Frag) : Sp := fun vs H Q _ => ∃ (b c : Addr), vs = [.ref b, vI 8] ∧ Box b c H ∧ ∀ (H' : Hp) (u t l D x n : Nat) (L : List (Addr × Nat × Nat)) (rs : List Addr) (M : Nat → Nat → Nat) (E : List (Nat × Nat)), 1 ≤ n → n ≤ 8 → H' u = some (.tup [.ref t, .ref D, .ref x]) → H' t = some (.tup [vI n, .ref l]) → PairsAt c H' l L → WaysOk n L → (∀ e, e ∈ E ↔ e ∈ L.map (·.2)) → TabAt c H' D n rs M → Spans n E M → BoardAt K c H' x n E → Kc c H H' → Box b c H' → Q (.ref u) H'
theorem spans_congr {n : Nat} {E E' : List (Nat × Nat)} {M : Nat → Nat → Nat} (h : ∀ e, e ∈ E' ↔ e ∈ E) (S : Spans n E M) : Spans n E' M :=
  ⟨S.hi, fun a b m ha hb hm => (S.nr a b m ha hb hm).trans ⟨fun ⟨k, h1, h2⟩ => ⟨k, h1, h2.mono fun p hp => (h p).2 hp⟩, fun ⟨k, h1, h2⟩ => ⟨k, h1, h2.mono fun p hp => (h p).1 hp⟩⟩⟩
end
end RL
namespace RL
open PySem PySem.Spec PyProof.Rows L2 RLM
/-! ### looks -/
inductive Look where
  | lot (p : Nat → Prop)
  | parts (ps : List (Nat → Prop))
  | near (b k : Nat)
/-- a look as it stands -/
def LookAt (n : Nat) (H : Hp) (v : V) : Look → Prop
  | .lot p => ∃ t u : Addr, v = .ref t ∧ H t = some (.tup [.str "in", .ref u]) ∧ H u = some (.tup ((lotP n p).map vI))
  | .parts ps => ∃ (t u : Addr) (us : List Addr), v = .ref t ∧ H t = some (.tup [.str "parts", .ref u]) ∧ H u = some (.tup (us.map V.ref)) ∧ us.length = ps.length ∧ ∀ (k : Nat) (a : Addr) (p : Nat → Prop), us[k]? = some a → ps[k]? = some p → H a = some (.tup ((lotP n p).map vI))
  | .near b k => ∃ t : Addr, v = .ref t ∧ H t = some (.tup [.str "near", vI b, vI k])
/-- a look of a board -/
def LookOk (n : Nat) : Look → Prop
  | .lot _ => True
  | .parts ps => ps.length ≤ n ∧ (∀ b, b < n → ∃ (k : Nat) (p : Nat → Prop), ps[k]? = some p ∧ p b) ∧ (∀ (i j : Nat) (p q : Nat → Prop) (b : Nat), ps[i]? = some p → ps[j]? = some q → b < n → p b → q b → i = j) ∧ ∀ p ∈ ps, ∃ b, b < n ∧ p b
  | .near b k => b < n ∧ k ≤ 7
theorem LookAt.same {n : Nat} {H H' : Hp} {v : V} (s : Same H H') : ∀ {L : Look}, LookAt n H v L → LookAt n H' v L
  | .lot _, ⟨t, u, e, h1, h2⟩ => ⟨t, u, e, s _ _ h1, s _ _ h2⟩
  | .parts _, ⟨t, u, us, e, h1, h2, l, h3⟩ => ⟨t, u, us, e, s _ _ h1, s _ _ h2, l, fun k a p e1 e2 => s _ _ (h3 k a p e1 e2)⟩
  | .near _ _, ⟨t, e, h1⟩ => ⟨t, e, s _ _ h1⟩
theorem LookAt.keep {n : Nat} {c : Addr} {H H' : Hp} {v : V} (k : Kc c H H') (hc : ∃ ys, H c = some (.lst ys)) : ∀ {L : Look}, LookAt n H v L → LookAt n H' v L
  | .lot _, ⟨t, u, e, h1, h2⟩ => ⟨t, u, e, k.tup hc h1, k.tup hc h2⟩
  | .parts _, ⟨t, u, us, e, h1, h2, l, h3⟩ => ⟨t, u, us, e, k.tup hc h1, k.tup hc h2, l, fun i a p e1 e2 => k.tup hc (h3 i a p e1 e2)⟩
  | .near _ _, ⟨t, e, h1⟩ => ⟨t, e, k.tup hc h1⟩
open Classical in
noncomputable def decB (p : Prop) : Bool := decide p
open Classical in
theorem dec_lot {n b : Nat} {p : Nat → Prop} (bn : b < n) : decide (b ∈ lotP n p) = decB (p b) := by
  unfold decB
  rw [decide_eq_decide, mem_lotP]
  exact ⟨fun h => h.2, fun h => ⟨bn, h⟩⟩
open Classical in
/-- what a place answers -/
noncomputable def ans (M : Nat → Nat → Nat) : Look → Nat → Nat
  | .lot p, b => if p b then 1 else 0
  | .parts ps, b => ps.findIdx fun p => decB (p b)
  | .near c k, b => min (M b c) (k + 1)
open Classical in
theorem decB_true {p : Prop} : decB p = true ↔ p := by
  unfold decB
  exact decide_eq_true_iff
theorem ans_near {M : Nat → Nat → Nat} {c k b : Nat} : ans M (.near c k) b = min (M b c) (k + 1) := rfl
theorem ans_in {M : Nat → Nat → Nat} {p : Nat → Prop} {b : Nat} (h : p b) : ans M (.lot p) b = 1 := if_pos h
theorem ans_out {M : Nat → Nat → Nat} {p : Nat → Prop} {b : Nat} (h : ¬ p b) : ans M (.lot p) b = 0 := if_neg h
section
variable {P : Program} {w : World} {K : PySem.W.Frag} {mg : Str → Option Value} {base : Heap}
def spBoth : Sp := fun vs H Q _ => ∃ (s t : Addr) (n : Nat) (p q : Nat → Prop), vs = [.ref s, .ref t] ∧ n ≤ 8 ∧ H s = some (.tup ((lotP n p).map vI)) ∧ H t = some (.tup ((lotP n q).map vI)) ∧
  ∀ H' u, H' u = some (.tup ((lotP n fun b => p b ∧ q b).map vI)) → Same H H' → Q (.ref u) H'
def spAnswer : Sp := fun vs H Q _ => ∃ (c D : Addr) (v : V) (n b : Nat) (rs : List Addr) (M : Nat → Nat → Nat) (L : Look), vs = [.ref D, v, vI b] ∧ n ≤ 8 ∧ TabAt c H D n rs M ∧ LookAt n H v L ∧ LookOk n L ∧ b < n ∧ ∀ H', Same H H' → Q (vI (ans M L b)) H'
end
end RL
namespace RL
open PySem PySem.Spec PyProof.Rows L2 RLM
/-- any turns over a walk, whatever is done in a turn -/
theorem it_any {J : It} {n : Nat} {G : Hp → Prop} {Y : Nat → Hp → V → Hp → Prop} (w : Walk J n G Y) {B : (Hp → Prop) → V → Hp → Prop} {H0 : Hp} {Qd : Hp → Prop} (Pv : Nat → Hp → Prop) (h0 : Pv 0 H0) (hG : ∀ i H, i ≤ n → Pv i H → G H)
    (hs : ∀ i x H H', i < n → Pv i H → Y i H x H' → B (Pv (i + 1)) x H') (hd : ∀ H, Pv n H → Qd H) :
    ∃ W : Nat → Nat → Hp → Prop, (∃ m, W 0 m H0) ∧ ∀ i m H, W i m H → (J.stop i H ∧ Qd H) ∨ (J.go i H ∧ ∃ Nx : Hp → Prop, (∀ H', Nx H' → ∃ m', m' < m ∧ W (i + 1) m' H') ∧ ∀ x H', J.yld i H x H' → B Nx x H') := by
  refine ⟨fun i m H => m = n - i ∧ i ≤ n ∧ Pv i H, ⟨n, by simp, Nat.zero_le _, h0⟩, ?_⟩
  rintro i m H ⟨rfl, hi, p⟩
  have q := hG i H hi p
  by_cases lt : i < n
  · exact .inr ⟨w.goes i H lt q, Pv (i + 1), fun H' p' => ⟨n - (i + 1), by omega, rfl, lt, p'⟩, fun x H' y => hs i x H H' lt p (w.yields i H x H' lt q y)⟩
  · have e : i = n := by omega
    subst e
    exact .inl ⟨w.stops H q, hd H p⟩
theorem bf_far (n : Nat) (lp ll lf : Addr) : (bf n lp ll lf).lookup ("far" : Str) = none := by rfl
/-- spans and how far are one up to 8 -/
theorem min_far {n : Nat} {E : List (Nat × Nat)} {M : Nat → Nat → Nat} (S : Spans n E M) {a b k : Nat} (ha : a < n) (hb : b < n) (k7 : k ≤ 7) {d : Option Nat} (h : ∀ m : Int, (∃ j : Nat, d = some j ∧ (j : Int) ≤ m) ↔ Near E m a b) :
    min (M a b) (k + 1) = match d with
      | none => k + 1
      | some j => min j (k + 1) := by
  have key : ∀ m : Nat, m < 99 → (M a b ≤ m ↔ ∃ j, d = some j ∧ j ≤ m) := fun m hm => by
    have h1 := h (m : Int)
    have h2 := S.nr a b m ha hb (by omega)
    constructor
    · intro z
      obtain ⟨j, e, q⟩ := h1.2 (h2.1 (by omega))
      exact ⟨j, e, by omega⟩
    · rintro ⟨j, e, q⟩
      have := h2.2 (h1.1 ⟨j, e, by omega⟩)
      omega
  cases d with
  | none =>
    have : ¬ M a b ≤ k := fun z => by
      obtain ⟨j, e, _⟩ := (key k (by omega)).1 z
      cases e
    show min (M a b) (k + 1) = k + 1
    omega
  | some j =>
    show min (M a b) (k + 1) = min j (k + 1)
    have key2 : ∀ m : Nat, m < 99 → (M a b ≤ m ↔ j ≤ m) := fun m hm => by
      rw [key m hm]
      constructor
      · rintro ⟨i, e, q⟩
        cases e
        exact q
      · exact fun q => ⟨j, rfl, q⟩
    by_cases z : j ≤ k
    · have h1 := (key2 j (by omega)).2 (Nat.le_refl _)
      have h2 := (key2 (M a b) (by omega)).1 (Nat.le_refl _)
      omega
    · have h1 : ¬ M a b ≤ k := fun y => z ((key2 k (by omega)).1 y)
      omega
section
variable {P : Program} {w : World} {K : PySem.W.Frag} {mg : Str → Option Value} {base : Heap}
def spFar (K : PySem.W.Frag) : Sp := fun vs H Q _ => ∃ (c x : Addr) (n a b : Nat) (E : List (Nat × Nat)), vs = [.ref x, vI a, vI b] ∧ BoardAt K c H x n E ∧ a < n ∧ b < n ∧ ∀ d : Option Nat, (∀ m : Int, (∃ j : Nat, d = some j ∧ (j : Int) ≤ m) ↔ Near E m a b) → Q (vO d) H
def spNear (K : PySem.W.Frag) : Sp := fun vs H Q _ => ∃ (c x : Addr) (n a b k : Nat) (E : List (Nat × Nat)) (M : Nat → Nat → Nat), vs = [.ref x, vI a, vI b, vI k] ∧ BoardAt K c H x n E ∧ Spans n E M ∧ a < n ∧ b < n ∧ k ≤ 7 ∧ Q (vI (min (M a b) (k + 1))) H
end
end RL
/-! pairs of any numbers; slices, triples, repeated things -/
namespace RL
open PySem PySem.Spec PyProof.Rows L2 RLM
/-- pairs of any numbers, in a list -/
structure PairsZ (H : Hp) (l : Addr) (L : List (Addr × Int × Int)) : Prop where
  at_ : H l = some (.lst (L.map fun q => V.ref q.1))
  row : ∀ q ∈ L, H q.1 = some (.tup [.int q.2.1, .int q.2.2])
theorem PairsZ.same {H H' : Hp} {l : Addr} {L : List (Addr × Int × Int)} (h : PairsZ H l L) (s : Same H H') : PairsZ H' l L := ⟨s _ _ h.at_, fun q hq => s _ _ (h.row q hq)⟩
theorem list_choose {α β : Type} {Pr : β → α → Prop} : ∀ {ys : List β}, (∀ y ∈ ys, ∃ q, Pr y q) → ∃ L : List α, L.length = ys.length ∧ ∀ (k : Nat) (y : β) (q : α), ys[k]? = some y → L[k]? = some q → Pr y q
  | [], _ => ⟨[], rfl, fun k y q h => by simp at h⟩
  | y :: ys, h => by
    obtain ⟨q, hq⟩ := h y (List.mem_cons_self ..)
    obtain ⟨L, l, hL⟩ := list_choose (ys := ys) fun z hz => h z (List.mem_cons_of_mem _ hz)
    refine ⟨q :: L, by simp [l], fun k z r e1 e2 => ?_⟩
    cases k with
    | zero =>
      cases e1
      cases e2
      exact hq
    | succ k => exact hL k z r e1 e2
theorem SameV.up {H : Hp} : ∀ {d : Nat} {x y : V}, SameV d H x y → SameV (d + 1) H x y
  | 0, _, _, h => .inl h
  | d + 1, x, y, h => by
    rcases h with h | ⟨a, b, xs, ys, e1, e2, ab, l1, l2, each⟩
    · exact .inl h
    · exact .inr ⟨a, b, xs, ys, e1, e2, ab, l1, l2, fun k u v h1 h2 => SameV.up (each k u v h1 h2)⟩
theorem cut_to7 (k : Nat) {xs : List V} : cutV xs none (some (k : Int)) = xs.take k := by
  unfold cutV
  rw [HT.sIx_nat]
  show (xs.drop 0).take (min k xs.length - 0) = _
  rw [List.drop_zero, Nat.sub_zero]
  rcases Nat.le_total k xs.length with h | h
  · rw [Nat.min_eq_left h]
  · rw [Nat.min_eq_right h, List.take_of_length_le (Nat.le_refl _), List.take_of_length_le h]
theorem cut_from7 (k : Nat) {xs : List V} : cutV xs (some (k : Int)) none = xs.drop k := by
  unfold cutV
  rw [HT.sIx_nat]
  show (xs.drop (min k xs.length)).take (xs.length - min k xs.length) = _
  rcases Nat.le_total k xs.length with h | h
  · rw [Nat.min_eq_left h, List.take_of_length_le (by rw [List.length_drop]; omega)]
  · rw [Nat.min_eq_right h, List.drop_of_length_le h, List.drop_of_length_le (Nat.le_refl _)]
    simp
theorem dp_pairs {K : PySem.W.Frag} {H : Hp} {l : Addr} {L : List (Addr × Int × Int)} (h : PairsZ H l L) : Dp K H (.ref l) (.list ((L.map fun q => [q.2.1, q.2.2]).map lotD)) := by
  have := dp_rowsZ (K := K) (H := H) (l := l) (L := L.map fun q => (q.1, [q.2.1, q.2.2])) (by rw [h.at_, List.map_map]; rfl) fun q hq => by
    obtain ⟨r, hr, rfl⟩ := List.mem_map.mp hq
    exact h.row r hr
  rw [show (L.map fun q => (q.1, [q.2.1, q.2.2])).map (·.2) = L.map fun q => [q.2.1, q.2.2] by rw [List.map_map]; rfl] at this
  exact this
theorem tri_same {H : Hp} {a b : Addr} {x y z x' : V} (ha : H a = some (.tup [x, y, z])) (hb : H b = some (.tup [x', y, z])) (h1 : SameV 1 H x x') (h2 : ∃ s, y = .str s) (h3 : z = .non ∨ ∃ i, z = .int i) : SameV 2 H (.ref a) (.ref b) := by
  refine .inr ⟨a, b, _, _, rfl, rfl, .inr ⟨.inl ha, .inl hb⟩, rfl, (by show 3 ≤ 1000; decide), fun j u v e1 e2 => ?_⟩
  match j, e1, e2 with
  | 0, rfl, rfl => exact h1
  | 1, rfl, rfl => exact .inl ⟨rfl, .inr (.inr (.inr h2))⟩
  | 2, rfl, rfl =>
    rcases h3 with h | h
    · exact .inl ⟨rfl, .inr (.inr (.inl h))⟩
    · exact .inl ⟨rfl, .inl h⟩
theorem rep_one {K : PySem.W.Frag} {H : Hp} {l : Addr} {v : V} {k : Int} {Q : VK} (hl : H l = some (.tup [v])) (h1 : 1 ≤ k) (h2 : k ≤ 1000) (key : ∀ t H', Same H H' → H' t = some (.tup (List.replicate k.toNat v)) → Q (.ref t) H') : rRepT1 K (.ref l) (.int k) H Q :=
  ⟨l, k, [v], rfl, rfl, SqT.of hl, List.cons_ne_nil _ _, h1, h2, (by show 1 ≤ 1000; decide), fun e => key l H (Same.refl _) (by rw [hl, e]; rfl), fun q hq => key q _ (same_upd hq) (by rw [upd_same, rep_flat])⟩
end RL
namespace RL
open PySem PySem.Spec PyProof.Rows L2 RLM
theorem lotP_one {n b : Nat} (h : b < n) : lotP n (fun x => x = b) = [b] :=
  (lotP_of (List.pairwise_singleton _ _) fun x => by
    rw [List.mem_singleton]
    exact ⟨fun e => ⟨by omega, e⟩, fun e => e.2⟩).symm
theorem dp_lot {K : PySem.W.Frag} {H : Hp} {t : Addr} {xs : List Nat} (h : H t = some (.tup (xs.map vI))) : Dp K H (.ref t) (.tuple ((xs.map nI).map PyData.int)) := .tup (SqT.of (by rw [← vI_map]; exact h)) (dp_ints _)
theorem eqv_none : ∀ xs : List Nat, PyData.eqv (.tuple ((xs.map nI).map PyData.int)) (.tuple ((([] : List Nat).map nI).map PyData.int)) = xs.isEmpty
  | [] => by unfold PyData.eqv; rfl
  | x :: xs => by unfold PyData.eqv; rfl
section
variable {P : Program} {w : World} {K : PySem.W.Frag} {mg : Str → Option Value} {base : Heap}
def spStart : Sp := fun vs H Q _ => ∃ (b c : Addr) (n : Nat), vs = [.ref b, vI n] ∧ Box b c H ∧ 1 ≤ n ∧ n ≤ 8 ∧ ∀ H' t p, H' t = some (.tup ((lotP n p).map vI)) → (∃ a, a < n ∧ p a) → Kc c H H' → Box b c H' → Q (.ref t) H'
end
end RL
namespace RL
open PySem PySem.Spec PyProof.Rows L2 RLM
/-- a triple that was seen: beat, look, answer -/
structure Triple where
  beat : Nat
  look : Look
  told : Nat
/-- triples as they stand, in a tuple or a list: where each is, where its look is -/
def TripAt (n : Nat) (H : Hp) (q : Addr × V × Triple) : Prop := H q.1 = some (.tup [vI q.2.2.beat, q.2.1, vI q.2.2.told]) ∧ LookAt n H q.2.1 q.2.2.look ∧ LookOk n q.2.2.look
/-- a story as it stands -/
structure StoryAt (n : Nat) (H : Hp) (s : Addr) (p : Nat → Prop) (PS : List (Addr × List Nat)) (SN : List (Addr × V × Triple)) : Prop where
  ex : ∃ tl tp ts : Addr, H s = some (.tup [.ref tl, .ref tp, .ref ts]) ∧ H tl = some (.tup ((lotP n p).map vI)) ∧ H tp = some (.tup (PS.map fun q => V.ref q.1)) ∧ H ts = some (.tup (SN.map fun q => V.ref q.1))
  pc : ∀ q ∈ PS, H q.1 = some (.tup (q.2.map vI)) ∧ PaceOk n q.2
  sn : ∀ q ∈ SN, TripAt n H q ∧ q.2.2.beat ≤ PS.length
  lp : PS.length ≤ 12
  ls : SN.length ≤ 24
theorem TripAt.same {n : Nat} {H H' : Hp} {q : Addr × V × Triple} (s : Same H H') (h : TripAt n H q) : TripAt n H' q := ⟨s _ _ h.1, h.2.1.same s, h.2.2⟩
theorem StoryAt.same {n : Nat} {H H' : Hp} {a : Addr} {p : Nat → Prop} {PS : List (Addr × List Nat)} {SN : List (Addr × V × Triple)} (s : Same H H') (h : StoryAt n H a p PS SN) : StoryAt n H' a p PS SN := by
  obtain ⟨tl, tp, ts, h1, h2, h3, h4⟩ := h.ex
  exact ⟨⟨tl, tp, ts, s _ _ h1, s _ _ h2, s _ _ h3, s _ _ h4⟩, fun q hq => ⟨s _ _ (h.pc q hq).1, (h.pc q hq).2⟩, fun q hq => ⟨(h.sn q hq).1.same s, (h.sn q hq).2⟩, h.lp, h.ls⟩
/-- what was seen lets a place be -/
def openP (M : Nat → Nat → Nat) (SN : List (Addr × V × Triple)) (i b : Nat) : Prop := ∀ q ∈ SN, q.2.2.beat = i → ans M q.2.2.look b = q.2.2.told
/-- a list of lots, as tuples -/
structure LotsAt (n : Nat) (H : Hp) (D : Addr) (m : Nat) (p : Nat → Nat → Prop) : Prop where
  ex : ∃ us : List Addr, H D = some (.lst (us.map V.ref)) ∧ us.length = m ∧ ∀ (i : Nat) (u : Addr), us[i]? = some u → H u = some (.tup ((lotP n (p i)).map vI))
section
variable {P : Program} {w : World} {K : PySem.W.Frag} {mg : Str → Option Value} {base : Heap}
def spOpen : Sp := fun vs H Q _ => ∃ (c D s : Addr) (n : Nat) (rs : List Addr) (M : Nat → Nat → Nat) (p : Nat → Prop) (PS : List (Addr × List Nat)) (SN : List (Addr × V × Triple)), vs = [.ref D, .ref s] ∧ n ≤ 8 ∧ TabAt c H D n rs M ∧ StoryAt n H s p PS SN ∧
  ∀ H' l, LotsAt n H' l (PS.length + 1) (openP M SN) → H l = none → Same H H' → Q (.ref l) H'
end
end RL
/-! Stories: walks that fit, the lots forth, back and known; how many walks there are. Plain mathematics.
    n places, m paces, S the lot of the beginning, R i a b: a step from a to b is let by pace i, O i b: what was seen at beat i lets b be. -/
namespace RLM
section
variable (n m : Nat) (S : Nat → Prop) (R : Nat → Nat → Nat → Prop) (O : Nat → Nat → Prop)
/-- from a on, at beat i: what a walk has behind a -/
inductive Tail : Nat → Nat → List Nat → Prop where
  | stop (a : Nat) : Tail m a []
  | go {i a b : Nat} {w : List Nat} : i < m → b < n → R i a b → O (i + 1) b → Tail (i + 1) b w → Tail i a (b :: w)
/-- a walk that fits -/
def Fit : List Nat → Prop
  | [] => False
  | a :: w => a < n ∧ S a ∧ O 0 a ∧ Tail n m R O 0 a w
/-- the lots forth -/
def ForthP : Nat → Nat → Prop
  | 0, b => b < n ∧ S b ∧ O 0 b
  | i + 1, b => b < n ∧ O (i + 1) b ∧ ∃ a, ForthP i a ∧ R i a b
/-- the lots back: k beats before the last -/
def BackP : Nat → Nat → Prop
  | 0, b => b < n ∧ O m b
  | k + 1, b => b < n ∧ O (m - (k + 1)) b ∧ ∃ c, BackP k c ∧ R (m - (k + 1)) b c
end
variable {n m : Nat} {S : Nat → Prop} {R : Nat → Nat → Nat → Prop} {O : Nat → Nat → Prop}
theorem Tail.len {i a : Nat} {w : List Nat} (h : Tail n m R O i a w) : i + w.length = m := by
  induction h with
  | stop a => simp
  | go _ _ _ _ _ ih => simp only [List.length_cons]; omega
theorem Tail.get {i a : Nat} {w : List Nat} (h : Tail n m R O i a w) : ∀ {j b : Nat}, w[j]? = some b → b < n ∧ O (i + 1 + j) b := by
  induction h with
  | stop a => intro j b e; simp at e
  | @go i a b w hi hb r o t ih =>
    intro j c e
    cases j with
    | zero => simp at e; subst e; exact ⟨hb, o⟩
    | succ j =>
      have := ih (j := j) (b := c) (by simpa using e)
      exact ⟨this.1, by have e : i + 1 + (j + 1) = i + 1 + 1 + j := by omega
                        rw [e]; exact this.2⟩
theorem Fit.len {w : List Nat} (h : Fit n m S R O w) : w.length = m + 1 := by
  cases w with
  | nil => exact h.elim
  | cons a w =>
    have := h.2.2.2.len
    simp only [List.length_cons]
    omega
/-- what a walk has behind a place leads on: the place is in the lot back -/
theorem Tail.back {i a : Nat} {w : List Nat} (h : Tail n m R O i a w) (ha : a < n) (o : O i a) : BackP n m R O (m - i) a := by
  induction h with
  | stop a =>
    rw [Nat.sub_self]
    exact ⟨ha, o⟩
  | @go i a b w hi hb r o2 t ih =>
    have e : m - i = (m - (i + 1)) + 1 := by omega
    have e2 : m - (m - (i + 1) + 1) = i := by omega
    rw [e]
    refine ⟨ha, ?_, b, ih hb o2, ?_⟩ <;> rw [e2] <;> assumption
/-- from a place of the lot back some walk leads on -/
theorem BackP.tail : ∀ {k a : Nat}, BackP n m R O k a → k ≤ m → ∃ w, Tail n m R O (m - k) a w
  | 0, a, _, _ => ⟨[], .stop a⟩
  | k + 1, a, h, hk => by
    obtain ⟨ha, o, c, hc, r⟩ := h
    obtain ⟨w, t⟩ := hc.tail (by omega)
    have e : m - k = m - (k + 1) + 1 := by omega
    have oc : O (m - k) c := by
      cases k with
      | zero => exact hc.2
      | succ k => exact hc.2.1
    have cn : c < n := by
      cases k with
      | zero => exact hc.1
      | succ k => exact hc.1
    rw [e] at t oc
    exact ⟨c :: w, .go (by omega) cn r oc t⟩
theorem ForthP.lt {i a : Nat} (h : ForthP n S R O i a) : a < n := by
  cases i with
  | zero => exact h.1
  | succ i => exact h.1
theorem ForthP.op {i a : Nat} (h : ForthP n S R O i a) : O i a := by
  cases i with
  | zero => exact h.2.2
  | succ i => exact h.2.1
theorem BackP.lt {k a : Nat} (h : BackP n m R O k a) : a < n := by
  cases k with
  | zero => exact h.1
  | succ i => exact h.1
/-- what a fitting walk passes is in the lots forth -/
theorem Tail.forth {i a : Nat} {w : List Nat} (h : Tail n m R O i a w) : ForthP n S R O i a → ∀ {j b : Nat}, (a :: w)[j]? = some b → ForthP n S R O (i + j) b ∧ BackP n m R O (m - (i + j)) b := by
  induction h with
  | stop a =>
    intro f j b e
    cases j with
    | zero =>
      simp at e
      subst e
      exact ⟨f, (Tail.stop (n := n) (m := m) (R := R) (O := O) _).back f.lt f.op⟩
    | succ j => simp at e
  | @go i a c w hi hb r o t ih =>
    intro f j b e
    cases j with
    | zero =>
      simp at e
      subst e
      exact ⟨f, (Tail.go hi hb r o t).back f.lt f.op⟩
    | succ j =>
      have := ih ⟨hb, o, a, f, r⟩ (j := j) (b := b) (by simpa using e)
      have e2 : i + (j + 1) = i + 1 + j := by omega
      rw [e2]
      exact this
/-- a walk to a place of the lot forth can be put before one that leads on -/
theorem ForthP.walk : ∀ {i a : Nat} {w : List Nat}, ForthP n S R O i a → Tail n m R O i a w → ∃ v, Fit n m S R O (v ++ a :: w) ∧ v.length = i
  | 0, a, w, f, t => ⟨[], ⟨f.1, f.2.1, f.2.2, t⟩, rfl⟩
  | i + 1, a, w, f, t => by
    obtain ⟨an, o, b, fb, r⟩ := f
    have hi : i < m := by
      have := t.len
      omega
    obtain ⟨v, fv, lv⟩ := fb.walk (.go hi an r o t)
    exact ⟨v ++ [b], by simpa using fv, by simp [lv]⟩
/-- known: where some fitting walk is; both forth and back -/
theorem known_iff {i b : Nat} (hi : i ≤ m) : (∃ w, Fit n m S R O w ∧ w[i]? = some b) ↔ ForthP n S R O i b ∧ BackP n m R O (m - i) b := by
  constructor
  · rintro ⟨w, f, e⟩
    cases w with
    | nil => exact f.elim
    | cons a w =>
      have := f.2.2.2.forth (S := S) (i := 0) ⟨f.1, f.2.1, f.2.2.1⟩ e
      simpa using this
  · rintro ⟨f, b'⟩
    obtain ⟨w, t⟩ := b'.tail (by omega)
    have e : m - (m - i) = i := by omega
    rw [e] at t
    obtain ⟨v, fv, lv⟩ := f.walk t
    refine ⟨_, fv, ?_⟩
    rw [List.getElem?_append_right (by omega), lv, Nat.sub_self]
    rfl
/-- no walk fits just where some lot forth is empty; where one is, all later ones are -/
theorem forth_none {i : Nat} (h : ∀ b, ¬ ForthP n S R O i b) : ∀ j, i ≤ j → ∀ b, ¬ ForthP n S R O j b
  | 0, hj, b => by
    have : i = 0 := by omega
    subst this
    exact h b
  | j + 1, hj, b => by
    rcases Nat.lt_or_ge j i with k | k
    · have : i = j + 1 := by omega
      subst this
      exact h b
    · rintro ⟨_, _, a, fa, _⟩
      exact forth_none h j k a fa
end RLM
namespace RL
open PySem PySem.Spec PyProof.Rows L2 RLM
/-- a comprehension in whose turns numbers are drawn -/
theorem lc_relK {J : It} {n : Nat} {G : Hp → Prop} {Y : Nat → Hp → V → Hp → Prop} {g : TG} {te : TE} {vs : List Nat} {σ : L2.St} {H : Hp} {D b c : Addr} {Qd : Hp → Prop} (w : Walk J n G Y) (R : Nat → V → Hp → Prop) (hn : n ≤ 100000) (B : Box b c H) (hD : H D = none) (tk : ∀ k v H1 H2, R k v H1 → TK H1 H2 → R k v H2) (hG : ∀ H1, Kc c H H1 → Box b c H1 → G H1)
    (hs : ∀ i x H1 H2 (Nx : V → Hp → Prop), i < n → Kc c H H1 → Box b c H1 → Y i H1 x H2 → (∀ y H4, R i y H4 → Kc c H1 H4 → Box b c H4 → Nx y H4) → g x (wipe σ vs) H2 fun σ2 H3 => wipe σ2 vs = wipe σ vs ∧ te σ2 H3 Nx)
    (hd : ∀ H1 ys, H1 D = some (.lst ys) → ys.length = n → (∀ k y, ys[k]? = some y → R k y H1) → Kc c H H1 → Box b c H1 → D ≠ c → Qd H1) :
    ∃ W : Nat → Nat → Hp → Prop, (∃ m, W 0 m (L2.upd H D (.lst []))) ∧ ∀ i m H, W i m H →
      (J.stop i H ∧ Qd H) ∨ (J.go i H ∧ ∃ Nx : Hp → Prop, (∀ H', Nx H' → ∃ m', m' < m ∧ W (i + 1) m' H') ∧ ∀ x H', J.yld i H x H' → g x (wipe σ vs) H' fun σ2 H2 => wipe σ2 vs = wipe σ vs ∧ tYes σ2 H2 fun b H3 =>
        if b = true then te σ2 H3 fun y H4 => ∃ acc, H4 D = some (.lst acc) ∧ acc.length < sizeLine ∧ Nx (L2.upd H4 D (.lst (acc ++ [y]))) else Nx H3) := by
  obtain ⟨Dc, Db⟩ := B.new hD
  have s0 : Same H (L2.upd H D (.lst [])) := same_upd hD
  refine lc_it w (fun i H1 => ∃ ys, H1 D = some (.lst ys) ∧ ys.length = i ∧ (∀ k y, ys[k]? = some y → R k y H1) ∧ Kc c H H1 ∧ Box b c H1) ⟨[], upd_same, rfl, fun k y e => (by simp at e), kc_same s0, B.same s0⟩ (fun i H1 _ ⟨_, _, _, _, k1, B1⟩ => hG H1 k1 B1) ?_ (fun H1 ⟨ys, h1, h2, h3, h4, h5⟩ => hd H1 ys h1 h2 h3 h4 h5 Dc)
  rintro i x H1 H2 hi ⟨ys, h1, h2, h3, k1, B1⟩ hY
  refine hs i x H1 H2 (fun y H4 => ∃ acc, H4 D = some (.lst acc) ∧ acc.length < sizeLine ∧ ∃ zs, (L2.upd H4 D (.lst (acc ++ [y]))) D = some (.lst zs) ∧ zs.length = i + 1 ∧ (∀ k y', zs[k]? = some y' → R k y' (L2.upd H4 D (.lst (acc ++ [y])))) ∧ Kc c H (L2.upd H4 D (.lst (acc ++ [y]))) ∧ Box b c (L2.upd H4 D (.lst (acc ++ [y])))) hi k1 B1 hY fun y H4 r k4 B4 => ?_
  have h4 := k4 _ _ Dc (fun _ z => by cases z) h1
  refine ⟨ys, h4, ?_, ys ++ [y], upd_same, by simp [h2], fun k y' e => ?_, (k1.trans k4).upd hD, B4.upd Dc Db⟩
  · rw [h2]
    exact Nat.lt_of_lt_of_le hi (Nat.le_trans hn (by decide))
  · by_cases hk : k < ys.length
    · rw [List.getElem?_append_left hk] at e
      exact tk _ _ _ _ (h3 k y' e) ((k4.tk B1.lst).trans (tk_lst h4))
    · rw [List.getElem?_append_right (by omega)] at e
      have ek : k = ys.length := by
        obtain ⟨z1, _⟩ := List.getElem?_eq_some_iff.mp e
        simp at z1
        omega
      rw [ek, Nat.sub_self] at e
      cases e
      rw [ek, h2]
      exact tk _ _ _ _ r (tk_lst h4)
/-- what each of a list is, as a list beside -/
theorem beside {α : Type} {R : Nat → V → α → Prop} : ∀ (ys : List V) (i : Nat), (∀ (k : Nat) (y : V), ys[k]? = some y → ∃ a, R (i + k) y a) → ∃ as : List α, as.length = ys.length ∧ ∀ (k : Nat) (y : V) (a : α), ys[k]? = some y → as[k]? = some a → R (i + k) y a
  | [], i, _ => ⟨[], rfl, fun k y a e => by simp at e⟩
  | y :: ys, i, h => by
    obtain ⟨a, ha⟩ := h 0 y rfl
    obtain ⟨as, l, h2⟩ := beside ys (i + 1) fun k y e => by
      have := h (k + 1) y e
      rw [← Nat.add_assoc, Nat.add_right_comm] at this
      exact this
    refine ⟨a :: as, by simp [l], fun k y' a' e1 e2 => ?_⟩
    cases k with
    | zero =>
      cases e1
      cases e2
      exact ha
    | succ k =>
      have := h2 k y' a' e1 e2
      rw [Nat.add_right_comm, Nat.add_assoc] at this
      exact this
theorem ys_of {α : Type} {f : α → V} {ys : List V} {as : List α} (l : as.length = ys.length) (h : ∀ (k : Nat) (y : V) (a : α), ys[k]? = some y → as[k]? = some a → y = f a) : ys = as.map f := by
  refine List.ext_getElem? fun k => ?_
  rw [List.getElem?_map]
  by_cases hk : k < ys.length
  · have e1 : ys[k]? = some ys[k] := List.getElem?_eq_getElem hk
    have e2 : as[k]? = some (as[k]'(by omega)) := List.getElem?_eq_getElem _
    rw [e1, e2, h k _ _ e1 e2]
    rfl
  · rw [List.getElem?_eq_none (by omega), List.getElem?_eq_none (by omega)]
    rfl
/-- the parts by signs -/
def signP (ss : List Nat) (z : Int) (b : Nat) : Prop := nI (ss.getD b 0) = z
theorem parts_ok {n : Nat} {ss : List Nat} {zs : List Int} (ls : ss.length = n) (nd : zs.Nodup) (hm : ∀ z, z ∈ zs ↔ z ∈ ss.map nI) (lz : zs.length ≤ n) : LookOk n (.parts (zs.map (signP ss))) := by
  refine ⟨by rw [List.length_map]; exact lz, fun b bn => ?_, fun i j p q b hp hq bn pb qb => ?_, fun p hp => ?_⟩
  · have hb : b < ss.length := by omega
    have hmem : nI (ss.getD b 0) ∈ zs := (hm _).2 (List.mem_map.mpr ⟨ss.getD b 0, by rw [List.getD_eq_getElem?_getD, List.getElem?_eq_getElem hb]; exact List.getElem_mem hb, rfl⟩)
    obtain ⟨k, hk, e⟩ := List.getElem_of_mem hmem
    exact ⟨k, signP ss zs[k], by rw [List.getElem?_map, List.getElem?_eq_getElem hk]; rfl, e.symm⟩
  · rw [List.getElem?_map] at hp hq
    cases e1 : zs[i]? with
    | none => rw [e1] at hp; cases hp
    | some z1 =>
      cases e2 : zs[j]? with
      | none => rw [e2] at hq; cases hq
      | some z2 =>
        rw [e1] at hp
        rw [e2] at hq
        cases hp
        cases hq
        have pb : nI (ss.getD b 0) = z1 := pb
        have qb : nI (ss.getD b 0) = z2 := qb
        rw [← pb] at e1
        rw [← qb] at e2
        exact (List.getElem?_inj (List.getElem?_eq_some_iff.mp e1).1 nd).mp (e1.trans e2.symm)
  · obtain ⟨z, hz, rfl⟩ := List.mem_map.mp hp
    obtain ⟨s, hs, e⟩ := List.mem_map.mp ((hm z).1 hz)
    obtain ⟨b, hb, e2⟩ := List.getElem_of_mem hs
    refine ⟨b, by omega, ?_⟩
    show nI (ss.getD b 0) = z
    rw [List.getD_eq_getElem?_getD, List.getElem?_eq_getElem hb]
    show nI ss[b] = z
    rw [e2, e]
section
variable {P : Program} {w : World} {K : PySem.W.Frag} {mg : Str → Option Value} {base : Heap}
def spLook : Sp := fun vs H Q _ => ∃ (b c : Addr) (n : Nat), vs = [.ref b, vI n] ∧ Box b c H ∧ 1 ≤ n ∧ n ≤ 8 ∧ ∀ H' v L, LookAt n H' v L → LookOk n L → Kc c H H' → Box b c H' → Q v H'
theorem sc__law_look : FnScope ["_law_box_here", "_law_many", "_law_kind", "_law_parts", "_law_signs", "_law_lots", "_law_place", "_law_sign"] ["_law_box_here", "_law_many"] (defScope s__law_look) := ⟨rfl, rfl, rfl, by decide +kernel, rfl, by decide +kernel, by decide +kernel⟩
theorem ok_look (T : Tx K mg) : Has P w K mg base (He.ga K "_law_look") 3 ["_law_box_here", "_law_many"] spLook := by
  obtain ⟨⟨fd_law_pick, F_law_pick, b_law_pick⟩, kp_law_pick⟩ := ok_pick (P := P) (w := w) (base := base) T
  obtain ⟨⟨fd_law_lot, F_law_lot, b_law_lot⟩, kp_law_lot⟩ := ok_lot (P := P) (w := w) (base := base) T
  obtain ⟨⟨fd_law_from, F_law_from, b_law_from⟩, kp_law_from⟩ := ok_from (P := P) (w := w) (base := base) T
  obtain ⟨⟨fd_law_mixed, F_law_mixed, b_law_mixed⟩, kp_law_mixed⟩ := ok_mixed (P := P) (w := w) (base := base) T
  obtain ⟨fd, F⟩ := T.d__law_look
  refine ⟨⟨fd, F.ok sc__law_look (fun vs H Q E h => ?_) (fun cdv A outer s H vs Q E hr h => ?_), F.bindsN fun _ _ _ _ _ _ us hl => match us, hl with | [_, _], _ => rfl⟩, F.kp⟩
  · obtain ⟨b, c, n, rfl, _⟩ := h
    rfl
  · obtain ⟨b, c, n, rfl, B, n1, n8, h⟩ := h
    have hr_law_pick : Room 1 _ := hr.mono (by decide)
    have hr_law_lot : Room 2 _ := hr.mono (by decide)
    have hr_law_from : Room 2 _ := hr.mono (by decide)
    have hr_law_mixed : Room 2 _ := hr.mono (by decide)
    refine ⟨_, PSs.nox (pss_cons (ps_set (i := 2) sc__law_look.nd rfl (Or.inl rfl) (pe_call F_law_pick hr_law_pick rfl T.glo_law_pick kp_law_pick b_law_pick .nil pass0 (pa_cons (pv 0) (pa_cons pe_int pa_nil))))
      (pss_cons (ps_if (pt_cmpR op_eq (pv 2) pe_int (nomark _)) (pss_one (ps_ret (pe_tup (pa_cons pe_str (pa_cons (pe_call F_law_lot hr_law_lot rfl T.glo_law_lot kp_law_lot b_law_lot .nil pass0 (pa_cons (pv 0) (pa_cons (pv 1) pa_nil))) pa_nil))))) pss_nil)
      (pss_cons (ps_if (pt_cmpR op_eq (pv 2) pe_int (nomark _)) (pss_cons (ps_set (i := 3) sc__law_look.nd rfl (Or.inr rfl) (pe_call F_law_from hr_law_from rfl T.glo_law_from kp_law_from b_law_from .nil pass0 (pa_cons (pv 0) (pa_cons (pe_lst (pa_cons pe_int (pa_cons pe_int (pa_cons pe_int (pa_cons pe_int (pa_cons pe_int pa_nil)))))) pa_nil))))
      (pss_cons (ps_set (i := 4) sc__law_look.nd rfl (Or.inr rfl) (pe_lc (own := [("_law_place", 6)]) (g := (gName 6)) (tt := tYes) rfl sc__law_look.nd (pi_range1 (by rfl) T.free_range (pa_cons (pv 1) pa_nil)) (blkOk_by (by kernel_rfl)) (fun _ _ _ _ _ => (pg_name (i := 6) sc__law_look.nd rfl (Or.inl rfl))) (fun _ _ _ _ _ => pts_nil) (fun _ _ _ _ _ => (pe_call F_law_pick hr_law_pick rfl T.glo_law_pick kp_law_pick b_law_pick .nil pass0 (pa_cons (pv 0) (pa_cons (pv 3) pa_nil))))))
      (pss_cons (ps_setLc (i := 5) (own := [("_law_sign", 7)]) (g := (gName 7)) (tt := tYes) rfl sc__law_look.nd rfl rfl (sw_true rfl rfl rfl (by decide +kernel)) (piL (K := K) (pe_callB (sortS (w := w)) (by rfl) T.free_sorted (by decide +kernel) (pa_cons (pe_callTy (setLK (K := K) (w := w)) (by rfl) T.free_set (by decide +kernel) (pa_cons (pv 4) pa_nil)) pa_nil))) (blkOk_by (by kernel_rfl)) (fun _ _ _ _ _ => (pg_name (i := 7) sc__law_look.nd rfl (Or.inr rfl))) (fun _ _ _ _ _ => pts_nil) (fun _ _ _ _ _ => (pe_callTy (tupK (K := K)) (by rfl) T.free_tuple (by decide +kernel) (pa_cons (pe_lc (own := [("_law_place", 6)]) (g := (gName 6)) rfl sc__law_look.nd (pi_range1 (by rfl) T.free_range (pa_cons (pv 1) pa_nil)) (blkOk_by (by kernel_rfl)) (fun _ _ _ _ _ => (pg_name (i := 6) sc__law_look.nd rfl (Or.inl rfl))) (fun _ _ _ _ _ => (pts_one (pt_cmpR op_eq (pe_ix (ixL (K := K)) (pv 4) (pv 6) (fun _ _ => rfl)) (pv 7) (nomark _)))) (fun _ _ _ _ _ => (pv 6))) pa_nil))))
      (pss_one (ps_ret (pe_tup (pa_cons pe_str (pa_cons (pe_callTy (tupK (K := K)) (by rfl) T.free_tuple (by decide +kernel) (pa_cons (pe_call F_law_mixed hr_law_mixed rfl T.glo_law_mixed kp_law_mixed b_law_mixed .nil pass0 (pa_cons (pv 0) (pa_cons (pv 5) pa_nil))) pa_nil)) pa_nil)))))))) pss_nil)
      (pss_one (ps_ret (pe_tup (pa_cons pe_str (pa_cons (pe_call F_law_pick hr_law_pick rfl T.glo_law_pick kp_law_pick b_law_pick .nil pass0 (pa_cons (pv 0) (pa_cons (pv 1) pa_nil))) (pa_cons (pe_call F_law_from hr_law_from rfl T.glo_law_from kp_law_from b_law_from .nil pass0 (pa_cons (pv 0) (pa_cons (pe_lst (pa_cons pe_int (pa_cons pe_int (pa_cons pe_int (pa_cons pe_int (pa_cons pe_int (pa_cons pe_int (pa_cons pe_int (pa_cons pe_int pa_nil))))))))) pa_nil))) pa_nil))))))))), ?_⟩
    refine ⟨_, rfl, b, c, _, rfl, B, by decide, by decide, fun H1 i k1 B1 i0 i1 => ?_⟩
    refine ⟨_, rfl, rfl, _, rfl, ?_⟩
    refine ite2 (fun _ => ?_) (fun _ => ?_)
    · refine ⟨_, rfl, _, rfl, b, c, n, rfl, B1, n1, n8, fun H2 t p ht k2 B2 => ?_⟩
      refine ⟨(by show 2 ≤ sizeLine; decide), fun u hu => ?_⟩
      have s3 := same_upd (o := HO.tup [V.str "in", .ref t]) hu
      exact h _ (.ref u) (.lot p) ⟨u, t, rfl, upd_same, s3 _ _ ht⟩ trivial ((k1.trans k2).trans (kc_same s3)) (B2.same s3)
    refine ⟨_, rfl, rfl, _, rfl, ?_⟩
    refine ite2 (fun _ => ?_) (fun _ => ?_)
    · refine ⟨_, rfl, (by show 5 ≤ sizeLine; decide), fun l hl => ?_⟩
      have s2 := same_upd (o := HO.lst [V.int 1, V.int 2, V.int 3, V.int 4, V.int 8]) hl
      refine ⟨b, c, l, _, rfl, B1.same s2, upd_same, (B1.new hl).1, by decide, by decide, fun H3 v k3 B3 hv => ?_⟩
      obtain ⟨m, rfl, m1, m8⟩ : ∃ m : Nat, v = vI m ∧ 1 ≤ m ∧ m ≤ 8 := by
        simp only [List.mem_cons, List.not_mem_nil, or_false] at hv
        rcases hv with e | e | e | e | e <;> subst e
        · exact ⟨1, rfl, by decide, by decide⟩
        · exact ⟨2, rfl, by decide, by decide⟩
        · exact ⟨3, rfl, by decide, by decide⟩
        · exact ⟨4, rfl, by decide, by decide⟩
        · exact ⟨8, rfl, by decide, by decide⟩
      have k13 := (k1.trans (kc_same s2)).trans k3
      refine ⟨_, rfl, (n : Int), rfl, by omega, by omega, fun D hD => ?_⟩
      refine lc_relK (walk_range (lo := 0) (n := ((n : Nat) : Int).toNat)) (fun _ v _ => ∃ s : Nat, v = vI s) (by omega) B3 hD (fun _ _ _ _ h _ => h) (fun _ _ _ => trivial) ?_ ?_
      · rintro i x H4 H5 Nx hi k4 B4 ⟨rfl, rfl⟩ kk
        refine ⟨rfl, _, rfl, _, rfl, b, c, _, rfl, B4, by omega, by omega, fun H6 j k6 B6 j0 j1 => ?_⟩
        exact kk _ _ ⟨j.toNat, by show V.int j = V.int _; congr 1; omega⟩ k6 B6
      · intro H4 ys h4 ly hy k4 B4 Dc
        rw [Int.toNat_natCast] at ly
        obtain ⟨ss, l5, h5⟩ := beside (R := fun _ v (s : Nat) => v = vI s) ys 0 fun k y e => hy k y e
        have ey : ys = ss.map vI := ys_of l5 h5
        have ls : ss.length = n := by omega
        subst ey
        have k14 := k13.trans k4
        refine ⟨_, rfl, D, ss.map nI, rfl, SqL.of (by rw [← vI_map]; exact h4), by rw [List.length_map]; omega, fun d cc hd hcc _ => ?_⟩
        have s5 := same_upd (o := SetO w d (fun j => decide (j ∈ ss.map nI)) cc) hd
        rw [List.length_map] at hcc
        refine ⟨d, _, cc, rfl, upd_same, by omega, fun zs q r1 r2 r3 hq => ?_⟩
        have s6 := same_upd (o := HO.lst (zs.map V.int)) hq
        have hq6 : (L2.upd (L2.upd H4 d (SetO w d (fun j => decide (j ∈ ss.map nI)) cc)) q (.lst (zs.map V.int))) q = some (.lst (zs.map V.int)) := upd_same
        have s46 := s5.trans s6
        generalize L2.upd (L2.upd H4 d (SetO w d (fun j => decide (j ∈ ss.map nI)) cc)) q (.lst (zs.map V.int)) = H6 at s46 hq6
        clear s5 s6
        have h6 := s46 _ _ h4
        have mz : ∀ z, z ∈ zs ↔ z ∈ ss.map nI := fun z => (r2 z).trans decide_eq_true_iff
        have nz : zs.Nodup := r1.imp fun z => Int.ne_of_lt z
        refine ⟨q, rfl, ⟨_, SqL.of hq6⟩, fun D2 hD2 => ?_⟩
        have B6 := B4.same s46
        have D2c := (B6.new hD2).1
        refine lc_rel (walk_list (K := K) (a := q) (xs := zs.map V.int)) (fun k v H' => ∃ t : Addr, v = .ref t ∧ ∀ z, zs[k]? = some z → H' t = some (.tup ((lotP n (signP ss z)).map vI))) (by rw [List.length_map]; omega) hD2 (fun k v Ha Hb ⟨t, e, h'⟩ tk => ⟨t, e, fun z ez => tk _ _ (h' z ez)⟩) (fun H7 s7 => SqL.of (s7 _ _ hq6)) ?_ ?_
        · rintro i x H7 H8 Nx hi s7 ⟨rfl, hx⟩ kk
          obtain ⟨z, hz, rfl⟩ := get_mapV hx
          refine ⟨rfl, _, rfl, (n : Int), rfl, by omega, by omega, fun D3 hD3 => ?_⟩
          refine lc_filt (walk_range (lo := 0) (n := ((n : Nat) : Int).toNat)) (List.range n) (fun b => decide (nI (ss.getD b 0) = z)) (by simp) (by omega) hD3 (fun _ _ => trivial) ?_ ?_
          · rintro j b' y Ha Hb N1 N0 hb' sa ⟨rfl, rfl⟩ k1' k0'
            obtain ⟨bn, rfl⟩ : j < n ∧ b' = j := by
              obtain ⟨z1, z2⟩ := List.getElem?_eq_some_iff.mp hb'
              rw [List.getElem_range] at z2
              rw [List.length_range] at z1
              exact ⟨z1, z2.symm⟩
            have hs : ss[b']? = some (ss.getD b' 0) := by
              rw [List.getD_eq_getElem?_getD, List.getElem?_eq_getElem (by omega)]
              rfl
            refine ⟨rfl, _, rfl, _, rfl, D, _, _, _, rfl, rfl, SqL.of (sa _ _ (s7 _ _ h6)), at0 (get_map hs), ?_⟩
            refine ⟨_, rfl, rfl, _, rfl, ?_⟩
            have eb : decide (vI (ss.getD b' 0) = V.int z) = decide (nI (ss.getD b' 0) = z) := by
              rw [decide_eq_decide]
              exact ⟨fun e => V.int.inj e, fun e => by rw [← e]; rfl⟩
            show if decide (vI (ss.getD b' 0) = V.int z) = true then _ else _
            rw [eb]
            refine ite2 (fun z' => ⟨_, rfl, ?_⟩) (fun z' => k0' _ (by simpa using z') fun _ _ e => e)
            have := k1' _ z' fun _ _ e => e
            show N1 (V.int (0 + ((b' : Nat) : Int))) _
            rw [Int.zero_add]
            exact this
          · intro Ha ha sa
            refine ⟨D3, _, rfl, .inl ⟨SqL.of ha, fun t ht => ?_⟩⟩
            refine kk _ _ ⟨t, rfl, fun z' ez => ?_⟩ (sa.trans (same_upd ht))
            rw [hz] at ez
            cases ez
            rw [upd_same, filter_lot (p := signP ss z) (range_sorted n) fun b => by
              rw [List.mem_range, decide_eq_true_iff]
              rfl]
        · intro H7 ys2 h7 ly2 hy2 s7
          rw [List.length_map] at ly2
          obtain ⟨ts, lt, ht⟩ := beside (R := fun k v (t : Addr) => v = .ref t ∧ ∀ z, zs[k]? = some z → H7 t = some (.tup ((lotP n (signP ss z)).map vI))) ys2 0 fun k y e => by
            rw [Nat.zero_add]
            exact hy2 k y e
          have e2 : ys2 = (ts.zip zs).map fun q => V.ref q.1 := by
            refine ys_of (by rw [List.length_zip]; omega) fun k y a e1 e2 => ?_
            obtain ⟨z1, z2⟩ := List.getElem?_zip_eq_some.mp e2
            exact (ht k y a.1 e1 z1).1
          have hz : ∀ q ∈ ts.zip zs, H7 q.1 = some (.tup ((lotP n (signP ss q.2)).map vI)) := fun q hq => by
            obtain ⟨k, hk, e⟩ := List.getElem_of_mem hq
            have ek : (ts.zip zs)[k]? = some q := by rw [List.getElem?_eq_getElem hk, e]
            obtain ⟨z1, z2⟩ := List.getElem?_zip_eq_some.mp ek
            have yk : ys2[k]? = some (ys2[k]'(by rw [List.length_zip] at hk; omega)) := List.getElem?_eq_getElem _
            exact (ht k _ q.1 yk z1).2 q.2 (by rw [Nat.zero_add]; exact z2)
          subst e2
          have B7 := B6.same s7
          have lzs : zs.length ≤ n := by omega
          refine ⟨_, rfl, _, rfl, b, c, D2, _, rfl, B7, h7, D2c, by rw [List.length_map, List.length_zip]; omega, fun H8 p ys' pm hp pc k8 B8 => ?_⟩
          obtain ⟨qs, rfl, pq⟩ := perm_map pm
          have mq : (qs.map (·.2)).Perm zs := by
            have := pq.map (·.2)
            rwa [show (ts.zip zs).map (·.2) = zs from List.map_snd_zip (by omega)] at this
          refine ⟨p, _, rfl, .inl ⟨SqL.of hp, fun u hu => ?_⟩⟩
          have s9 := same_upd (o := HO.tup (qs.map fun q => V.ref q.1)) hu
          have hu9 : (L2.upd H8 u (.tup (qs.map fun q => V.ref q.1))) u = some (.tup (qs.map fun q => V.ref q.1)) := upd_same
          generalize L2.upd H8 u (.tup (qs.map fun q => V.ref q.1)) = H9 at s9 hu9
          refine ⟨(by show 2 ≤ sizeLine; decide), fun t ht2 => ?_⟩
          have s10 := same_upd (o := HO.tup [V.str "parts", .ref u]) ht2
          have tks : TK H7 (L2.upd H9 t (.tup [V.str "parts", .ref u])) := (k8.tk B7.lst).trans (tk_same (s9.trans s10))
          refine h _ (.ref t) (.parts ((qs.map (·.2)).map (signP ss))) ⟨t, u, qs.map (·.1), rfl, upd_same, s10 _ _ (by rw [hu9, List.map_map]; rfl), by simp, fun k a p' e1 e2 => ?_⟩ (parts_ok ls (mq.nodup_iff.mpr nz) (fun z => mq.mem_iff.trans (mz z)) (by rw [mq.length_eq]; exact lzs))
            (((k14.trans (kc_same (s46.trans s7))).trans k8).trans (kc_same (s9.trans s10))) (B8.same (s9.trans s10))
          rw [List.getElem?_map] at e1
          rw [List.getElem?_map, List.getElem?_map] at e2
          cases e : qs[k]? with
          | none => rw [e] at e1; cases e1
          | some q' =>
            rw [e] at e1 e2
            cases e1
            cases e2
            exact tks _ _ (hz q' (pq.mem_iff.mp (List.mem_of_getElem? e)))
    · refine ⟨_, rfl, _, rfl, b, c, _, rfl, B1, by omega, by omega, fun H2 x k2 B2 x0 x1 => ?_⟩
      refine ⟨_, rfl, (by show 8 ≤ sizeLine; decide), fun l hl => ?_⟩
      have s3 := same_upd (o := HO.lst [V.int 0, V.int 1, V.int 2, V.int 7, V.int 3, V.int 4, V.int 5, V.int 6]) hl
      refine ⟨b, c, l, _, rfl, B2.same s3, upd_same, (B2.new hl).1, by decide, by decide, fun H4 v k4 B4 hv => ?_⟩
      obtain ⟨m, rfl, m7⟩ := menu_small hv (by decide)
      refine ⟨(by show 3 ≤ sizeLine; decide), fun t ht => ?_⟩
      have s5 := same_upd (o := HO.tup [V.str "near", .int x, vI m]) ht
      obtain ⟨d, rfl⟩ : ∃ d : Nat, x = (d : Nat) := ⟨x.toNat, by omega⟩
      exact h _ (.ref t) (.near d m) ⟨t, rfl, upd_same⟩ ⟨by omega, m7⟩ ((((k1.trans k2).trans (kc_same s3)).trans k4).trans (kc_same s5)) (B4.same s5)
end
end RL
namespace RL
open PySem PySem.Spec PyProof.Rows L2 RLM
section
variable {P : Program} {w : World} {K : PySem.W.Frag} {mg : Str → Option Value} {base : Heap}
/-! ### a number that is none of them -/
def spFarN : Sp := fun vs H Q _ => ∃ (b c : Addr) (lo hi : Int), vs = [.ref b, .int lo, .int hi] ∧ Box b c H ∧ 0 ≤ lo ∧ lo ≤ 1000000000 ∧ hi ≤ 1000000000 ∧ ∀ H' z, Kc c H H' → Box b c H' → (z < lo ∨ hi < z) → Q (.int z) H'
theorem sc__law_far_number : FnScope ["_law_box_here", "_law_low", "_law_high", "_law_some"] ["_law_box_here", "_law_low", "_law_high"] (defScope s__law_far_number) := ⟨rfl, rfl, rfl, by decide +kernel, rfl, by decide +kernel, by decide +kernel⟩
theorem ok_farN (T : Tx K mg) : Has P w K mg base (He.ga K "_law_far_number") 3 ["_law_box_here", "_law_low", "_law_high"] spFarN := by
  obtain ⟨⟨fd_law_pick, F_law_pick, b_law_pick⟩, kp_law_pick⟩ := ok_pick (P := P) (w := w) (base := base) T
  obtain ⟨⟨fd_law_from, F_law_from, b_law_from⟩, kp_law_from⟩ := ok_from (P := P) (w := w) (base := base) T
  obtain ⟨fd, F⟩ := T.d__law_far_number
  refine ⟨⟨fd, F.ok sc__law_far_number (fun vs H Q E h => ?_) (fun cdv A outer s H vs Q E hr h => ?_), F.bindsN fun _ _ _ _ _ _ us hl => match us, hl with | [_, _, _], _ => rfl⟩, F.kp⟩
  · obtain ⟨b, c, lo, hi, rfl, _⟩ := h
    rfl
  · obtain ⟨b, c, lo, hi, rfl, B, l0, l1, h1, h⟩ := h
    have hr_law_pick : Room 1 _ := hr.mono (by decide)
    have hr_law_from : Room 2 _ := hr.mono (by decide)
    refine ⟨_, PSs.nox (pss_cons (ps_set (i := 3) sc__law_far_number.nd rfl (Or.inl rfl) (pe_lst (pa_cons (pe_op op_sub (pv 1) pe_int) (pa_cons (pe_op op_add (pv 2) pe_int) (pa_cons (pe_op op_sub (pe_op op_sub pe_int pe_int) (pe_call F_law_pick hr_law_pick rfl T.glo_law_pick kp_law_pick b_law_pick .nil pass0 (pa_cons (pv 0) (pa_cons (pe_op op_pow pe_int pe_int) pa_nil)))) (pa_cons (pe_op op_add (pe_op op_add (pv 2) pe_int) (pe_call F_law_pick hr_law_pick rfl T.glo_law_pick kp_law_pick b_law_pick .nil pass0 (pa_cons (pv 0) (pa_cons (pe_op op_pow pe_int pe_int) pa_nil)))) pa_nil))))))
      (pss_one (ps_ret (pe_call F_law_from hr_law_from rfl T.glo_law_from kp_law_from b_law_from .nil pass0 (pa_cons (pv 0) (pa_cons (pe_op op_cat (pv 3) (pe_lst (pa_cons (pe_op op_pow pe_int pe_int) (pa_cons (pe_op op_sub pe_int (pe_op op_pow pe_int pe_int)) pa_nil)))) pa_nil)))))), ?_⟩
    refine ⟨_, rfl, _, _, rfl, rfl, _, rfl, _, _, rfl, rfl, _, _, rfl, rfl, _, rfl, _, _, rfl, rfl, ⟨by decide, by decide, by decide⟩, b, c, _, rfl, B, by decide, by decide, fun H1 y k1 B1 y0 y1 => ?_⟩
    refine ⟨_, _, rfl, rfl, _, rfl, _, _, rfl, rfl, _, rfl, _, _, rfl, rfl, ⟨by decide, by decide, by decide⟩, b, c, _, rfl, B1, by decide, by decide, fun H2 x k2 B2 x0 x1 => ?_⟩
    refine ⟨_, _, rfl, rfl, (by show 4 ≤ sizeLine; decide), fun l hl => ?_⟩
    have s3 := same_upd (o := HO.lst [V.int (lo - 1), V.int (hi + 1), V.int (0 - 1 - y), V.int (hi + 1 + x)]) hl
    have h3 : (upd H2 l (.lst [V.int (lo - 1), V.int (hi + 1), V.int (0 - 1 - y), V.int (hi + 1 + x)])) l = some (.lst [V.int (lo - 1), V.int (hi + 1), V.int (0 - 1 - y), V.int (hi + 1 + x)]) := upd_same
    have B3 := B2.same s3
    generalize upd H2 l (.lst [V.int (lo - 1), V.int (hi + 1), V.int (0 - 1 - y), V.int (hi + 1 + x)]) = H3 at s3 h3 B3
    refine ⟨_, rfl, _, rfl, _, _, rfl, rfl, ⟨by decide, by decide, by decide⟩, _, _, rfl, rfl, ⟨by decide, by decide, by decide⟩, _, _, rfl, rfl, (by show 2 ≤ sizeLine; decide), fun l2 hl2 => ?_⟩
    have s4 := same_upd (o := HO.lst [V.int (10 ^ (11 : Int).toNat), V.int (0 - 10 ^ (11 : Int).toNat)]) hl2
    have h4 : (upd H3 l2 (.lst [V.int (10 ^ (11 : Int).toNat), V.int (0 - 10 ^ (11 : Int).toNat)])) l2 = some (.lst [V.int (10 ^ (11 : Int).toNat), V.int (0 - 10 ^ (11 : Int).toNat)]) := upd_same
    have B4 := B3.same s4
    have h34 := s4 _ _ h3
    generalize upd H3 l2 (.lst [V.int (10 ^ (11 : Int).toNat), V.int (0 - 10 ^ (11 : Int).toNat)]) = H4 at s4 h4 B4 h34
    refine ⟨l, l2, _, _, rfl, rfl, h34, h4, (by show 6 ≤ sizeLine; decide), fun l5 hl5 => ?_⟩
    have s5 := same_upd (o := HO.lst ([V.int (lo - 1), V.int (hi + 1), V.int (0 - 1 - y), V.int (hi + 1 + x)] ++ [V.int (10 ^ (11 : Int).toNat), V.int (0 - 10 ^ (11 : Int).toNat)])) hl5
    refine ⟨b, c, l5, _, rfl, B4.same s5, upd_same, (B4.new hl5).1, (by show 1 ≤ 6; decide), (by show 6 ≤ 1000; decide), fun H6 v k6 B6 hv => ?_⟩
    obtain ⟨z, rfl, hz⟩ : ∃ z : Int, v = .int z ∧ (z < lo ∨ hi < z) := by
      simp only [List.cons_append, List.nil_append, List.mem_cons, List.not_mem_nil, or_false] at hv
      have e11 : (10 : Int) ^ (11 : Int).toNat = 100000000000 := by decide
      rw [e11] at hv
      rcases hv with e | e | e | e | e | e <;> subst e <;> exact ⟨_, rfl, by omega⟩
    exact h H6 z ((((k1.trans k2).trans (kc_same s3)).trans (kc_same s4)).trans ((kc_same s5).trans k6)) B6 hz
end
end RL
/-! The program's tests of delays and of a talk's looks. -/
namespace RL
open PySem PySem.Spec PyProof.Rows L2 RLM
def cellB (hand i : Nat) (z : Int) : Bool := if i = hand then decide (z = 0) else decide (1 ≤ z ∧ z ≤ 9)
def rowB (h hand : Nat) (zs : List Int) : Bool := decide (zs.length = h) && ((List.range zs.length).map fun i => cellB hand i (zs.getD i 0)).all id
def delB (D : List (List Int)) : Bool := decide (2 ≤ D.length ∧ D.length ≤ 4) && ((List.range D.length).map fun i => rowB D.length i (D.getD i [])).all id
theorem get_int {zs : List Int} {i : Nat} {y : V} (h : (zs.map V.int)[i]? = some y) : ∃ z, zs[i]? = some z ∧ y = V.int z := by
  rw [List.getElem?_map] at h
  cases e : zs[i]? with
  | none => rw [e] at h; cases h
  | some z => rw [e] at h; exact ⟨z, rfl, (Option.some.inj h).symm⟩
section
variable {P : Program} {w : World} {K : PySem.W.Frag} {mg : Str → Option Value} {base : Heap}
def spDRow : Sp := fun vs H Q _ => ∃ (a : Addr) (h hand : Nat) (zs : List Int), vs = [.ref a, vI hand, vI h] ∧ H a = some (.tup (zs.map V.int)) ∧ zs.length ≤ 60 ∧ ∀ H', Same H H' → Q (.bl (rowB h hand zs)) H'
theorem sc_is_delay_row : FnScope ["row", "hand", "many", "other", "delay"] ["row", "hand", "many"] (defScope s_is_delay_row) := ⟨rfl, rfl, rfl, by decide +kernel, rfl, by decide +kernel, by decide +kernel⟩
theorem ok_drow (T : Tx K mg) : Has P w K mg base (He.ga K "is_delay_row") 3 ["row", "hand", "many"] spDRow := by
  obtain ⟨⟨fd_is_between, F_is_between, b_is_between⟩, kp_is_between⟩ := ok_is_between (P := P) (w := w) (base := base) T
  obtain ⟨fd, F⟩ := T.d_is_delay_row
  refine ⟨⟨fd, F.ok sc_is_delay_row (fun vs H Q E h => ?_) (fun cdv A outer s H vs Q E hr h => ?_), F.bindsN fun _ _ _ _ _ _ us hl => match us, hl with | [_, _, _], _ => rfl⟩, F.kp⟩
  · obtain ⟨a, h, hand, zs, rfl, _⟩ := h
    rfl
  · obtain ⟨a, n, hand, zs, rfl, ha, lz, h⟩ := h
    have hr_is_between : Room 2 _ := hr.mono (by decide)
    refine ⟨_, PSs.nox (pss_cons (ps_if (PW.pt (pw_or (pt_not (pt_val (pe_callB (isiK (K := K)) (by rfl) T.free_isinstance (by decide +kernel) (pa_cons (pv 0) (pa_cons (pe_bltn (v := .ty "tuple") (u := .type "tuple") (by rfl) T.free_tuple (by decide +kernel) rfl) pa_nil))))) (pw_or1 (pt_cmpR op_ne (pe_callB (lenK (K := K)) (by rfl) T.free_len (by decide +kernel) (pa_cons (pv 0) pa_nil)) (pv 2) (nomark _))))) (pss_one (ps_ret pe_bl)) pss_nil)
      (pss_one (ps_ret (pe_callB (allK (K := K)) (by rfl) T.free_all (by decide +kernel) (pa_cons (pe_lc (own := [("other", 3), ("delay", 4)]) (tt := tYes) rfl sc_is_delay_row.nd (piEnumT (K := K) (by rfl) T.free_enumerate (pa_cons (pv 0) pa_nil)) (blkOk_by (by kernel_rfl)) (fun _ _ _ _ _ => (pgT (K := K) (n := 2) rfl (pgs_cons (pg_name (i := 3) sc_is_delay_row.nd rfl (Or.inl rfl)) (pgs_cons (pg_name (i := 4) sc_is_delay_row.nd rfl (Or.inl rfl)) pgs_nil)))) (fun _ _ _ _ _ => pts_nil) (fun _ _ _ _ _ => (pe_ifExp (pt_cmpR op_eq (pv 3) (pv 1) (nomark _)) (pe_call F_is_between hr_is_between rfl T.glo_is_between kp_is_between b_is_between .nil pass0 (pa_cons (pv 4) (pa_cons pe_int (pa_cons pe_int pa_nil)))) (pe_call F_is_between hr_is_between rfl T.glo_is_between kp_is_between b_is_between .nil pass0 (pa_cons (pv 4) (pa_cons pe_int (pa_cons (pe_glob (v := .int 9) rfl T.glob_MOST_DELAY.choose_spec ⟨_, rfl⟩) pa_nil))))))) pa_nil))))), ?_⟩
    refine ⟨_, rfl, _, _, _, _, true, rfl, .ty _, .base (.tup ha), kit_ty (by decide +kernel), true, rfl, iteF ?_⟩
    refine ⟨_, rfl, a, _, rfl, .inr (SqT.of ha), _, rfl, rfl, _, rfl, ?_⟩
    have e1 : (!decide (V.int (((zs.map V.int).length : Nat) : Int) = vI n)) = !decide (zs.length = n) := by
      rw [List.length_map]
      congr 1
      rw [decide_eq_decide]
      unfold vI
      exact ⟨fun z => by injection z with z; omega, fun z => by rw [z]⟩
    rw [e1]
    by_cases ln : zs.length = n
    · rw [decide_eq_true ln]
      refine iteF ?_
      refine ⟨_, rfl, a, _, rfl, SqT.of ha, fun D hD => ?_⟩
      refine lc_val (walk_enumT (K := K) (a := a) (xs := zs.map V.int)) (fun i => .bl (cellB hand i (zs.getD i 0))) (by rw [List.length_map]; omega) hD (fun H1 s1 => SqT.of (s1 _ _ ha)) ?_ ?_
      · rintro i y H1 H2 Nx hi s1 ⟨t, y1, y2, rfl, ht, rfl, e1, e2⟩ k
        cases (Option.some.inj e1)
        obtain ⟨z, hz, rfl⟩ := get_int e2
        have s2 : Same H1 (upd H1 t (.tup [.int (i : Nat), .int z])) := same_upd ht
        refine ⟨t, _, rfl, SqT.of upd_same, rfl, _, _, rfl, _, _, rfl, rfl, rfl, ?_⟩
        have ez : zs.getD i 0 = z := by rw [List.getD_eq_getElem?_getD, hz]; rfl
        rw [ez] at k
        unfold cellB at k
        refine ⟨_, rfl, _, rfl, rfl, _, rfl, ?_⟩
        have ei : decide (V.int (i : Nat) = vI hand) = decide (i = hand) := by
          rw [decide_eq_decide]
          unfold vI
          exact ⟨fun z => by injection z with z; omega, fun z => by rw [z]⟩
        show if decide (V.int (i : Nat) = vI hand) = true then _ else _
        rw [ei]
        by_cases c : i = hand
        · rw [decide_eq_true c]
          refine iteT ?_
          refine ⟨_, rfl, z, 0, 0, rfl, ?_⟩
          rw [if_pos c] at k
          rw [show decide ((0 : Int) ≤ z ∧ z ≤ 0) = decide (z = 0) from decide_eq_decide.mpr ⟨fun y => by omega, fun y => by omega⟩]
          exact k _ s2
        · rw [decide_eq_false c]
          refine iteF ?_
          refine ⟨_, rfl, z, 1, 9, rfl, ?_⟩
          rw [if_neg c] at k
          exact k _ s2
      · intro H1 h1 s1
        refine ⟨D, (List.range (zs.map V.int).length).map fun i => cellB hand i (zs.getD i 0), rfl, SqL.of (by rw [h1, List.map_map]; rfl), ?_⟩
        have := h H1 s1
        unfold rowB at this
        rw [decide_eq_true ln, Bool.true_and] at this
        rw [List.length_map]
        exact this
    · rw [decide_eq_false ln]
      refine iteT ?_
      have := h H fun _ _ e => e
      unfold rowB at this
      rw [decide_eq_false ln] at this
      exact this
def spDels : Sp := fun vs H Q _ => ∃ (a : Addr) (L : List (Addr × List Int)), vs = [.ref a] ∧ H a = some (.tup (L.map fun q => V.ref q.1)) ∧ (∀ q ∈ L, H q.1 = some (.tup (q.2.map V.int)) ∧ q.2.length ≤ 60) ∧ L.length ≤ 60 ∧ ∀ H', Same H H' → Q (.bl (delB (L.map (·.2)))) H'
theorem sc_are_delays : FnScope ["delays", "hand", "row"] ["delays"] (defScope s_are_delays) := ⟨rfl, rfl, rfl, by decide +kernel, rfl, by decide +kernel, by decide +kernel⟩
theorem ok_dels (T : Tx K mg) : Has P w K mg base (He.ga K "are_delays") 4 ["delays"] spDels := by
  obtain ⟨⟨fd_is_between, F_is_between, b_is_between⟩, kp_is_between⟩ := ok_is_between (P := P) (w := w) (base := base) T
  obtain ⟨⟨fd_is_delay_row, F_is_delay_row, b_is_delay_row⟩, kp_is_delay_row⟩ := ok_drow (P := P) (w := w) (base := base) T
  obtain ⟨fd, F⟩ := T.d_are_delays
  refine ⟨⟨fd, F.ok sc_are_delays (fun vs H Q E h => ?_) (fun cdv A outer s H vs Q E hr h => ?_), F.bindsN fun _ _ _ _ _ _ us hl => match us, hl with | [_], _ => rfl⟩, F.kp⟩
  · obtain ⟨a, L, rfl, _⟩ := h
    rfl
  · obtain ⟨a, L, rfl, ha, hL, lL, h⟩ := h
    have hr_is_between : Room 2 _ := hr.mono (by decide)
    have hr_is_delay_row : Room 3 _ := hr.mono (by decide)
    refine ⟨_, PSs.nox (pss_cons (ps_if (PW.pt (pw_or (pt_not (pt_val (pe_callB (isiK (K := K)) (by rfl) T.free_isinstance (by decide +kernel) (pa_cons (pv 0) (pa_cons (pe_bltn (v := .ty "tuple") (u := .type "tuple") (by rfl) T.free_tuple (by decide +kernel) rfl) pa_nil))))) (pw_or1 (pt_not (pt_val (pe_call F_is_between hr_is_between rfl T.glo_is_between kp_is_between b_is_between .nil pass0 (pa_cons (pe_callB (lenK (K := K)) (by rfl) T.free_len (by decide +kernel) (pa_cons (pv 0) pa_nil)) (pa_cons pe_int (pa_cons (pe_glob (v := .int 4) rfl T.glob_MOST_TALKERS.choose_spec ⟨_, rfl⟩) pa_nil))))))))) (pss_one (ps_ret pe_bl)) pss_nil)
      (pss_one (ps_ret (pe_callB (allK (K := K)) (by rfl) T.free_all (by decide +kernel) (pa_cons (pe_lc (own := [("hand", 1), ("row", 2)]) (tt := tYes) rfl sc_are_delays.nd (piEnumT (K := K) (by rfl) T.free_enumerate (pa_cons (pv 0) pa_nil)) (blkOk_by (by kernel_rfl)) (fun _ _ _ _ _ => (pgT (K := K) (n := 2) rfl (pgs_cons (pg_name (i := 1) sc_are_delays.nd rfl (Or.inl rfl)) (pgs_cons (pg_name (i := 2) sc_are_delays.nd rfl (Or.inl rfl)) pgs_nil)))) (fun _ _ _ _ _ => pts_nil) (fun _ _ _ _ _ => (pe_call F_is_delay_row hr_is_delay_row rfl T.glo_is_delay_row kp_is_delay_row b_is_delay_row .nil pass0 (pa_cons (pv 2) (pa_cons (pv 1) (pa_cons (pe_callB (lenK (K := K)) (by rfl) T.free_len (by decide +kernel) (pa_cons (pv 0) pa_nil)) pa_nil)))))) pa_nil))))), ?_⟩
    refine ⟨_, rfl, _, _, _, _, true, rfl, .ty _, .base (.tup ha), kit_ty (by decide +kernel), true, rfl, iteF ?_⟩
    refine ⟨_, rfl, a, _, rfl, .inr (SqT.of ha), ((L.map fun q => V.ref q.1).length : Int), 2, 4, rfl, _, rfl, ?_⟩
    by_cases c : 2 ≤ L.length ∧ L.length ≤ 4
    · rw [decide_eq_true (by rw [List.length_map]; omega)]
      refine iteF ?_
      refine ⟨_, rfl, a, _, rfl, SqT.of ha, fun D hD => ?_⟩
      refine lc_val (walk_enumT (K := K) (a := a) (xs := L.map fun q => V.ref q.1)) (fun i => .bl (rowB L.length i ((L.map (·.2)).getD i []))) (by rw [List.length_map]; omega) hD (fun H1 s1 => SqT.of (s1 _ _ ha)) ?_ ?_
      · rintro i y H1 H2 Nx hi s1 ⟨t, y1, y2, rfl, ht, rfl, e1, e2⟩ k
        cases (Option.some.inj e1)
        obtain ⟨q, hq, rfl⟩ : ∃ q, L[i]? = some q ∧ y2 = V.ref q.1 := by
          have e3 : (L.map fun q => V.ref q.1)[i]? = some y2 := e2
          rw [List.getElem?_map] at e3
          cases e : L[i]? with
          | none => rw [e] at e3; cases e3
          | some q => rw [e] at e3; exact ⟨q, rfl, (Option.some.inj e3).symm⟩
        have s2 : Same H1 (upd H1 t (.tup [.int (i : Nat), .ref q.1])) := same_upd ht
        obtain ⟨h1, l1⟩ := hL q (List.mem_of_getElem? hq)
        have ez : (L.map (·.2)).getD i [] = q.2 := by rw [List.getD_eq_getElem?_getD, List.getElem?_map, hq]; rfl
        rw [ez] at k
        refine ⟨t, _, rfl, SqT.of upd_same, rfl, _, _, rfl, _, _, rfl, rfl, rfl, ?_⟩
        refine ⟨_, rfl, _, rfl, _, rfl, a, _, rfl, .inr (SqT.of (s2 _ _ (s1 _ _ ha))), q.1, L.length, i, q.2, ?_, s2 _ _ (s1 _ _ h1), l1, fun H3 s3 => k _ (s2.trans s3)⟩
        rw [List.length_map]
        rfl
      · intro H1 h1 s1
        refine ⟨D, (List.range (L.map fun q => V.ref q.1).length).map fun i => rowB L.length i ((L.map (·.2)).getD i []), rfl, SqL.of (by rw [h1, List.map_map]; rfl), ?_⟩
        have := h H1 s1
        unfold delB at this
        rw [List.length_map, decide_eq_true c, Bool.true_and] at this
        rw [List.length_map]
        exact this
    · rw [decide_eq_false (by rw [List.length_map]; omega)]
      refine iteT ?_
      have := h H fun _ _ e => e
      unfold delB at this
      rw [List.length_map, decide_eq_false c] at this
      exact this
def lookB (h : Nat) (b k : Int) : Bool := decide (0 ≤ b ∧ b ≤ 12) && decide (0 ≤ k ∧ k ≤ (h : Int) - 1)
/-- a tuple that begins with a text -/
def LkT (H : Hp) (l : Addr) : Prop := ∃ (s : Str) (ys : List V), H l = some (.tup (.str s :: ys))
def spTLook : Sp := fun vs H Q _ => ∃ (a l : Addr) (h : Nat) (b k : Int), vs = [.ref a, vI h] ∧ H a = some (.tup [.int b, .int k, .ref l]) ∧ LkT H l ∧ ∀ H', Same H H' → Q (.bl (lookB h b k)) H'
theorem sc_is_talk_look : FnScope ["row", "many", "beat", "hand", "look"] ["row", "many"] (defScope s_is_talk_look) := ⟨rfl, rfl, rfl, by decide +kernel, rfl, by decide +kernel, by decide +kernel⟩
theorem ok_tlook (T : Tx K mg) : Has P w K mg base (He.ga K "is_talk_look") 3 ["row", "many"] spTLook := by
  obtain ⟨⟨fd_is_between, F_is_between, b_is_between⟩, kp_is_between⟩ := ok_is_between (P := P) (w := w) (base := base) T
  obtain ⟨fd, F⟩ := T.d_is_talk_look
  refine ⟨⟨fd, F.ok sc_is_talk_look (fun vs H Q E h => ?_) (fun cdv A outer s H vs Q E hr h => ?_), F.bindsN fun _ _ _ _ _ _ us hl => match us, hl with | [_, _], _ => rfl⟩, F.kp⟩
  · obtain ⟨a, l, h, b, k, rfl, _⟩ := h
    rfl
  · obtain ⟨a, l, n, b, k, rfl, ha, ⟨x, ys, hl⟩, h⟩ := h
    have hr_is_between : Room 2 _ := hr.mono (by decide)
    refine ⟨_, PSs.nox (pss_cons (ps_if (PW.pt (pw_or (pt_not (pt_val (pe_callB (isiK (K := K)) (by rfl) T.free_isinstance (by decide +kernel) (pa_cons (pv 0) (pa_cons (pe_bltn (v := .ty "tuple") (u := .type "tuple") (by rfl) T.free_tuple (by decide +kernel) rfl) pa_nil))))) (pw_or1 (pt_cmpR op_ne (pe_callB (lenK (K := K)) (by rfl) T.free_len (by decide +kernel) (pa_cons (pv 0) pa_nil)) pe_int (nomark _))))) (pss_one (ps_ret pe_bl)) pss_nil)
      (pss_cons (ps_asg (pv 0) (pgT (K := K) (n := 3) rfl (pgs_cons (pg_name (i := 2) sc_is_talk_look.nd rfl (Or.inl rfl)) (pgs_cons (pg_name (i := 3) sc_is_talk_look.nd rfl (Or.inl rfl)) (pgs_cons (pg_name (i := 4) sc_is_talk_look.nd rfl (Or.inl rfl)) pgs_nil)))))
      (pss_cons (ps_if (PW.pt (pw_or (pt_not (pt_val (pe_call F_is_between hr_is_between rfl T.glo_is_between kp_is_between b_is_between .nil pass0 (pa_cons (pv 2) (pa_cons pe_int (pa_cons (pe_glob (v := .int 12) rfl T.glob_MOST_BEATS.choose_spec ⟨_, rfl⟩) pa_nil)))))) (pw_or1 (pt_not (pt_val (pe_call F_is_between hr_is_between rfl T.glo_is_between kp_is_between b_is_between .nil pass0 (pa_cons (pv 3) (pa_cons pe_int (pa_cons (pe_op op_sub (pv 1) pe_int) pa_nil))))))))) (pss_one (ps_ret pe_bl)) pss_nil)
      (pss_one (ps_ret (pe_and (pe_callB (isiK (K := K)) (by rfl) T.free_isinstance (by decide +kernel) (pa_cons (pv 4) (pa_cons (pe_bltn (v := .ty "tuple") (u := .type "tuple") (by rfl) T.free_tuple (by decide +kernel) rfl) pa_nil))) (pe_and (pe_cmpR op_gt (pe_callB (lenK (K := K)) (by rfl) T.free_len (by decide +kernel) (pa_cons (pv 4) pa_nil)) pe_int (nomark _)) (pe_one (pe_callB (isiK (K := K)) (by rfl) T.free_isinstance (by decide +kernel) (pa_cons (pe_ix (ixT (K := K)) (pv 4) pe_int (fun _ _ => rfl)) (pa_cons (pe_bltn (v := .ty "str") (u := .type "str") (by rfl) T.free_str (by decide +kernel) rfl) pa_nil))))))))))), ?_⟩
    refine ⟨_, rfl, _, _, _, _, true, rfl, .ty _, .base (.tup ha), kit_ty (by decide +kernel), true, rfl, iteF ?_⟩
    refine ⟨_, rfl, a, _, rfl, .inr (SqT.of ha), rfl, _, rfl, iteF ?_⟩
    refine ⟨_, rfl, a, _, rfl, SqT.of ha, rfl, _, _, rfl, _, _, rfl, _, _, rfl, rfl, ?_⟩
    refine ⟨_, rfl, b, 0, 12, rfl, _, rfl, ?_⟩
    have h := h H fun _ _ e => e
    unfold lookB at h
    by_cases c1 : 0 ≤ b ∧ b ≤ 12
    · rw [decide_eq_true c1] at h ⊢
      refine iteF ?_
      refine ⟨_, rfl, _, rfl, _, _, rfl, rfl, k, 0, (n : Int) - 1, rfl, _, rfl, ?_⟩
      by_cases c2 : 0 ≤ k ∧ k ≤ (n : Int) - 1
      · rw [decide_eq_true c2] at h ⊢
        refine iteF ?_
        refine ⟨_, rfl, _, _, _, _, true, rfl, .ty _, .base (.tup hl), kit_ty (by decide +kernel), true, rfl, iteT ?_⟩
        refine ⟨_, rfl, l, _, rfl, .inr (SqT.of hl), _, _, rfl, rfl, ?_⟩
        refine ⟨decide (0 < (((V.str x :: ys).length : Nat) : Int)), rfl, ?_⟩
        rw [decide_eq_true (by rw [List.length_cons]; omega)]
        refine iteT ?_
        exact ⟨_, rfl, l, _, 0, _, rfl, rfl, SqT.of hl, (show atI (V.str x :: ys) ((0 : Nat) : Int) = some (V.str x) from atI_nat rfl), _, _, _, _, true, rfl, .ty _, .base (.str x), kit_ty (by decide +kernel), h⟩
      · rw [decide_eq_false c2] at h ⊢
        exact iteT h
    · rw [decide_eq_false c1] at h ⊢
      exact iteT (iteT h)
/-- the looks of a talk as they stand: a beat, a hand, a look -/
abbrev TLk := Addr × Int × Int × Addr
def TLAt (H : Hp) (q : TLk) : Prop := H q.1 = some (.tup [.int q.2.1, .int q.2.2.1, .ref q.2.2.2]) ∧ LkT H q.2.2.2
def looksB (h : Nat) (M : List (Int × Int)) : Bool := decide (M.length ≤ 6) && (M.all (fun q => lookB h q.1 q.2) && decide ((M.map (·.1)).Pairwise (· ≤ ·)))
theorem ints_eqv (x y : List Int) : PyData.eqv (.list (x.map .int)) (.list (y.map .int)) = decide (x = y) := by
  rw [PyData.eqv]
  exact PySem.W.ked_eqvAll x y
theorem map_range_get {α β : Type} (f : α → β) (d : α) : ∀ (xs : List α), (List.range xs.length).map (fun i => f (xs.getD i d)) = xs.map f := fun xs => by
  refine List.ext_getElem? fun k => ?_
  rw [List.getElem?_map, List.getElem?_map]
  rcases Nat.lt_or_ge k xs.length with h | h
  · rw [List.getElem?_range h, List.getElem?_eq_getElem h]
    show some (f (xs.getD k d)) = some (f xs[k])
    rw [List.getD_eq_getElem?_getD, List.getElem?_eq_getElem h]
    rfl
  · rw [List.getElem?_eq_none h, List.getElem?_eq_none (by rw [List.length_range]; exact h)]
    rfl
def spTLooks : Sp := fun vs H Q _ => ∃ (a : Addr) (h : Nat) (L : List TLk), vs = [.ref a, vI h] ∧ H a = some (.tup (L.map fun q => V.ref q.1)) ∧ (∀ q ∈ L, TLAt H q) ∧ L.length ≤ 60 ∧ ∀ H', Same H H' → Q (.bl (looksB h (L.map fun q => (q.2.1, q.2.2.1)))) H'
theorem sc_are_talk_looks : FnScope ["looks", "many", "beats", "row"] ["looks", "many"] (defScope s_are_talk_looks) := ⟨rfl, rfl, rfl, by decide +kernel, rfl, by decide +kernel, by decide +kernel⟩
theorem ok_tlooks (T : Tx K mg) : Has P w K mg base (He.ga K "are_talk_looks") 4 ["looks", "many"] spTLooks := by
  obtain ⟨⟨fd_is_talk_look, F_is_talk_look, b_is_talk_look⟩, kp_is_talk_look⟩ := ok_tlook (P := P) (w := w) (base := base) T
  obtain ⟨fd, F⟩ := T.d_are_talk_looks
  refine ⟨⟨fd, F.ok sc_are_talk_looks (fun vs H Q E h => ?_) (fun cdv A outer s H vs Q E hr h => ?_), F.bindsN fun _ _ _ _ _ _ us hl => match us, hl with | [_, _], _ => rfl⟩, F.kp⟩
  · obtain ⟨a, h, L, rfl, _⟩ := h
    rfl
  · obtain ⟨a, n, L, rfl, ha, hL, lL, h⟩ := h
    have hr_is_talk_look : Room 3 _ := hr.mono (by decide)
    refine ⟨_, PSs.nox (pss_cons (ps_if (PW.pt (pw_or (pt_not (pt_val (pe_callB (isiTK (K := K)) (by rfl) T.free_isinstance (by decide +kernel) (pa_cons (pv 0) (pa_cons (pe_tup (pa_cons (pe_bltn (v := .ty "list") (u := .type "list") (by rfl) T.free_list (by decide +kernel) rfl) (pa_cons (pe_bltn (v := .ty "tuple") (u := .type "tuple") (by rfl) T.free_tuple (by decide +kernel) rfl) pa_nil))) pa_nil))))) (pw_or1 (pt_cmpR op_gt (pe_callB (lenK (K := K)) (by rfl) T.free_len (by decide +kernel) (pa_cons (pv 0) pa_nil)) (pe_glob (v := .int 6) rfl T.glob_MOST_TALK.choose_spec ⟨_, rfl⟩) (nomark _))))) (pss_one (ps_ret pe_bl)) pss_nil)
      (pss_cons (ps_if (pt_not (pt_val (pe_callB (allK (K := K)) (by rfl) T.free_all (by decide +kernel) (pa_cons (pe_lc (own := [("row", 3)]) (g := (gName 3)) (tt := tYes) rfl sc_are_talk_looks.nd (piT (K := K) (pv 0)) (blkOk_by (by kernel_rfl)) (fun _ _ _ _ _ => (pg_name (i := 3) sc_are_talk_looks.nd rfl (Or.inl rfl))) (fun _ _ _ _ _ => pts_nil) (fun _ _ _ _ _ => (pe_call F_is_talk_look hr_is_talk_look rfl T.glo_is_talk_look kp_is_talk_look b_is_talk_look .nil pass0 (pa_cons (pv 3) (pa_cons (pv 1) pa_nil))))) pa_nil)))) (pss_one (ps_ret pe_bl)) pss_nil)
      (pss_cons (ps_setLc (i := 2) (own := [("row", 3)]) (g := (gName 3)) (tt := tYes) rfl sc_are_talk_looks.nd rfl rfl (sw_true rfl rfl rfl (by decide +kernel)) (piT (K := K) (pv 0)) (blkOk_by (by kernel_rfl)) (fun _ _ _ _ _ => (pg_name (i := 3) sc_are_talk_looks.nd rfl (Or.inl rfl))) (fun _ _ _ _ _ => pts_nil) (fun _ _ _ _ _ => (pe_ix (ixT (K := K)) (pv 3) pe_int (fun _ _ => rfl))))
      (pss_one (ps_ret (pe_cmpR (eqD (K := K) hr.units) (pv 2) (pe_callB (sortLK (K := K)) (by rfl) T.free_sorted (by decide +kernel) (pa_cons (pv 2) pa_nil)) (nomark _))))))), ?_⟩
    have at_ : ∀ {i : Nat} {y : V}, (L.map fun q => V.ref q.1)[i]? = some y → ∃ q, L[i]? = some q ∧ y = V.ref q.1 := fun {i y} e3 => by
      rw [List.getElem?_map] at e3
      cases e : L[i]? with
      | none => rw [e] at e3; cases e3
      | some q => rw [e] at e3; exact ⟨q, rfl, (Option.some.inj e3).symm⟩
    refine ⟨_, rfl, (by show 2 ≤ sizeLine; decide), fun tp htp => ?_⟩
    have s1 := same_upd (o := HO.tup [V.ty "list", V.ty "tuple"]) htp
    have h1 : (upd H tp (HO.tup [V.ty "list", V.ty "tuple"])) tp = some (.tup [V.ty "list", V.ty "tuple"]) := upd_same
    generalize upd H tp (HO.tup [V.ty "list", V.ty "tuple"]) = H1 at s1 h1
    have ha1 := s1 _ _ ha
    refine ⟨_, tp, _, _, _, true, rfl, h1, .cons (.ty _) (.cons (.ty _) .nil), .base (.tup ha1), kitAny_cons (kit_ty (b := "list") (r := false) (by decide +kernel)) (fun _ => kitAny_cons (kit_ty (b := "tuple") (r := true) (by decide +kernel)) (fun z => by cases z) (fun _ => rfl)) (fun z => by cases z), true, rfl, iteF ?_⟩
    refine ⟨_, rfl, a, _, rfl, .inr (SqT.of ha1), _, _, rfl, rfl, _, rfl, ?_⟩
    have eM : (L.map fun q => (q.2.1, q.2.2.1)).length = L.length := List.length_map ..
    by_cases c1 : L.length ≤ 6
    · rw [decide_eq_false (show ¬ (6 : Int) < (((L.map fun q => V.ref q.1).length : Nat) : Int) by rw [List.length_map]; omega)]
      refine iteF ?_
      refine ⟨_, rfl, a, rfl, ⟨_, SqT.of ha1⟩, fun D hD => ?_⟩
      refine lc_val (walk_tup (K := K) (a := a) (xs := L.map fun q => V.ref q.1)) (fun i => .bl ((fun q : Int × Int => lookB n q.1 q.2) ((L.map fun q => (q.2.1, q.2.2.1)).getD i (0, 0)))) (by rw [List.length_map]; omega) hD (fun H2 s2 => SqT.of (s2 _ _ ha1)) ?_ ?_
      · rintro i y H2' H2 Nx hi s2 ⟨rfl, hy⟩ k
        obtain ⟨q, hq, rfl⟩ := at_ hy
        obtain ⟨t1, x, ys, t2⟩ := hL q (List.mem_of_getElem? hq)
        have ez : (L.map fun q => (q.2.1, q.2.2.1)).getD i (0, 0) = (q.2.1, q.2.2.1) := by rw [List.getD_eq_getElem?_getD, List.getElem?_map, hq]; rfl
        rw [ez] at k
        exact ⟨rfl, _, rfl, _, rfl, q.1, q.2.2.2, n, _, _, rfl, s2 _ _ (s1 _ _ t1), ⟨x, ys, s2 _ _ (s1 _ _ t2)⟩, fun H3 s3 => k _ s3⟩
      · intro H2 h2 s2
        have ha2 := s2 _ _ ha1
        refine ⟨D, (L.map fun q => (q.2.1, q.2.2.1)).map (fun q : Int × Int => lookB n q.1 q.2), rfl, SqL.of (by rw [h2, List.length_map, ← eM, ← map_range_get (fun q : Int × Int => lookB n q.1 q.2) (0, 0), List.map_map]; rfl), _, rfl, ?_⟩
        have eA : ((L.map fun q => (q.2.1, q.2.2.1)).map (fun q : Int × Int => lookB n q.1 q.2)).all id = (L.map fun q => (q.2.1, q.2.2.1)).all (fun q : Int × Int => lookB n q.1 q.2) := by rw [List.all_map]; rfl
        rw [eA]
        cases c2 : (L.map fun q => (q.2.1, q.2.2.1)).all (fun q : Int × Int => lookB n q.1 q.2) with
        | false =>
          refine iteT ?_
          have := h H2 (s1.trans s2)
          unfold looksB at this
          rw [c2, Bool.false_and, Bool.and_false] at this
          exact this
        | true =>
          refine iteF ?_
          refine ⟨_, rfl, a, rfl, ⟨_, SqT.of ha2⟩, fun D2 hD2 => ?_⟩
          refine lc_val (walk_tup (K := K) (a := a) (xs := L.map fun q => V.ref q.1)) (fun i => .int ((fun q : Int × Int => q.1) ((L.map fun q => (q.2.1, q.2.2.1)).getD i (0, 0)))) (by rw [List.length_map]; omega) hD2 (fun H3 s3 => SqT.of (s3 _ _ ha2)) ?_ ?_
          · rintro i y H3' H3 Nx hi s3 ⟨rfl, hy⟩ k
            obtain ⟨q, hq, rfl⟩ := at_ hy
            obtain ⟨t1, _⟩ := hL q (List.mem_of_getElem? hq)
            have ez : (L.map fun q => (q.2.1, q.2.2.1)).getD i (0, 0) = (q.2.1, q.2.2.1) := by rw [List.getD_eq_getElem?_getD, List.getElem?_map, hq]; rfl
            rw [ez] at k
            exact ⟨rfl, _, rfl, q.1, _, 0, _, rfl, rfl, SqT.of (s3 _ _ (s2 _ _ (s1 _ _ t1))), rfl, k _ fun _ _ e => e⟩
          · intro H3 h3 s3
            have h3' : H3 D2 = some (.lst (((L.map fun q => (q.2.1, q.2.2.1)).map (·.1)).map V.int)) := by
              rw [h3, List.length_map, ← eM, ← map_range_get (fun q : Int × Int => q.1) (0, 0), List.map_map]
              rfl
            generalize hb : (L.map fun q => (q.2.1, q.2.2.1)).map (·.1) = bs at h3'
            have lb : bs.length = L.length := by rw [← hb, List.length_map, List.length_map]
            refine ⟨_, rfl, _, rfl, D2, bs, rfl, SqL.of h3', by omega, fun ms q pm so hq => ?_⟩
            have s4 := same_upd (o := HO.lst (ms.map V.int)) hq
            have hq4 : (upd H3 q (.lst (ms.map V.int))) q = some (.lst (ms.map V.int)) := upd_same
            refine ⟨.list (bs.map .int), .list (ms.map .int), .lst (SqL.of (s4 _ _ h3')) (dp_ints _), .lst (SqL.of hq4) (dp_ints _), shaped_ints _, shaped_ints _, ?_⟩
            rw [ints_eqv]
            have eS : decide (bs = ms) = decide (bs.Pairwise (· ≤ ·)) := by
              rw [decide_eq_decide]
              refine ⟨fun e => e ▸ so, fun z => List.Perm.eq_of_pairwise (fun a b _ _ h1 h2 => Int.le_antisymm h1 h2) z so pm.symm⟩
            rw [eS]
            have := h _ (((s1.trans s2).trans s3).trans s4)
            unfold looksB at this
            rw [c2, Bool.true_and, eM, decide_eq_true c1, Bool.true_and, hb] at this
            exact this
    · rw [decide_eq_true (show (6 : Int) < (((L.map fun q => V.ref q.1).length : Nat) : Int) by rw [List.length_map]; omega)]
      refine iteT ?_
      have := h H1 s1
      unfold looksB at this
      rw [eM, decide_eq_false c1, Bool.false_and] at this
      exact this
end
end RL
/-! a talk: its making, its hands, looks, letters and when they come -/
namespace RL
open PySem PySem.Spec PyProof.Rows L2 RLM
theorem none_back {H H' : Hp} {a : Addr} (s : Same H H') (h : H' a = none) : H a = none := by
  cases e : H a with
  | none => rfl
  | some o => rw [s _ _ e] at h; cases h
abbrev cT (K : PySem.W.Frag) : Addr := He.ga K "Talk"
def tfs (d r : Addr) : List (Str × V) := putF "rows" (.ref r) (putF "delays" (.ref d) [])
theorem tf_delays (d r : Addr) : (tfs d r).lookup ("delays" : Str) = some (.ref d) := by rfl
theorem tf_rows (d r : Addr) : (tfs d r).lookup ("rows" : Str) = some (.ref r) := by rfl
theorem tf_hands (d r : Addr) : (tfs d r).lookup ("hands" : Str) = none := by rfl
theorem tf_looks (d r : Addr) : (tfs d r).lookup ("looks" : Str) = none := by rfl
theorem tf_letters (d r : Addr) : (tfs d r).lookup ("letters" : Str) = none := by rfl
theorem tf_arrival (d r : Addr) : (tfs d r).lookup ("arrival" : Str) = none := by rfl
theorem tf_contents (d r : Addr) : (tfs d r).lookup ("contents" : Str) = none := by rfl
theorem tf_came (d r : Addr) : (tfs d r).lookup ("came" : Str) = none := by rfl
theorem tf_heard (d r : Addr) : (tfs d r).lookup ("heard" : Str) = none := by rfl
theorem tf_chkhand (d r : Addr) : (tfs d r).lookup ("check_hand" : Str) = none := by rfl
theorem tf_chklost (d r : Addr) : (tfs d r).lookup ("check_lost" : Str) = none := by rfl
theorem tf_comes (d r : Addr) : (tfs d r).lookup ("comes" : Str) = none := by rfl
abbrev DRw := Addr × List Int
/-- delays as they stand -/
structure DelAt (H : Hp) (d : Addr) (D : List DRw) : Prop where
  at_ : H d = some (.tup (D.map fun q => V.ref q.1))
  row : ∀ q ∈ D, H q.1 = some (.tup (q.2.map V.int)) ∧ q.2.length ≤ 60
  ok : delB (D.map (·.2)) = true
theorem DelAt.same {H H' : Hp} {d : Addr} {D : List DRw} (s : Same H H') (h : DelAt H d D) : DelAt H' d D :=
  ⟨s _ _ h.at_, fun q hq => ⟨s _ _ (h.row q hq).1, (h.row q hq).2⟩, h.ok⟩
theorem DelAt.len {H : Hp} {d : Addr} {D : List DRw} (h : DelAt H d D) : 2 ≤ D.length ∧ D.length ≤ 4 := by
  have := h.ok
  unfold delB at this
  rw [Bool.and_eq_true, List.length_map] at this
  exact of_decide_eq_true this.1
theorem TLAt.same {H H' : Hp} {q : TLk} (s : Same H H') (h : TLAt H q) : TLAt H' q := by
  obtain ⟨h1, x, ys, h2⟩ := h
  exact ⟨s _ _ h1, x, ys, s _ _ h2⟩
abbrev bk (M : List TLk) : List (Int × Int) := M.map fun q => (q.2.1, q.2.2.1)
structure TalkAt (K : PySem.W.Frag) (H : Hp) (x : Addr) (D : List DRw) (M : List TLk) : Prop where
  ex : ∃ dx d r, H x = some (.ins (cT K) dx (tfs d r)) ∧ DelAt H d D ∧ H r = some (.lst (M.map fun q => V.ref q.1))
  tl : ∀ q ∈ M, TLAt H q
  ok : looksB D.length (bk M) = true
theorem TalkAt.same {K : PySem.W.Frag} {H H' : Hp} {x : Addr} {D : List DRw} {M : List TLk} (s : Same H H') (h : TalkAt K H x D M) : TalkAt K H' x D M := by
  obtain ⟨dx, d, r, h1, h2, h3⟩ := h.ex
  exact ⟨⟨dx, d, r, s _ _ h1, h2.same s, s _ _ h3⟩, fun q hq => (h.tl q hq).same s, h.ok⟩
theorem looks_len {h : Nat} {M : List TLk} (k : looksB h (bk M) = true) : M.length ≤ 6 := by
  unfold looksB at k
  rw [Bool.and_eq_true, List.length_map] at k
  exact of_decide_eq_true k.1
theorem looks_at {h : Nat} {M : List TLk} (k : looksB h (bk M) = true) {q : TLk} (hq : q ∈ M) : 0 ≤ q.2.1 ∧ q.2.1 ≤ 12 ∧ 0 ≤ q.2.2.1 ∧ q.2.2.1 < (h : Int) := by
  unfold looksB at k
  rw [Bool.and_eq_true, Bool.and_eq_true] at k
  have := List.all_eq_true.mp k.2.1 _ (List.mem_map.mpr ⟨q, hq, rfl⟩)
  unfold lookB at this
  rw [Bool.and_eq_true] at this
  have h1 := of_decide_eq_true this.1
  have h2 := of_decide_eq_true this.2
  omega
section
variable {P : Program} {w : World} {K : PySem.W.Frag} {mg : Str → Option Value} {base : Heap}
def spTInit (K : PySem.W.Frag) : Sp := fun vs H Q _ => ∃ (H0 : Hp) (x dx d m : Addr) (D : List DRw) (M : List TLk), vs = [.ref x, .ref d, .ref m] ∧ Same H0 H ∧ H0 x = none ∧ H x = some (.ins (cT K) dx []) ∧ DelAt H0 d D ∧ H0 m = some (.tup (M.map fun q => V.ref q.1)) ∧ (∀ q ∈ M, TLAt H0 q) ∧ looksB D.length (bk M) = true ∧
  ∀ H' r, H' x = some (.ins (cT K) dx (tfs d r)) → DelAt H' d D → H' r = some (.lst (M.map fun q => V.ref q.1)) → (∀ q ∈ M, TLAt H' q) → H0 r = none → Same H0 H' → Q .non H'
theorem sc_Talk_init : FnScope ["self", "delays", "looks"] ["self", "delays", "looks"] (defScope s_Talk_init) := ⟨rfl, rfl, rfl, by decide +kernel, rfl, by decide +kernel, by decide +kernel⟩
theorem ok_tinit (T : Tx K mg) : Has P w K mg base (mC K "Talk" "__init__") 5 ["self", "delays", "looks"] (spTInit K) := by
  obtain ⟨⟨fd_are_delays, F_are_delays, b_are_delays⟩, kp_are_delays⟩ := ok_dels (P := P) (w := w) (base := base) T
  obtain ⟨⟨fd_are_talk_looks, F_are_talk_looks, b_are_talk_looks⟩, kp_are_talk_looks⟩ := ok_tlooks (P := P) (w := w) (base := base) T
  obtain ⟨fd, F⟩ := T.d_Talk_init
  refine ⟨⟨fd, F.ok sc_Talk_init (fun vs H Q E h => ?_) (fun cdv A outer s H vs Q E hr h => ?_), F.bindsN fun _ _ _ _ _ _ us hl => match us, hl with | [_, _, _], _ => rfl⟩, F.kp⟩
  · obtain ⟨H0, x, dx, d, m, D, M, rfl, _⟩ := h
    rfl
  · obtain ⟨H0, x, dx, d, m, D, M, rfl, s0, x0, hx, DA, hm, tM, ok, h⟩ := h
    have hr_are_delays : Room 4 _ := hr.mono (by decide)
    have hr_are_talk_looks : Room 4 _ := hr.mono (by decide)
    refine ⟨_, PSs.nox (pss_cons (ps_if (pt_not (pt_val (pe_call F_are_delays hr_are_delays rfl T.glo_are_delays kp_are_delays b_are_delays .nil pass0 (pa_cons (pv 1) pa_nil)))) (pss_one ps_never) pss_nil)
      (pss_cons (ps_if (pt_not (pt_val (pe_call F_are_talk_looks hr_are_talk_looks rfl T.glo_are_talk_looks kp_are_talk_looks b_are_talk_looks .nil pass0 (pa_cons (pv 2) (pa_cons (pe_callB (lenK (K := K)) (by rfl) T.free_len (by decide +kernel) (pa_cons (pv 1) pa_nil)) pa_nil))))) (pss_one ps_never) pss_nil)
      (pss_cons (ps_fld (pv 0) (pv 1) rfl)
      (pss_one (ps_fld (pv 0) (pe_callTy (listK (K := K)) (by rfl) T.free_list (by decide +kernel) (pa_cons (pv 2) pa_nil)) rfl))))), ?_⟩
    have l4 := DA.len
    have l6 := looks_len ok
    refine ⟨_, rfl, d, D, rfl, s0 _ _ DA.at_, fun q hq => ⟨s0 _ _ (DA.row q hq).1, (DA.row q hq).2⟩, by omega, fun H1 s1 => ?_⟩
    refine ⟨true, by rw [DA.ok], iteF ?_⟩
    have s01 := s0.trans s1
    refine ⟨_, rfl, _, rfl, d, _, rfl, .inr (SqT.of (s01 _ _ DA.at_)), m, D.length, M, (by rw [List.length_map]; rfl), s01 _ _ hm, fun q hq => (tM q hq).same s01, by omega, fun H2 s2 => ?_⟩
    refine ⟨true, by rw [ok], iteF ?_⟩
    have s02 := s01.trans s2
    refine ⟨_, rfl, _, rfl, x, _, dx, _, rfl, s2 _ _ (s1 _ _ hx), T.cl_Talk, T.n_Talk_delays, (by show 0 < 1000; decide), ?_⟩
    have s3 : Same H0 (upd H2 x (.ins (cT K) dx (putF "delays" (.ref d) []))) := same_mut s02 x0
    have hx3 : (upd H2 x (.ins (cT K) dx (putF "delays" (.ref d) []))) x = some (.ins (cT K) dx (putF "delays" (.ref d) [])) := upd_same
    generalize upd H2 x (.ins (cT K) dx (putF "delays" (.ref d) [])) = H3 at s3 hx3
    refine ⟨_, rfl, m, _, rfl, .inr (SqT.of (s3 _ _ hm)), fun r hr0 => ?_⟩
    have s4 := same_upd (o := HO.lst (M.map fun q => V.ref q.1)) hr0
    have hr4 : (upd H3 r (.lst (M.map fun q => V.ref q.1))) r = some (.lst (M.map fun q => V.ref q.1)) := upd_same
    have s34 := s3.trans s4
    generalize upd H3 r (.lst (M.map fun q => V.ref q.1)) = H4 at s4 hr4 s34
    have hx4 := s4 _ _ hx3
    have nrx : r ≠ x := ne_of hr4 hx4 (by intro z; cases z)
    refine ⟨_, rfl, x, _, dx, _, rfl, hx4, T.cl_Talk, T.n_Talk_rows, (by show 1 < 1000; decide), ?_⟩
    have s5 : Same H0 (upd H4 x (.ins (cT K) dx (tfs d r))) := same_mut s34 x0
    refine h _ r upd_same (DA.same s5) ?_ (fun q hq => (tM q hq).same s5) (none_back s3 hr0) s5
    rw [upd_ne nrx]
    exact hr4
def spHands (K : PySem.W.Frag) : Sp := fun vs H Q _ => ∃ (x : Addr) (D : List DRw) (M : List TLk), vs = [.ref x] ∧ TalkAt K H x D M ∧ Q (vI D.length) H
theorem sc_Talk_hands : FnScope ["self"] ["self"] (defScope s_Talk_hands) := ⟨rfl, rfl, rfl, by decide +kernel, rfl, by decide +kernel, by decide +kernel⟩
theorem ok_hands (T : Tx K mg) : Has P w K mg base (mC K "Talk" "hands") 1 ["self"] (spHands K) := by
  obtain ⟨fd, F⟩ := T.d_Talk_hands
  refine ⟨⟨fd, F.ok sc_Talk_hands (fun vs H Q E h => ?_) (fun cdv A outer s H vs Q E hr h => ?_), F.bindsN fun _ _ _ _ _ _ us hl => match us, hl with | [_], _ => rfl⟩, F.kp⟩
  · obtain ⟨x, D, M, rfl, _⟩ := h
    rfl
  · obtain ⟨x, D, M, rfl, TA, h⟩ := h
    refine ⟨_, PSs.nox (pss_one (ps_ret (pe_callB (lenK (K := K)) (by rfl) T.free_len (by decide +kernel) (pa_cons (fldK (K := K) (pv 0) rfl) pa_nil)))), ?_⟩
    obtain ⟨dx, d, r, hx, DA, hr⟩ := TA.ex
    refine ⟨_, rfl, x, _, dx, _, _, rfl, hx, T.cl_Talk, T.n_Talk_delays, tf_delays _ _, d, _, rfl, .inr (SqT.of DA.at_), ?_⟩
    rw [List.length_map]
    exact h
def spTLooksL (K : PySem.W.Frag) : Sp := fun vs H Q _ => ∃ (x : Addr) (D : List DRw) (M : List TLk), vs = [.ref x] ∧ TalkAt K H x D M ∧ ∀ H' l, H l = none → H' l = some (.lst (M.map fun q => V.ref q.1)) → Same H H' → Q (.ref l) H'
theorem sc_Talk_looks : FnScope ["self"] ["self"] (defScope s_Talk_looks) := ⟨rfl, rfl, rfl, by decide +kernel, rfl, by decide +kernel, by decide +kernel⟩
theorem ok_looks (T : Tx K mg) : Has P w K mg base (mC K "Talk" "looks") 1 ["self"] (spTLooksL K) := by
  obtain ⟨fd, F⟩ := T.d_Talk_looks
  refine ⟨⟨fd, F.ok sc_Talk_looks (fun vs H Q E h => ?_) (fun cdv A outer s H vs Q E hr h => ?_), F.bindsN fun _ _ _ _ _ _ us hl => match us, hl with | [_], _ => rfl⟩, F.kp⟩
  · obtain ⟨x, D, M, rfl, _⟩ := h
    rfl
  · obtain ⟨x, D, M, rfl, TA, h⟩ := h
    refine ⟨_, PSs.nox (pss_one (ps_ret (pe_callTy (listK (K := K)) (by rfl) T.free_list (by decide +kernel) (pa_cons (fldK (K := K) (pv 0) rfl) pa_nil)))), ?_⟩
    obtain ⟨dx, d, r, hx, DA, hr⟩ := TA.ex
    refine ⟨_, rfl, x, _, dx, _, _, rfl, hx, T.cl_Talk, T.n_Talk_rows, tf_rows _ _, r, _, rfl, .inl (SqL.of hr), fun l hl => ?_⟩
    exact h _ l hl upd_same (same_upd hl)
def delayAt (D : List (List Int)) (k : Int) (o : Nat) : Int := (D.getD k.toNat []).getD o 0
theorem del_row {D : List (List Int)} (h : delB D = true) {k : Nat} (hk : k < D.length) : ∃ zs, D[k]? = some zs ∧ zs.length = D.length := by
  refine ⟨D[k], List.getElem?_eq_getElem hk, ?_⟩
  unfold delB at h
  rw [Bool.and_eq_true, List.all_eq_true] at h
  have := h.2 _ (List.mem_map.mpr ⟨k, List.mem_range.mpr hk, rfl⟩)
  simp only [id] at this
  unfold rowB at this
  rw [Bool.and_eq_true, List.getD_eq_getElem?_getD, List.getElem?_eq_getElem hk] at this
  exact of_decide_eq_true this.1
def spArrival (K : PySem.W.Frag) : Sp := fun vs H Q _ => ∃ (x : Addr) (D : List DRw) (M : List TLk) (i o : Nat) (q : TLk), vs = [.ref x, vI i, vI o] ∧ TalkAt K H x D M ∧ M[i]? = some q ∧ o < D.length ∧ Q (.int (q.2.1 + delayAt (D.map (·.2)) q.2.2.1 o)) H
theorem sc_Talk_arrival : FnScope ["self", "number", "other", "beat", "hand", "look"] ["self", "number", "other"] (defScope s_Talk_arrival) := ⟨rfl, rfl, rfl, by decide +kernel, rfl, by decide +kernel, by decide +kernel⟩
theorem ok_arrival (T : Tx K mg) : Has P w K mg base (mC K "Talk" "arrival") 1 ["self", "number", "other"] (spArrival K) := by
  obtain ⟨fd, F⟩ := T.d_Talk_arrival
  refine ⟨⟨fd, F.ok sc_Talk_arrival (fun vs H Q E h => ?_) (fun cdv A outer s H vs Q E hr h => ?_), F.bindsN fun _ _ _ _ _ _ us hl => match us, hl with | [_, _, _], _ => rfl⟩, F.kp⟩
  · obtain ⟨x, D, M, i, o, q, rfl, _⟩ := h
    rfl
  · obtain ⟨x, D, M, i, o, q, rfl, TA, hq, ho, h⟩ := h
    refine ⟨_, PSs.nox (pss_cons (ps_asg (pe_ix (ixL (K := K)) (fldK (K := K) (pv 0) rfl) (pv 1) (fun _ _ => rfl)) (pgT (K := K) (n := 3) rfl (pgs_cons (pg_name (i := 3) sc_Talk_arrival.nd rfl (Or.inl rfl)) (pgs_cons (pg_name (i := 4) sc_Talk_arrival.nd rfl (Or.inl rfl)) (pgs_cons (pg_name (i := 5) sc_Talk_arrival.nd rfl (Or.inl rfl)) pgs_nil)))))
      (pss_one (ps_ret (pe_op op_add (pv 3) (pe_ix (ixT (K := K)) (pe_ix (ixT (K := K)) (fldK (K := K) (pv 0) rfl) (pv 4) (fun _ _ => rfl)) (pv 2) (fun _ _ => rfl)))))), ?_⟩
    obtain ⟨dx, d, r, hx, DA, hr⟩ := TA.ex
    have lk := looks_at TA.ok (List.mem_of_getElem? hq)
    obtain ⟨t1, _⟩ := TA.tl q (List.mem_of_getElem? hq)
    obtain ⟨b, k, l, ea⟩ : ∃ b k l, q.2 = (b, k, l) := ⟨_, _, _, rfl⟩
    obtain ⟨qa, b, k, l⟩ := q
    obtain ⟨kn, rfl⟩ : ∃ kn : Nat, k = (kn : Int) := ⟨k.toNat, by have := lk.2.2; simp only at this; omega⟩
    have kl : kn < D.length := by have := lk.2.2; simp only at this; omega
    obtain ⟨zs, hz, lz⟩ := del_row DA.ok (k := kn) (by rw [List.length_map]; exact kl)
    obtain ⟨dr, hd, rfl⟩ : ∃ dr : DRw, D[kn]? = some dr ∧ dr.2 = zs := by
      rw [List.getElem?_map] at hz
      cases e : D[kn]? with
      | none => rw [e] at hz; cases hz
      | some dr => rw [e] at hz; exact ⟨dr, rfl, Option.some.inj hz⟩
    rw [List.length_map] at lz
    have rd := DA.row dr (List.mem_of_getElem? hd)
    have hv : dr.2[o]? = some (delayAt (D.map (·.2)) (kn : Int) o) := by
      unfold delayAt
      rw [Int.toNat_natCast, List.getD_eq_getElem?_getD, List.getD_eq_getElem?_getD, hz, Option.getD_some, List.getElem?_eq_getElem (by omega)]
      rfl
    refine ⟨_, rfl, x, _, dx, _, _, rfl, hx, T.cl_Talk, T.n_Talk_rows, tf_rows _ _, _, rfl, r, _, _, _, rfl, rfl, SqL.of hr, atI_nat (get_map hq), qa, _, rfl, SqT.of t1, rfl, _, _, rfl, _, _, rfl, _, _, rfl, rfl, ?_⟩
    exact ⟨_, rfl, _, rfl, x, _, dx, _, _, rfl, hx, T.cl_Talk, T.n_Talk_delays, tf_delays _ _, _, rfl, d, _, _, _, rfl, rfl, SqT.of DA.at_, atI_nat (get_map hd), _, rfl, dr.1, _, _, _, rfl, rfl, SqT.of rd.1, atI_nat (get_map hv), _, _, rfl, rfl, h⟩
/-- the letters of a talk -/
def ltrs (h : Nat) (ks : List Int) : List (Nat × Nat) := (List.range ks.length).flatMap fun i => ((List.range h).filter fun o : Nat => !decide ((o : Int) = ks.getD i 0)).map fun o => (i, o)
def ltrsTo (h : Nat) (ks : List Int) (i : Nat) : List (Nat × Nat) := (List.range i).flatMap fun i => ((List.range h).filter fun o : Nat => !decide ((o : Int) = ks.getD i 0)).map fun o => (i, o)
def ltrsIn (h : Nat) (k : Int) (i : Nat) : List (Nat × Nat) := ((List.range h).filter fun o : Nat => !decide ((o : Int) = k)).map fun o => (i, o)
theorem ltrsTo_succ (h : Nat) (ks : List Int) (i : Nat) : ltrsTo h ks (i + 1) = ltrsTo h ks i ++ ltrsIn h (ks.getD i 0) i := by
  unfold ltrsTo ltrsIn
  rw [List.range_succ, List.flatMap_append]
  simp
theorem ltrsIn_succ (h : Nat) (k : Int) (i : Nat) : ltrsIn (h + 1) k i = ltrsIn h k i ++ (if (h : Int) = k then [] else [(i, h)]) := by
  unfold ltrsIn
  rw [List.range_succ, List.filter_append, List.map_append]
  congr 1
  by_cases c : (h : Int) = k
  · simp [c]
  · simp [c]
theorem ltrsIn_len (h : Nat) (k : Int) (i : Nat) : (ltrsIn h k i).length ≤ h := by
  unfold ltrsIn
  rw [List.length_map]
  exact Nat.le_trans (List.length_filter_le _ _) (Nat.le_of_eq List.length_range)
theorem ltrsTo_len (h : Nat) (ks : List Int) (i : Nat) : (ltrsTo h ks i).length ≤ i * h := by
  induction i with
  | zero => simp [ltrsTo]
  | succ i ih =>
    rw [ltrsTo_succ, List.length_append, Nat.succ_mul]
    have := ltrsIn_len h (ks.getD i 0) i
    omega
/-- a list of pairs as it stands -/
structure LtAt (H : Hp) (l : Addr) (L : List (Addr × Nat × Nat)) : Prop where
  at_ : H l = some (.lst (L.map fun q => V.ref q.1))
  tup : ∀ q ∈ L, H q.1 = some (.tup [vI q.2.1, vI q.2.2])
theorem LtAt.same {H H' : Hp} {l : Addr} {L : List (Addr × Nat × Nat)} (s : Same H H') (h : LtAt H l L) : LtAt H' l L := ⟨s _ _ h.at_, fun q hq => s _ _ (h.tup q hq)⟩
def spLetters (K : PySem.W.Frag) : Sp := fun vs H Q _ => ∃ (x : Addr) (D : List DRw) (M : List TLk), vs = [.ref x] ∧ TalkAt K H x D M ∧ ∀ H' l L, H l = none → LtAt H' l L → L.map (·.2) = ltrs D.length (M.map (·.2.2.1)) → Same H H' → Q (.ref l) H'
theorem sc_Talk_letters : FnScope ["self", "number", "row", "other"] ["self"] (defScope s_Talk_letters) := ⟨rfl, rfl, rfl, by decide +kernel, rfl, by decide +kernel, by decide +kernel⟩
theorem ok_letters (T : Tx K mg) : Has P w K mg base (mC K "Talk" "letters") 2 ["self"] (spLetters K) := by
  obtain ⟨⟨fd_hands, F_hands, b_hands⟩, kp_hands⟩ := ok_hands (P := P) (w := w) (base := base) T
  obtain ⟨fd, F⟩ := T.d_Talk_letters
  refine ⟨⟨fd, F.ok sc_Talk_letters (fun vs H Q E h => ?_) (fun cdv A outer s H vs Q E hr h => ?_), F.bindsN fun _ _ _ _ _ _ us hl => match us, hl with | [_], _ => rfl⟩, F.kp⟩
  · obtain ⟨x, D, M, rfl, _⟩ := h
    rfl
  · obtain ⟨x, D, M, rfl, TA, h⟩ := h
    have hr_hands : Room 1 _ := hr.mono (by decide)
    refine ⟨_, PSs.nox (pss_one (ps_ret (pe_lc2 (own := [("number", 1), ("row", 2), ("other", 3)]) (vs1 := [3]) (tt := tYes) (g1 := (gName 3)) rfl sc_Talk_letters.nd (piEnum (K := K) (by rfl) T.free_enumerate (pa_cons (fldK (K := K) (pv 0) rfl) pa_nil)) (blkOk_by (by kernel_rfl)) (by decide) (fun _ _ _ _ _ => (pgT (K := K) (n := 2) rfl (pgs_cons (pg_name (i := 1) sc_Talk_letters.nd rfl (Or.inl rfl)) (pgs_cons (pg_name (i := 2) sc_Talk_letters.nd rfl (Or.inl rfl)) pgs_nil)))) (fun _ _ _ _ _ => pts_nil) (fun _ _ _ _ _ => (pi_range1 (by rfl) T.free_range (pa_cons (pe_meth0 (pv 0) T.cl_Talk T.m_Talk_hands F_hands hr_hands b_hands .nil pass0) pa_nil))) (fun _ _ _ _ _ => (pg_name (i := 3) sc_Talk_letters.nd rfl (Or.inl rfl))) (fun _ _ _ _ _ => (pts_one (pt_cmpR op_ne (pv 3) (pe_ix (ixT (K := K)) (pv 2) pe_int (fun _ _ => rfl)) (nomark _)))) (fun _ _ _ _ _ => (pe_tup (pa_cons (pv 1) (pa_cons (pv 3) pa_nil))))))), ?_⟩
    obtain ⟨dx, d, r, hx, DA, hr⟩ := TA.ex
    have l4 := DA.len
    have l6 := looks_len TA.ok
    refine ⟨_, rfl, x, _, dx, _, _, rfl, hx, T.cl_Talk, T.n_Talk_rows, tf_rows _ _, r, _, rfl, SqL.of hr, fun l hl => ?_⟩
    refine it_any (walk_enum (K := K) (a := r) (xs := M.map fun q => V.ref q.1)) (fun i H1 => ∃ L : List (Addr × Nat × Nat), LtAt H1 l L ∧ L.map (·.2) = ltrsTo D.length (M.map (·.2.2.1)) i ∧ Same H H1) ⟨[], ⟨upd_same, fun q hq => nomatch hq⟩, rfl, same_upd hl⟩ (fun i H1 _ ⟨_, _, _, s1⟩ => SqL.of (s1 _ _ hr)) ?_ ?_
    · rintro i y H1 H2 hi ⟨L, LA, eL, s1⟩ ⟨t, y1, y2, rfl, ht, rfl, e1, e2⟩
      cases (Option.some.inj e1)
      obtain ⟨q, hq, rfl⟩ : ∃ q, M[i]? = some q ∧ y2 = V.ref q.1 := by
        have e3 : (M.map fun q => V.ref q.1)[i]? = some y2 := e2
        rw [List.getElem?_map] at e3
        cases e : M[i]? with
        | none => rw [e] at e3; cases e3
        | some q => rw [e] at e3; exact ⟨q, rfl, (Option.some.inj e3).symm⟩
      have il : i < M.length := (List.getElem?_eq_some_iff.mp hq).1
      have s2 : Same H1 (upd H1 t (.tup [.int (i : Nat), .ref q.1])) := same_upd ht
      have ek : (M.map (·.2.2.1)).getD i 0 = q.2.2.1 := by rw [List.getD_eq_getElem?_getD, List.getElem?_map, hq]; rfl
      refine ⟨t, _, rfl, SqT.of upd_same, rfl, _, _, rfl, _, _, rfl, rfl, rfl, yesT ?_⟩
      generalize upd H1 t (.tup [.int (i : Nat), .ref q.1]) = H2 at s2
      have s12 := s1.trans s2
      have LA2 := LA.same s2
      refine ⟨_, rfl, x, dx, _, rfl, s12 _ _ hx, tf_hands _ _, x, D, M, rfl, TA.same s12, (D.length : Int), rfl, by omega, by omega, ?_⟩
      obtain ⟨t1, _⟩ := TA.tl q (List.mem_of_getElem? hq)
      rw [Int.toNat_natCast]
      refine it_any (walk_range (lo := 0) (n := D.length)) (fun o H3 => ∃ L : List (Addr × Nat × Nat), LtAt H3 l L ∧ L.map (·.2) = ltrsTo D.length (M.map (·.2.2.1)) i ++ ltrsIn o q.2.2.1 i ∧ Same H H3) ⟨L, LA2, by rw [eL]; simp [ltrsIn], s12⟩ (fun _ _ _ _ => trivial) ?_ ?_
      · rintro o y Hw H3 ho ⟨L3, LA3, eL3, s3⟩ ⟨rfl, rfl⟩
        have lL : L3.length ≤ 6 * 4 + 4 := by
          have e := congrArg List.length eL3
          rw [List.length_map, List.length_append] at e
          have h1 := ltrsTo_len D.length (M.map (·.2.2.1)) i
          have h2 := ltrsIn_len o q.2.2.1 i
          have h3 : i * D.length ≤ 6 * 4 := Nat.mul_le_mul (by omega) l4.2
          omega
        refine ⟨rfl, _, rfl, _, rfl, q.1, _, 1, _, rfl, rfl, SqT.of (s3 _ _ t1), rfl, rfl, _, rfl, ?_⟩
        have eb : (!decide (V.int (0 + ((o : Nat) : Int)) = V.int q.2.2.1)) = !decide ((o : Int) = q.2.2.1) := by
          congr 1
          rw [decide_eq_decide, Int.zero_add]
          exact ⟨fun z => by injection z, fun z => by rw [z]⟩
        show if (!decide (V.int (0 + ((o : Nat) : Int)) = V.int q.2.2.1)) = true then _ else _
        rw [eb]
        by_cases c : (o : Int) = q.2.2.1
        · rw [decide_eq_true c]
          refine iteF ?_
          exact ⟨L3, LA3, by rw [eL3, ltrsIn_succ, if_pos c, List.append_nil], s3⟩
        · rw [decide_eq_false c]
          refine iteT ?_
          refine ⟨_, rfl, _, rfl, (by show 2 ≤ sizeLine; decide), fun t2 ht2 => ?_⟩
          have s4 := same_upd (o := HO.tup [.int (i : Nat), .int (0 + ((o : Nat) : Int))]) ht2
          have h4 : (upd H3 t2 (.tup [.int (i : Nat), .int (0 + ((o : Nat) : Int))])) t2 = some (.tup [.int (i : Nat), .int (0 + ((o : Nat) : Int))]) := upd_same
          generalize upd H3 t2 (.tup [.int (i : Nat), .int (0 + ((o : Nat) : Int))]) = H4 at s4 h4
          have LA4 := LA3.same s4
          have tl : t2 ≠ l := ne_of h4 LA4.at_ (by intro z; cases z)
          refine ⟨_, LA4.at_, ?_, L3 ++ [(t2, i, o)], ⟨?_, fun m hm => ?_⟩, ?_, same_mut (s3.trans s4) hl⟩
          · rw [List.length_map]
            exact Nat.lt_of_le_of_lt (show L3.length ≤ 28 by omega) (by decide)
          · rw [upd_same, List.map_append]
            rfl
          · rcases List.mem_append.mp hm with hm | hm
            · have g := LA4.tup m hm
              rw [upd_ne (ne_of g LA4.at_ (by intro z; cases z))]
              exact g
            · rw [List.mem_singleton.mp hm, upd_ne tl, h4, Int.zero_add]
              rfl
          · rw [List.map_append, eL3, ltrsIn_succ, if_neg c, List.append_assoc]
            rfl
      · rintro H3 ⟨L3, LA3, eL3, s3⟩
        exact ⟨L3, LA3, by rw [eL3, ltrsTo_succ, ek], s3⟩
    · rintro H1 ⟨L, LA, eL, s1⟩
      rw [List.length_map] at eL
      exact h H1 l L hl LA (by rw [eL]; unfold ltrs ltrsTo; rw [List.length_map]) s1
end
theorem ltrs_len (h : Nat) (ks : List Int) : (ltrs h ks).length ≤ ks.length * h := ltrsTo_len h ks ks.length
theorem ltrs_mem {h : Nat} {ks : List Int} {p : Nat × Nat} (m : p ∈ ltrs h ks) : p.1 < ks.length ∧ p.2 < h ∧ (p.2 : Int) ≠ ks.getD p.1 0 := by
  unfold ltrs at m
  obtain ⟨i, hi, m⟩ := List.mem_flatMap.mp m
  obtain ⟨o, ho, rfl⟩ := List.mem_map.mp m
  obtain ⟨h1, h2⟩ := List.mem_filter.mp ho
  refine ⟨List.mem_range.mp hi, List.mem_range.mp h1, ?_⟩
  simpa using h2
end RL
/-! when a letter comes, or that there is none -/
namespace RL
open PySem PySem.Spec PyProof.Rows L2 RLM
theorem notDK {X : Cx} {K : PySem.W.Frag} (hu : X.A.units + 65 < cLine) (h : X.K = K := by rfl) : OpR X (compareOp .NotIn) (rNotInD K) := h ▸ op_notInD hu
theorem lotZ_eqv (x y : List Int) : PyData.eqv (lotD x) (lotD y) = decide (x = y) := by
  unfold lotD
  rw [PyData.eqv]
  exact PySem.W.ked_eqvAll x y
theorem lotZ_any (xs : List (List Int)) (y : List Int) : ((xs.map lotD).any fun z => PyData.eqv z (lotD y)) = decide (y ∈ xs) := by
  rw [Bool.eq_iff_iff, List.any_eq_true, decide_eq_true_iff]
  constructor
  · rintro ⟨z, hz, e⟩
    obtain ⟨x, hx, rfl⟩ := List.mem_map.mp hz
    rw [lotZ_eqv] at e
    rw [← of_decide_eq_true e]
    exact hx
  · intro h
    exact ⟨_, List.mem_map.mpr ⟨_, h, rfl⟩, by rw [lotZ_eqv]; exact decide_eq_true rfl⟩
def zPair (p : Nat × Nat) : List Int := [(p.1 : Int), (p.2 : Int)]
theorem zPair_inj {p q : Nat × Nat} (h : zPair p = zPair q) : p = q := by
  unfold zPair at h
  injection h with h1 h2
  injection h2 with h2 _
  exact Prod.ext (by omega) (by omega)
theorem LtAt.dp {K : PySem.W.Frag} {H : Hp} {l : Addr} {L : List (Addr × Nat × Nat)} (h : LtAt H l L) : Dp K H (.ref l) (.list (((L.map (·.2)).map zPair).map lotD)) := by
  have := dp_rowsZ (K := K) (H := H) (l := l) (L := L.map fun q => (q.1, zPair q.2)) (by rw [h.at_, List.map_map]; rfl) fun q hq => by
    obtain ⟨p, hp, rfl⟩ := List.mem_map.mp hq
    exact h.tup p hp
  rw [show ((L.map fun q => (q.1, zPair q.2)).map (·.2)) = (L.map (·.2)).map zPair by rw [List.map_map, List.map_map]; rfl] at this
  exact this
theorem shaped_lot (zs : List Int) : SeqAt.shaped (lotD zs) = true := shaped_tup zs
section
variable {P : Program} {w : World} {K : PySem.W.Frag} {mg : Str → Option Value} {base : Heap}
def spComes (K : PySem.W.Frag) : Sp := fun vs H Q _ => ∃ (x t : Addr) (D : List DRw) (M : List TLk) (i o : Nat) (q : TLk), vs = [.ref x, .ref t] ∧ TalkAt K H x D M ∧ H t = some (.tup [vI i, vI o]) ∧ (i, o) ∈ ltrs D.length (M.map (·.2.2.1)) ∧ M[i]? = some q ∧ o < D.length ∧
  ∀ H', Same H H' → Q (.int (q.2.1 + delayAt (D.map (·.2)) q.2.2.1 o)) H'
theorem sc_Talk_comes : FnScope ["self", "letter", "number", "other"] ["self", "letter"] (defScope s_Talk_comes) := ⟨rfl, rfl, rfl, by decide +kernel, rfl, by decide +kernel, by decide +kernel⟩
theorem ok_comes (T : Tx K mg) : Has P w K mg base (mC K "Talk" "comes") 4 ["self", "letter"] (spComes K) := by
  obtain ⟨⟨fd_letters, F_letters, b_letters⟩, kp_letters⟩ := ok_letters (P := P) (w := w) (base := base) T
  obtain ⟨⟨fd_arrival, F_arrival, b_arrival⟩, kp_arrival⟩ := ok_arrival (P := P) (w := w) (base := base) T
  obtain ⟨fd, F⟩ := T.d_Talk_comes
  refine ⟨⟨fd, F.ok sc_Talk_comes (fun vs H Q E h => ?_) (fun cdv A outer s H vs Q E hr h => ?_), F.bindsN fun _ _ _ _ _ _ us hl => match us, hl with | [_, _], _ => rfl⟩, F.kp⟩
  · obtain ⟨x, t, D, M, i, o, q, rfl, _⟩ := h
    rfl
  · obtain ⟨x, t, D, M, i, o, q, rfl, TA, ht, hm, hq, ho, h⟩ := h
    have hr_letters : Room 2 _ := hr.mono (by decide)
    have hr_arrival : Room 1 _ := hr.mono (by decide)
    refine ⟨_, PSs.nox (pss_cons (ps_if (pt_cmpR (notDK (K := K) (hr65 hr)) (pv 1) (pe_meth0 (pv 0) T.cl_Talk T.m_Talk_letters F_letters hr_letters b_letters .nil pass0) (by rfl)) (pss_one ps_never) pss_nil)
      (pss_cons (ps_asg (pv 1) (pgT (K := K) (n := 2) rfl (pgs_cons (pg_name (i := 2) sc_Talk_comes.nd rfl (Or.inl rfl)) (pgs_cons (pg_name (i := 3) sc_Talk_comes.nd rfl (Or.inl rfl)) pgs_nil))))
      (pss_one (ps_ret (pe_meth (pv 0) T.cl_Talk T.m_Talk_arrival F_arrival hr_arrival b_arrival .nil pass0 (pa_cons (pv 2) (pa_cons (pv 3) pa_nil))))))), ?_⟩
    obtain ⟨dx, d, r, hx, DA, hr'⟩ := TA.ex
    refine ⟨_, rfl, _, rfl, x, dx, _, rfl, hx, tf_letters _ _, x, D, M, rfl, TA, fun H1 l L hl LA eL s1 => ?_⟩
    refine ⟨lotD [(i : Int), (o : Int)], _, .tup (SqT.of (s1 _ _ ht)) (dp_ints [(i : Int), (o : Int)]), LA.dp, shaped_lot _, lots_shaped _, _, rfl, ?_⟩
    rw [lotZ_any, show decide ([(i : Int), (o : Int)] ∈ (L.map (·.2)).map zPair) = true from decide_eq_true (by rw [eL]; exact List.mem_map.mpr ⟨_, hm, rfl⟩)]
    refine iteF ?_
    refine ⟨_, rfl, t, _, rfl, SqT.of (s1 _ _ ht), rfl, _, _, rfl, _, _, rfl, rfl, ?_⟩
    exact ⟨_, rfl, x, dx, _, rfl, s1 _ _ hx, tf_arrival _ _, _, rfl, _, rfl, x, D, M, i, o, q, rfl, TA.same s1, hq, ho, h _ s1⟩
end
end RL
/-! the law's talks and their letters -/
namespace RL
open PySem PySem.Spec PyProof.Rows L2 RLM
theorem LookAt.tk {n : Nat} {H H' : Hp} {v : V} (s : TK H H') : ∀ {L : Look}, LookAt n H v L → LookAt n H' v L
  | .lot _, ⟨t, u, e, h1, h2⟩ => ⟨t, u, e, s _ _ h1, s _ _ h2⟩
  | .parts _, ⟨t, u, us, e, h1, h2, l, h3⟩ => ⟨t, u, us, e, s _ _ h1, s _ _ h2, l, fun k a p e1 e2 => s _ _ (h3 k a p e1 e2)⟩
  | .near _ _, ⟨t, e, h1⟩ => ⟨t, e, s _ _ h1⟩
theorem LookAt.ref {n : Nat} {H : Hp} {v : V} : ∀ {L : Look}, LookAt n H v L → ∃ t, v = .ref t
  | .lot _, ⟨t, _, e, _⟩ => ⟨t, e⟩
  | .parts _, ⟨t, _, _, e, _⟩ => ⟨t, e⟩
  | .near _ _, ⟨t, e, _⟩ => ⟨t, e⟩
theorem LookAt.lkt {n : Nat} {H : Hp} {l : Addr} : ∀ {L : Look}, LookAt n H (.ref l) L → LkT H l
  | .lot _, ⟨t, u, e, h1, _⟩ => by cases e; exact ⟨_, _, h1⟩
  | .parts _, ⟨t, u, us, e, h1, _⟩ => by cases e; exact ⟨_, _, h1⟩
  | .near _ _, ⟨t, e, h1⟩ => by cases e; exact ⟨_, _, h1⟩
section
variable {P : Program} {w : World} {K : PySem.W.Frag} {mg : Str → Option Value} {base : Heap}
/-- a row of delays as the law makes it -/
def RowOk (h one : Nat) (zs : List Int) : Prop := zs.length = h ∧ ∀ i z, zs[i]? = some z → if i = one then z = 0 else 1 ≤ z ∧ z ≤ 9
theorem rowB_of {h one : Nat} {zs : List Int} (k : RowOk h one zs) : rowB h one zs = true := by
  unfold rowB
  rw [Bool.and_eq_true]
  refine ⟨decide_eq_true k.1, ?_⟩
  rw [List.all_eq_true]
  intro b hb
  obtain ⟨i, hi, rfl⟩ := List.mem_map.mp hb
  have il := List.mem_range.mp hi
  have := k.2 i zs[i] (List.getElem?_eq_getElem il)
  have e : zs.getD i 0 = zs[i] := by rw [List.getD_eq_getElem?_getD, List.getElem?_eq_getElem il]; rfl
  show cellB one i (zs.getD i 0) = true
  rw [e]
  unfold cellB
  by_cases c : i = one
  · rw [if_pos c] at this ⊢
    exact decide_eq_true this
  · rw [if_neg c] at this ⊢
    exact decide_eq_true this
theorem delB_of {D : List (List Int)} (l2 : 2 ≤ D.length) (l4 : D.length ≤ 4) (h : ∀ i zs, D[i]? = some zs → RowOk D.length i zs) : delB D = true := by
  unfold delB
  rw [Bool.and_eq_true]
  refine ⟨decide_eq_true ⟨l2, l4⟩, ?_⟩
  rw [List.all_eq_true]
  intro b hb
  obtain ⟨i, hi, rfl⟩ := List.mem_map.mp hb
  have il := List.mem_range.mp hi
  show rowB D.length i (D.getD i []) = true
  rw [show D.getD i [] = D[i] by rw [List.getD_eq_getElem?_getD, List.getElem?_eq_getElem il]; rfl]
  exact rowB_of (h i _ (List.getElem?_eq_getElem il))
/-- what the law puts together: a row with a nought at its place -/
theorem row_put {h one : Nat} {zs : List Int} (lz : zs.length = h) (ho : one < h) (hz : ∀ z ∈ zs, 1 ≤ z ∧ z ≤ 9) : RowOk h one (zs.take one ++ [0] ++ zs.drop (one + 1)) := by
  refine ⟨by rw [List.length_append, List.length_append, List.length_take, List.length_drop]; simp only [List.length_cons, List.length_nil]; omega, fun i z e => ?_⟩
  rw [List.append_assoc] at e
  by_cases c : i = one
  · subst c
    rw [List.getElem?_append_right (by rw [List.length_take]; omega), List.length_take, Nat.min_eq_left (by omega), Nat.sub_self] at e
    cases e
    rw [if_pos rfl]
  · rw [if_neg c]
    refine hz z ?_
    rcases Nat.lt_or_ge i one with k | k
    · rw [List.getElem?_append_left (by rw [List.length_take]; omega)] at e
      exact List.mem_of_mem_take (List.mem_of_getElem? e)
    · rw [List.getElem?_append_right (by rw [List.length_take]; omega), List.length_take, Nat.min_eq_left (by omega)] at e
      obtain ⟨m, em⟩ : ∃ m, i - one = m + 1 := ⟨i - one - 1, by omega⟩
      rw [em, List.singleton_append, List.getElem?_cons_succ] at e
      exact List.mem_of_mem_drop (List.mem_of_getElem? e)
def spTalk : Sp := fun vs H Q _ => ∃ (b c : Addr) (m last most : Nat), vs = [.ref b, vI m, vI last, vI most] ∧ Box b c H ∧ 1 ≤ m ∧ m ≤ 8 ∧ last ≤ 12 ∧ most ≤ 6 ∧
  ∀ H' t d l (D : List DRw) (M : List TLk), Kc c H H' → Box b c H' → H' t = some (.tup [.ref d, .ref l]) → DelAt H' d D → H' l = some (.tup (M.map fun q => V.ref q.1)) → (∀ q ∈ M, TLAt H' q) → looksB D.length (bk M) = true →
    (∀ q ∈ M, 0 ≤ q.2.1 ∧ q.2.1 ≤ (last : Int) ∧ ∃ L, LookAt m H' (.ref q.2.2.2) L ∧ LookOk m L) → M.length ≤ max 3 most → Q (.ref t) H'
theorem sc__law_talk : FnScope ["_law_box_here", "_law_many", "_law_last", "_law_most", "_law_hands", "_law_rows", "_law_one", "_law_row", "_law_beats_here", "_law_looks_here", "_law_other", "_law_k", "_law_beat"] ["_law_box_here", "_law_many", "_law_last", "_law_most"] (defScope s__law_talk) := ⟨rfl, rfl, rfl, by decide +kernel, rfl, by decide +kernel, by decide +kernel⟩
theorem ok_talk (T : Tx K mg) : Has P w K mg base (He.ga K "_law_talk") 4 ["_law_box_here", "_law_many", "_law_last", "_law_most"] spTalk := by
  obtain ⟨⟨fd_law_pick, F_law_pick, b_law_pick⟩, kp_law_pick⟩ := ok_pick (P := P) (w := w) (base := base) T
  obtain ⟨⟨fd_law_from, F_law_from, b_law_from⟩, kp_law_from⟩ := ok_from (P := P) (w := w) (base := base) T
  obtain ⟨⟨fd_law_look, F_law_look, b_law_look⟩, kp_law_look⟩ := ok_look (P := P) (w := w) (base := base) T
  obtain ⟨fd, F⟩ := T.d__law_talk
  refine ⟨⟨fd, F.ok sc__law_talk (fun vs H Q E h => ?_) (fun cdv A outer s H vs Q E hr h => ?_), F.bindsN fun _ _ _ _ _ _ us hl => match us, hl with | [_, _, _, _], _ => rfl⟩, F.kp⟩
  · obtain ⟨b, c, m, last, most, rfl, _⟩ := h
    rfl
  · obtain ⟨b, c, m, last, most, rfl, B, m1, m8, l12, m6, h⟩ := h
    have hr_law_pick : Room 1 _ := hr.mono (by decide)
    have hr_law_from : Room 2 _ := hr.mono (by decide)
    have hr_law_look : Room 3 _ := hr.mono (by decide)
    refine ⟨_, PSs.nox (pss_cons (ps_asg (pe_tup (pa_cons (pe_op op_add pe_int (pe_call F_law_pick hr_law_pick rfl T.glo_law_pick kp_law_pick b_law_pick .nil pass0 (pa_cons (pv 0) (pa_cons pe_int pa_nil)))) (pa_cons (pe_lst pa_nil) pa_nil))) (pgT (K := K) (n := 2) rfl (pgs_cons (pg_name (i := 4) sc__law_talk.nd rfl (Or.inr rfl)) (pgs_cons (pg_name (i := 5) sc__law_talk.nd rfl (Or.inl rfl)) pgs_nil))))
      (pss_cons (ps_for PassesOwn.never rfl (pi_range1 (by rfl) T.free_range (pa_cons (pv 4) pa_nil)) (pg_name (i := 6) sc__law_talk.nd rfl (Or.inl rfl)) (pss_cons (ps_setLc (i := 7) (own := [("_law_other", 10)]) (g := (gName 10)) (tt := tYes) rfl sc__law_talk.nd rfl rfl (sw_true rfl rfl rfl (by decide +kernel)) (pi_range1 (by rfl) T.free_range (pa_cons (pv 4) pa_nil)) (blkOk_by (by kernel_rfl)) (fun _ _ _ _ _ => (pg_name (i := 10) sc__law_talk.nd rfl (Or.inl rfl))) (fun _ _ _ _ _ => pts_nil) (fun _ _ _ _ _ => (pe_call F_law_from hr_law_from rfl T.glo_law_from kp_law_from b_law_from .nil pass0 (pa_cons (pv 0) (pa_cons (pe_lst (pa_cons pe_int (pa_cons pe_int (pa_cons pe_int (pa_cons pe_int (pa_cons (pe_op op_add pe_int (pe_call F_law_pick hr_law_pick rfl T.glo_law_pick kp_law_pick b_law_pick .nil pass0 (pa_cons (pv 0) (pa_cons pe_int pa_nil)))) pa_nil)))))) pa_nil)))))
      (pss_one (ps_expr (bmK (K := K) PySem.F.plainAttrs_list PySem.F.slot_list_append PySem.F.type_list_append mt_append (pv 5) (pa_cons (pe_callTy (tupK (K := K)) (by rfl) T.free_tuple (by decide +kernel) (pa_cons (pe_op op_cat (pe_op op_cat (pe_slice (slL (K := K)) (pv 7) po_none (po_some (pv 6))) (pe_lst (pa_cons pe_int pa_nil))) (pe_slice (slL (K := K)) (pv 7) (po_some (pe_op op_add (pv 6) pe_int)) po_none)) pa_nil)) pa_nil))))))
      (pss_cons (ps_set (i := 8) sc__law_talk.nd rfl (Or.inl rfl) (pe_callB (sortLK (K := K)) (by rfl) T.free_sorted (by decide +kernel) (pa_cons (pe_lc (own := [("_law_k", 11)]) (g := (gName 11)) (tt := tYes) rfl sc__law_talk.nd (pi_range1 (by rfl) T.free_range (pa_cons (pe_call F_law_from hr_law_from rfl T.glo_law_from kp_law_from b_law_from .nil pass0 (pa_cons (pv 0) (pa_cons (pe_lst (pa_cons pe_int (pa_cons pe_int (pa_cons pe_int (pa_cons pe_int (pa_cons (pv 3) (pa_cons (pv 3) pa_nil))))))) pa_nil))) pa_nil)) (blkOk_by (by kernel_rfl)) (fun _ _ _ _ _ => (pg_name (i := 11) sc__law_talk.nd rfl (Or.inl rfl))) (fun _ _ _ _ _ => pts_nil) (fun _ _ _ _ _ => (pe_call F_law_pick hr_law_pick rfl T.glo_law_pick kp_law_pick b_law_pick .nil pass0 (pa_cons (pv 0) (pa_cons (pe_op op_add (pv 2) pe_int) pa_nil))))) pa_nil)))
      (pss_cons (ps_setLc (i := 9) (own := [("_law_beat", 12)]) (g := (gName 12)) (tt := tYes) rfl sc__law_talk.nd rfl rfl (sw_true rfl rfl rfl (by decide +kernel)) (piL (K := K) (pv 8)) (blkOk_by (by kernel_rfl)) (fun _ _ _ _ _ => (pg_name (i := 12) sc__law_talk.nd rfl (Or.inl rfl))) (fun _ _ _ _ _ => pts_nil) (fun _ _ _ _ _ => (pe_tup (pa_cons (pv 12) (pa_cons (pe_call F_law_pick hr_law_pick rfl T.glo_law_pick kp_law_pick b_law_pick .nil pass0 (pa_cons (pv 0) (pa_cons (pv 4) pa_nil))) (pa_cons (pe_call F_law_look hr_law_look rfl T.glo_law_look kp_law_look b_law_look .nil pass0 (pa_cons (pv 0) (pa_cons (pv 1) pa_nil))) pa_nil))))))
      (pss_one (ps_ret (pe_tup (pa_cons (pe_callTy (tupK (K := K)) (by rfl) T.free_tuple (by decide +kernel) (pa_cons (pv 5) pa_nil)) (pa_cons (pe_callTy (tupK (K := K)) (by rfl) T.free_tuple (by decide +kernel) (pa_cons (pv 9) pa_nil)) pa_nil))))))))), ?_⟩
    refine ⟨_, rfl, b, c, _, rfl, B, by decide, by decide, fun H1 i0 k1 B1 i0l i0h => ?_⟩
    obtain ⟨n, en, n2, n4⟩ : ∃ n : Nat, (2 : Int) + i0 = (n : Int) ∧ 2 ≤ n ∧ n ≤ 4 := ⟨(2 + i0).toNat, by omega, by omega, by omega⟩
    refine ⟨_, _, rfl, rfl, Nat.zero_le _, fun r hr0 => ?_⟩
    have s1 := same_upd (o := HO.lst []) hr0
    have hr1 : (upd H1 r (.lst [])) r = some (.lst []) := upd_same
    have B2 := B1.same s1
    have rc := (B1.new hr0).1
    have rb := (B1.new hr0).2
    have k2 : Kc c H1 _ := kc_same s1
    generalize upd H1 r (.lst []) = H2 at s1 hr1 B2 k2
    refine ⟨(by show 2 ≤ sizeLine; decide), fun tt htt => ?_⟩
    show gTup K 2 _ (V.ref tt) _ (upd H2 tt (HO.tup [V.int (2 + i0), V.ref r])) _
    rw [show V.int (2 + i0) = vI n from congrArg V.int en]
    have s3 := same_upd (o := HO.tup [vI n, .ref r]) htt
    refine ⟨tt, _, rfl, SqT.of upd_same, rfl, _, _, rfl, _, _, rfl, rfl, ?_⟩
    have hr3 := s3 _ _ hr1
    have B3 := B2.same s3
    have k3 := k2.trans (kc_same s3)
    show tSeq _ _ _ _ (upd H2 tt (.tup [vI n, .ref r]))
    generalize upd H2 tt (.tup [vI n, .ref r]) = H3 at s3 hr3 B3 k3
    clear s1 s3 hr1 B1 B2 k2 htt
    refine ⟨_, rfl, (n : Int), rfl, by omega, by omega, ?_⟩
    refine for_range (lo := 0) (n := ((n : Nat) : Int).toNat) (fun i σ H4 => (∃ v6 v7 : Option V, σ = [some (.ref b), some (vI m), some (vI last), some (vI most), some (vI n), some (.ref r), v6, v7, none, none, none, none, none]) ∧ ∃ D : List DRw, D.length = i ∧ H4 r = some (.lst (D.map fun q => V.ref q.1)) ∧ (∀ j q, D[j]? = some q → H4 q.1 = some (.tup (q.2.map V.int)) ∧ RowOk n j q.2) ∧ Kc c H1 H4 ∧ Box b c H4) ?_ ?_ ?_
    · exact ⟨⟨none, none, rfl⟩, [], rfl, hr3, fun j q e => by simp at e, k3, B3⟩
    · rintro i σ H4 hi ⟨⟨v6, v7, rfl⟩, D, lD, hr4, eD, k4, B4⟩
      rw [Int.toNat_natCast] at hi
      refine ⟨_, rfl, (n : Int), rfl, by omega, by omega, fun l1 hl1 => ?_⟩
      refine lc_relK (walk_range (lo := 0) (n := ((n : Nat) : Int).toNat)) (fun _ v _ => ∃ z : Int, v = .int z ∧ 1 ≤ z ∧ z ≤ 9) (by omega) B4 hl1 (fun _ _ _ _ h _ => h) (fun _ _ _ => trivial) ?_ ?_
      · rintro j x H5' H5 Nx hj k5 B5 ⟨rfl, rfl⟩ kk
        refine ⟨rfl, _, rfl, _, rfl, b, c, _, rfl, B5, by decide, by decide, fun H6 z k6 B6 z0 z1 => ?_⟩
        refine ⟨_, _, rfl, rfl, (by show 5 ≤ sizeLine; decide), fun l hl => ?_⟩
        have s7 := same_upd (o := HO.lst [V.int 1, V.int 1, V.int 2, V.int 3, V.int (1 + z)]) hl
        refine ⟨b, c, l, _, rfl, B6.same s7, upd_same, (B6.new hl).1, (by show 1 ≤ 5; decide), (by show 5 ≤ 1000; decide), fun H7 v k7 B7 hv => ?_⟩
        obtain ⟨y, rfl, y1, y9⟩ : ∃ y : Int, v = .int y ∧ 1 ≤ y ∧ y ≤ 9 := by
          simp only [List.mem_cons, List.not_mem_nil, or_false] at hv
          rcases hv with e | e | e | e | e <;> subst e
          · exact ⟨1, rfl, by decide, by decide⟩
          · exact ⟨1, rfl, by decide, by decide⟩
          · exact ⟨2, rfl, by decide, by decide⟩
          · exact ⟨3, rfl, by decide, by decide⟩
          · exact ⟨1 + z, rfl, by omega, by omega⟩
        exact kk _ _ ⟨y, rfl, y1, y9⟩ ((k6.trans (kc_same s7)).trans k7) B7
      · intro H5 ys h5 ly hy k5 B5 l1c
        rw [Int.toNat_natCast] at ly
        obtain ⟨zs, lz, hz⟩ := beside (R := fun _ v (z : Int) => v = .int z ∧ 1 ≤ z ∧ z ≤ 9) ys 0 fun k y e => hy k y e
        have ey : ys = zs.map V.int := ys_of lz fun k y a e1 e2 => (hz k y a e1 e2).1
        subst ey
        rw [List.length_map] at ly
        have hr5 : H5 r = some (.lst (D.map fun q => V.ref q.1)) := k5 _ _ rc (fun _ z => by cases z) hr4
        have mz : ∀ z ∈ zs, 1 ≤ z ∧ z ≤ 9 := fun z hz' => by
          obtain ⟨k, hk, rfl⟩ := List.getElem_of_mem hz'
          exact (hz k _ _ (by rw [List.getElem?_map, List.getElem?_eq_getElem hk]; rfl) (List.getElem?_eq_getElem hk)).2
        refine ⟨_, rfl, .inl ⟨rfl, _, SqL.of hr5⟩, ?_⟩
        refine ⟨_, rfl, _, rfl, ((i : Nat) : Int), by rw [Int.zero_add], l1, _, rfl, SqL.of h5, fun pa hpa => ?_⟩
        have sa := same_upd (o := HO.lst (cutV (zs.map V.int) none (some ((i : Nat) : Int)))) hpa
        have ha : (upd H5 pa (.lst (cutV (zs.map V.int) none (some ((i : Nat) : Int))))) pa = some (.lst ((zs.take i).map V.int)) := by rw [upd_same, cut_to7, List.map_take]
        generalize upd H5 pa (.lst (cutV (zs.map V.int) none (some ((i : Nat) : Int)))) = Ha at sa ha
        refine ⟨(by show 1 ≤ sizeLine; decide), fun pb hpb => ?_⟩
        have sb := same_upd (o := HO.lst [V.int 0]) hpb
        have hb : (upd Ha pb (.lst [V.int 0])) pb = some (.lst [V.int 0]) := upd_same
        have sab := sa.trans sb
        have ha2 := sb _ _ ha
        generalize upd Ha pb (.lst [V.int 0]) = Hb at sab sb hb ha2
        refine ⟨pa, pb, _, _, rfl, rfl, ha2, hb, ?_, fun pc hpc => ?_⟩
        · rw [List.length_map, List.length_take]
          exact Nat.le_trans (show min i zs.length + 1 ≤ 64 by omega) (by decide)
        have sc := same_upd (o := HO.lst ((zs.take i).map V.int ++ [V.int 0])) hpc
        have hc' : (upd Hb pc (.lst ((zs.take i).map V.int ++ [V.int 0]))) pc = some (.lst ((zs.take i ++ [0]).map V.int)) := by rw [upd_same, List.map_append]; rfl
        have sac := sab.trans sc
        generalize upd Hb pc (.lst ((zs.take i).map V.int ++ [V.int 0])) = Hc at sac sc hc'
        refine ⟨_, rfl, _, rfl, _, _, rfl, rfl, ((i + 1 : Nat) : Int), by rw [Int.zero_add]; rfl, l1, _, rfl, SqL.of (sac _ _ h5), fun pd hpd => ?_⟩
        have sd := same_upd (o := HO.lst (cutV (zs.map V.int) (some ((i + 1 : Nat) : Int)) none)) hpd
        have hd : (upd Hc pd (.lst (cutV (zs.map V.int) (some ((i + 1 : Nat) : Int)) none))) pd = some (.lst ((zs.drop (i + 1)).map V.int)) := by rw [upd_same, cut_from7, List.map_drop]
        have hc2 := sd _ _ hc'
        have sad := sac.trans sd
        generalize upd Hc pd (.lst (cutV (zs.map V.int) (some ((i + 1 : Nat) : Int)) none)) = Hd at sad sd hd hc2
        refine ⟨pc, pd, _, _, rfl, rfl, hc2, hd, ?_, fun pe hpe => ?_⟩
        · rw [List.length_map, List.length_append, List.length_map, List.length_take, List.length_drop]
          exact Nat.le_trans (show min i zs.length + 1 + (zs.length - (i + 1)) ≤ 64 by omega) (by decide)
        have se := same_upd (o := HO.lst ((zs.take i ++ [0]).map V.int ++ (zs.drop (i + 1)).map V.int)) hpe
        have he : (upd Hd pe (.lst ((zs.take i ++ [0]).map V.int ++ (zs.drop (i + 1)).map V.int))) pe = some (.lst ((zs.take i ++ [0] ++ zs.drop (i + 1)).map V.int)) := by rw [upd_same, ← List.map_append]
        have sae := sad.trans se
        generalize upd Hd pe (.lst ((zs.take i ++ [0]).map V.int ++ (zs.drop (i + 1)).map V.int)) = He at sae se he
        refine ⟨pe, _, rfl, .inl ⟨SqL.of he, fun pf hpf => ?_⟩⟩
        have sf := same_upd (o := HO.tup ((zs.take i ++ [0] ++ zs.drop (i + 1)).map V.int)) hpf
        have hf : (upd He pf (.tup ((zs.take i ++ [0] ++ zs.drop (i + 1)).map V.int))) pf = some (.tup ((zs.take i ++ [0] ++ zs.drop (i + 1)).map V.int)) := upd_same
        have saf := sae.trans sf
        generalize upd He pf (.tup ((zs.take i ++ [0] ++ zs.drop (i + 1)).map V.int)) = Hf at saf sf hf
        have hrf := saf _ _ hr5
        have k4f := k4.trans (k5.trans (kc_same saf))
        have Bf := B5.same saf
        refine ⟨r, _, _, rfl, rfl, hrf, ?_, ⟨_, _, rfl⟩, D ++ [(pf, zs.take i ++ [0] ++ zs.drop (i + 1))], by simp [lD], by rw [upd_same, List.map_append]; rfl, fun j q e => ?_, k4f.upd hr0, Bf.upd rc rb⟩
        · rw [List.length_map]
          exact Nat.lt_of_le_of_lt (show D.length ≤ 4 by omega) (by decide)
        · have hq : Hf q.1 = some (.tup (q.2.map V.int)) ∧ RowOk n j q.2 := by
            by_cases cj : j < D.length
            · rw [List.getElem?_append_left cj] at e
              obtain ⟨g1, g2⟩ := eD j q e
              exact ⟨saf _ _ (k5.tup B4.lst g1), g2⟩
            · rw [List.getElem?_append_right (by omega)] at e
              have ej : j - D.length = 0 := by
                obtain ⟨z1, _⟩ := List.getElem?_eq_some_iff.mp e
                simp at z1
                omega
              rw [ej] at e
              cases e
              rw [show j = i by omega]
              exact ⟨hf, row_put (by omega) (by omega) mz⟩
          rw [upd_ne (ne_of hq.1 hrf (by intro z; cases z))]
          exact hq
    · rintro σ H4 ⟨⟨v6, v7, rfl⟩, D, lD, hr4, eD, k4, B4⟩
      rw [Int.toNat_natCast] at lD
      refine ⟨_, rfl, _, rfl, _, rfl, (by show 6 ≤ sizeLine; decide), fun l hl => ?_⟩
      have s5 := same_upd (o := HO.lst [V.int 0, V.int 1, V.int 2, V.int 3, vI most, vI most]) hl
      refine ⟨b, c, l, _, rfl, B4.same s5, upd_same, (B4.new hl).1, (by show 1 ≤ 6; decide), (by show 6 ≤ 1000; decide), fun H5 v k5 B5 hv => ?_⟩
      obtain ⟨u, rfl, hu⟩ : ∃ u : Nat, v = vI u ∧ u ≤ max 3 most := by
        simp only [List.mem_cons, List.not_mem_nil, or_false] at hv
        rcases hv with e | e | e | e | e | e <;> subst e
        · exact ⟨0, rfl, by omega⟩
        · exact ⟨1, rfl, by omega⟩
        · exact ⟨2, rfl, by omega⟩
        · exact ⟨3, rfl, by omega⟩
        · exact ⟨most, rfl, by omega⟩
        · exact ⟨most, rfl, by omega⟩
      have k45 := (k4.trans (kc_same s5)).trans k5
      have hr5 : H5 r = some (.lst (D.map fun q => V.ref q.1)) := k5 _ _ rc (fun _ z => by cases z) (s5 _ _ hr4)
      have eD5 : ∀ j q, D[j]? = some q → H5 q.1 = some (.tup (q.2.map V.int)) ∧ RowOk n j q.2 := fun j q e => ⟨k5.tup (B4.same s5).lst (s5 _ _ (eD j q e).1), (eD j q e).2⟩
      refine ⟨(u : Int), rfl, by omega, by omega, fun l2 hl2 => ?_⟩
      refine lc_relK (walk_range (lo := 0) (n := ((u : Nat) : Int).toNat)) (fun _ v _ => ∃ z : Int, v = .int z ∧ 0 ≤ z ∧ z ≤ (last : Int)) (by omega) B5 hl2 (fun _ _ _ _ h _ => h) (fun _ _ _ => trivial) ?_ ?_
      · rintro j x H6' H6 Nx hj k6 B6 ⟨rfl, rfl⟩ kk
        exact ⟨rfl, _, rfl, _, rfl, _, _, rfl, rfl, b, c, _, rfl, B6, by omega, by omega, fun H7 z k7 B7 z0 z1 => kk _ _ ⟨z, rfl, z0, by omega⟩ k7 B7⟩
      · intro H6 ys h6 ly hy k6 B6 l2c
        rw [Int.toNat_natCast] at ly
        obtain ⟨zs, lz, hz⟩ := beside (R := fun _ v (z : Int) => v = .int z ∧ 0 ≤ z ∧ z ≤ (last : Int)) ys 0 fun k y e => hy k y e
        have ey : ys = zs.map V.int := ys_of lz fun k y a e1 e2 => (hz k y a e1 e2).1
        subst ey
        rw [List.length_map] at ly
        have mz : ∀ z ∈ zs, 0 ≤ z ∧ z ≤ (last : Int) := fun z hz' => by
          obtain ⟨k, hk, rfl⟩ := List.getElem_of_mem hz'
          exact (hz k _ _ (by rw [List.getElem?_map, List.getElem?_eq_getElem hk]; rfl) (List.getElem?_eq_getElem hk)).2
        refine ⟨l2, zs, rfl, SqL.of h6, by omega, fun ms p pm so hp => ?_⟩
        have s7 := same_upd (o := HO.lst (ms.map V.int)) hp
        have hp7 : (upd H6 p (.lst (ms.map V.int))) p = some (.lst (ms.map V.int)) := upd_same
        have B7 := B6.same s7
        have pc := (B6.new hp).1
        generalize upd H6 p (.lst (ms.map V.int)) = H7 at s7 hp7 B7
        have lm : ms.length = u := by rw [pm.length_eq]; omega
        refine ⟨_, rfl, p, rfl, ⟨_, SqL.of hp7⟩, fun l3 hl3 => ?_⟩
        refine lc_relK (walk_list (K := K) (a := p) (xs := ms.map V.int)) (fun k v H' => ∃ (t lk : Addr) (kz : Int), v = .ref t ∧ (∀ z, ms[k]? = some z → H' t = some (.tup [.int z, .int kz, .ref lk])) ∧ 0 ≤ kz ∧ kz < (n : Int) ∧ ∃ L, LookAt m H' (.ref lk) L ∧ LookOk m L) (by rw [List.length_map]; omega) B7 hl3 (fun k v Ha Hb ⟨t, lk, kz, e, h1, h2, h3, L, h4, h5⟩ tk => ⟨t, lk, kz, e, fun z ez => tk _ _ (h1 z ez), h2, h3, L, h4.tk tk, h5⟩) (fun H8 k8 _ => SqL.of (k8 _ _ pc (fun _ z => by cases z) hp7)) ?_ ?_
        · rintro j x H8' H8 Nx hj k8 B8 ⟨rfl, hx⟩ kk
          obtain ⟨z, hz, rfl⟩ := get_int hx
          refine ⟨rfl, _, rfl, _, rfl, _, rfl, b, c, _, rfl, B8, by omega, by omega, fun H9 kz k9 B9 kz0 kz1 => ?_⟩
          refine ⟨_, rfl, _, rfl, b, c, m, rfl, B9, m1, m8, fun H10 v L LA LO k10 B10 => ?_⟩
          obtain ⟨lk, rfl⟩ := LA.ref
          refine ⟨(by show 3 ≤ sizeLine; decide), fun t ht => ?_⟩
          have s11 := same_upd (o := HO.tup [V.int z, V.int kz, V.ref lk]) ht
          refine kk _ _ ⟨t, lk, kz, rfl, fun z' ez => ?_, kz0, kz1, L, LA.same s11, LO⟩ ((k9.trans k10).trans (kc_same s11)) (B10.same s11)
          rw [hz] at ez
          cases ez
          exact upd_same
        · intro H8 ys2 h8 ly2 hy2 k8 B8 l3c
          rw [List.length_map] at ly2
          obtain ⟨M, lM, hM⟩ := beside (R := fun k v (q : TLk) => v = .ref q.1 ∧ (∀ z, ms[k]? = some z → q.2.1 = z ∧ H8 q.1 = some (.tup [.int q.2.1, .int q.2.2.1, .ref q.2.2.2])) ∧ 0 ≤ q.2.2.1 ∧ q.2.2.1 < (n : Int) ∧ ∃ L, LookAt m H8 (.ref q.2.2.2) L ∧ LookOk m L) ys2 0 fun k y e => by
            obtain ⟨t, lk, kz, e1, e2, e3, e4, e5⟩ := hy2 k y e
            have hk : k < ms.length := by have := (List.getElem?_eq_some_iff.mp e).1; omega
            refine ⟨(t, ms[k], kz, lk), e1, fun z ez => ?_, e3, e4, e5⟩
            rw [Nat.zero_add, List.getElem?_eq_getElem hk] at ez
            cases ez
            exact ⟨rfl, e2 _ (List.getElem?_eq_getElem hk)⟩
          have ey2 : ys2 = M.map fun q => V.ref q.1 := ys_of lM fun k y a e1 e2 => (hM k y a e1 e2).1
          subst ey2
          have at_ : ∀ (k : Nat) (q : TLk), M[k]? = some q → ∃ z, ms[k]? = some z ∧ q.2.1 = z ∧ H8 q.1 = some (.tup [.int q.2.1, .int q.2.2.1, .ref q.2.2.2]) ∧ 0 ≤ q.2.2.1 ∧ q.2.2.1 < (n : Int) ∧ ∃ L, LookAt m H8 (.ref q.2.2.2) L ∧ LookOk m L := fun k q e => by
            have hk : k < ms.length := by
              have := (List.getElem?_eq_some_iff.mp e).1
              omega
            have g := hM k _ q (by rw [List.getElem?_map, e]; rfl) e
            rw [Nat.zero_add] at g
            obtain ⟨g1, g2, g3⟩ := g
            obtain ⟨g4, g5⟩ := g2 _ (List.getElem?_eq_getElem hk)
            exact ⟨_, List.getElem?_eq_getElem hk, g4, g5, g3⟩
          have eb : (bk M).map (·.1) = ms := by
            refine List.ext_getElem? fun k => ?_
            rw [List.map_map, List.getElem?_map]
            cases e : M[k]? with
            | none => rw [List.getElem?_eq_none (by have := List.getElem?_eq_none_iff.mp e; omega)]; rfl
            | some q =>
              obtain ⟨z, g1, g2, _⟩ := at_ k q e
              rw [g1, ← g2]
              rfl
          have lM6 : M.length ≤ max 3 most := by omega
          have mm : ∀ q ∈ M, 0 ≤ q.2.1 ∧ q.2.1 ≤ (last : Int) := fun q hq => by
            obtain ⟨k, hk, rfl⟩ := List.getElem_of_mem hq
            obtain ⟨z, g1, g2, _⟩ := at_ k _ (List.getElem?_eq_getElem hk)
            rw [g2]
            exact mz z (pm.mem_iff.mp (List.mem_of_getElem? g1))
          have okL : looksB D.length (bk M) = true := by
            unfold looksB
            rw [Bool.and_eq_true, Bool.and_eq_true, eb]
            refine ⟨decide_eq_true (by rw [List.length_map]; omega), List.all_eq_true.mpr fun y hy' => ?_, decide_eq_true so⟩
            obtain ⟨q, hq, rfl⟩ := List.mem_map.mp hy'
            obtain ⟨k, hk, rfl⟩ := List.getElem_of_mem hq
            obtain ⟨z, _, _, _, g3, g4, _⟩ := at_ k _ (List.getElem?_eq_getElem hk)
            have g5 := mm _ (List.getElem_mem hk)
            unfold lookB
            rw [Bool.and_eq_true]
            exact ⟨decide_eq_true ⟨g5.1, by show M[k].2.1 ≤ 12; omega⟩, decide_eq_true ⟨g3, by show M[k].2.2.1 ≤ ((D.length : Nat) : Int) - 1; omega⟩⟩
          have k58 := (k6.trans (kc_same s7)).trans k8
          have hr8 : H8 r = some (.lst (D.map fun q => V.ref q.1)) := k58 _ _ rc (fun _ z => by cases z) hr5
          refine ⟨_, rfl, r, _, rfl, .inl ⟨SqL.of hr8, fun d hd => ?_⟩⟩
          have s9 := same_upd (o := HO.tup (D.map fun q => V.ref q.1)) hd
          have hd9 : (upd H8 d (.tup (D.map fun q => V.ref q.1))) d = some (.tup (D.map fun q => V.ref q.1)) := upd_same
          generalize upd H8 d (.tup (D.map fun q => V.ref q.1)) = H9 at s9 hd9
          refine ⟨_, rfl, l3, _, rfl, .inl ⟨SqL.of (s9 _ _ h8), fun e he => ?_⟩⟩
          have s10 := same_upd (o := HO.tup (M.map fun q => V.ref q.1)) he
          have he10 : (upd H9 e (.tup (M.map fun q => V.ref q.1))) e = some (.tup (M.map fun q => V.ref q.1)) := upd_same
          have hd10 := s10 _ _ hd9
          have s910 := s9.trans s10
          generalize upd H9 e (.tup (M.map fun q => V.ref q.1)) = H10 at s910 he10 hd10
          refine ⟨(by show 2 ≤ sizeLine; decide), fun t ht => ?_⟩
          have s11 := same_upd (o := HO.tup [V.ref d, V.ref e]) ht
          have s811 := s910.trans s11
          refine h _ t d e D M (((k1.trans k45).trans k58).trans (kc_same s811)) (B8.same s811) upd_same ⟨s11 _ _ hd10, fun q hq => ?_, ?_⟩ (s11 _ _ he10) (fun q hq => ?_) okL (fun q hq => ?_) lM6
          · obtain ⟨j, hj, rfl⟩ := List.getElem_of_mem hq
            obtain ⟨g1, g2⟩ := eD5 j _ (List.getElem?_eq_getElem hj)
            exact ⟨s811 _ _ (k58.tup B5.lst g1), by rw [g2.1]; omega⟩
          · refine delB_of (by rw [List.length_map]; omega) (by rw [List.length_map]; omega) fun j zs' ej => ?_
            rw [List.getElem?_map] at ej
            rw [List.length_map, lD]
            cases e5 : D[j]? with
            | none => rw [e5] at ej; cases ej
            | some q =>
              rw [e5] at ej
              cases ej
              exact (eD5 j q e5).2
          · obtain ⟨k, hk, rfl⟩ := List.getElem_of_mem hq
            obtain ⟨z, _, _, g2, _, _, L, LA, _⟩ := at_ k _ (List.getElem?_eq_getElem hk)
            exact ⟨s811 _ _ g2, (LA.same s811).lkt⟩
          · obtain ⟨k, hk, rfl⟩ := List.getElem_of_mem hq
            obtain ⟨z, _, _, _, _, _, L, LA, LO⟩ := at_ k _ (List.getElem?_eq_getElem hk)
            have g := mm _ (List.getElem_mem hk)
            exact ⟨g.1, g.2, L, LA.same s811, LO⟩
end
end RL
/-! the law's letters -/
namespace RL
open PySem PySem.Spec PyProof.Rows L2 RLM
section
variable {P : Program} {w : World} {K : PySem.W.Frag} {mg : Str → Option Value} {base : Heap}
def spLettersL : Sp := fun vs H Q _ => ∃ (t d l : Addr) (D : List DRw) (M : List TLk), vs = [.ref t] ∧ H t = some (.tup [.ref d, .ref l]) ∧ H d = some (.tup (D.map fun q => V.ref q.1)) ∧ H l = some (.tup (M.map fun q => V.ref q.1)) ∧ (∀ q ∈ M, TLAt H q) ∧ D.length ≤ 4 ∧ M.length ≤ 6 ∧
  ∀ H' l L, LtAt H' l L → L.map (·.2) = ltrs D.length (M.map (·.2.2.1)) → Same H H' → H l = none → Q (.ref l) H'
theorem sc__law_letters : FnScope ["_law_talk_here", "_law_found", "_law_at", "_law_to"] ["_law_talk_here"] (defScope s__law_letters) := ⟨rfl, rfl, rfl, by decide +kernel, rfl, by decide +kernel, by decide +kernel⟩
theorem ok_lettersL (T : Tx K mg) : Has P w K mg base (He.ga K "_law_letters") 1 ["_law_talk_here"] spLettersL := by
  obtain ⟨fd, F⟩ := T.d__law_letters
  refine ⟨⟨fd, F.ok sc__law_letters (fun vs H Q E h => ?_) (fun cdv A outer s H vs Q E hr h => ?_), F.bindsN fun _ _ _ _ _ _ us hl => match us, hl with | [_], _ => rfl⟩, F.kp⟩
  · obtain ⟨t, d, l, D, M, rfl, _⟩ := h
    rfl
  · obtain ⟨t, d, l, D, M, rfl, ht, hd, hl, tM, l4, l6, h⟩ := h
    refine ⟨_, PSs.nox (pss_cons (ps_set (i := 1) sc__law_letters.nd rfl (Or.inl rfl) (pe_lst pa_nil))
      (pss_cons (ps_for PassesOwn.never rfl (pi_range1 (by rfl) T.free_range (pa_cons (pe_callB (lenK (K := K)) (by rfl) T.free_len (by decide +kernel) (pa_cons (pe_ix (ixT (K := K)) (pv 0) pe_int (fun _ _ => rfl)) pa_nil)) pa_nil)) (pg_name (i := 2) sc__law_letters.nd rfl (Or.inr rfl)) (pss_one (ps_set (i := 1) sc__law_letters.nd rfl (Or.inl rfl) (pe_op op_cat (pv 1) (pe_lc (own := [("_law_to", 3)]) (g := (gName 3)) rfl sc__law_letters.nd (pi_range1 (by rfl) T.free_range (pa_cons (pe_callB (lenK (K := K)) (by rfl) T.free_len (by decide +kernel) (pa_cons (pe_ix (ixT (K := K)) (pv 0) pe_int (fun _ _ => rfl)) pa_nil)) pa_nil)) (blkOk_by (by kernel_rfl)) (fun _ _ _ _ _ => (pg_name (i := 3) sc__law_letters.nd rfl (Or.inl rfl))) (fun _ _ _ _ _ => (pts_one (pt_cmpR op_ne (pv 3) (pe_ix (ixT (K := K)) (pe_ix (ixT (K := K)) (pe_ix (ixT (K := K)) (pv 0) pe_int (fun _ _ => rfl)) (pv 2) (fun _ _ => rfl)) pe_int (fun _ _ => rfl)) (nomark _)))) (fun _ _ _ _ _ => (pe_tup (pa_cons (pv 2) (pa_cons (pv 3) pa_nil)))))))))
      (pss_one (ps_ret (pv 1))))), ?_⟩
    refine ⟨Nat.zero_le _, fun f0 hf0 => ?_⟩
    have s0 : Same H (upd H f0 (.lst [])) := same_upd hf0
    refine ⟨_, rfl, t, _, 1, _, rfl, rfl, SqT.of (s0 _ _ ht), rfl, l, _, rfl, .inr (SqT.of (s0 _ _ hl)), ((M.map fun q => V.ref q.1).length : Int), rfl, by rw [List.length_map]; omega, by rw [List.length_map]; omega, ?_⟩
    rw [Int.toNat_natCast, List.length_map]
    refine for_range (lo := 0) (n := M.length) (fun i σ H1 => ∃ (f : Addr) (v2 : Option V) (L : List (Addr × Nat × Nat)), σ = [some (.ref t), some (.ref f), v2, none] ∧ LtAt H1 f L ∧ L.map (·.2) = ltrsTo D.length (M.map (·.2.2.1)) i ∧ Same H H1 ∧ H f = none) ?_ ?_ ?_
    · exact ⟨f0, none, [], rfl, ⟨upd_same, fun q hq => nomatch hq⟩, rfl, s0, hf0⟩
    · rintro i σ H1 hi ⟨f, v2, L, rfl, LA, eL, s1, _⟩
      have hq : M[i]? = some M[i] := List.getElem?_eq_getElem hi
      generalize M[i] = q at hq
      obtain ⟨t1, _⟩ := tM q (List.mem_of_getElem? hq)
      have ek : (M.map (·.2.2.1)).getD i 0 = q.2.2.1 := by rw [List.getD_eq_getElem?_getD, List.getElem?_map, hq]; rfl
      have lL : L.length ≤ 24 := by
        have e := congrArg List.length eL
        rw [List.length_map] at e
        have h1 := ltrsTo_len D.length (M.map (·.2.2.1)) i
        have h3 : i * D.length ≤ 6 * 4 := Nat.mul_le_mul (by omega) l4
        omega
      refine ⟨_, rfl, _, rfl, t, _, 0, _, rfl, rfl, SqT.of (s1 _ _ ht), rfl, d, _, rfl, .inr (SqT.of (s1 _ _ hd)), ((D.map fun q => V.ref q.1).length : Int), rfl, by rw [List.length_map]; omega, by rw [List.length_map]; omega, fun D1 hD1 => ?_⟩
      rw [Int.toNat_natCast, List.length_map]
      refine lc_it (walk_range (lo := 0) (n := D.length)) (fun o H2 => ∃ L2 : List (Addr × Nat × Nat), LtAt H2 D1 L2 ∧ L2.map (·.2) = ltrsIn o q.2.2.1 i ∧ Same H1 H2) ⟨[], ⟨upd_same, fun q hq => nomatch hq⟩, rfl, same_upd hD1⟩ (fun _ _ _ _ => trivial) ?_ ?_
      · rintro o y Hw H2 ho ⟨L2, LA2, eL2, s2⟩ ⟨rfl, rfl⟩
        have s12 := s1.trans s2
        refine ⟨rfl, ?_⟩
        refine ⟨_, rfl, _, rfl, t, _, 1, _, rfl, rfl, SqT.of (s12 _ _ ht), rfl, _, rfl, l, _, _, _, rfl, rfl, SqT.of (s12 _ _ hl), at0 (get_map hq), q.1, _, 1, _, rfl, rfl, SqT.of (s12 _ _ t1), rfl, rfl, _, rfl, ?_⟩
        have eb : (!decide (V.int (0 + ((o : Nat) : Int)) = V.int q.2.2.1)) = !decide ((o : Int) = q.2.2.1) := by
          congr 1
          rw [decide_eq_decide, Int.zero_add]
          exact ⟨fun z => by injection z, fun z => by rw [z]⟩
        show if (!decide (V.int (0 + ((o : Nat) : Int)) = V.int q.2.2.1)) = true then _ else _
        rw [eb]
        by_cases c : (o : Int) = q.2.2.1
        · rw [decide_eq_true c]
          refine iteF ?_
          exact ⟨L2, LA2, by rw [eL2, ltrsIn_succ, if_pos c, List.append_nil], s2⟩
        · rw [decide_eq_false c]
          refine iteT ?_
          refine ⟨_, rfl, _, rfl, (by show 2 ≤ sizeLine; decide), fun t2 ht2 => ?_⟩
          have s4 := same_upd (o := HO.tup [.int (0 + ((i : Nat) : Int)), .int (0 + ((o : Nat) : Int))]) ht2
          have h4 : (upd H2 t2 (.tup [.int (0 + ((i : Nat) : Int)), .int (0 + ((o : Nat) : Int))])) t2 = some (.tup [.int (0 + ((i : Nat) : Int)), .int (0 + ((o : Nat) : Int))]) := upd_same
          generalize upd H2 t2 (.tup [.int (0 + ((i : Nat) : Int)), .int (0 + ((o : Nat) : Int))]) = H4 at s4 h4
          have LA4 := LA2.same s4
          have tl : t2 ≠ D1 := ne_of h4 LA4.at_ (by intro z; cases z)
          have l2 : L2.length ≤ 4 := by
            have e := congrArg List.length eL2
            rw [List.length_map] at e
            have := ltrsIn_len o q.2.2.1 i
            omega
          refine ⟨_, LA4.at_, ?_, L2 ++ [(t2, i, o)], ⟨?_, fun m hm => ?_⟩, ?_, same_mut (s2.trans s4) hD1⟩
          · rw [List.length_map]
            exact Nat.lt_of_le_of_lt l2 (by decide)
          · rw [upd_same, List.map_append]
            rfl
          · rcases List.mem_append.mp hm with hm | hm
            · have g := LA4.tup m hm
              rw [upd_ne (ne_of g LA4.at_ (by intro z; cases z))]
              exact g
            · rw [List.mem_singleton.mp hm, upd_ne tl, h4, Int.zero_add, Int.zero_add]
              rfl
          · rw [List.map_append, eL2, ltrsIn_succ, if_neg c]
            rfl
      · rintro H2 ⟨L2, LA2, eL2, s2⟩
        have l2 : L2.length ≤ 4 := by
          have e := congrArg List.length eL2
          rw [List.length_map] at e
          have := ltrsIn_len D.length q.2.2.1 i
          omega
        have LA1 := LA.same s2
        refine ⟨f, D1, _, _, rfl, rfl, LA1.at_, LA2.at_, ?_, fun p hp => ?_⟩
        · rw [List.length_map, List.length_map]
          exact Nat.le_trans (show L.length + L2.length ≤ 28 by omega) (by decide)
        have s5 := same_upd (o := HO.lst ((L.map fun q => V.ref q.1) ++ (L2.map fun q => V.ref q.1))) hp
        refine ⟨p, _, L ++ L2, rfl, ⟨by rw [upd_same, List.map_append], fun m hm => ?_⟩, by rw [List.map_append, eL, eL2, ltrsTo_succ, ek], (s1.trans s2).trans s5, none_back (s1.trans s2) hp⟩
        rcases List.mem_append.mp hm with hm | hm
        · exact s5 _ _ (LA1.tup m hm)
        · exact s5 _ _ (LA2.tup m hm)
    · rintro σ H1 ⟨f, v2, L, rfl, LA, eL, s1, nf⟩
      exact ⟨_, rfl, h H1 f L LA (by rw [eL]; unfold ltrs ltrsTo; rw [List.length_map]) s1 nf⟩
end
end RL
/-! delays and looks that are none -/
namespace RL
open PySem PySem.Spec PyProof.Rows L2 RLM
theorem row_len {h j : Nat} {zs : List Int} (k : zs.length ≠ h) : rowB h j zs = false := by
  unfold rowB
  rw [decide_eq_false k, Bool.false_and]
theorem row_cell {h j i : Nat} {zs : List Int} {z : Int} (e : zs[i]? = some z) (k : cellB j i z = false) : rowB h j zs = false := by
  unfold rowB
  have il := (List.getElem?_eq_some_iff.mp e).1
  rw [Bool.and_eq_false_iff]
  right
  rw [List.all_eq_false]
  refine ⟨_, List.mem_map.mpr ⟨i, List.mem_range.mpr il, rfl⟩, ?_⟩
  rw [List.getD_eq_getElem?_getD, e]
  show ¬ cellB j i z = true
  rw [k]
  decide
theorem del_bad {D : List (List Int)} {j : Nat} {zs : List Int} (e : D[j]? = some zs) (k : rowB D.length j zs = false) : delB D = false := by
  unfold delB
  have il := (List.getElem?_eq_some_iff.mp e).1
  rw [Bool.and_eq_false_iff]
  right
  rw [List.all_eq_false]
  refine ⟨_, List.mem_map.mpr ⟨j, List.mem_range.mpr il, rfl⟩, ?_⟩
  rw [List.getD_eq_getElem?_getD, e]
  show ¬ rowB D.length j zs = true
  rw [k]
  decide
theorem del_len {D : List (List Int)} (k : ¬ (2 ≤ D.length ∧ D.length ≤ 4)) : delB D = false := by
  unfold delB
  rw [decide_eq_false k, Bool.false_and]
/-- something handed as delays that are none -/
def BadD (H : Hp) (v : V) : Prop := ∃ (e : Addr) (D : List DRw), v = .ref e ∧ H e = some (.tup (D.map fun q => V.ref q.1)) ∧ (∀ q ∈ D, H q.1 = some (.tup (q.2.map V.int)) ∧ q.2.length ≤ 60) ∧ D.length ≤ 60 ∧ delB (D.map (·.2)) = false
theorem BadD.same {H H' : Hp} {v : V} (s : Same H H') (h : BadD H v) : BadD H' v := by
  obtain ⟨e, D, rfl, h1, h2, h3⟩ := h
  exact ⟨e, D, rfl, s _ _ h1, fun q hq => ⟨s _ _ (h2 q hq).1, (h2 q hq).2⟩, h3⟩
theorem BadD.tk {H H' : Hp} {v : V} (s : TK H H') (h : BadD H v) : BadD H' v := by
  obtain ⟨e, D, rfl, h1, h2, h3⟩ := h
  exact ⟨e, D, rfl, s _ _ h1, fun q hq => ⟨s _ _ (h2 q hq).1, (h2 q hq).2⟩, h3⟩
/-- one row put in the place of another -/
theorem bad_put {H : Hp} {d e a : Addr} {D : List DRw} {at_ : Nat} {zs : List Int} (DA : DelAt H d D) (al : at_ < D.length) (he : H e = some (.tup (((D.map fun q => V.ref q.1).take at_ ++ [.ref a]) ++ (D.map fun q => V.ref q.1).drop (at_ + 1)))) (ha : H a = some (.tup (zs.map V.int))) (lz : zs.length ≤ 60) (bad : rowB D.length at_ zs = false) : BadD H (.ref e) := by
  have l4 := DA.len
  have ll : (D.take at_ ++ [(a, zs)] ++ D.drop (at_ + 1)).length = D.length := by
    rw [List.length_append, List.length_append, List.length_take, List.length_drop]
    simp only [List.length_cons, List.length_nil]
    omega
  refine ⟨e, D.take at_ ++ [(a, zs)] ++ D.drop (at_ + 1), rfl, ?_, fun q hq => ?_, by omega, ?_⟩
  · rw [he, List.map_append, List.map_append, List.map_take, List.map_drop]
    rfl
  · rcases List.mem_append.mp hq with hq | hq
    · rcases List.mem_append.mp hq with hq | hq
      · exact DA.row q (List.mem_of_mem_take hq)
      · rw [List.mem_singleton.mp hq]
        exact ⟨ha, lz⟩
    · exact DA.row q (List.mem_of_mem_drop hq)
  · refine del_bad (j := at_) (zs := zs) ?_ ?_
    · rw [List.getElem?_map, List.append_assoc, List.getElem?_append_right (by rw [List.length_take]; omega), List.length_take, Nat.min_eq_left (by omega), Nat.sub_self]
      rfl
    · rw [List.length_map, ll]
      exact bad
theorem put_row {tX : TE} {σ : L2.St} {H : Hp} {d : Addr} {at_ : Nat} {us : List V} {Q : VK} (G : V → Hp → Prop) (h1 : σ[1]? = some (some (.ref d))) (h2 : σ[2]? = some (some (.int (at_ : Nat)))) (hd : H d = some (.tup us)) (lu : us.length ≤ 100)
    (hX : ∀ (H' : Hp) (R : VK), Same H H' → (∀ y H2, Same H' H2 → G y H2 → R y H2) → tX σ H' R)
    (key : ∀ y t H2 H3, G y H2 → Same H H3 → Same H2 H3 → H3 t = some (.tup ((us.take at_ ++ [y]) ++ us.drop (at_ + 1))) → Q (.ref t) H3) :
    tOp rCatS (tOp rCatS (tSl rSlS (tVar 1) tNoPart (tPart (tVar 2))) (tTup (tCons tX tNil))) (tSl rSlS (tVar 1) (tPart (tOp (rI0 fun i j => V.int (i + j)) (tVar 2) (tC (V.int 1)))) tNoPart) σ H Q := by
  refine ⟨_, h1, _, h2, ((at_ : Nat) : Int), rfl, d, us, rfl, hd, fun q1 Ha ha sa => ?_⟩
  rw [cut_to7] at ha
  refine hX Ha _ sa fun y H2 s2 g => ?_
  refine ⟨(by show 1 ≤ sizeLine; decide), fun q2 hq2 => ?_⟩
  have s3 := same_upd (o := HO.tup [y]) hq2
  have h3 : (upd H2 q2 (.tup [y])) q2 = some (.tup [y]) := upd_same
  generalize upd H2 q2 (.tup [y]) = H3 at s3 h3
  refine ⟨q1, q2, _, _, rfl, rfl, s3 _ _ (s2 _ _ ha), h3, ?_, fun q4 H4 h4 s4 => ?_⟩
  · rw [List.length_take]
    exact Nat.le_trans (show min at_ us.length + 1 ≤ 101 by omega) (by decide)
  have s14 := ((sa.trans s2).trans s3).trans s4
  refine ⟨_, h1, _, h2, _, _, rfl, rfl, ((at_ + 1 : Nat) : Int), rfl, d, us, rfl, s14 _ _ hd, fun q5 H5 h5 s5 => ?_⟩
  rw [cut_from7] at h5
  refine ⟨q4, q5, _, _, rfl, rfl, s5 _ _ h4, h5, ?_, fun q6 H6 h6 s6 => ?_⟩
  · rw [List.length_append, List.length_take, List.length_drop]
    exact Nat.le_trans (show min at_ us.length + 1 + (us.length - (at_ + 1)) ≤ 201 by omega) (by decide)
  exact key y q6 H2 H6 g (s14.trans (s5.trans s6)) ((s3.trans s4).trans (s5.trans s6)) h6
section
variable {P : Program} {w : World} {K : PySem.W.Frag} {mg : Str → Option Value} {base : Heap}
def spOddD : Sp := fun vs H Q _ => ∃ (b c d : Addr) (D : List DRw), vs = [.ref b, .ref d] ∧ Box b c H ∧ DelAt H d D ∧ ∀ H' v, BadD H' v → Kc c H H' → Box b c H' → Q v H'
end
end RL
/-! looks of a talk that are none -/
namespace RL
open PySem PySem.Spec PyProof.Rows L2 RLM
theorem TLAt.tk {H H' : Hp} {q : TLk} (s : TK H H') (h : TLAt H q) : TLAt H' q := by
  obtain ⟨h1, x, ys, h2⟩ := h
  exact ⟨s _ _ h1, x, ys, s _ _ h2⟩
/-- something handed as looks that are none -/
def BadL (n : Nat) (H : Hp) (v : V) : Prop := ∃ (e : Addr) (M : List TLk), v = .ref e ∧ H e = some (.tup (M.map fun q => V.ref q.1)) ∧ (∀ q ∈ M, TLAt H q) ∧ M.length ≤ 60 ∧ looksB n (bk M) = false
theorem BadL.same {n : Nat} {H H' : Hp} {v : V} (s : Same H H') (h : BadL n H v) : BadL n H' v := by
  obtain ⟨e, M, rfl, h1, h2, h3⟩ := h
  exact ⟨e, M, rfl, s _ _ h1, fun q hq => (h2 q hq).same s, h3⟩
theorem BadL.tk {n : Nat} {H H' : Hp} {v : V} (s : TK H H') (h : BadL n H v) : BadL n H' v := by
  obtain ⟨e, M, rfl, h1, h2, h3⟩ := h
  exact ⟨e, M, rfl, s _ _ h1, fun q hq => (h2 q hq).tk s, h3⟩
theorem looks_many {n : Nat} {M : List TLk} (h : 6 < M.length) : looksB n (bk M) = false := by
  unfold looksB
  rw [decide_eq_false (by rw [List.length_map]; omega), Bool.false_and]
theorem looks_one {n : Nat} {M : List TLk} {q : TLk} (hq : q ∈ M) (h : lookB n q.2.1 q.2.2.1 = false) : looksB n (bk M) = false := by
  unfold looksB
  have : (bk M).all (fun q => lookB n q.1 q.2) = false := by
    rw [List.all_eq_false]
    exact ⟨_, List.mem_map.mpr ⟨q, hq, rfl⟩, by rw [h]; decide⟩
  rw [this, Bool.false_and, Bool.and_false]
theorem looks_fall {n : Nat} {M : List TLk} (h : ¬ ((bk M).map (·.1)).Pairwise (· ≤ ·)) : looksB n (bk M) = false := by
  unfold looksB
  rw [decide_eq_false h, Bool.and_false, Bool.and_false]
section
variable {P : Program} {w : World} {K : PySem.W.Frag} {mg : Str → Option Value} {base : Heap}
def spOddLk : Sp := fun vs H Q _ => ∃ (b c l : Addr) (n : Nat) (M : List TLk), vs = [.ref b, vI n, .ref l] ∧ Box b c H ∧ H l = some (.tup (M.map fun q => V.ref q.1)) ∧ (∀ q ∈ M, TLAt H q) ∧ M.length ≤ 6 ∧ n ≤ 8 ∧ ∀ H' v, BadL n H' v → Kc c H H' → Box b c H' → Q v H'
end
end RL
/-! list.extend of a tuple -/
namespace RL
open PySem PySem.Spec PyProof.Rows L2
theorem meets_extT (l b : Addr) (xs ys : Array Value) (n k : Nat) (od : Option Addr) (sl : Array (Option Value)) (few : xs.size + ys.size ≤ sizeLine) :
    Meets (Builtin.«list.extend» ⟨[.ref l, .ref b], []⟩) (fun _ R s => s.heap.get? l = some { cls := .type "list", data := .seq xs n } ∧ s.heap.get? b = some ⟨.type "tuple", od, .seq ys k, sl⟩ ∧ R (.ok (.ret Value.none)) { s with heap := s.heap.update l (Obj.mapSeq fun x => x ++ ys) }) :=
  .of_wp fun P w A R s h => by
    have long : ¬ (!xs.isEmpty && Builtin.List.listTooLong (xs.size + ys.size)) = true := by
      rw [notLongL few, Bool.and_false]
      exact Bool.false_ne_true
    have one : xs.size ≤ sizeLine := by omega
    have two : (xs ++ ys).size ≤ sizeLine + 1 := by rw [Array.size_append]; omega
    obtain ⟨hp, g, d, t, os⟩ := s
    obtain ⟨hl, hb, h⟩ := h
    have c1 := AutoSeq1.sub_tuple_list
    have c2 := AutoSeq1.sub_tuple_tuple
    have c3 := AutoSeq1.sub_list_list
    wp_walk using (wpAny_updateSeq hl rfl (hz := one) (_hz' := two)), AutoSeq1.wpAny_loadPart' hl, AutoSeq1.wpAny_loadPart' hb
    exact ⟨_, rfl, h⟩
section
variable {X : Cx} {K : PySem.W.Frag}
/-- xs.extend(t), t a tuple -/
def rExtT : V → List V → Hp → VK → Prop := fun x vs H Q => ∃ l b xs zs, x = .ref l ∧ vs = [.ref b] ∧ H l = some (.lst xs) ∧ H b = some (.tup zs) ∧ xs.length + zs.length ≤ sizeLine ∧ Q .non (upd H l (.lst (xs ++ zs)))
theorem mt_extT : MtM X "list.extend" rExtT := by
  intro pins s σ H x vs v us Q I rx rv h
  obtain ⟨l, b, xs, zs, rfl, rfl, hH, hB, hz, q⟩ := h
  cases rx
  obtain ⟨u, rfl, ru⟩ := rv.one
  cases ru
  obtain ⟨_, its, n, r, hl, e⟩ := I.lstM hH
  obtain ⟨_, its2, r2, o, ho, oc, k, od⟩ := (show ObjOk X.prog X.w H s.heap b (.tup zs) from I.hok b _ hB)
  obtain ⟨c, dd, dt, sl⟩ := o
  simp only at oc od
  subst oc od
  have hl2 := r2.length
  refine call_meets F.slot_list_extend ⟨_, e, rfl⟩ F.entry_list_extend (F.args_list_extend_2 _ _) (meets_extT l b its.toArray its2.toArray n k dd sl (by rw [List.size_toArray, List.size_toArray]; omega)) ⟨e, ho, ?_⟩
  refine ⟨.non, _, I.lset (its' := its ++ its2) hH e (by simp) (r.append r2) ?_, rfl, q⟩
  rw [List.length_append]
  omega
end
end RL
/-! what hands hear -/
namespace RL
open PySem PySem.Spec PyProof.Rows L2 RLM
/-- the letters of a row know a look -/
inductive Cont (bt hd : Nat → Int) (ar : Nat → Int → Int) (Lost : Nat → Int → Prop) : Nat → Nat → Prop where
  | own {i a : Nat} : a ≤ i → hd a = hd i → Cont bt hd ar Lost i a
  | letter {i o a : Nat} : o < i → hd o ≠ hd i → ¬ Lost o (hd i) → ar o (hd i) ≤ bt i → Cont bt hd ar Lost o a → Cont bt hd ar Lost i a
theorem Cont.le {bt hd : Nat → Int} {ar : Nat → Int → Int} {Lost : Nat → Int → Prop} {i a : Nat} (h : Cont bt hd ar Lost i a) : a ≤ i := by
  induction h with
  | own h _ => exact h
  | letter h1 _ _ _ _ ih => omega
section
variable {P : Program} {w : World} {K : PySem.W.Frag} {mg : Str → Option Value} {base : Heap}
def spChkHand (K : PySem.W.Frag) : Sp := fun vs H Q _ => ∃ (x : Addr) (D : List DRw) (M : List TLk) (k : Nat), vs = [.ref x, vI k] ∧ TalkAt K H x D M ∧ k < D.length ∧ Q .non H
theorem sc_Talk_check_hand : FnScope ["self", "hand"] ["self", "hand"] (defScope s_Talk_check_hand) := ⟨rfl, rfl, rfl, by decide +kernel, rfl, by decide +kernel, by decide +kernel⟩
theorem ok_chkhand (T : Tx K mg) : Has P w K mg base (mC K "Talk" "check_hand") 4 ["self", "hand"] (spChkHand K) := by
  obtain ⟨⟨fd_is_between, F_is_between, b_is_between⟩, kp_is_between⟩ := ok_is_between (P := P) (w := w) (base := base) T
  obtain ⟨⟨fd_hands, F_hands, b_hands⟩, kp_hands⟩ := ok_hands (P := P) (w := w) (base := base) T
  obtain ⟨fd, F⟩ := T.d_Talk_check_hand
  refine ⟨⟨fd, F.ok sc_Talk_check_hand (fun vs H Q E h => ?_) (fun cdv A outer s H vs Q E hr h => ?_), F.bindsN fun _ _ _ _ _ _ us hl => match us, hl with | [_, _], _ => rfl⟩, F.kp⟩
  · obtain ⟨x, D, M, k, rfl, _⟩ := h
    rfl
  · obtain ⟨x, D, M, k, rfl, TA, kl, h⟩ := h
    have hr_is_between : Room 2 _ := hr.mono (by decide)
    have hr_hands : Room 1 _ := hr.mono (by decide)
    refine ⟨_, PSs.nox (pss_one (ps_if (pt_not (pt_val (pe_call F_is_between hr_is_between rfl T.glo_is_between kp_is_between b_is_between .nil pass0 (pa_cons (pv 1) (pa_cons pe_int (pa_cons (pe_op op_sub (pe_meth0 (pv 0) T.cl_Talk T.m_Talk_hands F_hands hr_hands b_hands .nil pass0) pe_int) pa_nil)))))) (pss_one ps_never) pss_nil)), ?_⟩
    obtain ⟨dx, d, r, hx, DA, hr⟩ := TA.ex
    exact ⟨_, rfl, _, rfl, x, dx, _, rfl, hx, tf_hands _ _, x, D, M, rfl, TA, _, _, rfl, rfl, _, _, _, rfl, _, rfl, iteNS ⟨by omega, by omega⟩ h⟩
def LtT (H : Hp) (t : Addr) (Ls : List (Addr × Nat × Nat)) : Prop := H t = some (.tup (Ls.map fun q => V.ref q.1)) ∧ ∀ q ∈ Ls, H q.1 = some (.tup [vI q.2.1, vI q.2.2])
abbrev btM (M : List TLk) (i : Nat) : Int := (M.map (·.2.1)).getD i 0
abbrev hdM (M : List TLk) (i : Nat) : Int := (M.map (·.2.2.1)).getD i 0
abbrev arM (D : List DRw) (M : List TLk) (i : Nat) (k : Int) : Int := btM M i + delayAt (D.map (·.2)) (hdM M i) k.toNat
def LostB (Ls : List (Addr × Nat × Nat)) (o : Nat) (k : Int) : Prop := ∃ q ∈ Ls, q.2.1 = o ∧ (q.2.2 : Int) = k
abbrev ContM (D : List DRw) (M : List TLk) (Ls : List (Addr × Nat × Nat)) : Nat → Nat → Prop := Cont (btM M) (hdM M) (arM D M) (LostB Ls)
theorem LtT.dp {K : PySem.W.Frag} {H : Hp} {t : Addr} {Ls : List (Addr × Nat × Nat)} (h : LtT H t Ls) : Dp K H (.ref t) (.tuple (((Ls.map (·.2)).map zPair).map lotD)) := by
  have := dp_rowsA (K := K) (H := H) (L := Ls.map fun q => (q.1, zPair q.2)) fun q hq => by
    obtain ⟨p, hp, rfl⟩ := List.mem_map.mp hq
    exact h.2 p hp
  rw [show ((Ls.map fun q => (q.1, zPair q.2)).map (·.2)) = (Ls.map (·.2)).map zPair by rw [List.map_map, List.map_map]; rfl, show ((Ls.map fun q => (q.1, zPair q.2)).map fun q => V.ref q.1) = Ls.map fun q => V.ref q.1 by rw [List.map_map]; rfl] at this
  exact .tup (SqT.of h.1) this
theorem LtT.same {H H' : Hp} {t : Addr} {Ls : List (Addr × Nat × Nat)} (s : Same H H') (h : LtT H t Ls) : LtT H' t Ls := ⟨s _ _ h.1, fun q hq => s _ _ (h.2 q hq)⟩
/-- the same, of a tuple that may be a def's default -/
def LtS (K : PySem.W.Frag) (H : Hp) (t : Addr) (Ls : List (Addr × Nat × Nat)) : Prop := SqT K H t (Ls.map fun q => V.ref q.1) ∧ ∀ q ∈ Ls, H q.1 = some (.tup [vI q.2.1, vI q.2.2])
theorem sqT_same {K : PySem.W.Frag} {H H' : Hp} {a : Addr} {xs : List V} (s : Same H H') : SqT K H a xs → SqT K H' a xs
  | .inl h => .inl (rd_same s h)
  | .inr h => .inr h
theorem ty_sqT {K : PySem.W.Frag} {H : Hp} {a : Addr} {xs : List V} : SqT K H a xs → TyX K H (.ref a) (.type "tuple")
  | .inl h => ty_tup h
  | .inr ⟨_, _, _, e, c, _⟩ => .kTuple e c
theorem LtT.s {K : PySem.W.Frag} {H : Hp} {t : Addr} {Ls : List (Addr × Nat × Nat)} (h : LtT H t Ls) : LtS K H t Ls := ⟨SqT.of h.1, h.2⟩
theorem LtS.same {K : PySem.W.Frag} {H H' : Hp} {t : Addr} {Ls : List (Addr × Nat × Nat)} (s : Same H H') (h : LtS K H t Ls) : LtS K H' t Ls := ⟨sqT_same s h.1, fun q hq => s _ _ (h.2 q hq)⟩
theorem LtS.dp {K : PySem.W.Frag} {H : Hp} {t : Addr} {Ls : List (Addr × Nat × Nat)} (h : LtS K H t Ls) : Dp K H (.ref t) (.tuple (((Ls.map (·.2)).map zPair).map lotD)) := by
  have := dp_rowsA (K := K) (H := H) (L := Ls.map fun q => (q.1, zPair q.2)) fun q hq => by
    obtain ⟨p, hp, rfl⟩ := List.mem_map.mp hq
    exact h.2 p hp
  rw [show ((Ls.map fun q => (q.1, zPair q.2)).map (·.2)) = (Ls.map (·.2)).map zPair by rw [List.map_map, List.map_map]; rfl, show ((Ls.map fun q => (q.1, zPair q.2)).map fun q => V.ref q.1) = Ls.map fun q => V.ref q.1 by rw [List.map_map]; rfl] at this
  exact .tup h.1 this
theorem lost_mem {Ls : List (Addr × Nat × Nat)} {o : Nat} {k : Int} : [(o : Int), k] ∈ (Ls.map (·.2)).map zPair ↔ LostB Ls o k := by
  constructor
  · intro h
    obtain ⟨p, hp, e⟩ := List.mem_map.mp h
    obtain ⟨q, hq, rfl⟩ := List.mem_map.mp hp
    unfold zPair at e
    injection e with e1 e2
    injection e2 with e2 _
    exact ⟨q, hq, by omega, e2⟩
  · rintro ⟨q, hq, rfl, rfl⟩
    exact List.mem_map.mpr ⟨q.2, List.mem_map.mpr ⟨q, hq, rfl⟩, rfl⟩
def spContents (K : PySem.W.Frag) : Sp := fun vs H Q _ => ∃ (x t : Addr) (D : List DRw) (M : List TLk) (Ls : List (Addr × Nat × Nat)), vs = [.ref x, .ref t] ∧ TalkAt K H x D M ∧ LtS K H t Ls ∧ Ls.length ≤ 24 ∧
  ∀ H' l (us : List Addr), H' l = some (.lst (us.map V.ref)) → us.length = M.length → (∀ i u, us[i]? = some u → H' u = some (.tup ((lotP M.length (ContM D M Ls i)).map vI))) → Same H H' → Q (.ref l) H'
theorem sc_Talk_contents : FnScope ["self", "lost", "told", "number", "beat", "hand", "look", "heard", "other", "content"] ["self", "lost"] (defScope s_Talk_contents) := ⟨rfl, rfl, rfl, by decide +kernel, rfl, by decide +kernel, by decide +kernel⟩
theorem ok_contents (T : Tx K mg) : Has P w K mg base (mC K "Talk" "contents") 2 ["self", "lost"] (spContents K) := by
  obtain ⟨⟨fd_arrival, F_arrival, b_arrival⟩, kp_arrival⟩ := ok_arrival (P := P) (w := w) (base := base) T
  obtain ⟨fd, F⟩ := T.d_Talk_contents
  refine ⟨⟨fd, F.ok sc_Talk_contents (fun vs H Q E h => ?_) (fun cdv A outer s H vs Q E hr h => ?_), F.bindsN fun _ _ _ _ _ _ us hl => match us, hl with | [_, _], _ => rfl⟩, F.kp⟩
  · obtain ⟨x, t, D, M, Ls, rfl, _⟩ := h
    rfl
  · obtain ⟨x, t, D, M, Ls, rfl, TA, LT, lL, h⟩ := h
    have hr_arrival : Room 1 _ := hr.mono (by decide)
    refine ⟨_, PSs.nox (pss_cons (ps_set (i := 2) sc_Talk_contents.nd rfl (Or.inl rfl) (pe_lst pa_nil))
      (pss_cons (ps_for PassesOwn.never rfl (piEnum (K := K) (by rfl) T.free_enumerate (pa_cons (fldK (K := K) (pv 0) rfl) pa_nil)) (pgT (K := K) (n := 2) rfl (pgs_cons (pg_name (i := 3) sc_Talk_contents.nd rfl (Or.inl rfl)) (pgs_cons (pgT (K := K) (n := 3) rfl (pgs_cons (pg_name (i := 4) sc_Talk_contents.nd rfl (Or.inl rfl)) (pgs_cons (pg_name (i := 5) sc_Talk_contents.nd rfl (Or.inr rfl)) (pgs_cons (pg_name (i := 6) sc_Talk_contents.nd rfl (Or.inl rfl)) pgs_nil)))) pgs_nil))) (pss_cons (ps_setLc (i := 7) (own := [("other", 8)]) (g := (gName 8)) rfl sc_Talk_contents.nd rfl rfl (sw_true rfl rfl rfl (by decide +kernel)) (pi_range1 (by rfl) T.free_range (pa_cons (pe_op op_add (pv 3) pe_int) pa_nil)) (blkOk_by (by kernel_rfl)) (fun _ _ _ _ _ => (pg_name (i := 8) sc_Talk_contents.nd rfl (Or.inl rfl))) (fun _ _ _ _ _ => (pts_one (pt_cmpR op_eq (pe_ix (ixT (K := K)) (pe_ix (ixL (K := K)) (fldK (K := K) (pv 0) rfl) (pv 8) (fun _ _ => rfl)) pe_int (fun _ _ => rfl)) (pv 5) (nomark _)))) (fun _ _ _ _ _ => (pv 8)))
      (pss_cons (ps_for PassesOwn.never rfl (piEnum (K := K) (by rfl) T.free_enumerate (pa_cons (pe_callTy (listK (K := K)) (by rfl) T.free_list (by decide +kernel) (pa_cons (pv 2) pa_nil)) pa_nil)) (pgT (K := K) (n := 2) rfl (pgs_cons (pg_name (i := 8) sc_Talk_contents.nd rfl (Or.inl rfl)) (pgs_cons (pg_name (i := 9) sc_Talk_contents.nd rfl (Or.inl rfl)) pgs_nil))) (pss_one (ps_if (PW.pt (pw_and (pt_cmpR op_ne (pe_ix (ixT (K := K)) (pe_ix (ixL (K := K)) (fldK (K := K) (pv 0) rfl) (pv 8) (fun _ _ => rfl)) pe_int (fun _ _ => rfl)) (pv 5) (nomark _)) (pw_and (pt_cmpR (notDT (K := K) (hr65 hr)) (pe_tup (pa_cons (pv 8) (pa_cons (pv 5) pa_nil))) (pv 1) (by rfl)) (pw_and1 (pt_cmpR op_le (pe_meth (pv 0) T.cl_Talk T.m_Talk_arrival F_arrival hr_arrival b_arrival .nil pass0 (pa_cons (pv 8) (pa_cons (pv 5) pa_nil))) (pv 4) (nomark _)))))) (pss_one (ps_expr (bmK (K := K) PySem.F.plainAttrs_list PySem.F.slot_list_extend PySem.F.type_list_extend mt_extT (pv 7) (pa_cons (pv 9) pa_nil)))) pss_nil)))
      (pss_one (ps_expr (bmK (K := K) PySem.F.plainAttrs_list PySem.F.slot_list_append PySem.F.type_list_append mt_append (pv 2) (pa_cons (pe_callTy (tupK (K := K)) (by rfl) T.free_tuple (by decide +kernel) (pa_cons (pe_callB (sortS (w := w)) (by rfl) T.free_sorted (by decide +kernel) (pa_cons (pe_callTy (setLK (K := K) (w := w)) (by rfl) T.free_set (by decide +kernel) (pa_cons (pv 7) pa_nil)) pa_nil)) pa_nil)) pa_nil)))))))
      (pss_one (ps_ret (pv 2))))), ?_⟩
    obtain ⟨dx, d, r, hx, DA, hr'⟩ := TA.ex
    have l4 := DA.len
    have l6 := looks_len TA.ok
    refine ⟨Nat.zero_le _, fun to hto => ?_⟩
    have s0 : Same H (upd H to (.lst [])) := same_upd hto
    refine ⟨_, rfl, x, _, dx, _, _, rfl, s0 _ _ hx, T.cl_Talk, T.n_Talk_rows, tf_rows _ _, r, _, rfl, SqL.of (s0 _ _ hr'), ?_⟩
    refine for_it (walk_enum (K := K) (a := r) (xs := M.map fun q => V.ref q.1)) (fun i σ H1 => ∃ (v3 v4 v5 v6 v7 v8 v9 : Option V) (us : List Addr), σ = [some (.ref x), some (.ref t), some (.ref to), v3, v4, v5, v6, v7, v8, v9] ∧ H1 to = some (.lst (us.map V.ref)) ∧ us.length = i ∧ (∀ j u, us[j]? = some u → H1 u = some (.tup ((lotP M.length (ContM D M Ls j)).map vI))) ∧ Same H H1)
      ⟨none, none, none, none, none, none, none, [], rfl, upd_same, rfl, fun j u e => by simp at e, s0⟩ (fun i σ H1 _ ⟨_, _, _, _, _, _, _, _, _, _, _, _, s1⟩ => SqL.of (s1 _ _ hr')) ?_ ?_
    · rintro i y σ H1 H2 hi ⟨v3, v4, v5, v6, v7, v8, v9, us, rfl, hto1, lus, eus, s1⟩ ⟨tt, y1, y2, rfl, htt, rfl, e1, e2⟩
      rw [List.length_map] at hi
      cases (Option.some.inj e1)
      obtain ⟨q, hq, rfl⟩ : ∃ q, M[i]? = some q ∧ y2 = V.ref q.1 := by
        have e3 : (M.map fun q => V.ref q.1)[i]? = some y2 := e2
        rw [List.getElem?_map] at e3
        cases e : M[i]? with
        | none => rw [e] at e3; cases e3
        | some q => rw [e] at e3; exact ⟨q, rfl, (Option.some.inj e3).symm⟩
      obtain ⟨t1, _⟩ := TA.tl q (List.mem_of_getElem? hq)
      have eh : ∀ {k : Nat} {p : TLk}, M[k]? = some p → hdM M k = p.2.2.1 ∧ btM M k = p.2.1 := fun {k p} e => by
        unfold hdM btM
        rw [List.getD_eq_getElem?_getD, List.getD_eq_getElem?_getD, List.getElem?_map, List.getElem?_map, e]
        exact ⟨rfl, rfl⟩
      have lk := looks_at TA.ok (List.mem_of_getElem? hq)
      obtain ⟨kn, hk⟩ : ∃ kn : Nat, q.2.2.1 = (kn : Int) := ⟨q.2.2.1.toNat, by omega⟩
      have s2 : Same H1 (upd H1 tt (.tup [.int (i : Nat), .ref q.1])) := same_upd htt
      have s02 := s1.trans s2
      refine ⟨tt, _, rfl, SqT.of upd_same, rfl, _, _, rfl, _, _, rfl, q.1, _, rfl, SqT.of (s02 _ _ t1), rfl, _, _, rfl, _, _, rfl, _, _, rfl, rfl, rfl, ?_⟩
      generalize upd H1 tt (.tup [.int (i : Nat), .ref q.1]) = H2 at s2 s02
      have hto2 := s2 _ _ hto1
      refine ⟨_, rfl, _, _, rfl, rfl, ((i + 1 : Nat) : Int), rfl, by omega, by omega, fun D1 hD1 => ?_⟩
      rw [Int.toNat_natCast]
      refine lc_filt (walk_range (lo := 0) (n := i + 1)) (List.range (i + 1)) (fun b => decide (hdM M b = q.2.2.1)) (by simp) (by omega) hD1 (fun _ _ => trivial) ?_ ?_
      · rintro k b y Ha Hb N1 N0 hb sa ⟨rfl, rfl⟩ k1 k0
        obtain ⟨bn, rfl⟩ : k < i + 1 ∧ b = k := by
          obtain ⟨z1, z2⟩ := List.getElem?_eq_some_iff.mp hb
          rw [List.getElem_range] at z2
          rw [List.length_range] at z1
          exact ⟨z1, z2.symm⟩
        have hp : M[b]? = some (M[b]'(by omega)) := List.getElem?_eq_getElem _
        generalize M[b]'(by omega) = p at hp
        have tp := (s02.trans sa) _ _ (TA.tl p (List.mem_of_getElem? hp)).1
        refine ⟨rfl, _, rfl, x, _, dx, _, _, rfl, (s02.trans sa) _ _ hx, T.cl_Talk, T.n_Talk_rows, tf_rows _ _, _, rfl, r, _, _, _, rfl, rfl, SqL.of ((s02.trans sa) _ _ hr'), at0 (get_map hp), p.1, _, 1, _, rfl, rfl, SqT.of tp, rfl, _, rfl, rfl, _, rfl, ?_⟩
        have eb : decide (V.int p.2.2.1 = V.int q.2.2.1) = decide (hdM M b = q.2.2.1) := by
          rw [(eh hp).1, decide_eq_decide]
          exact ⟨fun z => by injection z, fun z => by rw [z]⟩
        show if decide (V.int p.2.2.1 = V.int q.2.2.1) = true then _ else _
        rw [eb]
        refine ite2 (fun z => ⟨_, rfl, ?_⟩) (fun z => k0 _ (by simpa using z) fun _ _ e => e)
        have := k1 _ z fun _ _ e => e
        show N1 (V.int (0 + ((b : Nat) : Int))) _
        rw [Int.zero_add]
        exact this
      · intro H3 h3 s3
        refine ⟨_, rfl, to, _, rfl, .inl (SqL.of (s3 _ _ hto2)), fun l2 hl2 => ?_⟩
        have s4 := same_upd (o := HO.lst (us.map V.ref)) hl2
        have h4 : (upd H3 l2 (.lst (us.map V.ref))) l2 = some (.lst (us.map V.ref)) := upd_same
        have nDl : D1 ≠ l2 := ne_of_none h3 hl2
        have l21 : H2 l2 = none := none_back s3 hl2
        have h34 := s4 _ _ h3
        have s24 := s3.trans s4
        generalize upd H3 l2 (.lst (us.map V.ref)) = H4 at s4 h4 h34 s24
        refine ⟨l2, _, rfl, SqL.of h4, ?_⟩
        refine for_it (walk_enum (K := K) (a := l2) (xs := us.map V.ref)) (fun o σ H5 => ∃ (v8 v9 : Option V) (ws : List Nat), σ = [some (.ref x), some (.ref t), some (.ref to), some (.int (i : Nat)), some (.int q.2.1), some (.int q.2.2.1), some (.ref q.2.2.2), some (.ref D1), v8, v9] ∧ H5 D1 = some (.lst (ws.map vI)) ∧ ws.length ≤ 6 + 6 * o ∧
            (∀ a, a ∈ ws ↔ (a ≤ i ∧ hdM M a = q.2.2.1) ∨ ∃ o', o' < o ∧ hdM M o' ≠ q.2.2.1 ∧ ¬ LostB Ls o' q.2.2.1 ∧ arM D M o' q.2.2.1 ≤ q.2.1 ∧ ContM D M Ls o' a) ∧ H5 l2 = some (.lst (us.map V.ref)) ∧ Same H2 H5)
          ⟨v8, v9, _, rfl, h34, ?_, fun a => ?_, h4, s24⟩ (fun o σ H5 _ ⟨_, _, _, _, _, _, _, hl5, _⟩ => SqL.of hl5) ?_ ?_
        · have := List.length_filter_le (fun b => decide (hdM M b = q.2.2.1)) (List.range (i + 1))
          rw [List.length_range] at this
          omega
        · rw [List.mem_filter, List.mem_range, decide_eq_true_iff]
          constructor
          · rintro ⟨z1, z2⟩
            exact .inl ⟨by omega, z2⟩
          · rintro (⟨z1, z2⟩ | ⟨o', z, _⟩)
            · exact ⟨by omega, z2⟩
            · omega
        · rintro o y σ H5' H5 ho ⟨v8', v9', ws, rfl, hD5, lws, mws, hl5, s5⟩ ⟨tt2, y1, y2, rfl, ht2, rfl, e1, e2⟩
          rw [List.length_map] at ho
          cases (Option.some.inj e1)
          obtain ⟨u, hu, rfl⟩ := get_mapV e2
          have hp : M[o]? = some (M[o]'(by omega)) := List.getElem?_eq_getElem _
          generalize M[o]'(by omega) = p at hp
          obtain ⟨ep1, ep2⟩ := eh hp
          have s6 : Same H5' (upd H5' tt2 (.tup [.int (o : Nat), .ref u])) := same_upd ht2
          refine ⟨tt2, _, rfl, SqT.of upd_same, rfl, _, _, rfl, _, _, rfl, rfl, ?_⟩
          generalize upd H5' tt2 (.tup [.int (o : Nat), .ref u]) = H6 at s6
          have s26 := s5.trans s6
          have s06 := s02.trans s26
          have hD6 := s6 _ _ hD5
          have hl6 := s6 _ _ hl5
          have hu6 := (s2.trans s26) _ _ (eus o u hu)
          have tp := s06 _ _ (TA.tl p (List.mem_of_getElem? hp)).1
          -- what is kept, whatever comes
          have no : ∀ (H7 : Hp), H7 D1 = some (.lst (ws.map vI)) → H7 l2 = some (.lst (us.map V.ref)) → Same H2 H7 → ¬ (hdM M o ≠ q.2.2.1 ∧ ¬ LostB Ls o q.2.2.1 ∧ arM D M o q.2.2.1 ≤ q.2.1) →
              ∃ (v8 v9 : Option V) (ws : List Nat), ([some (.ref x), some (.ref t), some (.ref to), some (.int (i : Nat)), some (.int q.2.1), some (.int q.2.2.1), some (.ref q.2.2.2), some (.ref D1), some (.int (o : Nat)), some (.ref u)] : L2.St) = [some (.ref x), some (.ref t), some (.ref to), some (.int (i : Nat)), some (.int q.2.1), some (.int q.2.2.1), some (.ref q.2.2.2), some (.ref D1), v8, v9] ∧ H7 D1 = some (.lst (ws.map vI)) ∧ ws.length ≤ 6 + 6 * (o + 1) ∧
                (∀ a, a ∈ ws ↔ (a ≤ i ∧ hdM M a = q.2.2.1) ∨ ∃ o', o' < o + 1 ∧ hdM M o' ≠ q.2.2.1 ∧ ¬ LostB Ls o' q.2.2.1 ∧ arM D M o' q.2.2.1 ≤ q.2.1 ∧ ContM D M Ls o' a) ∧ H7 l2 = some (.lst (us.map V.ref)) ∧ Same H2 H7 := fun H7 g1 g2 g3 c => by
            refine ⟨_, _, ws, rfl, g1, by omega, fun a => ?_, g2, g3⟩
            rw [mws a]
            refine or_congr Iff.rfl ⟨fun ⟨o', z1, z2⟩ => ⟨o', by omega, z2⟩, fun ⟨o', z1, z2⟩ => ⟨o', ?_, z2⟩⟩
            rcases Nat.lt_or_ge o' o with k | k
            · exact k
            · exfalso
              have : o' = o := by omega
              subst this
              exact c ⟨z2.1, z2.2.1, z2.2.2.1⟩
          refine ⟨_, rfl, x, _, dx, _, _, rfl, s06 _ _ hx, T.cl_Talk, T.n_Talk_rows, tf_rows _ _, _, rfl, r, _, _, _, rfl, rfl, SqL.of (s06 _ _ hr'), atI_nat (get_map hp), p.1, _, 1, _, rfl, rfl, SqT.of tp, rfl, _, rfl, rfl, _, rfl, ?_⟩
          have eb : (!decide (V.int p.2.2.1 = V.int q.2.2.1)) = decide (hdM M o ≠ q.2.2.1) := by
            rw [ep1]
            by_cases c : p.2.2.1 = q.2.2.1
            · rw [c]; simp
            · rw [decide_eq_false (show ¬ (V.int p.2.2.1 = V.int q.2.2.1) from fun z => c (by injection z)), decide_eq_true (show p.2.2.1 ≠ q.2.2.1 from c)]
              rfl
          show if (!decide (V.int p.2.2.1 = V.int q.2.2.1)) = true then _ else _
          rw [eb]
          by_cases c1 : hdM M o ≠ q.2.2.1
          · rw [decide_eq_true c1]
            refine iteT ?_
            refine ⟨_, rfl, _, rfl, (by show 2 ≤ sizeLine; decide), fun tq htq => ?_⟩
            have s7 := same_upd (o := HO.tup [V.int (o : Nat), V.int q.2.2.1]) htq
            have h7 : (upd H6 tq (.tup [V.int (o : Nat), V.int q.2.2.1])) tq = some (.tup [V.int (o : Nat), V.int q.2.2.1]) := upd_same
            generalize upd H6 tq (.tup [V.int (o : Nat), V.int q.2.2.1]) = H7 at s7 h7
            have s07 := s06.trans s7
            have hD7 := s7 _ _ hD6
            have hl7 := s7 _ _ hl6
            refine ⟨_, rfl, lotD [(o : Int), q.2.2.1], _, .tup (SqT.of h7) (dp_ints [(o : Int), q.2.2.1]), (LT.same s07).dp, shaped_lot _, lotsT_shaped _, _, rfl, ?_⟩
            rw [lotZ_any]
            by_cases c2 : LostB Ls o q.2.2.1
            · rw [decide_eq_true (lost_mem.mpr c2)]
              refine iteF (iteF ?_)
              exact no H7 hD7 hl7 (s26.trans s7) fun z => z.2.1 c2
            rw [decide_eq_false (fun z => c2 (lost_mem.mp z))]
            refine iteT ?_
            refine ⟨_, rfl, x, dx, _, rfl, s07 _ _ hx, tf_arrival _ _, _, rfl, _, rfl, x, D, M, o, kn, p, by rw [hk]; rfl, TA.same s07, hp, by omega, ?_⟩
            have ea : p.2.1 + delayAt (D.map (·.2)) p.2.2.1 kn = arM D M o q.2.2.1 := by
              unfold arM
              rw [ep1, ep2, hk, Int.toNat_natCast]
            rw [ea]
            refine ⟨_, rfl, _, _, rfl, rfl, _, rfl, ?_⟩
            by_cases c3 : arM D M o q.2.2.1 ≤ q.2.1
            · rw [decide_eq_true c3]
              refine iteT ?_
              have hu7 := s7 _ _ hu6
              refine ⟨_, rfl, .inl ⟨rfl, _, SqL.of hD7⟩, _, rfl, D1, u, _, _, rfl, rfl, hD7, hu7, ?_, ?_⟩
              · rw [List.length_map, List.length_map]
                have := lotP_len M.length (ContM D M Ls o)
                exact Nat.le_trans (show ws.length + (lotP M.length (ContM D M Ls o)).length ≤ 100 by omega) (by decide)
              refine ⟨_, _, ws ++ lotP M.length (ContM D M Ls o), rfl, by rw [upd_same, List.map_append], ?_, fun a => ?_, ?_, same_mut (s26.trans s7) hD1⟩
              · rw [List.length_append]
                have := lotP_len M.length (ContM D M Ls o)
                omega
              · rw [List.mem_append, mws a, mem_lotP]
                constructor
                · rintro ((z | ⟨o', z1, z2⟩) | ⟨z1, z2⟩)
                  · exact .inl z
                  · exact .inr ⟨o', by omega, z2⟩
                  · exact .inr ⟨o, by omega, c1, c2, c3, z2⟩
                · rintro (z | ⟨o', z1, z2⟩)
                  · exact .inl (.inl z)
                  · rcases Nat.lt_or_ge o' o with k | k
                    · exact .inl (.inr ⟨o', k, z2⟩)
                    · have : o' = o := by omega
                      subst this
                      have := z2.2.2.2.le
                      exact .inr ⟨by omega, z2.2.2.2⟩
              · rw [upd_ne nDl.symm]
                exact hl7
            · rw [decide_eq_false c3]
              refine iteF ?_
              exact no H7 hD7 hl7 (s26.trans s7) fun z => c3 z.2.2
          · rw [decide_eq_false c1]
            refine iteF (iteF ?_)
            exact no H6 hD6 hl6 s26 fun z => c1 z.1
        · rintro σ H5 ⟨v8', v9', ws, rfl, hD5, lws, mws, hl5, s5⟩
          rw [List.length_map, lus] at mws lws
          have hto5 := s5 _ _ hto2
          refine ⟨_, rfl, .inl ⟨rfl, _, SqL.of hto5⟩, ?_⟩
          refine ⟨_, rfl, D1, ws.map nI, rfl, SqL.of (by rw [← vI_map]; exact hD5), by rw [List.length_map]; omega, fun dd cc hd hcc _ => ?_⟩
          have s6 := same_upd (o := SetO w dd (fun j => decide (j ∈ ws.map nI)) cc) hd
          rw [List.length_map] at hcc
          refine ⟨dd, _, cc, rfl, upd_same, by omega, fun zs q' r1 r2 r3 hq' => ?_⟩
          have s7 := same_upd (o := HO.lst (zs.map V.int)) hq'
          have h7 : (upd (upd H5 dd (SetO w dd (fun j => decide (j ∈ ws.map nI)) cc)) q' (.lst (zs.map V.int))) q' = some (.lst (zs.map V.int)) := upd_same
          have s57 := s6.trans s7
          generalize upd (upd H5 dd (SetO w dd (fun j => decide (j ∈ ws.map nI)) cc)) q' (.lst (zs.map V.int)) = H7 at s57 h7
          have ez : zs.map V.int = (lotP M.length (ContM D M Ls i)).map vI := by
            obtain ⟨eq1, eq2⟩ := eh hq
            refine rise_lot r1 fun k => ?_
            rw [r2 k, decide_eq_true_iff, List.mem_map]
            have cont : ∀ a, a ∈ ws ↔ a < M.length ∧ ContM D M Ls i a := fun a => by
              rw [mws a]
              constructor
              · rintro (⟨z1, z2⟩ | ⟨o', z1, z2, z3, z4, z5⟩)
                · exact ⟨by omega, .own z1 (by rw [eq1]; exact z2)⟩
                · exact ⟨by have := z5.le; omega, .letter z1 (by rw [eq1]; exact z2) (by rw [eq1]; exact z3) (by rw [eq1, eq2]; exact z4) z5⟩
              · rintro ⟨_, z⟩
                cases z with
                | own z1 z2 => exact .inl ⟨z1, by rw [← eq1]; exact z2⟩
                | letter z1 z2 z3 z4 z5 =>
                  rw [eq1] at z2 z3 z4
                  rw [eq2] at z4
                  exact .inr ⟨_, z1, z2, z3, z4, z5⟩
            constructor
            · rintro ⟨a, ha, rfl⟩
              exact ⟨a, rfl, (cont a).mp ha⟩
            · rintro ⟨a, rfl, ha⟩
              exact ⟨a, (cont a).mpr ha, rfl⟩
          refine ⟨q', _, rfl, .inl ⟨SqL.of h7, fun u' hu' => ?_⟩⟩
          have s8 := same_upd (o := HO.tup (zs.map V.int)) hu'
          have h8 : (upd H7 u' (.tup (zs.map V.int))) u' = some (.tup ((lotP M.length (ContM D M Ls i)).map vI)) := by rw [upd_same, ez]
          have s58 := s57.trans s8
          generalize upd H7 u' (.tup (zs.map V.int)) = H8 at s8 h8 s58
          have hto8 := s58 _ _ hto5
          have tk := tk_lst (acc := us.map V.ref) (bcc := us.map V.ref ++ [V.ref u']) hto8
          refine ⟨to, _, _, rfl, rfl, hto8, by rw [List.length_map]; exact Nat.lt_of_le_of_lt (show us.length ≤ 6 by omega) (by decide), _, _, _, _, _, _, _, us ++ [u'], rfl, by rw [upd_same, List.map_append]; rfl, by rw [List.length_append, lus]; rfl, fun j u e => ?_, same_mut ((s02.trans s5).trans s58) hto⟩
          by_cases cj : j < us.length
          · rw [List.getElem?_append_left cj] at e
            exact tk _ _ ((s2.trans (s5.trans s58)) _ _ (eus j u e))
          · rw [List.getElem?_append_right (by omega)] at e
            have ej : j - us.length = 0 := by
              obtain ⟨z1, _⟩ := List.getElem?_eq_some_iff.mp e
              simp at z1
              omega
            rw [ej] at e
            cases e
            rw [show j = i by omega]
            exact tk _ _ h8
    · rintro σ H1 ⟨v3, v4, v5, v6, v7, v8, v9, us, rfl, hto1, lus, eus, s1⟩
      rw [List.length_map] at lus
      exact ⟨_, rfl, h H1 to us hto1 lus eus s1⟩
end
end RL
namespace RL
open PySem PySem.Spec PyProof.Rows L2 RLM
/-- [e for x in xs if t(x)]: what R says of each -/
theorem lc_relF {α : Type} {J : It} {n : Nat} {G : Hp → Prop} {Y : Nat → Hp → V → Hp → Prop} {g : TG} {tt : TT} {te : TE} {vs : List Nat} {σ : L2.St} {H : Hp} {D : Addr} {Qd : Hp → Prop} (w : Walk J n G Y) (xs : List α) (t : α → Bool) (R : α → V → Hp → Prop) (hx : n = xs.length) (hn : n ≤ 100000) (hD : H D = none) (tk : ∀ a v H1 H2, R a v H1 → TK H1 H2 → R a v H2) (hG : ∀ H1, Same H H1 → G H1)
    (hs : ∀ i b x H1 H2 (N1 : V → Hp → Prop) (N0 : Hp → Prop), xs[i]? = some b → Same H H1 → Y i H1 x H2 → (∀ y H4, t b = true → R b y H4 → Same H1 H4 → N1 y H4) → (∀ H4, t b = false → Same H1 H4 → N0 H4) →
      g x (wipe σ vs) H2 fun σ2 H3 => wipe σ2 vs = wipe σ vs ∧ tt σ2 H3 fun c H4 => if c = true then te σ2 H4 N1 else N0 H4)
    (hd : ∀ H1 (ys : List (V × α)), H1 D = some (.lst (ys.map (·.1))) → ys.map (·.2) = xs.filter t → (∀ q ∈ ys, R q.2 q.1 H1) → Same H H1 → Qd H1) :
    ∃ W : Nat → Nat → Hp → Prop, (∃ m, W 0 m (upd H D (.lst []))) ∧ ∀ i m H, W i m H →
      (J.stop i H ∧ Qd H) ∨ (J.go i H ∧ ∃ Nx : Hp → Prop, (∀ H', Nx H' → ∃ m', m' < m ∧ W (i + 1) m' H') ∧ ∀ x H', J.yld i H x H' → g x (wipe σ vs) H' fun σ2 H2 => wipe σ2 vs = wipe σ vs ∧ tt σ2 H2 fun b H3 =>
        if b = true then te σ2 H3 fun y H4 => ∃ acc, H4 D = some (.lst acc) ∧ acc.length < sizeLine ∧ Nx (upd H4 D (.lst (acc ++ [y]))) else Nx H3) := by
  refine lc_it w (fun i H1 => ∃ ys : List (V × α), H1 D = some (.lst (ys.map (·.1))) ∧ ys.map (·.2) = (xs.take i).filter t ∧ (∀ q ∈ ys, R q.2 q.1 H1) ∧ Same H H1) ⟨[], upd_same, rfl, fun q hq => (by cases hq), same_upd hD⟩ (fun i H1 _ ⟨_, _, _, _, s1⟩ => hG H1 s1) ?_ (fun H1 ⟨ys, h1, h2, h3, h4⟩ => hd H1 ys h1 (by rw [hx, List.take_length] at h2; exact h2) h3 h4)
  rintro i x H1 H2 hi ⟨ys, h1, h2, h3, s1⟩ hY
  have hb : xs[i]? = some (xs[i]'(by omega)) := List.getElem?_eq_getElem _
  generalize xs[i]'(by omega) = b at hb
  have et : xs.take (i + 1) = xs.take i ++ [b] := by
    rw [List.take_add_one, hb]
    rfl
  refine hs i b x H1 H2 (fun y H4 => ∃ acc, H4 D = some (.lst acc) ∧ acc.length < sizeLine ∧ ∃ zs : List (V × α), (upd H4 D (.lst (acc ++ [y]))) D = some (.lst (zs.map (·.1))) ∧ zs.map (·.2) = (xs.take (i + 1)).filter t ∧ (∀ q ∈ zs, R q.2 q.1 (upd H4 D (.lst (acc ++ [y])))) ∧ Same H (upd H4 D (.lst (acc ++ [y])))) _ hb s1 hY (fun y H4 tb r s4 => ?_) (fun H4 tb s4 => ?_)
  · have h4 := s4 _ _ h1
    refine ⟨_, h4, ?_, ys ++ [(y, b)], by rw [upd_same, List.map_append]; rfl, ?_, fun q hq => ?_, same_mut (s1.trans s4) hD⟩
    · have e := congrArg List.length h2
      rw [List.length_map] at e
      rw [List.length_map, e]
      refine Nat.lt_of_le_of_lt (List.length_filter_le _ _) (Nat.lt_of_le_of_lt (?_ : _ ≤ 100000) (by decide))
      rw [List.length_take]
      omega
    · rw [List.map_append, h2, et, List.filter_append, List.filter_cons, if_pos tb]
      rfl
    · rcases List.mem_append.mp hq with z | z
      · exact tk _ _ _ _ (h3 q z) ((tk_same s4).trans (tk_lst h4))
      · rw [List.mem_singleton.mp z]
        exact tk _ _ _ _ r (tk_lst h4)
  · refine ⟨ys, s4 _ _ h1, ?_, fun q hq => tk _ _ _ _ (h3 q hq) (tk_same s4), s1.trans s4⟩
    rw [h2, et, List.filter_append, List.filter_cons, if_neg (by rw [tb]; exact Bool.false_ne_true), List.filter_nil, List.append_nil]
end RL
/-! which letters came -/
namespace RL
open PySem PySem.Spec PyProof.Rows L2 RLM
/-- a letter to k came by a beat -/
def CameP (D : List DRw) (M : List TLk) (Ls : List (Addr × Nat × Nat)) (k : Nat) (z : Int) (p : Nat × Nat) : Prop := p.2 = k ∧ ¬ LostB Ls p.1 k ∧ arM D M p.1 k ≤ z
section
variable {P : Program} {w : World} {K : PySem.W.Frag} {mg : Str → Option Value} {base : Heap}
def spCame (K : PySem.W.Frag) : Sp := fun vs H Q _ => ∃ (x t : Addr) (D : List DRw) (M : List TLk) (Ls : List (Addr × Nat × Nat)) (k : Nat) (z : Int), vs = [.ref x, vI k, .int z, .ref t] ∧ TalkAt K H x D M ∧ LtS K H t Ls ∧ Ls.length ≤ 24 ∧ k < D.length ∧
  ∀ H' l (ys : List (V × (Nat × Nat))), H' l = some (.lst (ys.map (·.1))) → ys.map (·.2) = (ltrs D.length (M.map (·.2.2.1))).filter (fun p => decB (CameP D M Ls k z p)) → (∀ y ∈ ys, ∃ a lt u, y.1 = .ref a ∧ H' a = some (.tup [.ref lt, .ref u]) ∧ H' u = some (.tup ((lotP M.length (ContM D M Ls y.2.1)).map vI))) → Same H H' → Q (.ref l) H'
theorem sc_Talk_came : FnScope ["self", "hand", "beat", "lost", "contents", "number", "other"] ["self", "hand", "beat", "lost"] (defScope s_Talk_came) := ⟨rfl, rfl, rfl, by decide +kernel, rfl, by decide +kernel, by decide +kernel⟩
theorem ok_came (T : Tx K mg) : Has P w K mg base (mC K "Talk" "came") 3 ["self", "hand", "beat", "lost"] (spCame K) := by
  obtain ⟨⟨fd_contents, F_contents, b_contents⟩, kp_contents⟩ := ok_contents (P := P) (w := w) (base := base) T
  obtain ⟨⟨fd_letters, F_letters, b_letters⟩, kp_letters⟩ := ok_letters (P := P) (w := w) (base := base) T
  obtain ⟨⟨fd_arrival, F_arrival, b_arrival⟩, kp_arrival⟩ := ok_arrival (P := P) (w := w) (base := base) T
  obtain ⟨fd, F⟩ := T.d_Talk_came
  refine ⟨⟨fd, F.ok sc_Talk_came (fun vs H Q E h => ?_) (fun cdv A outer s H vs Q E hr h => ?_), F.bindsN fun _ _ _ _ _ _ us hl => match us, hl with | [_, _, _, _], _ => rfl⟩, F.kp⟩
  · obtain ⟨x, t, D, M, Ls, k, z, rfl, _⟩ := h
    rfl
  · obtain ⟨x, t, D, M, Ls, k, z, rfl, TA, LT, lL, kl, h⟩ := h
    have hr_contents : Room 2 _ := hr.mono (by decide)
    have hr_letters : Room 2 _ := hr.mono (by decide)
    have hr_arrival : Room 1 _ := hr.mono (by decide)
    refine ⟨_, PSs.nox (pss_cons (ps_set (i := 4) sc_Talk_came.nd rfl (Or.inr rfl) (pe_meth (pv 0) T.cl_Talk T.m_Talk_contents F_contents hr_contents b_contents .nil pass0 (pa_cons (pv 3) pa_nil)))
      (pss_one (ps_ret (pe_lc (own := [("number", 5), ("other", 6)]) rfl sc_Talk_came.nd (piL (K := K) (pe_meth0 (pv 0) T.cl_Talk T.m_Talk_letters F_letters hr_letters b_letters .nil pass0)) (blkOk_by (by kernel_rfl)) (fun _ _ _ _ _ => (pgT (K := K) (n := 2) rfl (pgs_cons (pg_name (i := 5) sc_Talk_came.nd rfl (Or.inl rfl)) (pgs_cons (pg_name (i := 6) sc_Talk_came.nd rfl (Or.inl rfl)) pgs_nil)))) (fun _ _ _ _ _ => (pts_one (PW.pt (pw_and (pt_cmpR op_eq (pv 6) (pv 1) (nomark _)) (pw_and (pt_cmpR (notDT (K := K) (hr65 hr)) (pe_tup (pa_cons (pv 5) (pa_cons (pv 6) pa_nil))) (pv 3) (by rfl)) (pw_and1 (pt_cmpR op_le (pe_meth (pv 0) T.cl_Talk T.m_Talk_arrival F_arrival hr_arrival b_arrival .nil pass0 (pa_cons (pv 5) (pa_cons (pv 6) pa_nil))) (pv 2) (nomark _)))))))) (fun _ _ _ _ _ => (pe_tup (pa_cons (pe_tup (pa_cons (pv 5) (pa_cons (pv 6) pa_nil))) (pa_cons (pe_ix (ixL (K := K)) (pv 4) (pv 5) (fun _ _ => rfl)) pa_nil)))))))), ?_⟩
    obtain ⟨dx, d, r, hx, DA, hr'⟩ := TA.ex
    have l4 := DA.len
    have l6 := looks_len TA.ok
    refine ⟨_, rfl, x, dx, _, rfl, hx, tf_contents _ _, _, rfl, x, t, D, M, Ls, rfl, TA, LT, lL, fun H1 lc us hlc lus eus s1 => ?_⟩
    refine ⟨_, rfl, x, dx, _, rfl, s1 _ _ hx, tf_letters _ _, x, D, M, rfl, TA.same s1, fun H2 ll L lln LA eL s2 => ?_⟩
    have s12 := s1.trans s2
    have lt24 : (ltrs D.length (M.map (·.2.2.1))).length ≤ 24 := by
      have h1 := ltrs_len D.length (M.map (·.2.2.1))
      rw [List.length_map] at h1
      have h2 : M.length * D.length ≤ 6 * 4 := Nat.mul_le_mul l6 l4.2
      omega
    have lLL : L.length ≤ 24 := by
      have := congrArg List.length eL
      rw [List.length_map] at this
      omega
    refine ⟨ll, rfl, ⟨_, SqL.of LA.at_⟩, fun Dd hDd => ?_⟩
    refine lc_relF (walk_list (K := K) (a := ll) (xs := L.map fun q => V.ref q.1)) (ltrs D.length (M.map (·.2.2.1))) (fun p => decB (CameP D M Ls k z p)) (fun p v H' => ∃ a lt u, v = .ref a ∧ H' a = some (.tup [.ref lt, .ref u]) ∧ H' u = some (.tup ((lotP M.length (ContM D M Ls p.1)).map vI))) (by rw [List.length_map, ← eL, List.length_map]) (by rw [List.length_map]; omega) hDd (fun p v Ha Hb ⟨a, lt, u, e1, e2, e3⟩ tk => ⟨a, lt, u, e1, tk _ _ e2, tk _ _ e3⟩) (fun H3 s3 => SqL.of (s3 _ _ LA.at_)) ?_ ?_
    · rintro i p y H3' H3 N1 N0 hp s3 ⟨rfl, hy⟩ k1 k0
      obtain ⟨q, hq, rfl⟩ := get_mapV hy
      have eq : q.2 = p := by
        rw [← eL, List.getElem?_map, hq] at hp
        exact Option.some.inj hp
      subst eq
      obtain ⟨m1, m2, m3⟩ := ltrs_mem (List.mem_of_getElem? hp)
      rw [List.length_map] at m1
      have tq := s3 _ _ (LA.tup q (List.mem_of_getElem? hq))
      have s03 := s12.trans s3
      refine ⟨q.1, _, rfl, SqT.of tq, rfl, _, _, rfl, _, _, rfl, rfl, rfl, ?_⟩
      refine ⟨_, rfl, _, rfl, rfl, _, rfl, ?_⟩
      have eb : decide (vI q.2.2 = vI k) = decide (q.2.2 = k) := by
        rw [decide_eq_decide]
        unfold vI
        exact ⟨fun z => by injection z with z; omega, fun z => by rw [z]⟩
      show if decide (vI q.2.2 = vI k) = true then _ else _
      rw [eb]
      by_cases c1 : q.2.2 = k
      · rw [decide_eq_true c1]
        refine iteT ?_
        refine ⟨_, rfl, _, rfl, (by show 2 ≤ sizeLine; decide), fun tp htp => ?_⟩
        have s4 := same_upd (o := HO.tup [vI q.2.1, vI q.2.2]) htp
        have h4 : (upd H3 tp (.tup [vI q.2.1, vI q.2.2])) tp = some (.tup [vI q.2.1, vI q.2.2]) := upd_same
        generalize upd H3 tp (.tup [vI q.2.1, vI q.2.2]) = H4 at s4 h4
        have s04 := s03.trans s4
        refine ⟨_, rfl, lotD [(q.2.1 : Int), (q.2.2 : Int)], _, .tup (SqT.of h4) (dp_ints [(q.2.1 : Int), (q.2.2 : Int)]), (LT.same s04).dp, shaped_lot _, lotsT_shaped _, _, rfl, ?_⟩
        rw [lotZ_any]
        by_cases c2 : LostB Ls q.2.1 (q.2.2 : Int)
        · rw [decide_eq_true (lost_mem.mpr c2)]
          refine iteF (iteF ?_)
          refine k0 _ ?_ s4
          cases e : decB (CameP D M Ls k z q.2) with
          | false => rfl
          | true => exact absurd c2 (by rw [c1]; exact (decB_true.mp e).2.1)
        rw [decide_eq_false (fun y => c2 (lost_mem.mp y))]
        refine iteT ?_
        have hM : M[q.2.1]? = some M[q.2.1] := List.getElem?_eq_getElem m1
        generalize M[q.2.1] = g at hM
        refine ⟨_, rfl, x, dx, _, rfl, s04 _ _ hx, tf_arrival _ _, _, rfl, _, rfl, x, D, M, q.2.1, q.2.2, g, rfl, TA.same s04, hM, m2, ?_⟩
        have ea : g.2.1 + delayAt (D.map (·.2)) g.2.2.1 q.2.2 = arM D M q.2.1 k := by
          unfold arM btM hdM
          rw [Int.toNat_natCast, List.getD_eq_getElem?_getD, List.getD_eq_getElem?_getD, List.getElem?_map, List.getElem?_map, hM, c1]
          rfl
        rw [ea]
        refine ⟨_, rfl, _, _, rfl, rfl, _, rfl, ?_⟩
        by_cases c3 : arM D M q.2.1 k ≤ z
        · rw [decide_eq_true c3]
          refine iteT ?_
          have hu : us[q.2.1]? = some (us[q.2.1]'(by omega)) := List.getElem?_eq_getElem _
          generalize us[q.2.1]'(by omega) = u at hu
          refine ⟨_, rfl, _, rfl, (by show 2 ≤ sizeLine; decide), fun lt hlt => ?_⟩
          have s5 := same_upd (o := HO.tup [vI q.2.1, vI q.2.2]) hlt
          generalize upd H4 lt (.tup [vI q.2.1, vI q.2.2]) = H5 at s5
          have s15 := (s2.trans s3).trans (s4.trans s5)
          refine ⟨_, rfl, _, rfl, lc, _, _, _, rfl, rfl, SqL.of (s15 _ _ hlc), atI_nat (get_map hu), (by show 2 ≤ sizeLine; decide), fun a ha => ?_⟩
          have s6 := same_upd (o := HO.tup [V.ref lt, V.ref u]) ha
          exact k1 _ _ (decB_true.mpr ⟨c1, by rw [← c1]; exact c2, c3⟩) ⟨a, lt, u, rfl, upd_same, (s15.trans s6) _ _ (eus _ u hu)⟩ ((s4.trans s5).trans s6)
        · rw [decide_eq_false c3]
          refine iteF ?_
          refine k0 _ ?_ s4
          cases e : decB (CameP D M Ls k z q.2) with
          | false => rfl
          | true => exact absurd (decB_true.mp e).2.2 c3
      · rw [decide_eq_false c1]
        refine iteF (iteF ?_)
        refine k0 _ ?_ fun _ _ e => e
        cases e : decB (CameP D M Ls k z q.2) with
        | false => rfl
        | true => exact absurd (decB_true.mp e).1 c1
    · intro H3 ys h3 e3 R3 s3
      exact h H3 Dd ys h3 e3 R3 (s12.trans s3)
end
end RL
/-! set(t), t a tuple of tuples of ints -/
namespace RL
open PySem PySem.Spec PyProof.Rows L2
section
variable {P : Program} {w : World} {A : Around} {E : Value → Shared → Prop} {s : Shared}
/-- a set that has just been made -/
abbrev newSet (w : World) : Obj := { cls := .type "set", dict := none, data := .set #[] 0 (.fresh 0 0 (!w.params.followText "set-order")) }
/-- what is to stand behind the filling -/
def Filled (P : Program) (w : World) (ks : List (Addr × List Int)) (s s2 : Shared) : Prop := ∃ h' tk L es ep t, s2 = { s with heap := h', toks := tk } ∧ SetTR P w h' s.heap.objs.size L es ep t ∧ Got ks ks.length L ∧ ∀ b o, s.heap.get? b = some o → h'.get? b = some o
theorem none_past {h : Heap} {b : Addr} (k : h.objs.size ≤ b) : h.get? b = none := by
  cases e : h.get? b with
  | none => rfl
  | some o => exact absurd (Heap.lt_size e) (Nat.not_lt.mpr k)
set_option maxRecDepth 100000 in
set_option maxHeartbeats 3200000 in
theorem set_tuple {l : Addr} {its : Array Value} {ks : List (Addr × List Int)} {Q : Value → Shared → Prop} (hh : A.handled = none) (hl : s.heap.IsTuple l its) (hit : its.toList = ks.map fun p => Value.ref p.1) (hk : ∀ p ∈ ks, IsT P w s.heap p.2 p.1) (few : ks.length < 64) (hu : A.units + 3 < cLine)
    (h : ∀ s2, Filled P w ks s s2 → Q (.ref s.heap.objs.size) s2) : wpAny (model P w) A (call (.type "set") [.ref l]) Q E s := by
  have size : its.size = ks.length := by
    rw [← Array.length_toList, hit, List.length_map]
  have item : ∀ (i : Nat) (v : Value), its[i]? = some v → ∃ p, ks[i]? = some p ∧ v = .ref p.1 := fun i v hv => by
    rw [← Array.getElem?_toList, hit, List.getElem?_map] at hv
    cases e : ks[i]? with
    | none => rw [e] at hv; cases hv
    | some p => rw [e] at hv; exact ⟨p, rfl, (Option.some.inj hv).symm⟩
  obtain ⟨o, ho, oc, k, od⟩ := hl
  have ll : l < s.heap.objs.size := Heap.lt_size ho
  have at1 : (s.heap.push (newSet w)).get? s.heap.objs.size = some (newSet w) := Heap.get?_push_size _ rfl
  have ty : Shared.TypeIs { s with heap := s.heap.push (newSet w) } (.ref s.heap.objs.size) "set" := ⟨_, at1, rfl⟩
  have tup1 : (s.heap.push (newSet w)).IsTuple l its := ⟨o, Heap.get?_push_of_some _ ho, oc, k, od⟩
  have sz1 : (s.heap.push (newSet w)).objs.size = s.heap.objs.size + 1 := Heap.size_push ..
  -- the class is called
  obtain ⟨c, tl, hmro⟩ := F.called_set.mro
  have hmade := F.called_set.made
  have hsub := F.called_set.sub
  have n1 := F.called_set.notType
  have n2 := F.called_set.canCreate
  have tc := F.typeCall_set_1 (.ref l)
  have il := F.called_set.init.lookup
  have ib := F.called_set.init.bind (.ref s.heap.objs.size)
  refine wpAny_call (codeAny_of_tree ?_)
  show wpAny _ _ (callAny (.type "set") _) _ _ _
  refine wpAny_pure ⟨Code.quiet_builtin _ (by decide +kernel), codeAny_builtin F.entry_type_call ?_⟩
  rw [Around.under_plain (weight_type_call_type "set" [.ref l] []) rfl]
  repeat (any_goals (first | assumption | wp_step))
  refine codeAny_mono (code_set_led1 (.ref l) (E := E) (Q₁ := fun ob s1 => ob = .ref s.heap.objs.size ∧ s1 = { s with heap := s.heap.push (newSet w) }) ⟨rfl, rfl⟩) fun r s1 hr => ?_
  match r, hr with
  | .error _, hr => exact hr
  | .ok .next, hr => exact hr.elim
  | .ok .brk, hr => exact hr.elim
  | .ok .cont, hr => exact hr.elim
  | .ok (.ret ob), ⟨e1, e2⟩ =>
    subst e1 e2
    repeat (any_goals (first | assumption | wp_step))
    refine codeAny_mono (codeAny_call_builtin (R := wants (fun r s2 => r = .none ∧ Filled P w ks s s2) E) F.called_set.init.plain F.entry_set_init (check_set_init_1 ty ?_)) fun r2 s2 hr2 => ?_
    · have f1 := F.sub_tuple_set
      have f2 := F.sub_tuple_frozenset
      have f3 : (Value.type "tuple" == Value.type "dict") = false := by decide
      obtain ⟨o1, o2, o3, o4⟩ := o
      simp only at oc od
      subst oc od
      have ho1 : (s.heap.push (newSet w)).get? l = some { cls := .type "tuple", dict := o2, data := .seq its k, slots := o4 } := Heap.get?_push_of_some _ ho
      unfold Builtin.«set.__init__» noKeywords Builtin.Frozenset.updateFrom
      generalize hI : pyIter = it
      wp_walk
      subst hI
      refine wpAny_pyIter_tuple tup1 (wpAny_bind (wpAny_runValue ?_))
      have q1 : A.in1.in1.in1.handled = none := by simp [hh]
      have apart : l ≠ (s.heap.push (newSet w)).objs.size := by rw [sz1]; exact Nat.ne_of_lt (Nat.lt_succ_of_lt ll)
      have out : s.heap.objs.size ∉ [(s.heap.push (newSet w)).objs.size, l] := by
        rw [sz1]
        simp only [List.mem_cons, List.not_mem_nil, or_false, not_or]
        exact ⟨Nat.ne_of_lt (Nat.lt_succ_self _), Nat.ne_of_gt ll⟩
      refine set_update_tups ((Walks.tuple q1 _ l apart its).toS) s.heap.objs.size out ks size few item s.heap hk (none_past (Nat.le_refl _)) (fun b hb => none_past ?_) hu (its.size - 0) 0 _ (by omega) (Nat.zero_le _)
        ⟨⟨_, Heap.get?_push_size _ rfl, rfl, rfl⟩, tup1.push _⟩ (fun b o e => Heap.get?_push_of_some _ (Heap.get?_push_of_some _ e)) ⟨[], #[], 0, _, setTR_fresh (Heap.get?_push_of_some _ at1), Got.zero ks⟩ fun s3 L es ep t mv R g keep => ?_
      · rw [List.mem_singleton.mp hb, sz1]
        omega
      · obtain ⟨h3, g3, d3, t3, o3⟩ := s3
        cases (show g3 = s.gens from mv.gens)
        cases (show d3 = s.drawn from mv.drawn)
        cases (show o3 = s.os from mv.os)
        rw [size] at g
        exact wpAny_pure (wpAny_pure ⟨rfl, h3, t3, L, es, ep, t, rfl, R, g, keep⟩)
    · match r2, hr2 with
      | .error _, hr2 => exact hr2
      | .ok .next, hr2 => exact hr2.elim
      | .ok .brk, hr2 => exact hr2.elim
      | .ok .cont, hr2 => exact hr2.elim
      | .ok (.ret v), ⟨e3, f⟩ =>
        subst e3
        repeat (any_goals (first | assumption | wp_step))
        exact h _ f
end
section
variable {X : Cx} {K : PySem.W.Frag}
def rSetTT (K : PySem.W.Frag) (P : Program) (w : World) : List V → Hp → VK → Prop := fun xs H Q => ∃ (l : Addr) (ks : List (Addr × List Int)), xs = [V.ref l] ∧ SqT K H l (ks.map fun p => V.ref p.1) ∧ (∀ p ∈ ks, SqT K H p.1 (p.2.map V.int)) ∧ ks.length < 64 ∧
  ∀ a L, H a = none → (∀ p ∈ L, p ∈ ks) → (∀ p ∈ ks, p.2 ∈ L.map (·.2)) → Q (.ref a) (upd H a (SetTO P w a L))
theorem cr_setTT (hc : X.calm = true) (hu : X.A.units + 64 < cLine) : CallR X (.type "set") (rSetTT X.K X.prog X.w) := by
  intro pins s σ H xs us Q I r h
  obtain ⟨l, ks, rfl, hl, hk, few, q⟩ := h
  rw [Vals.ref1 r]
  obtain ⟨its, rv, ht, _⟩ := I.tuple hl
  have fr : H s.heap.objs.size = none := I.hok.fresh (Nat.le_refl _)
  refine set_tuple (P := X.prog) (w := X.w) (ks := ks) (I.ok.hd hc) ht (by simpa using refs_of_vals rv) (fun p hp => I.isT (hk p hp)) few (by omega) fun s2 ⟨h', tk, L, es, ep, t, e, R, g, keep⟩ => ?_
  subst e
  exact ⟨.ref _, upd H s.heap.objs.size (SetTO X.prog X.w s.heap.objs.size L), I.laid (t' := tk) keep (Nat.le_refl _) (setTO_new R.t0), rfl, q _ L fr (fun p hp => List.mem_of_mem_take (g.sub p hp)) fun p hp => g.all p (by rw [List.take_length]; exact hp)⟩
end
end RL
/-! letters that may be lost -/
namespace RL
open PySem PySem.Spec PyProof.Rows L2 RLM
theorem setTTK {X : Cx} {K : PySem.W.Frag} {P : Program} {w : World} (hu : X.A.units + 64 < cLine) (hc : X.calm = true := by rfl) (hK : X.K = K := by rfl) (hP : X.prog = P := by rfl) (hw : X.w = w := by rfl) : CallR X (.type "set") (rSetTT K P w) := hw ▸ hP ▸ hK ▸ cr_setTT hc hu
section
variable {P : Program} {w : World} {K : PySem.W.Frag} {mg : Str → Option Value} {base : Heap}
/-- letters of a talk, in their order -/
def LostOk (D : List DRw) (M : List TLk) (Ls : List (Addr × Nat × Nat)) : Prop := (∀ q ∈ Ls, q.2 ∈ ltrs D.length (M.map (·.2.2.1))) ∧ (Ls.map (·.2)).Pairwise lexLt
def spChkLost (K : PySem.W.Frag) : Sp := fun vs H Q _ => ∃ (x t : Addr) (D : List DRw) (M : List TLk) (Ls : List (Addr × Nat × Nat)), vs = [.ref x, .ref t] ∧ TalkAt K H x D M ∧ LtS K H t Ls ∧ Ls.length ≤ 24 ∧ LostOk D M Ls ∧ ∀ H', Same H H' → Q .non H'
theorem sc_Talk_check_lost : FnScope ["self", "lost", "letters", "letter"] ["self", "lost"] (defScope s_Talk_check_lost) := ⟨rfl, rfl, rfl, by decide +kernel, rfl, by decide +kernel, by decide +kernel⟩
theorem ok_chklost (T : Tx K mg) : Has P w K mg base (mC K "Talk" "check_lost") 4 ["self", "lost"] (spChkLost K) := by
  obtain ⟨⟨fd_letters, F_letters, b_letters⟩, kp_letters⟩ := ok_letters (P := P) (w := w) (base := base) T
  obtain ⟨fd, F⟩ := T.d_Talk_check_lost
  refine ⟨⟨fd, F.ok sc_Talk_check_lost (fun vs H Q E h => ?_) (fun cdv A outer s H vs Q E hr h => ?_), F.bindsN fun _ _ _ _ _ _ us hl => match us, hl with | [_, _], _ => rfl⟩, F.kp⟩
  · obtain ⟨x, t, D, M, Ls, rfl, _⟩ := h
    rfl
  · obtain ⟨x, t, D, M, Ls, rfl, TA, LT, lL, ⟨sub, srt⟩, h⟩ := h
    have hr_letters : Room 2 _ := hr.mono (by decide)
    refine ⟨_, PSs.nox (pss_cons (ps_set (i := 2) sc_Talk_check_lost.nd rfl (Or.inr rfl) (pe_meth0 (pv 0) T.cl_Talk T.m_Talk_letters F_letters hr_letters b_letters .nil pass0))
      (pss_cons (ps_if (PW.pt (pw_or (pt_not (pt_val (pe_callB (isiK (K := K)) (by rfl) T.free_isinstance (by decide +kernel) (pa_cons (pv 1) (pa_cons (pe_bltn (v := .ty "tuple") (u := .type "tuple") (by rfl) T.free_tuple (by decide +kernel) rfl) pa_nil))))) (pw_or1 (pt_not (pt_val (pe_callB (allK (K := K)) (by rfl) T.free_all (by decide +kernel) (pa_cons (pe_lc (own := [("letter", 3)]) (g := (gName 3)) (tt := tYes) rfl sc_Talk_check_lost.nd (piT (K := K) (pv 1)) (blkOk_by (by kernel_rfl)) (fun _ _ _ _ _ => (pg_name (i := 3) sc_Talk_check_lost.nd rfl (Or.inl rfl))) (fun _ _ _ _ _ => pts_nil) (fun _ _ _ _ _ => (pe_cmpR (inDK (K := K) (hr65 hr)) (pv 3) (pv 2) (by rfl)))) pa_nil))))))) (pss_one ps_never) pss_nil)
      (pss_one (ps_if (pt_cmpR (neD (K := K) hr.units) (pe_callTy (listK (K := K)) (by rfl) T.free_list (by decide +kernel) (pa_cons (pv 1) pa_nil)) (pe_callB (sortSetT (K := K) (P := P) (w := w)) (by rfl) T.free_sorted (by decide +kernel) (pa_cons (pe_callTy (setTTK (K := K) (P := P) (w := w) hr.units) (by rfl) T.free_set (by decide +kernel) (pa_cons (pv 1) pa_nil)) pa_nil)) (nomark _)) (pss_one ps_never) pss_nil)))), ?_⟩
    obtain ⟨dx, d, r, hx, DA, hr'⟩ := TA.ex
    have l4 := DA.len
    have l6 := looks_len TA.ok
    refine ⟨_, rfl, x, dx, _, rfl, hx, tf_letters _ _, x, D, M, rfl, TA, fun H1 ll L lln LA eL s1 => ?_⟩
    have LT1 := LT.same s1
    refine ⟨_, rfl, _, _, _, _, true, rfl, .ty _, ty_sqT LT1.1, kit_ty (by decide +kernel), true, rfl, iteF ?_⟩
    refine ⟨_, rfl, t, rfl, ⟨_, LT1.1⟩, fun Dd hDd => ?_⟩
    refine lc_val (walk_tup (K := K) (a := t) (xs := Ls.map fun q => V.ref q.1)) (fun _ => .bl true) (by rw [List.length_map]; omega) hDd (fun H2 s2 => sqT_same s2 LT1.1) ?_ ?_
    · rintro i y H2' H2 Nx hi s2 ⟨rfl, hy⟩ kk
      obtain ⟨q, hq, rfl⟩ := get_mapV hy
      have mq := List.mem_of_getElem? hq
      refine ⟨rfl, _, rfl, _, rfl, lotD [(q.2.1 : Int), (q.2.2 : Int)], _, .tup (SqT.of (s2 _ _ (LT1.2 q mq))) (dp_ints [(q.2.1 : Int), (q.2.2 : Int)]), (LA.same s2).dp, shaped_lot _, lots_shaped _, ?_⟩
      rw [lotZ_any, show decide ([(q.2.1 : Int), (q.2.2 : Int)] ∈ (L.map (·.2)).map zPair) = true from decide_eq_true (by rw [eL]; exact List.mem_map.mpr ⟨_, sub q mq, rfl⟩)]
      exact kk _ fun _ _ e => e
    · intro H2 h2 s2
      have LT2 := LT1.same s2
      refine ⟨Dd, (List.range (Ls.map fun q => V.ref q.1).length).map fun _ => true, rfl, SqL.of (by rw [h2, List.map_map]; rfl), _, rfl, ?_⟩
      rw [show (((List.range (Ls.map fun q => V.ref q.1).length).map fun _ => true).all id) = true from List.all_eq_true.mpr (by simp)]
      refine iteF ?_
      refine ⟨_, rfl, t, _, rfl, .inr (LT2.1), fun l3 hl3 => ?_⟩
      have s3 := same_upd (o := HO.lst (Ls.map fun q => V.ref q.1)) hl3
      have h3 : (upd H2 l3 (.lst (Ls.map fun q => V.ref q.1))) l3 = some (.lst (Ls.map fun q => V.ref q.1)) := upd_same
      generalize upd H2 l3 (.lst (Ls.map fun q => V.ref q.1)) = H3 at s3 h3
      have LT3 := LT2.same s3
      have bd : ∀ p ∈ Ls.map (·.2), p.1 < 8 ∧ p.2 < 8 := fun p hp => by
        obtain ⟨q, hq, rfl⟩ := List.mem_map.mp hp
        obtain ⟨m1, m2, _⟩ := ltrs_mem (sub q hq)
        rw [List.length_map] at m1
        omega
      have eks : (Ls.map fun q => (q.1, zPair q.2)).map (fun p => V.ref p.1) = Ls.map fun q => V.ref q.1 := by rw [List.map_map]; rfl
      have ek2 : (Ls.map fun q => (q.1, zPair q.2)).map (·.2) = (Ls.map (·.2)).map zPair := by rw [List.map_map, List.map_map]; rfl
      refine ⟨_, rfl, t, Ls.map fun q => (q.1, zPair q.2), rfl, by rw [eks]; exact LT3.1, fun p hp => ?_, by rw [List.length_map]; omega, fun sd Lq hsd inL outL => ?_⟩
      · obtain ⟨q, hq, rfl⟩ := List.mem_map.mp hp
        exact SqT.of (LT3.2 q hq)
      have s4 := same_upd (o := SetTO P w sd Lq) hsd
      have h4 : (upd H3 sd (SetTO P w sd Lq)) sd = some (SetTO P w sd Lq) := upd_same
      generalize upd H3 sd (SetTO P w sd Lq) = H4 at s4 h4
      have inq : ∀ p ∈ Lq, ∃ q ∈ Ls, p = (q.1, zPair q.2) := fun p hp => by
        obtain ⟨q, hq, e⟩ := List.mem_map.mp (inL p hp)
        exact ⟨q, hq, e.symm⟩
      refine ⟨sd, Lq, 2, 64, rfl, h4, fun p hp => ?_, by decide, fun p hp => ?_, fun L' pq pm nd few pw hpq => ?_⟩
      · obtain ⟨q, hq, rfl⟩ := inq p hp
        exact SqT.of (s4 _ _ (LT3.2 q hq))
      · obtain ⟨q, hq, rfl⟩ := inq p hp
        have := bd q.2 (List.mem_map.mpr ⟨q, hq, rfl⟩)
        refine ⟨rfl, ?_⟩
        intro z hz
        have hz : z = (q.2.1 : Int) ∨ z = (q.2.2 : Int) := by simpa [zPair] using hz
        omega
      have s5 := same_upd (o := HO.lst (L'.map fun q => V.ref q.1)) hpq
      have h5 : (upd H4 pq (.lst (L'.map fun q => V.ref q.1))) pq = some (.lst (L'.map fun q => V.ref q.1)) := upd_same
      generalize upd H4 pq (.lst (L'.map fun q => V.ref q.1)) = H5 at s5 h5
      have s35 := s4.trans s5
      have nd0 : (Ls.map (·.2)).Nodup := srt.imp fun {a b} z e => by
        rw [e] at z
        unfold lexLt at z
        omega
      have same : L'.map (·.2) = (Ls.map (·.2)).map zPair := by
        have code : ∀ p : Nat × Nat, TS.code 64 (zPair p) = (p.1 : Int) * 64 + (p.2 : Int) := fun p => code_pair _ _
        have mem : ∀ y, y ∈ L'.map (·.2) ↔ y ∈ (Ls.map (·.2)).map zPair := fun y => by
          rw [← ek2]
          constructor
          · intro hy
            obtain ⟨p, hp, rfl⟩ := List.mem_map.mp hy
            exact List.mem_map.mpr ⟨p, inL p (pm.mem_iff.mp hp), rfl⟩
          · intro hy
            obtain ⟨p, hp, rfl⟩ := List.mem_map.mp hy
            exact (pm.map (·.2)).mem_iff.mpr (outL p hp)
        have nd2 : ((Ls.map (·.2)).map zPair).Nodup := nd0.imp_of_mem (R := (· ≠ ·)) (S := fun a b => zPair a ≠ zPair b) (fun _ _ ne e => ne (zPair_inj e)) |> List.pairwise_map.mpr
        refine List.Perm.eq_of_pairwise (le := fun a b => TS.code 64 a ≤ TS.code 64 b) (fun a b ha hb c1 c2 => ?_) (List.pairwise_map.mpr pw) (List.pairwise_map.mpr (srt.imp_of_mem fun {a b} ha hb z => ?_)) ((List.perm_ext_iff_of_nodup nd nd2).mpr mem)
        · obtain ⟨p, hp, rfl⟩ := List.mem_map.mp ((mem a).mp ha)
          obtain ⟨q, hq, rfl⟩ := List.mem_map.mp hb
          rw [code, code] at c1 c2
          have b1 := bd p hp
          have b2 := bd q hq
          rw [show p = q from Prod.ext (by omega) (by omega)]
        · show TS.code 64 (zPair a) ≤ TS.code 64 (zPair b)
          rw [code, code]
          have b1 := bd a ha
          have b2 := bd b hb
          unfold lexLt at z
          omega
      have d1 := dp_rowsZ (K := K) (L := Ls.map fun q => (q.1, zPair q.2)) (by rw [eks]; exact s35 _ _ h3) fun p hp => by
        obtain ⟨q, hq, rfl⟩ := List.mem_map.mp hp
        exact s35 _ _ (LT3.2 q hq)
      have d2 := dp_rowsZ (K := K) (L := L') h5 fun p hp => by
        obtain ⟨q, hq, rfl⟩ := inq p (pm.mem_iff.mp hp)
        exact s35 _ _ (LT3.2 q hq)
      refine ⟨_, _, d1, d2, lots_shaped _, lots_shaped _, _, rfl, ?_⟩
      rw [rowsZ_eqv, ek2, same, decide_eq_true rfl]
      exact iteF (h _ (((s1.trans s2).trans s3).trans s35))
end
end RL
/-! what a hand has heard -/
namespace RL
open PySem PySem.Spec PyProof.Rows L2 RLM
/-- a look that a hand has heard of by a beat -/
def HeardP (D : List DRw) (M : List TLk) (Ls : List (Addr × Nat × Nat)) (k : Nat) (z : Int) (a : Nat) : Prop := (a < M.length ∧ hdM M a = k ∧ btM M a ≤ z) ∨ ∃ p ∈ ltrs D.length (M.map (·.2.2.1)), CameP D M Ls k z p ∧ ContM D M Ls p.1 a
/-- each look sends a hand one letter at most -/
theorem in_one {k i : Nat} {t : Nat × Nat → Bool} (ht : ∀ p, t p = true → p.2 = k) (z : Int) : ∀ h : Nat, ((ltrsIn h z i).filter t).length ≤ if k < h then 1 else 0
  | 0 => by simp [ltrsIn]
  | h + 1 => by
    have ih := in_one (i := i) ht z h
    rw [ltrsIn_succ, List.filter_append, List.length_append]
    by_cases c : (h : Int) = z
    · rw [if_pos c]
      simp only [List.filter_nil, List.length_nil]
      split at ih <;> split <;> omega
    · rw [if_neg c, List.filter_cons]
      by_cases e : t (i, h) = true
      · have ek : h = k := ht _ e
        rw [if_pos e]
        simp only [List.filter_nil, List.length_cons, List.length_nil]
        split at ih <;> split <;> omega
      · rw [if_neg e]
        simp only [List.filter_nil, List.length_nil]
        split at ih <;> split <;> omega
theorem to_one' {h k : Nat} {ks : List Int} {t : Nat × Nat → Bool} (ht : ∀ p, t p = true → p.2 = k) : ∀ i : Nat, ((ltrsTo h ks i).filter t).length ≤ i
  | 0 => by simp [ltrsTo]
  | i + 1 => by
    have ih := to_one' (h := h) (ks := ks) ht i
    have h2 := in_one (i := i) ht (ks.getD i 0) h
    rw [ltrsTo_succ, List.filter_append, List.length_append]
    split at h2 <;> omega
theorem to_one {h k : Nat} {ks : List Int} {t : Nat × Nat → Bool} (ht : ∀ p, t p = true → p.2 = k) : ((ltrs h ks).filter t).length ≤ ks.length := to_one' ht ks.length
section
variable {P : Program} {w : World} {K : PySem.W.Frag} {mg : Str → Option Value} {base : Heap}
def spHeard (K : PySem.W.Frag) : Sp := fun vs H Q _ => ∃ (x t : Addr) (D : List DRw) (M : List TLk) (Ls : List (Addr × Nat × Nat)) (k : Nat) (z : Int), vs = [.ref x, vI k, .int z, .ref t] ∧ TalkAt K H x D M ∧ LtS K H t Ls ∧ Ls.length ≤ 24 ∧ LostOk D M Ls ∧ k < D.length ∧ 0 ≤ z ∧
  ∀ H' l, H l = none → H' l = some (.lst ((lotP M.length (HeardP D M Ls k z)).map vI)) → Same H H' → Q (.ref l) H'
theorem sc_Talk_heard : FnScope ["self", "hand", "beat", "lost", "own", "told", "number", "row", "letter", "content"] ["self", "hand", "beat", "lost"] (defScope s_Talk_heard) := ⟨rfl, rfl, rfl, by decide +kernel, rfl, by decide +kernel, by decide +kernel⟩
theorem okf_heard (T : Tx K mg) {kws : List (Str × V)} {fd : FuncData} (F : FunD K "heard" "Talk.heard" (defArgs s_Talk_heard) (defBody s_Talk_heard) (defScope s_Talk_heard) [] kws (mC K "Talk" "heard") fd) : FnOk P w K mg base CX0 5 (mC K "Talk" "heard") fd ["self", "hand", "beat", "lost"] (spHeard K) := by
  obtain ⟨⟨fd_check_hand, F_check_hand, b_check_hand⟩, kp_check_hand⟩ := ok_chkhand (P := P) (w := w) (base := base) T
  obtain ⟨⟨fd_is_number, F_is_number, b_is_number⟩, kp_is_number⟩ := ok_is_number (P := P) (w := w) (base := base) T
  obtain ⟨⟨fd_check_lost, F_check_lost, b_check_lost⟩, kp_check_lost⟩ := ok_chklost (P := P) (w := w) (base := base) T
  obtain ⟨⟨fd_came, F_came, b_came⟩, kp_came⟩ := ok_came (P := P) (w := w) (base := base) T
  refine F.ok sc_Talk_heard (fun vs H Q E h => ?_) (fun cdv A outer s H vs Q E hr h => ?_)
  · obtain ⟨x, t, D, M, Ls, k, z, rfl, _⟩ := h
    rfl
  · obtain ⟨x, t, D, M, Ls, k, z, rfl, TA, LT, lL, lo, kl, z0, h⟩ := h
    have hr_check_hand : Room 4 _ := hr.mono (by decide)
    have hr_is_number : Room 1 _ := hr.mono (by decide)
    have hr_check_lost : Room 4 _ := hr.mono (by decide)
    have hr_came : Room 3 _ := hr.mono (by decide)
    refine ⟨_, PSs.nox (pss_cons (ps_expr (pe_meth (pv 0) T.cl_Talk T.m_Talk_check_hand F_check_hand hr_check_hand b_check_hand .nil pass0 (pa_cons (pv 1) pa_nil)))
      (pss_cons (ps_if (PW.pt (pw_or (pt_not (pt_val (pe_call F_is_number hr_is_number rfl T.glo_is_number kp_is_number b_is_number .nil pass0 (pa_cons (pv 2) pa_nil)))) (pw_or1 (pt_cmpR op_lt (pv 2) pe_int (nomark _))))) (pss_one ps_never) pss_nil)
      (pss_cons (ps_expr (pe_meth (pv 0) T.cl_Talk T.m_Talk_check_lost F_check_lost hr_check_lost b_check_lost .nil pass0 (pa_cons (pv 3) pa_nil)))
      (pss_cons (ps_setLc (i := 4) (own := [("number", 6), ("row", 7)]) rfl sc_Talk_heard.nd rfl rfl (sw_true rfl rfl rfl (by decide +kernel)) (piEnum (K := K) (by rfl) T.free_enumerate (pa_cons (fldK (K := K) (pv 0) rfl) pa_nil)) (blkOk_by (by kernel_rfl)) (fun _ _ _ _ _ => (pgT (K := K) (n := 2) rfl (pgs_cons (pg_name (i := 6) sc_Talk_heard.nd rfl (Or.inl rfl)) (pgs_cons (pg_name (i := 7) sc_Talk_heard.nd rfl (Or.inl rfl)) pgs_nil)))) (fun _ _ _ _ _ => (pts_one (PW.pt (pw_and (pt_cmpR op_eq (pe_ix (ixT (K := K)) (pv 7) pe_int (fun _ _ => rfl)) (pv 1) (nomark _)) (pw_and1 (pt_cmpR op_le (pe_ix (ixT (K := K)) (pv 7) pe_int (fun _ _ => rfl)) (pv 2) (nomark _))))))) (fun _ _ _ _ _ => (pv 6)))
      (pss_cons (ps_setLc2 (i := 5) (own := [("letter", 8), ("content", 9), ("number", 6)]) (vs1 := [6]) (tt := tYes) (g1 := (gName 6)) (tt1 := tYes) rfl sc_Talk_heard.nd rfl rfl (sw_true rfl rfl rfl (by decide +kernel)) (piL (K := K) (pe_meth (pv 0) T.cl_Talk T.m_Talk_came F_came hr_came b_came .nil pass0 (pa_cons (pv 1) (pa_cons (pv 2) (pa_cons (pv 3) pa_nil))))) (blkOk_by (by kernel_rfl)) (by decide) (fun _ _ _ _ _ => (pgT (K := K) (n := 2) rfl (pgs_cons (pg_name (i := 8) sc_Talk_heard.nd rfl (Or.inl rfl)) (pgs_cons (pg_name (i := 9) sc_Talk_heard.nd rfl (Or.inl rfl)) pgs_nil)))) (fun _ _ _ _ _ => pts_nil) (fun _ _ _ _ _ => (piT (K := K) (pv 9))) (fun _ _ _ _ _ => (pg_name (i := 6) sc_Talk_heard.nd rfl (Or.inl rfl))) (fun _ _ _ _ _ => pts_nil) (fun _ _ _ _ _ => (pv 6)))
      (pss_one (ps_ret (pe_callB (sortS (w := w)) (by rfl) T.free_sorted (by decide +kernel) (pa_cons (pe_callTy (setLK (K := K) (w := w)) (by rfl) T.free_set (by decide +kernel) (pa_cons (pe_op op_cat (pv 4) (pv 5)) pa_nil)) pa_nil))))))))), ?_⟩
    obtain ⟨dx, d, r, hx, DA, hr'⟩ := TA.ex
    have l4 := DA.len
    have l6 := looks_len TA.ok
    refine ⟨_, rfl, x, dx, _, rfl, hx, tf_chkhand _ _, _, rfl, x, D, M, k, rfl, TA, kl, ?_⟩
    refine ⟨_, rfl, z, rfl, _, rfl, iteF ?_⟩
    refine ⟨_, rfl, _, _, rfl, rfl, _, rfl, ?_⟩
    rw [decide_eq_false (show ¬ z < 0 by omega)]
    refine iteF ?_
    refine ⟨_, rfl, x, dx, _, rfl, hx, tf_chklost _ _, _, rfl, x, t, D, M, Ls, rfl, TA, LT, lL, lo, fun H1 s1 => ?_⟩
    have hx1 := s1 _ _ hx
    have hr1 := s1 _ _ hr'
    refine ⟨_, rfl, x, _, dx, _, _, rfl, hx1, T.cl_Talk, T.n_Talk_rows, tf_rows _ _, r, _, rfl, SqL.of hr1, fun D1 hD1 => ?_⟩
    refine lc_filt (walk_enum (K := K) (a := r) (xs := M.map fun q => V.ref q.1)) (List.range M.length) (fun b => decB (hdM M b = k ∧ btM M b ≤ z)) (by simp) (by rw [List.length_map]; omega) hD1 (fun Ha sa => SqL.of (sa _ _ hr1)) ?_ ?_
    · rintro i b y Ha Hb N1 N0 hb sa ⟨tt, y1, y2, rfl, htt, rfl, e1, e2⟩ k1 k0
      obtain ⟨bn, rfl⟩ : i < M.length ∧ b = i := by
        obtain ⟨z1, z2⟩ := List.getElem?_eq_some_iff.mp hb
        rw [List.getElem_range] at z2
        rw [List.length_range] at z1
        exact ⟨z1, z2.symm⟩
      cases (Option.some.inj e1)
      obtain ⟨q, hq, rfl⟩ : ∃ q, M[b]? = some q ∧ y2 = V.ref q.1 := by
        have e3 : (M.map fun q => V.ref q.1)[b]? = some y2 := e2
        rw [List.getElem?_map] at e3
        cases e : M[b]? with
        | none => rw [e] at e3; cases e3
        | some q => rw [e] at e3; exact ⟨q, rfl, (Option.some.inj e3).symm⟩
      have s2 : Same Ha (upd Ha tt (.tup [.int (b : Nat), .ref q.1])) := same_upd htt
      have tq := (s1.trans (sa.trans s2)) _ _ (TA.tl q (List.mem_of_getElem? hq)).1
      have eh : hdM M b = q.2.2.1 ∧ btM M b = q.2.1 := by
        unfold hdM btM
        rw [List.getD_eq_getElem?_getD, List.getD_eq_getElem?_getD, List.getElem?_map, List.getElem?_map, hq]
        exact ⟨rfl, rfl⟩
      refine ⟨tt, _, rfl, SqT.of upd_same, rfl, _, _, rfl, _, _, rfl, rfl, rfl, ?_⟩
      refine ⟨_, rfl, q.1, _, 1, _, rfl, rfl, SqT.of tq, rfl, _, rfl, rfl, _, rfl, ?_⟩
      have eb : decide (V.int q.2.2.1 = vI k) = decide (q.2.2.1 = (k : Int)) := by
        rw [decide_eq_decide]
        unfold vI
        exact ⟨fun z => by injection z, fun z => by rw [z]⟩
      show if decide (V.int q.2.2.1 = vI k) = true then _ else _
      rw [eb]
      by_cases c1 : q.2.2.1 = (k : Int)
      · rw [decide_eq_true c1]
        refine iteT ?_
        refine ⟨_, rfl, q.1, _, 0, _, rfl, rfl, SqT.of tq, rfl, _, rfl, _, _, rfl, rfl, _, rfl, ?_⟩
        by_cases c2 : q.2.1 ≤ z
        · rw [decide_eq_true c2]
          refine iteT ?_
          exact ⟨_, rfl, k1 _ (decB_true.mpr ⟨by rw [eh.1]; exact c1, by rw [eh.2]; exact c2⟩) s2⟩
        · rw [decide_eq_false c2]
          refine iteF ?_
          refine k0 _ ?_ s2
          cases e : decB (hdM M b = k ∧ btM M b ≤ z) with
          | false => rfl
          | true => exact absurd (eh.2 ▸ (decB_true.mp e).2) c2
      · rw [decide_eq_false c1]
        refine iteF (iteF ?_)
        refine k0 _ ?_ s2
        cases e : decB (hdM M b = k ∧ btM M b ≤ z) with
        | false => rfl
        | true => exact absurd (eh.1 ▸ (decB_true.mp e).1) c1
    intro H2 h2 s2
    have s02 := s1.trans s2
    have TA2 := TA.same s02
    refine ⟨_, rfl, x, dx, _, rfl, s02 _ _ hx, tf_came _ _, _, rfl, _, rfl, _, rfl, x, t, D, M, Ls, k, z, rfl, TA2, LT.same s02, lL, kl, fun H3 lc ys hlc eys Rys s3 => ?_⟩
    have lys : ys.length ≤ 6 := by
      have e := congrArg List.length eys
      rw [List.length_map] at e
      have h1 := to_one (h := D.length) (ks := M.map (·.2.2.1)) (k := k) (t := fun p => decB (CameP D M Ls k z p)) (fun p hp => (decB_true.mp hp).1)
      rw [List.length_map] at h1
      omega
    refine ⟨lc, rfl, ⟨_, SqL.of hlc⟩, fun D2 hD2 => ?_⟩
    refine it_any (walk_list (K := K) (a := lc) (xs := ys.map (·.1))) (fun i H4 => ∃ ws : List Nat, H4 D2 = some (.lst (ws.map vI)) ∧ ws.length ≤ 6 * i ∧ (∀ a, a ∈ ws ↔ ∃ y ∈ ys.take i, a < M.length ∧ ContM D M Ls y.2.1 a) ∧ Same H3 H4) ⟨[], upd_same, Nat.zero_le _, by simp, same_upd hD2⟩ (fun i H4 _ ⟨_, _, _, _, s4⟩ => SqL.of (s4 _ _ hlc)) ?_ ?_
    · rintro i y H4' H4 hi ⟨ws, h4, lws, mws, s4⟩ ⟨rfl, hy⟩
      rw [List.length_map] at hi
      obtain ⟨yy, hyy, rfl⟩ : ∃ yy, ys[i]? = some yy ∧ yy.1 = y := by
        rw [List.getElem?_map] at hy
        cases e : ys[i]? with
        | none => rw [e] at hy; cases hy
        | some yy => rw [e] at hy; exact ⟨yy, rfl, Option.some.inj hy⟩
      obtain ⟨a, lt, u, ea, ha, hu⟩ := Rys yy (List.mem_of_getElem? hyy)
      rw [ea]
      have hu4 := s4 _ _ hu
      refine ⟨a, _, rfl, SqT.of (s4 _ _ ha), rfl, _, _, rfl, _, _, rfl, rfl, rfl, yesT ?_⟩
      refine ⟨_, rfl, u, rfl, ⟨_, SqT.of hu4⟩, ?_⟩
      have lp := lotP_len M.length (ContM D M Ls yy.2.1)
      refine it_any (walk_tup (K := K) (a := u) (xs := (lotP M.length (ContM D M Ls yy.2.1)).map vI)) (fun j H5 => H5 D2 = some (.lst ((ws ++ (lotP M.length (ContM D M Ls yy.2.1)).take j).map vI)) ∧ Same H3 H5) ⟨by rw [List.take_zero, List.append_nil]; exact h4, s4⟩ (fun j H5 _ ⟨_, s5⟩ => SqT.of (s5 _ _ hu)) ?_ ?_
      · rintro j v H5' H5 hj ⟨h5, s5⟩ ⟨rfl, hv⟩
        obtain ⟨b, hb, rfl⟩ := get_vI hv
        refine ⟨rfl, yesT ?_⟩
        refine ⟨_, rfl, _, h5, ?_, ?_, same_mut s5 hD2⟩
        · rw [List.length_map, List.length_append, List.length_take]
          exact Nat.lt_of_le_of_lt (show _ ≤ 200 by omega) (by decide)
        · rw [upd_same, List.take_add_one, hb, ← List.append_assoc, List.map_append (l₁ := ws ++ (lotP M.length (ContM D M Ls yy.2.1)).take j)]
          rfl
      · rintro H5 ⟨h5, s5⟩
        rw [List.length_map, List.take_length] at h5
        refine ⟨_, h5, by rw [List.length_append]; omega, fun a => ?_, s5⟩
        rw [List.mem_append, mws a, mem_lotP, List.take_add_one, hyy]
        simp only [Option.toList_some, List.mem_append, List.mem_singleton]
        constructor
        · rintro (⟨y, h1, h2⟩ | h2)
          · exact ⟨y, .inl h1, h2⟩
          · exact ⟨yy, .inr rfl, h2⟩
        · rintro ⟨y, h1 | rfl, h2⟩
          · exact .inl ⟨y, h1, h2⟩
          · exact .inr h2
    · rintro H4 ⟨ws, h4, lws, mws, s4⟩
      rw [List.length_map, List.take_length] at mws
      rw [List.length_map] at lws
      have s24 := s3.trans s4
      have lf := List.length_filter_le (fun b => decB (hdM M b = k ∧ btM M b ≤ z)) (List.range M.length)
      rw [List.length_range] at lf
      refine ⟨_, rfl, _, rfl, D1, D2, _, _, rfl, rfl, s24 _ _ h2, h4, ?_, fun p hp => ?_⟩
      · rw [List.length_map, List.length_map]
        exact Nat.le_trans (show _ ≤ 200 by omega) (by decide)
      generalize hown : (List.range M.length).filter (fun b => decB (hdM M b = k ∧ btM M b ≤ z)) = own at lf
      have s5 := same_upd (o := HO.lst (own.map vI ++ ws.map vI)) hp
      have h5 : (upd H4 p (.lst (own.map vI ++ ws.map vI))) p = some (.lst ((own ++ ws).map vI)) := by rw [upd_same, List.map_append]
      generalize upd H4 p (.lst (own.map vI ++ ws.map vI)) = H5 at s5 h5
      refine ⟨p, (own ++ ws).map nI, rfl, SqL.of (by rw [← vI_map]; exact h5), by rw [List.length_map, List.length_append]; omega, fun dd cc hd hcc _ => ?_⟩
      have s6 := same_upd (o := SetO w dd (fun j => decide (j ∈ (own ++ ws).map nI)) cc) hd
      rw [List.length_map, List.length_append] at hcc
      refine ⟨dd, _, cc, rfl, upd_same, by omega, fun zs q r1 r2 r3 hq => ?_⟩
      have s7 := same_upd (o := HO.lst (zs.map V.int)) hq
      have ez : zs.map V.int = (lotP M.length (HeardP D M Ls k z)).map vI := by
        refine rise_lot r1 fun v => ?_
        rw [r2 v, decide_eq_true_iff, List.mem_map]
        have inn : ∀ a, a ∈ own ++ ws ↔ a < M.length ∧ HeardP D M Ls k z a := fun a => by
          rw [List.mem_append, mws a, ← hown, List.mem_filter, List.mem_range]
          have lt : ∀ p : Nat × Nat, (∃ y ∈ ys, y.2 = p) ↔ p ∈ ltrs D.length (M.map (·.2.2.1)) ∧ CameP D M Ls k z p := fun p => by
            have this : p ∈ ys.map (·.2) ↔ p ∈ ltrs D.length (M.map (·.2.2.1)) ∧ CameP D M Ls k z p := by rw [eys, List.mem_filter, decB_true]
            exact ⟨fun ⟨y, hy, e⟩ => this.mp (List.mem_map.mpr ⟨y, hy, e⟩), fun g => List.mem_map.mp (this.mpr g)⟩
          constructor
          · rintro (⟨h1, h2⟩ | ⟨y, hy, h1, h2⟩)
            · exact ⟨h1, .inl ⟨h1, decB_true.mp h2⟩⟩
            · obtain ⟨g1, g2⟩ := (lt y.2).mp ⟨y, hy, rfl⟩
              exact ⟨h1, .inr ⟨y.2, g1, g2, h2⟩⟩
          · rintro ⟨h0, ⟨h1, h2⟩ | ⟨p, g1, g2, h2⟩⟩
            · exact .inl ⟨h1, decB_true.mpr h2⟩
            · obtain ⟨y, hy, e⟩ := (lt p).mpr ⟨g1, g2⟩
              exact .inr ⟨y, hy, h0, by rw [e]; exact h2⟩
        constructor
        · rintro ⟨a, ha, rfl⟩
          exact ⟨a, rfl, (inn a).mp ha⟩
        · rintro ⟨a, rfl, ha⟩
          exact ⟨a, (inn a).mpr ha, rfl⟩
      have s07 := (s02.trans s24).trans (s5.trans s6)
      refine h _ q (none_back s07 hq) ?_ (s07.trans s7)
      rw [upd_same, ez]
theorem ok_heard (T : Tx K mg) : HasK P w K mg base (mC K "Talk" "heard") 5 ["self", "hand", "beat", "lost"] 3 ["lost"] (spHeard K) := by
  obtain ⟨fd, F⟩ := T.d_Talk_heard
  exact ⟨⟨fd, okf_heard T F, kbindsA F 3 ["lost"] fun kV doc pm an cdv ct us ws l1 l2 => match us, ws, l1, l2 with
    | [_, _, _], [_], _, _ => rfl⟩, F.kp⟩
end
end RL
/-! letters that the law has lost -/
namespace RL
open PySem PySem.Spec PyProof.Rows L2 RLM
/-- letters stand in their order -/
theorem ltrs_sorted (h : Nat) (ks : List Int) : (ltrs h ks).Pairwise lexLt := by
  unfold ltrs
  refine List.pairwise_flatMap.mpr ⟨fun i _ => ?_, ?_⟩
  · refine List.pairwise_map.mpr ((List.pairwise_lt_range.filter _).imp fun {a b} z => ?_)
    exact .inr ⟨rfl, z⟩
  · refine List.pairwise_lt_range.imp fun {a b} z p hp q hq => ?_
    obtain ⟨o, _, rfl⟩ := List.mem_map.mp hp
    obtain ⟨o', _, rfl⟩ := List.mem_map.mp hq
    exact .inl z
theorem lost_of {D : List DRw} {M : List TLk} {L Ls : List (Addr × Nat × Nat)} (e : L.map (·.2) = ltrs D.length (M.map (·.2.2.1))) (s : Ls.Sublist L) : LostOk D M Ls :=
  ⟨fun q hq => e ▸ List.mem_map.mpr ⟨q, s.subset hq, rfl⟩, (e ▸ ltrs_sorted _ _ : (L.map (·.2)).Pairwise lexLt).sublist (s.map _)⟩
section
variable {P : Program} {w : World} {K : PySem.W.Frag} {mg : Str → Option Value} {base : Heap}
def spSomeL : Sp := fun vs H Q _ => ∃ (b c l : Addr) (L : List (Addr × Nat × Nat)), vs = [.ref b, .ref l] ∧ Box b c H ∧ LtAt H l L ∧ l ≠ c ∧ L.length ≤ 24 ∧
  ∀ H' t (Ls : List (Addr × Nat × Nat)), LtT H' t Ls → Ls.Sublist L → Kc c H H' → Box b c H' → Q (.ref t) H'
theorem sc__law_some_lost : FnScope ["_law_box_here", "_law_letters_here", "_law_thick", "_law_letter"] ["_law_box_here", "_law_letters_here"] (defScope s__law_some_lost) := ⟨rfl, rfl, rfl, by decide +kernel, rfl, by decide +kernel, by decide +kernel⟩
theorem ok_someL (T : Tx K mg) : Has P w K mg base (He.ga K "_law_some_lost") 2 ["_law_box_here", "_law_letters_here"] spSomeL := by
  obtain ⟨⟨fd_law_pick, F_law_pick, b_law_pick⟩, kp_law_pick⟩ := ok_pick (P := P) (w := w) (base := base) T
  obtain ⟨fd, F⟩ := T.d__law_some_lost
  refine ⟨⟨fd, F.ok sc__law_some_lost (fun vs H Q E h => ?_) (fun cdv A outer s H vs Q E hr h => ?_), F.bindsN fun _ _ _ _ _ _ us hl => match us, hl with | [_, _], _ => rfl⟩, F.kp⟩
  · obtain ⟨b, c, l, L, rfl, _⟩ := h
    rfl
  · obtain ⟨b, c, l, L, rfl, B, LA, lc, l24, h⟩ := h
    have hr_law_pick : Room 1 _ := hr.mono (by decide)
    refine ⟨_, PSs.nox (pss_cons (ps_set (i := 2) sc__law_some_lost.nd rfl (Or.inr rfl) (pe_call F_law_pick hr_law_pick rfl T.glo_law_pick kp_law_pick b_law_pick .nil pass0 (pa_cons (pv 0) (pa_cons pe_int pa_nil))))
      (pss_one (ps_ret (pe_callTy (tupK (K := K)) (by rfl) T.free_tuple (by decide +kernel) (pa_cons (pe_lc (own := [("_law_letter", 3)]) (g := (gName 3)) rfl sc__law_some_lost.nd (piL (K := K) (pv 1)) (blkOk_by (by kernel_rfl)) (fun _ _ _ _ _ => (pg_name (i := 3) sc__law_some_lost.nd rfl (Or.inl rfl))) (fun _ _ _ _ _ => (pts_one (pt_cmpR op_lt (pe_call F_law_pick hr_law_pick rfl T.glo_law_pick kp_law_pick b_law_pick .nil pass0 (pa_cons (pv 0) (pa_cons pe_int pa_nil))) (pv 2) (nomark _)))) (fun _ _ _ _ _ => (pv 3))) pa_nil))))), ?_⟩
    refine ⟨_, rfl, b, c, _, rfl, B, by decide, by decide, fun H1 z k1 B1 z0 z1 => ?_⟩
    have LA1 : LtAt H1 l L := ⟨k1 _ _ lc (fun _ z => by cases z) LA.at_, fun q hq => k1.tup B.lst (LA.tup q hq)⟩
    refine ⟨_, rfl, l, rfl, ⟨_, SqL.of LA1.at_⟩, fun Dd hDd => ?_⟩
    have s0 : Same H1 (upd H1 Dd (.lst [])) := same_upd hDd
    obtain ⟨Dc, Db⟩ := B1.new hDd
    refine lc_it (walk_list (K := K) (a := l) (xs := L.map fun q => V.ref q.1)) (fun i H2 => ∃ Ls : List (Addr × Nat × Nat), H2 Dd = some (.lst (Ls.map fun q => V.ref q.1)) ∧ Ls.Sublist (L.take i) ∧ Kc c H1 H2 ∧ Box b c H2) ⟨[], upd_same, List.nil_sublist _, kc_same s0, B1.same s0⟩ (fun i H2 _ ⟨_, _, _, k2, _⟩ => SqL.of (k2 _ _ lc (fun _ z => by cases z) LA1.at_)) ?_ ?_
    · rintro i y H2' H2 hi ⟨Ls, h2, sb, k2, B2⟩ ⟨rfl, hy⟩
      obtain ⟨q, hq, rfl⟩ := get_mapV hy
      have et : L.take (i + 1) = L.take i ++ [q] := by
        rw [List.take_add_one, hq]
        rfl
      refine ⟨rfl, _, rfl, b, c, _, rfl, B2, by decide, by decide, fun H3 j k3 B3 j0 j1 => ?_⟩
      have h3 : H3 Dd = some (.lst (Ls.map fun q => V.ref q.1)) := k3 _ _ Dc (fun _ z => by cases z) h2
      refine ⟨_, rfl, _, _, rfl, rfl, _, rfl, ?_⟩
      refine ite2 (fun _ => ?_) (fun _ => ?_)
      · refine ⟨_, rfl, _, h3, ?_, Ls ++ [q], by rw [upd_same, List.map_append]; rfl, by rw [et]; exact sb.append (List.Sublist.refl _), (k2.trans k3).upd hDd, B3.upd Dc Db⟩
        have := sb.length_le
        rw [List.length_take] at this
        rw [List.length_map]
        exact Nat.lt_of_le_of_lt (show Ls.length ≤ 24 by omega) (by decide)
      · exact ⟨Ls, h3, by rw [et]; exact sb.trans (List.sublist_append_left _ _), k2.trans k3, B3⟩
    · rintro H2 ⟨Ls, h2, sb, k2, B2⟩
      rw [List.length_map, List.take_length] at sb
      refine ⟨Dd, _, rfl, .inl ⟨SqL.of h2, fun t ht => ?_⟩⟩
      have s3 := same_upd (o := HO.tup (Ls.map fun q => V.ref q.1)) ht
      exact h _ t Ls ⟨upd_same, fun q hq => s3 _ _ (k2.tup B1.lst (LA1.tup q (sb.subset hq)))⟩ sb ((k1.trans k2).trans (kc_same s3)) (B2.same s3)
end
end RL
/-! delays that are longer by one -/
namespace RL
open PySem PySem.Spec PyProof.Rows L2 RLM
def slw (z : Int) : Int := min 9 (z + if 0 < z then 1 else 0)
theorem slw0 : slw 0 = 0 := by decide
theorem getD_map0 (zs : List Int) (j : Nat) : (zs.map slw).getD j 0 = slw (zs.getD j 0) := by
  rw [List.getD_eq_getElem?_getD, List.getD_eq_getElem?_getD, List.getElem?_map]
  cases zs[j]? with
  | none => exact slw0.symm
  | some z => rfl
theorem getD_mapN (D : List (List Int)) (i : Nat) : (D.map (List.map slw)).getD i [] = (D.getD i []).map slw := by
  rw [List.getD_eq_getElem?_getD, List.getD_eq_getElem?_getD, List.getElem?_map]
  cases D[i]? with
  | none => rfl
  | some z => rfl
theorem cell_slw {hand i : Nat} {z : Int} (h : cellB hand i z = true) : cellB hand i (slw z) = true := by
  unfold cellB at h ⊢
  by_cases c : i = hand
  · rw [if_pos c] at h ⊢
    rw [of_decide_eq_true h]
    rfl
  · rw [if_neg c] at h ⊢
    have h1 := of_decide_eq_true h
    refine decide_eq_true ?_
    unfold slw
    rw [if_pos (by omega)]
    omega
theorem row_slw {n hand : Nat} {zs : List Int} (h : rowB n hand zs = true) : rowB n hand (zs.map slw) = true := by
  unfold rowB at h ⊢
  rw [Bool.and_eq_true, List.all_eq_true] at h ⊢
  refine ⟨by rw [List.length_map]; exact h.1, fun b hb => ?_⟩
  obtain ⟨i, hi, rfl⟩ := List.mem_map.mp hb
  rw [List.length_map] at hi
  have := h.2 _ (List.mem_map.mpr ⟨i, hi, rfl⟩)
  rw [getD_map0]
  exact cell_slw this
theorem del_slw {D : List (List Int)} (h : delB D = true) : delB (D.map (List.map slw)) = true := by
  unfold delB at h ⊢
  rw [Bool.and_eq_true, List.all_eq_true] at h ⊢
  refine ⟨by rw [List.length_map]; exact h.1, fun b hb => ?_⟩
  obtain ⟨i, hi, rfl⟩ := List.mem_map.mp hb
  rw [List.length_map] at hi ⊢
  have := h.2 _ (List.mem_map.mpr ⟨i, hi, rfl⟩)
  rw [getD_mapN]
  exact row_slw this
theorem del_cell {D : List (List Int)} (h : delB D = true) (i j : Nat) : 0 ≤ (D.getD i []).getD j 0 ∧ (D.getD i []).getD j 0 ≤ 9 ∧ (i = j → (D.getD i []).getD j 0 = 0) := by
  rcases Nat.lt_or_ge i D.length with hi | hi
  · unfold delB at h
    rw [Bool.and_eq_true, List.all_eq_true] at h
    have h1 := h.2 _ (List.mem_map.mpr ⟨i, List.mem_range.mpr hi, rfl⟩)
    simp only [id] at h1
    generalize D.getD i [] = zs at h1
    unfold rowB at h1
    rw [Bool.and_eq_true, List.all_eq_true] at h1
    rcases Nat.lt_or_ge j zs.length with hj | hj
    · have h2 := h1.2 _ (List.mem_map.mpr ⟨j, List.mem_range.mpr hj, rfl⟩)
      simp only [id] at h2
      unfold cellB at h2
      split at h2
      · have := of_decide_eq_true h2
        omega
      · have := of_decide_eq_true h2
        omega
    · rw [List.getD_eq_getElem?_getD, List.getElem?_eq_none hj]
      exact ⟨Int.le_refl 0, by decide, fun _ => rfl⟩
  · rw [List.getD_eq_getElem?_getD (l := D), List.getElem?_eq_none hi]
    exact ⟨Int.le_refl 0, (by show (0:Int) ≤ 9; decide), fun _ => rfl⟩
theorem slw_le {D : List (List Int)} (h : delB D = true) (k : Int) (o : Nat) : delayAt D k o ≤ delayAt (D.map (List.map slw)) k o := by
  have := del_cell h k.toNat o
  unfold delayAt
  rw [getD_mapN, getD_map0]
  unfold slw
  split <;> omega
theorem bt_sorted {h : Nat} {M : List TLk} (k : looksB h (bk M) = true) {o i : Nat} (oi : o ≤ i) (hi : i < M.length) : (M.map (·.2.1)).getD o 0 ≤ (M.map (·.2.1)).getD i 0 := by
  unfold looksB at k
  rw [Bool.and_eq_true, Bool.and_eq_true] at k
  have p := of_decide_eq_true k.2.2
  rw [List.map_map] at p
  have p : (M.map (·.2.1)).Pairwise (· ≤ ·) := p
  rcases Nat.lt_or_ge o i with c | c
  · have := List.pairwise_iff_getElem.mp p o i (by rw [List.length_map]; omega) (by rw [List.length_map]; omega) c
    rw [List.getD_eq_getElem?_getD, List.getD_eq_getElem?_getD, List.getElem?_eq_getElem (by rw [List.length_map]; omega), List.getElem?_eq_getElem (by rw [List.length_map]; omega)]
    exact this
  · rw [show o = i by omega]
    exact Int.le_refl _
end RL
/-! the law's mail: who knows what by a beat, look by look -/
namespace RL
open PySem PySem.Spec PyProof.Rows L2 RLM
theorem ltrs_of {h i o : Nat} {ks : List Int} (hi : i < ks.length) (ho : o < h) (ne : (o : Int) ≠ ks.getD i 0) : (i, o) ∈ ltrs h ks := by
  unfold ltrs
  exact List.mem_flatMap.mpr ⟨i, List.mem_range.mpr hi, List.mem_map.mpr ⟨o, List.mem_filter.mpr ⟨List.mem_range.mpr ho, by rw [Bool.not_eq_true', decide_eq_false_iff_not]; exact ne⟩, rfl⟩⟩
theorem del_cell1 {D : List (List Int)} (h : delB D = true) {i j : Nat} (hi : i < D.length) (hj : j < D.length) (ne : i ≠ j) : 1 ≤ (D.getD i []).getD j 0 := by
  obtain ⟨zs, ez, lz⟩ := del_row h hi
  unfold delB at h
  rw [Bool.and_eq_true, List.all_eq_true] at h
  have h1 := h.2 _ (List.mem_map.mpr ⟨i, List.mem_range.mpr hi, rfl⟩)
  simp only [id] at h1
  have e : D.getD i [] = zs := by rw [List.getD_eq_getElem?_getD, ez]; rfl
  rw [e] at h1 ⊢
  unfold rowB at h1
  rw [Bool.and_eq_true, List.all_eq_true] at h1
  have h2 := h1.2 _ (List.mem_map.mpr ⟨j, List.mem_range.mpr (by omega), rfl⟩)
  simp only [id] at h2
  unfold cellB at h2
  rw [if_neg (fun z => ne z.symm)] at h2
  exact (of_decide_eq_true h2).1
section
variable {D : List DRw} {M : List TLk} {Ls : List (Addr × Nat × Nat)} {k : Nat} {z : Int} {a i : Nat}
theorem hd_at (lk : looksB D.length (bk M) = true) (hi : i < M.length) : 0 ≤ btM M i ∧ btM M i ≤ 12 ∧ ∃ h : Nat, hdM M i = (h : Int) ∧ h < D.length := by
  have h := looks_at lk (List.getElem_mem hi)
  have e : hdM M i = M[i].2.2.1 ∧ btM M i = M[i].2.1 := by
    unfold hdM btM
    rw [List.getD_eq_getElem?_getD, List.getD_eq_getElem?_getD, List.getElem?_map, List.getElem?_map, List.getElem?_eq_getElem hi]
    exact ⟨rfl, rfl⟩
  rw [e.1, e.2]
  exact ⟨h.1, h.2.1, M[i].2.2.1.toNat, by omega, by omega⟩
theorem ar_gt (ok : delB (D.map (·.2)) = true) (lk : looksB D.length (bk M) = true) {p : Nat × Nat} (hp : p ∈ ltrs D.length (M.map (·.2.2.1))) : btM M p.1 < arM D M p.1 (p.2 : Int) := by
  obtain ⟨m1, m2, m3⟩ := ltrs_mem hp
  rw [List.length_map] at m1
  obtain ⟨_, _, h, e, hl⟩ := hd_at lk m1
  have m3 : (p.2 : Int) ≠ hdM M p.1 := m3
  have := del_cell1 ok (i := h) (j := p.2) (by rw [List.length_map]; exact hl) (by rw [List.length_map]; exact m2) (by omega)
  show btM M p.1 < btM M p.1 + delayAt (D.map (·.2)) (hdM M p.1) (p.2 : Int).toNat
  unfold delayAt
  rw [e, Int.toNat_natCast, Int.toNat_natCast]
  omega
/-- the looks made: those of lesser beats, and of this beat the first i -/
def Done (M : List TLk) (z : Int) (i a : Nat) : Prop := btM M a < z ∨ btM M a = z ∧ a < i
/-- what a hand has heard while a beat goes on: the first i looks of it are made, letters came that y tells -/
def EarP (D : List DRw) (M : List TLk) (Ls : List (Addr × Nat × Nat)) (k : Nat) (z : Int) (i : Nat) (y : Nat × Nat → Prop) (a : Nat) : Prop := (a < M.length ∧ hdM M a = k ∧ Done M z i a) ∨ ∃ p ∈ ltrs D.length (M.map (·.2.2.1)), (p.2 = k ∧ ¬ LostB Ls p.1 p.2 ∧ y p) ∧ ContM D M Ls p.1 a
abbrev arY (D : List DRw) (M : List TLk) (z : Int) (p : Nat × Nat) : Prop := arM D M p.1 (p.2 : Int) ≤ z
/-- the end of a beat -/
theorem ear_end : EarP D M Ls k z M.length (arY D M z) a ↔ HeardP D M Ls k z a := by
  unfold EarP HeardP CameP Done
  constructor
  · rintro (⟨h1, h2, h3⟩ | ⟨p, hp, ⟨rfl, h2, h3⟩, h4⟩)
    · exact .inl ⟨h1, h2, by omega⟩
    · exact .inr ⟨p, hp, ⟨rfl, h2, h3⟩, h4⟩
  · rintro (⟨h1, h2, h3⟩ | ⟨p, hp, ⟨rfl, h2, h3⟩, h4⟩)
    · exact .inl ⟨h1, h2, by omega⟩
    · exact .inr ⟨p, hp, ⟨rfl, h2, h3⟩, h4⟩
/-- ahead of the first beat -/
theorem ear_none (ok : delB (D.map (·.2)) = true) (lk : looksB D.length (bk M) = true) : ¬ HeardP D M Ls k (-1) a := by
  rintro (⟨h1, h2, h3⟩ | ⟨p, hp, ⟨rfl, h2, h3⟩, h4⟩)
  · have := (hd_at lk h1).1
    omega
  · obtain ⟨m1, _, _⟩ := ltrs_mem hp
    rw [List.length_map] at m1
    have h1 := ar_gt ok lk hp
    have h2 := (hd_at lk m1).1
    omega
/-- the letters of a beat have come -/
theorem ear_come (ok : delB (D.map (·.2)) = true) (lk : looksB D.length (bk M) = true) : EarP D M Ls k z 0 (arY D M z) a ↔ HeardP D M Ls k (z - 1) a ∨ ∃ p ∈ ltrs D.length (M.map (·.2.2.1)), (¬ LostB Ls p.1 p.2 ∧ Done M z 0 p.1) ∧ arM D M p.1 (p.2 : Int) = z ∧ p.2 = k ∧ ContM D M Ls p.1 a := by
  constructor
  · rintro (⟨h1, h2, h3⟩ | ⟨p, hp, ⟨rfl, h2, h3⟩, h4⟩)
    · refine .inl (.inl ⟨h1, h2, ?_⟩)
      unfold Done at h3
      omega
    · have h3 : arM D M p.1 (p.2 : Int) ≤ z := h3
      by_cases c : arM D M p.1 (p.2 : Int) = z
      · refine .inr ⟨p, hp, ⟨h2, .inl ?_⟩, c, rfl, h4⟩
        have := ar_gt ok lk hp
        omega
      · exact .inl (.inr ⟨p, hp, ⟨rfl, h2, by omega⟩, h4⟩)
  · rintro ((⟨h1, h2, h3⟩ | ⟨p, hp, ⟨rfl, h2, h3⟩, h4⟩) | ⟨p, hp, ⟨h2, _⟩, h3, rfl, h4⟩)
    · exact .inl ⟨h1, h2, .inl (by omega)⟩
    · exact .inr ⟨p, hp, ⟨rfl, h2, by show arM D M p.1 (p.2 : Int) ≤ z; omega⟩, h4⟩
    · exact .inr ⟨p, hp, ⟨rfl, h2, by show arM D M p.1 (p.2 : Int) ≤ z; omega⟩, h4⟩
theorem done_succ : Done M z (i + 1) a ↔ Done M z i a ∨ a = i ∧ btM M i = z := by
  unfold Done
  constructor
  · rintro (h | ⟨h1, h2⟩)
    · exact .inl (.inl h)
    · rcases Nat.lt_or_ge a i with c | c
      · exact .inl (.inr ⟨h1, c⟩)
      · have e : a = i := by omega
        exact .inr ⟨e, e ▸ h1⟩
  · rintro ((h | ⟨h1, h2⟩) | ⟨rfl, h2⟩)
    · exact .inl h
    · exact .inr ⟨h1, by omega⟩
    · exact .inr ⟨h2, by omega⟩
/-- a look is made -/
theorem ear_look {y : Nat × Nat → Prop} (hi : i < M.length) : EarP D M Ls k z (i + 1) y a ↔ EarP D M Ls k z i y a ∨ (a = i ∧ btM M i = z ∧ hdM M i = k) := by
  unfold EarP
  constructor
  · rintro (⟨h1, h2, h3⟩ | h)
    · rcases done_succ.mp h3 with h | ⟨rfl, h⟩
      · exact .inl (.inl ⟨h1, h2, h⟩)
      · exact .inr ⟨rfl, h, h2⟩
    · exact .inl (.inr h)
  · rintro ((⟨h1, h2, h3⟩ | h) | ⟨rfl, h1, h2⟩)
    · exact .inl ⟨h1, h2, done_succ.mpr (.inl h3)⟩
    · exact .inr h
    · exact .inl ⟨hi, h2, done_succ.mpr (.inr ⟨rfl, h1⟩)⟩
/-- what the letters of a look hold -/
theorem ear_cont (ok : delB (D.map (·.2)) = true) (lk : looksB D.length (bk M) = true) (hi : i < M.length) (hb : btM M i = z) (hk : hdM M i = (k : Int)) (kl : k < D.length) : EarP D M Ls k z (i + 1) (arY D M z) a ↔ ContM D M Ls i a := by
  constructor
  · rintro (⟨h1, h2, h3⟩ | ⟨p, hp, ⟨rfl, h2, h3⟩, h4⟩)
    · refine .own ?_ (by rw [h2, hk])
      rcases h3 with h | ⟨_, h⟩
      · rcases Nat.lt_or_ge i a with c | c
        · have : btM M i ≤ btM M a := bt_sorted lk (Nat.le_of_lt c) h1
          omega
        · exact c
      · omega
    · obtain ⟨m1, _, m3⟩ := ltrs_mem hp
      rw [List.length_map] at m1
      have m3 : (p.2 : Int) ≠ hdM M p.1 := m3
      have h3 : arM D M p.1 (p.2 : Int) ≤ z := h3
      have g := ar_gt ok lk hp
      refine .letter (o := p.1) ?_ (by omega) (by rw [hk]; exact h2) (by rw [hk, hb]; exact h3) h4
      rcases Nat.lt_or_ge p.1 i with c | c
      · exact c
      · have : btM M i ≤ btM M p.1 := bt_sorted lk c m1
        omega
  · intro h
    cases h with
    | own h1 h2 =>
      refine .inl ⟨by omega, by rw [h2, hk], ?_⟩
      have : btM M a ≤ btM M i := bt_sorted lk h1 hi
      unfold Done
      omega
    | @letter _ o _ h1 h2 h3 h4 h5 =>
      rw [hk] at h2 h3 h4
      rw [hb] at h4
      have hk2 : (k : Int) ≠ (M.map (·.2.2.1)).getD o 0 := fun e => h2 e.symm
      exact .inr ⟨(o, k), ltrs_of (by rw [List.length_map]; omega) kl hk2, ⟨rfl, h3, h4⟩, h5⟩
/-- behind beat 21 nothing comes any more -/
theorem heard_last (ok : delB (D.map (·.2)) = true) (lk : looksB D.length (bk M) = true) {z' : Int} (h : 21 ≤ z) (h' : 21 ≤ z') : HeardP D M Ls k z a ↔ HeardP D M Ls k z' a := by
  have one : ∀ {z z' : Int}, 21 ≤ z' → HeardP D M Ls k z a → HeardP D M Ls k z' a := fun {z z'} h' => by
    rintro (⟨h1, h2, h3⟩ | ⟨p, hp, ⟨rfl, h2, h3⟩, h4⟩)
    · have := (hd_at lk h1).2.1
      exact .inl ⟨h1, h2, by omega⟩
    · refine .inr ⟨p, hp, ⟨rfl, h2, ?_⟩, h4⟩
      obtain ⟨m1, _, _⟩ := ltrs_mem hp
      rw [List.length_map] at m1
      have b := (hd_at lk m1).2.1
      have c := (del_cell ok (hdM M p.1).toNat p.2).2.1
      show btM M p.1 + delayAt (D.map (·.2)) (hdM M p.1) (p.2 : Int).toNat ≤ z'
      unfold delayAt
      rw [Int.toNat_natCast]
      omega
  exact ⟨one h', one h⟩
end
end RL
/-! the law's mail -/
namespace RL
open PySem PySem.Spec PyProof.Rows L2 RLM
section
variable {P : Program} {w : World} {K : PySem.W.Frag} {mg : Str → Option Value} {base : Heap}
/-- an address that is none of the three lists that change, and was free at first -/
structure OutM (H0 : Hp) (el tl ll a : Addr) : Prop where
  e : a ≠ el
  t : a ≠ tl
  l : a ≠ ll
  f : H0 a = none
/-- what is told of a beat: a row for each hand -/
def ToldM (H0 : Hp) (el tl ll : Addr) (D : List DRw) (M : List TLk) (Ls : List (Addr × Nat × Nat)) (H : Hp) (t : Addr) (j : Nat) : Prop := ∃ us : List Addr, H t = some (.lst (us.map V.ref)) ∧ us.length = D.length ∧ ∀ k u, us[k]? = some u → OutM H0 el tl ll u ∧ H u = some (.lst ((lotP M.length (HeardP D M Ls k j)).map vI))
abbrev LtM := Addr × Addr × Nat × Nat
structure Ml (H0 : Hp) (el tl ll : Addr) (D : List DRw) (M : List TLk) (Ls : List (Addr × Nat × Nat)) (H : Hp) (rs : List Addr) (E : Nat → Nat → Prop) (L : List LtM) (ts : List Addr) : Prop where
  s : Same H0 H
  n3 : H0 el = none ∧ H0 tl = none ∧ H0 ll = none
  d3 : el ≠ tl ∧ el ≠ ll ∧ tl ≠ ll
  he : H el = some (.lst (rs.map V.ref))
  lr : rs.length = D.length
  er : ∀ k r, rs[k]? = some r → OutM H0 el tl ll r ∧ H r = some (.lst ((lotP M.length (E k)).map vI))
  hl : H ll = some (.lst (L.map fun q => V.ref q.1))
  li : ∀ q ∈ L, H q.1 = some (.tup [.int (arM D M q.2.2.1 (q.2.2.2 : Int)), vI q.2.2.1, vI q.2.2.2, .ref q.2.1]) ∧ OutM H0 el tl ll q.2.1 ∧ H q.2.1 = some (.lst ((lotP M.length (ContM D M Ls q.2.2.1)).map vI))
  ht : H tl = some (.lst (ts.map V.ref))
  et : ∀ j t, ts[j]? = some t → OutM H0 el tl ll t ∧ ToldM H0 el tl ll D M Ls H t j
section
variable {H0 H H' : Hp} {el tl ll : Addr} {D : List DRw} {M : List TLk} {Ls : List (Addr × Nat × Nat)} {rs : List Addr} {E : Nat → Nat → Prop} {L : List LtM} {ts : List Addr}
theorem Ml.out (h : Ml H0 el tl ll D M Ls H rs E L ts) {p : Addr} (hp : H p = none) : OutM H0 el tl ll p :=
  ⟨fun e => (by rw [e, h.he] at hp; cases hp), fun e => (by rw [e, h.ht] at hp; cases hp), fun e => (by rw [e, h.hl] at hp; cases hp), none_back h.s hp⟩
theorem Ml.same (h : Ml H0 el tl ll D M Ls H rs E L ts) (s : Same H H') : Ml H0 el tl ll D M Ls H' rs E L ts :=
  ⟨h.s.trans s, h.n3, h.d3, s _ _ h.he, h.lr, fun k r e => ⟨(h.er k r e).1, s _ _ (h.er k r e).2⟩, s _ _ h.hl, fun q hq => ⟨s _ _ (h.li q hq).1, (h.li q hq).2.1, s _ _ (h.li q hq).2.2⟩, s _ _ h.ht, fun j t e => by
    obtain ⟨g1, us, g2, g3, g4⟩ := h.et j t e
    exact ⟨g1, us, s _ _ g2, g3, fun k u e => ⟨(g4 k u e).1, s _ _ (g4 k u e).2⟩⟩⟩
theorem Ml.sub (h : Ml H0 el tl ll D M Ls H rs E L ts) {E' : Nat → Nat → Prop} (e : ∀ k, k < D.length → ∀ a, a < M.length → (E k a ↔ E' k a)) : Ml H0 el tl ll D M Ls H rs E' L ts :=
  ⟨h.s, h.n3, h.d3, h.he, h.lr, fun k r ek => by
    obtain ⟨g1, g2⟩ := h.er k r ek
    have kl : k < D.length := by
      have := (List.getElem?_eq_some_iff.mp ek).1
      rwa [h.lr] at this
    refine ⟨g1, ?_⟩
    rw [g2, lotP_congr fun a ha => e k kl a ha], h.hl, h.li, h.ht, h.et⟩
theorem Ml.put (h : Ml H0 el tl ll D M Ls H rs E L ts) {k0 : Nat} {r : Addr} {p : Nat → Prop} (o : OutM H0 el tl ll r) (hr : H r = some (.lst ((lotP M.length p).map vI))) : Ml H0 el tl ll D M Ls (upd H el (.lst ((rs.set k0 r).map V.ref))) (rs.set k0 r) (fun k => if k = k0 then p else E k) L ts := by
  have keep : ∀ {a : Addr} {o : HO}, OutM H0 el tl ll a → H a = some o → (upd H el (.lst ((rs.set k0 r).map V.ref))) a = some o := fun {a o} z e => by rw [upd_ne z.e]; exact e
  have tupk : ∀ {a : Addr} {xs : List V}, H a = some (.tup xs) → (upd H el (.lst ((rs.set k0 r).map V.ref))) a = some (.tup xs) := fun {a xs} e => by
    rw [upd_ne fun z => by rw [z, h.he] at e; cases e]
    exact e
  refine ⟨same_mut h.s h.n3.1, h.n3, h.d3, upd_same, by rw [List.length_set, h.lr], fun k r' e => ?_, by rw [upd_ne h.d3.2.1.symm]; exact h.hl, fun q hq => ⟨tupk (h.li q hq).1, (h.li q hq).2.1, keep (h.li q hq).2.1 (h.li q hq).2.2⟩, by rw [upd_ne h.d3.1.symm]; exact h.ht, fun j t e => ?_⟩
  · by_cases c : k = k0
    · subst c
      rw [if_pos rfl]
      have hl : k < rs.length := by have := (List.getElem?_eq_some_iff.mp e).1; rwa [List.length_set] at this
      rw [List.getElem?_set_self hl] at e
      cases e
      exact ⟨o, keep o hr⟩
    · rw [if_neg c]
      rw [List.getElem?_set_ne (fun z => c z.symm)] at e
      exact ⟨(h.er k r' e).1, keep (h.er k r' e).1 (h.er k r' e).2⟩
  · obtain ⟨g1, us, g2, g3, g4⟩ := h.et j t e
    exact ⟨g1, us, keep g1 g2, g3, fun k u e => ⟨(g4 k u e).1, keep (g4 k u e).1 (g4 k u e).2⟩⟩
theorem Ml.send (h : Ml H0 el tl ll D M Ls H rs E L ts) {q : LtM} (hq : H q.1 = some (.tup [.int (arM D M q.2.2.1 (q.2.2.2 : Int)), vI q.2.2.1, vI q.2.2.2, .ref q.2.1])) (o : OutM H0 el tl ll q.2.1) (hu : H q.2.1 = some (.lst ((lotP M.length (ContM D M Ls q.2.2.1)).map vI))) : Ml H0 el tl ll D M Ls (upd H ll (.lst ((L.map fun q => V.ref q.1) ++ [V.ref q.1]))) rs E (L ++ [q]) ts := by
  have keep : ∀ {a : Addr} {o : HO}, OutM H0 el tl ll a → H a = some o → (upd H ll (.lst ((L.map fun q => V.ref q.1) ++ [V.ref q.1]))) a = some o := fun {a o} z e => by rw [upd_ne z.l]; exact e
  have tupk : ∀ {a : Addr} {xs : List V}, H a = some (.tup xs) → (upd H ll (.lst ((L.map fun q => V.ref q.1) ++ [V.ref q.1]))) a = some (.tup xs) := fun {a xs} e => by
    rw [upd_ne fun z => by rw [z, h.hl] at e; cases e]
    exact e
  refine ⟨same_mut h.s h.n3.2.2, h.n3, h.d3, by rw [upd_ne h.d3.2.1]; exact h.he, h.lr, fun k r e => ⟨(h.er k r e).1, keep (h.er k r e).1 (h.er k r e).2⟩, by rw [upd_same, List.map_append]; rfl, fun q' hq' => ?_, by rw [upd_ne h.d3.2.2]; exact h.ht, fun j t e => ?_⟩
  · rcases List.mem_append.mp hq' with z | z
    · exact ⟨tupk (h.li q' z).1, (h.li q' z).2.1, keep (h.li q' z).2.1 (h.li q' z).2.2⟩
    · rw [List.mem_singleton.mp z]
      exact ⟨tupk hq, o, keep o hu⟩
  · obtain ⟨g1, us, g2, g3, g4⟩ := h.et j t e
    exact ⟨g1, us, keep g1 g2, g3, fun k u e => ⟨(g4 k u e).1, keep (g4 k u e).1 (g4 k u e).2⟩⟩
theorem Ml.tell (h : Ml H0 el tl ll D M Ls H rs E L ts) {t : Addr} {j : Nat} (lt : ts.length = j) (o : OutM H0 el tl ll t) (hu : ToldM H0 el tl ll D M Ls H t j) : Ml H0 el tl ll D M Ls (upd H tl (.lst (ts.map V.ref ++ [V.ref t]))) rs E L (ts ++ [t]) := by
  have keep : ∀ {a : Addr} {o : HO}, OutM H0 el tl ll a → H a = some o → (upd H tl (.lst (ts.map V.ref ++ [V.ref t]))) a = some o := fun {a o} z e => by rw [upd_ne z.t]; exact e
  have tupk : ∀ {a : Addr} {xs : List V}, H a = some (.tup xs) → (upd H tl (.lst (ts.map V.ref ++ [V.ref t]))) a = some (.tup xs) := fun {a xs} e => by
    rw [upd_ne fun z => by rw [z, h.ht] at e; cases e]
    exact e
  have told : ∀ {t' : Addr} {j' : Nat}, OutM H0 el tl ll t' → ToldM H0 el tl ll D M Ls H t' j' → ToldM H0 el tl ll D M Ls (upd H tl (.lst (ts.map V.ref ++ [V.ref t]))) t' j' := fun {t' j'} o' ⟨us, g2, g3, g4⟩ => ⟨us, keep o' g2, g3, fun k u e => ⟨(g4 k u e).1, keep (g4 k u e).1 (g4 k u e).2⟩⟩
  refine ⟨same_mut h.s h.n3.2.1, h.n3, h.d3, by rw [upd_ne h.d3.1]; exact h.he, h.lr, fun k r e => ⟨(h.er k r e).1, keep (h.er k r e).1 (h.er k r e).2⟩, by rw [upd_ne h.d3.2.2.symm]; exact h.hl, fun q hq => ⟨tupk (h.li q hq).1, (h.li q hq).2.1, keep (h.li q hq).2.1 (h.li q hq).2.2⟩, by rw [upd_same, List.map_append]; rfl, fun i t' e => ?_⟩
  rcases Nat.lt_or_ge i ts.length with c | c
  · rw [List.getElem?_append_left c] at e
    obtain ⟨g1, g2⟩ := h.et i t' e
    exact ⟨g1, told g1 g2⟩
  · rw [List.getElem?_append_right c] at e
    have ei : i - ts.length = 0 := by
      obtain ⟨z1, _⟩ := List.getElem?_eq_some_iff.mp e
      simp at z1
      omega
    rw [ei] at e
    cases e
    rw [show i = j by omega]
    exact ⟨o, told o hu⟩
end
abbrev SM (t g d l el tl ll : Addr) (v7 v8 v9 v10 v11 v12 : Option V) : L2.St := [some (.ref t), some (.ref g), some (.ref d), some (.ref l), some (.ref el), some (.ref tl), some (.ref ll), v7, v8, v9, v10, v11, v12, none]
/-- sorted(set(..)) of a list of numbers -/
theorem rise_k {σ : L2.St} {H1 : Hp} {p : Addr} {xs : List Nat} {m : Nat} {pr : Nat → Prop} {Q : VK} (hp : H1 p = some (.lst (xs.map vI))) (l : xs.length ≤ 60) (hm : ∀ a, a ∈ xs ↔ a < m ∧ pr a) (h : ∀ H2 q, H1 q = none → H2 q = some (.lst ((lotP m pr).map vI)) → Same H1 H2 → Q (.ref q) H2) : tNil σ H1 fun xs H2 => rSetL w K (V.ref p :: xs) H2 fun y H3 => tNil σ H3 fun zs H4 => rSortedSet w (y :: zs) H4 Q := by
  refine ⟨p, xs.map nI, rfl, SqL.of (by rw [← vI_map]; exact hp), by rw [List.length_map]; omega, fun dd cc hd hcc _ => ?_⟩
  have s6 := same_upd (o := SetO w dd (fun j => decide (j ∈ xs.map nI)) cc) hd
  rw [List.length_map] at hcc
  refine ⟨dd, _, cc, rfl, upd_same, by omega, fun zs q r1 r2 r3 hq => ?_⟩
  have s7 := same_upd (o := HO.lst (zs.map V.int)) hq
  have ez : zs.map V.int = (lotP m pr).map vI := by
    refine rise_lot r1 fun v => ?_
    rw [r2 v, decide_eq_true_iff, List.mem_map]
    constructor
    · rintro ⟨a, ha, rfl⟩
      exact ⟨a, rfl, (hm a).mp ha⟩
    · rintro ⟨a, rfl, ha⟩
      exact ⟨a, (hm a).mpr ha, rfl⟩
  exact h _ q (none_back s6 hq) (by rw [upd_same, ez]) (s6.trans s7)
def spMail : Sp := fun vs H Q _ => ∃ (t g d l : Addr) (D : List DRw) (M : List TLk) (Ls : List (Addr × Nat × Nat)), vs = [.ref t, .ref g] ∧ H t = some (.tup [.ref d, .ref l]) ∧ DelAt H d D ∧ H l = some (.tup (M.map fun q => V.ref q.1)) ∧ (∀ q ∈ M, TLAt H q) ∧ looksB D.length (bk M) = true ∧ LtT H g Ls ∧
  ∀ H' r x el tl ll (ts : List Addr), H' r = some (.tup [.ref tl, x]) → H tl = none → H' tl = some (.lst (ts.map V.ref)) → ts.length = 24 → (∀ j t, ts[j]? = some t → OutM H el tl ll t ∧ ToldM H el tl ll D M Ls H' t j) → Same H H' → Q (.ref r) H'
theorem sc__law_mail : FnScope ["_law_talk_here", "_law_gone_ones", "_law_delays", "_law_looks_here", "_law_ears", "_law_told", "_law_letters_here", "_law_beat", "_law_comes", "_law_at", "_law_to", "_law_inside", "_law_hand", "_law_row"] ["_law_talk_here", "_law_gone_ones"] (defScope s__law_mail) := ⟨rfl, rfl, rfl, by decide +kernel, rfl, by decide +kernel, by decide +kernel⟩
theorem ok_mail (T : Tx K mg) : Has P w K mg base (He.ga K "_law_mail") 1 ["_law_talk_here", "_law_gone_ones"] spMail := by
  obtain ⟨fd, F⟩ := T.d__law_mail
  refine ⟨⟨fd, F.ok sc__law_mail (fun vs H Q E h => ?_) (fun cdv A outer s H vs Q E hr h => ?_), F.bindsN fun _ _ _ _ _ _ us hl => match us, hl with | [_, _], _ => rfl⟩, F.kp⟩
  · obtain ⟨t, g, d, l, D, M, Ls, rfl, _⟩ := h
    rfl
  · obtain ⟨t, g, d, l, D, M, Ls, rfl, ht, DA, hl, tM, ok, LT, h⟩ := h
    refine ⟨_, PSs.nox (pss_cons (ps_asg (pv 0) (pgT (K := K) (n := 2) rfl (pgs_cons (pg_name (i := 2) sc__law_mail.nd rfl (Or.inl rfl)) (pgs_cons (pg_name (i := 3) sc__law_mail.nd rfl (Or.inl rfl)) pgs_nil))))
      (pss_cons (ps_par3 (i := 4) (j := 5) (l := 6) rfl sc__law_mail.nd rfl rfl rfl (by decide) (by decide) (by decide) rfl rfl rfl (pa_cons (pe_lc (own := [("_law_row", 13)]) (g := (gName 13)) (tt := tYes) rfl sc__law_mail.nd (piT (K := K) (pv 2)) (blkOk_by (by kernel_rfl)) (fun _ _ _ _ _ => (pg_name (i := 13) sc__law_mail.nd rfl (Or.inl rfl))) (fun _ _ _ _ _ => pts_nil) (fun _ _ _ _ _ => (pe_lst pa_nil))) (pa_cons (pe_lst pa_nil) (pa_cons (pe_lst pa_nil) pa_nil))) (by rfl))
      (pss_cons (ps_for PassesOwn.never rfl (pi_range1 (by rfl) T.free_range (pa_cons pe_int pa_nil)) (pg_name (i := 7) sc__law_mail.nd rfl (Or.inl rfl)) (pss_cons (ps_for PassesOwn.never rfl (piL (K := K) (pv 6)) (pgT (K := K) (n := 4) rfl (pgs_cons (pg_name (i := 8) sc__law_mail.nd rfl (Or.inl rfl)) (pgs_cons (pg_name (i := 9) sc__law_mail.nd rfl (Or.inl rfl)) (pgs_cons (pg_name (i := 10) sc__law_mail.nd rfl (Or.inl rfl)) (pgs_cons (pg_name (i := 11) sc__law_mail.nd rfl (Or.inl rfl)) pgs_nil))))) (pss_one (ps_if (pt_cmpR op_eq (pv 8) (pv 7) (nomark _)) (pss_one (ps_asg (pe_callB (sortS (w := w)) (by rfl) T.free_sorted (by decide +kernel) (pa_cons (pe_callTy (setLK (K := K) (w := w)) (by rfl) T.free_set (by decide +kernel) (pa_cons (pe_op op_cat (pe_ix (ixL (K := K)) (pv 4) (pv 10) (fun _ _ => rfl)) (pv 11)) pa_nil)) pa_nil)) (pg_sub (pv 4) (pv 10) set_list))) pss_nil)))
      (pss_cons (ps_for PassesOwn.never rfl (pi_range1 (by rfl) T.free_range (pa_cons (pe_callB (lenK (K := K)) (by rfl) T.free_len (by decide +kernel) (pa_cons (pv 3) pa_nil)) pa_nil)) (pg_name (i := 9) sc__law_mail.nd rfl (Or.inl rfl)) (pss_one (ps_if (pt_cmpR op_eq (pe_ix (ixT (K := K)) (pe_ix (ixT (K := K)) (pv 3) (pv 9) (fun _ _ => rfl)) pe_int (fun _ _ => rfl)) (pv 7) (nomark _)) (pss_cons (ps_set (i := 12) sc__law_mail.nd rfl (Or.inl rfl) (pe_ix (ixT (K := K)) (pe_ix (ixT (K := K)) (pv 3) (pv 9) (fun _ _ => rfl)) pe_int (fun _ _ => rfl)))
      (pss_cons (ps_asg (pe_callB (sortS (w := w)) (by rfl) T.free_sorted (by decide +kernel) (pa_cons (pe_callTy (setLK (K := K) (w := w)) (by rfl) T.free_set (by decide +kernel) (pa_cons (pe_op op_cat (pe_ix (ixL (K := K)) (pv 4) (pv 12) (fun _ _ => rfl)) (pe_lst (pa_cons (pv 9) pa_nil))) pa_nil)) pa_nil)) (pg_sub (pv 4) (pv 12) set_list))
      (pss_one (ps_for PassesOwn.never rfl (pi_range1 (by rfl) T.free_range (pa_cons (pe_callB (lenK (K := K)) (by rfl) T.free_len (by decide +kernel) (pa_cons (pv 2) pa_nil)) pa_nil)) (pg_name (i := 10) sc__law_mail.nd rfl (Or.inl rfl)) (pss_one (ps_if (PW.pt (pw_and (pt_cmpR op_ne (pv 10) (pv 12) (nomark _)) (pw_and1 (pt_cmpR (notDT (K := K) (hr65 hr)) (pe_tup (pa_cons (pv 9) (pa_cons (pv 10) pa_nil))) (pv 1) (by rfl))))) (pss_one (ps_expr (bmK (K := K) PySem.F.plainAttrs_list PySem.F.slot_list_append PySem.F.type_list_append mt_append (pv 6) (pa_cons (pe_tup (pa_cons (pe_op op_add (pv 7) (pe_ix (ixT (K := K)) (pe_ix (ixT (K := K)) (pv 2) (pv 12) (fun _ _ => rfl)) (pv 10) (fun _ _ => rfl))) (pa_cons (pv 9) (pa_cons (pv 10) (pa_cons (pe_callTy (listK (K := K)) (by rfl) T.free_list (by decide +kernel) (pa_cons (pe_ix (ixL (K := K)) (pv 4) (pv 12) (fun _ _ => rfl)) pa_nil)) pa_nil))))) pa_nil)))) pss_nil)))))) pss_nil)))
      (pss_one (ps_expr (bmK (K := K) PySem.F.plainAttrs_list PySem.F.slot_list_append PySem.F.type_list_append mt_append (pv 5) (pa_cons (pe_lc (own := [("_law_row", 13)]) (g := (gName 13)) (tt := tYes) rfl sc__law_mail.nd (piL (K := K) (pv 4)) (blkOk_by (by kernel_rfl)) (fun _ _ _ _ _ => (pg_name (i := 13) sc__law_mail.nd rfl (Or.inl rfl))) (fun _ _ _ _ _ => pts_nil) (fun _ _ _ _ _ => (pe_callTy (listK (K := K)) (by rfl) T.free_list (by decide +kernel) (pa_cons (pv 13) pa_nil)))) pa_nil)))))))
      (pss_one (ps_ret (pe_tup (pa_cons (pv 5) (pa_cons (pv 6) pa_nil)))))))), ?_⟩
    have l4 := DA.len
    have l6 := looks_len ok
    refine ⟨_, rfl, t, _, rfl, SqT.of ht, rfl, _, _, rfl, _, _, rfl, rfl, ?_⟩
    refine ⟨_, rfl, d, rfl, ⟨_, SqT.of DA.at_⟩, fun el hel => ?_⟩
    have ln : (D.map fun q => V.ref q.1).length = D.length := List.length_map ..
    refine lc_it (walk_tup (K := K) (a := d) (xs := D.map fun q => V.ref q.1)) (fun i H1 => ∃ rs : List Addr, H1 el = some (.lst (rs.map V.ref)) ∧ rs.length = i ∧ (∀ (c : Nat) (a : Addr), rs[c]? = some a → a ≠ el ∧ H a = none ∧ H1 a = some (.lst [])) ∧ Same H H1)
      ⟨[], upd_same, rfl, fun c a e => (by simp at e), same_upd hel⟩ (fun i H1 _ ⟨_, _, _, _, s1⟩ => SqT.of (s1 _ _ DA.at_)) ?_ ?_
    · rintro i y H1' H1 hi ⟨rs, h1, lr, er, s1⟩ ⟨rfl, hy⟩
      refine ⟨rfl, yesT ?_⟩
      refine ⟨Nat.zero_le _, fun r hr => ?_⟩
      have s2 := same_upd (o := HO.lst []) hr
      have rl : r ≠ el := fun e => by rw [e, h1] at hr; cases hr
      refine ⟨_, s2 _ _ h1, ?_, rs ++ [r], by rw [upd_same, List.map_append]; rfl, by rw [List.length_append, lr]; rfl, fun c a' e => ?_, same_mut (s1.trans s2) hel⟩
      · rw [List.length_map]
        exact Nat.lt_of_le_of_lt (show rs.length ≤ 4 by omega) (by decide)
      · rcases Nat.lt_or_ge c rs.length with k | k
        · rw [List.getElem?_append_left k] at e
          obtain ⟨g1, g0, g2⟩ := er c a' e
          rw [upd_ne g1]
          exact ⟨g1, g0, s2 _ _ g2⟩
        · rw [List.getElem?_append_right k] at e
          have ek : c - rs.length = 0 := by
            obtain ⟨z1, _⟩ := List.getElem?_eq_some_iff.mp e
            simp at z1
            omega
          rw [ek] at e
          cases e
          rw [upd_ne rl, upd_same]
          exact ⟨rl, none_back s1 hr, rfl⟩
    rintro H1 ⟨rs, h1, lr, er, s1⟩
    rw [ln] at lr
    refine ⟨Nat.zero_le _, fun tl htl => ⟨Nat.zero_le _, fun ll hll => ?_⟩⟩
    have s2 := s1.trans (same_upd (o := HO.lst []) htl)
    have s3 := s2.trans (same_upd (o := HO.lst []) hll)
    have et : el ≠ tl := fun e => by rw [← e, h1] at htl; cases htl
    have tll : tl ≠ ll := fun e => by rw [← e, upd_same] at hll; cases hll
    have ell : el ≠ ll := fun e => by rw [← e, upd_ne et, h1] at hll; cases hll
    have rt : ∀ {c : Nat} {a : Addr}, rs[c]? = some a → a ≠ tl ∧ a ≠ ll := fun {c a} e => by
      have g := (er c a e).2.2
      have n1 : a ≠ tl := fun z => by rw [← z, g] at htl; cases htl
      exact ⟨n1, fun z => by rw [← z, upd_ne n1, g] at hll; cases hll⟩
    have hb0 : ∀ {i : Nat}, i < M.length → 0 ≤ btM M i := fun {i} hi => (hd_at ok hi).1
    have m0 : Ml H el tl ll D M Ls (upd (upd H1 tl (.lst [])) ll (.lst [])) rs (fun k => HeardP D M Ls k (((0 : Nat) : Int) - 1)) [] [] := by
      refine ⟨s3, ⟨hel, none_back s1 htl, none_back s2 hll⟩, ⟨et, ell, tll⟩, by rw [upd_ne ell, upd_ne et]; exact h1, lr, fun k r e => ?_, upd_same, fun q hq => (nomatch hq), by rw [upd_ne tll]; exact upd_same, fun j t e => by simp at e⟩
      obtain ⟨g1, g2, g3⟩ := er k r e
      obtain ⟨n1, n2⟩ := rt e
      refine ⟨⟨g1, n1, n2, g2⟩, ?_⟩
      rw [upd_ne n2, upd_ne n1, g3]
      have : lotP M.length (HeardP D M Ls k (((0 : Nat) : Int) - 1)) = [] := List.eq_nil_iff_forall_not_mem.mpr fun a ha => ear_none DA.ok ok (mem_lotP.mp ha).2
      rw [this]
      rfl
    generalize upd (upd H1 tl (.lst [])) ll (.lst []) = H3 at m0
    clear s2 s3 htl hll rt et tll ell er h1 s1 hel
    refine ⟨_, _, _, rfl, ?_⟩
    refine ⟨24, rfl, by decide, by decide, for_range (lo := 0) (n := 24) (fun zb σ H2 => (∃ v7 v8 v9 v10 v11 v12 : Option V, σ = SM t g d l el tl ll v7 v8 v9 v10 v11 v12) ∧ ∃ (rs : List Addr) (L : List LtM) (ts : List Addr), Ml H el tl ll D M Ls H2 rs (fun k => HeardP D M Ls k ((zb : Int) - 1)) L ts ∧ ts.length = zb ∧ L.length ≤ 24 * zb ∧ ∀ p, p ∈ L.map (·.2.2) ↔ p ∈ ltrs D.length (M.map (·.2.2.1)) ∧ (¬ LostB Ls p.1 p.2 ∧ Done M zb 0 p.1))
      ⟨⟨_, _, _, _, _, _, rfl⟩, rs, [], [], m0, rfl, Nat.zero_le _, fun p => ⟨fun z => (nomatch z), fun ⟨hp, _, hd⟩ => ?_⟩⟩ ?_ ?_⟩
    · obtain ⟨p1, _, _⟩ := ltrs_mem hp
      rw [List.length_map] at p1
      have := hb0 p1
      unfold Done at hd
      omega
    · clear m0 lr rs H3
      rintro zb σ H2 hzb ⟨⟨v7, v8, v9, v10, v11, v12, rfl⟩, rs, L, ts, m2, lts, lL, kL⟩
      refine ⟨_, rfl, ll, rfl, ⟨_, SqL.of m2.hl⟩, for_it (walk_list (K := K) (a := ll) (xs := L.map fun q => V.ref q.1)) (fun i σ H4 => (∃ v8 v9 v10 v11 : Option V, σ = SM t g d l el tl ll (some (.int (0 + (zb : Nat)))) v8 v9 v10 v11 v12) ∧ ∃ rs : List Addr, Ml H el tl ll D M Ls H4 rs (fun k a => HeardP D M Ls k ((zb : Int) - 1) a ∨ ∃ q ∈ L.take i, arM D M q.2.2.1 (q.2.2.2 : Int) = zb ∧ q.2.2.2 = k ∧ ContM D M Ls q.2.2.1 a) L ts)
        ⟨⟨_, _, _, _, rfl⟩, rs, m2.sub fun k _ a _ => ⟨.inl, fun z => z.elim id fun ⟨q, hq, _⟩ => by simp at hq⟩⟩ (fun i σ H4 _ ⟨_, _, m4⟩ => SqL.of m4.hl) ?_ ?_⟩
      · rintro i y σ H4' H4 hi ⟨⟨v8', v9', v10', v11', rfl⟩, rs4, m4⟩ ⟨rfl, hy⟩
        obtain ⟨q, hq, rfl⟩ := get_mapV hy
        have mq := List.mem_of_getElem? hq
        obtain ⟨q1, qo, q2⟩ := m4.li q mq
        have qk := (kL q.2.2).mp (List.mem_map.mpr ⟨q, mq, rfl⟩)
        obtain ⟨p1, p2, p3⟩ := ltrs_mem qk.1
        rw [List.length_map] at p1
        have et : L.take (i + 1) = L.take i ++ [q] := by
          rw [List.take_add_one, hq]
          rfl
        refine ⟨q.1, _, rfl, SqT.of q1, rfl, _, _, rfl, _, _, rfl, _, _, rfl, _, _, rfl, rfl, ?_⟩
        refine ⟨_, rfl, _, rfl, rfl, _, rfl, ?_⟩
        have eb : decide (V.int (arM D M q.2.2.1 (q.2.2.2 : Int)) = V.int (0 + (zb : Int))) = decide (arM D M q.2.2.1 (q.2.2.2 : Int) = zb) := by
          rw [decide_eq_decide, Int.zero_add]
          exact ⟨fun z => by injection z, fun z => by rw [z]⟩
        show if decide (V.int (arM D M q.2.2.1 (q.2.2.2 : Int)) = V.int (0 + (zb : Int))) = true then _ else _
        rw [eb]
        by_cases c : arM D M q.2.2.1 (q.2.2.2 : Int) = zb
        · rw [decide_eq_true c]
          refine iteT ?_
          have rl : q.2.2.2 < rs4.length := by rw [m4.lr]; exact p2
          have hr : rs4[q.2.2.2]? = some (rs4[q.2.2.2]'rl) := List.getElem?_eq_getElem rl
          generalize rs4[q.2.2.2]'rl = r at hr
          obtain ⟨ro, hrr⟩ := m4.er _ _ hr
          have b1 := lotP_len M.length (fun a => HeardP D M Ls q.2.2.2 ((zb : Int) - 1) a ∨ ∃ q' ∈ L.take i, arM D M q'.2.2.1 (q'.2.2.2 : Int) = zb ∧ q'.2.2.2 = q.2.2.2 ∧ ContM D M Ls q'.2.2.1 a)
          have b2 := lotP_len M.length (ContM D M Ls q.2.2.1)
          refine ⟨_, rfl, _, rfl, el, _, _, _, rfl, rfl, SqL.of m4.he, atI_nat (get_map hr), _, rfl, r, q.2.1, _, _, rfl, rfl, hrr, q2, by rw [List.length_map, List.length_map]; exact Nat.le_trans (show _ ≤ 200 by omega) (by decide), fun p hp => ?_⟩
          rw [← List.map_append]
          have s5 := same_upd (o := HO.lst ((lotP M.length (fun a => HeardP D M Ls q.2.2.2 ((zb : Int) - 1) a ∨ ∃ q' ∈ L.take i, arM D M q'.2.2.1 (q'.2.2.2 : Int) = zb ∧ q'.2.2.2 = q.2.2.2 ∧ ContM D M Ls q'.2.2.1 a) ++ lotP M.length (ContM D M Ls q.2.2.1)).map vI)) hp
          refine rise_k (xs := lotP M.length (fun a => HeardP D M Ls q.2.2.2 ((zb : Int) - 1) a ∨ ∃ q' ∈ L.take i, arM D M q'.2.2.1 (q'.2.2.2 : Int) = zb ∧ q'.2.2.2 = q.2.2.2 ∧ ContM D M Ls q'.2.2.1 a) ++ lotP M.length (ContM D M Ls q.2.2.1)) (m := M.length) (pr := fun a => (HeardP D M Ls q.2.2.2 ((zb : Int) - 1) a ∨ ∃ q' ∈ L.take i, arM D M q'.2.2.1 (q'.2.2.2 : Int) = zb ∧ q'.2.2.2 = q.2.2.2 ∧ ContM D M Ls q'.2.2.1 a) ∨ ContM D M Ls q.2.2.1 a) upd_same (by rw [List.length_append]; omega) (fun a => by
            rw [List.mem_append, mem_lotP, mem_lotP]
            exact ⟨fun z => z.elim (fun z => ⟨z.1, .inl z.2⟩) fun z => ⟨z.1, .inr z.2⟩, fun z => z.2.elim (fun y => .inl ⟨z.1, y⟩) fun y => .inr ⟨z.1, y⟩⟩) fun H6 r' hn6 h6 s6 => ?_
          have m6 := m4.same (s5.trans s6)
          have o6 := m4.out (none_back s5 hn6)
          refine ⟨_, rfl, _, rfl, el, _, _, q.2.2.2, rfl, rfl, m6.he, by rw [List.length_map]; exact ixN_nat rl, ?_⟩
          rw [← List.map_set]
          refine ⟨⟨_, _, _, _, rfl⟩, _, (m6.put o6 h6).sub fun k hk a ha => ?_⟩
          rw [et]
          by_cases ck : k = q.2.2.2
          · subst ck
            rw [if_pos rfl]
            constructor
            · rintro ((z | ⟨q', z1, z2⟩) | z)
              · exact .inl z
              · exact .inr ⟨q', List.mem_append_left _ z1, z2⟩
              · exact .inr ⟨q, List.mem_append_right _ (List.mem_singleton.mpr rfl), c, rfl, z⟩
            · rintro (z | ⟨q', z1, z2⟩)
              · exact .inl (.inl z)
              · rcases List.mem_append.mp z1 with z1 | z1
                · exact .inl (.inr ⟨q', z1, z2⟩)
                · rw [List.mem_singleton.mp z1] at z2
                  exact .inr z2.2.2
          · rw [if_neg ck]
            constructor
            · rintro (z | ⟨q', z1, z2⟩)
              · exact .inl z
              · exact .inr ⟨q', List.mem_append_left _ z1, z2⟩
            · rintro (z | ⟨q', z1, z2⟩)
              · exact .inl z
              · rcases List.mem_append.mp z1 with z1 | z1
                · exact .inr ⟨q', z1, z2⟩
                · rw [List.mem_singleton.mp z1] at z2
                  exact absurd z2.2.1.symm ck
        · rw [decide_eq_false c]
          refine iteF ⟨⟨_, _, _, _, rfl⟩, rs4, m4.sub fun k hk a ha => ?_⟩
          rw [et]
          constructor
          · rintro (z | ⟨q', z1, z2⟩)
            · exact .inl z
            · exact .inr ⟨q', List.mem_append_left _ z1, z2⟩
          · rintro (z | ⟨q', z1, z2⟩)
            · exact .inl z
            · rcases List.mem_append.mp z1 with z1 | z1
              · exact .inr ⟨q', z1, z2⟩
              · rw [List.mem_singleton.mp z1] at z2
                exact absurd z2.1 c
      · rintro σ H4 ⟨⟨v8', v9', v10', v11', rfl⟩, rs4, m4⟩
        rw [List.length_map, List.take_length] at m4
        have m5 := m4.sub (E' := fun k => EarP D M Ls k (zb : Int) 0 (arY D M (zb : Int))) fun k hk a ha => by
          rw [ear_come DA.ok ok]
          constructor
          · rintro (z | ⟨q, z1, z2, z3, z4⟩)
            · exact .inl z
            · have g := (kL q.2.2).mp (List.mem_map.mpr ⟨q, z1, rfl⟩)
              exact .inr ⟨q.2.2, g.1, g.2, z2, z3, z4⟩
          · rintro (z | ⟨p, z1, z2, z3, z4, z5⟩)
            · exact .inl z
            · obtain ⟨q, hq, rfl⟩ := List.mem_map.mp ((kL p).mpr ⟨z1, z2⟩)
              exact .inr ⟨q, hq, z3, z4, z5⟩
        clear m4 m2 rs
        refine ⟨_, rfl, l, _, rfl, .inr (SqT.of (m5.s _ _ hl)), (((M.map fun q => V.ref q.1).length : Nat) : Int), rfl, by rw [List.length_map]; omega, by rw [List.length_map]; omega, ?_⟩
        rw [Int.toNat_natCast, List.length_map]
        refine for_range (lo := 0) (n := M.length) (fun i σ H5 => (∃ v8 v9 v10 v11 v12 : Option V, σ = SM t g d l el tl ll (some (.int (0 + (zb : Nat)))) v8 v9 v10 v11 v12) ∧ ∃ (rs : List Addr) (L : List LtM), Ml H el tl ll D M Ls H5 rs (fun k => EarP D M Ls k (zb : Int) i (arY D M (zb : Int))) L ts ∧ L.length ≤ 24 * zb + 4 * i ∧ ∀ p, p ∈ L.map (·.2.2) ↔ p ∈ ltrs D.length (M.map (·.2.2.1)) ∧ (¬ LostB Ls p.1 p.2 ∧ Done M zb i p.1))
          ⟨⟨_, _, _, _, _, rfl⟩, rs4, L, m5, lL, kL⟩ ?_ ?_
        · clear kL lL L m5 rs4
          rintro i σ H5 hi ⟨⟨v8, v9, v10, v11, v12', rfl⟩, rs5, L, m5, lL, kL⟩
          have hq : M[i]? = some M[i] := List.getElem?_eq_getElem hi
          generalize M[i] = q at hq
          have mq := List.mem_of_getElem? hq
          have eh : hdM M i = q.2.2.1 ∧ btM M i = q.2.1 := by
            unfold hdM btM
            rw [List.getD_eq_getElem?_getD, List.getD_eq_getElem?_getD, List.getElem?_map, List.getElem?_map, hq]
            exact ⟨rfl, rfl⟩
          have t5 := m5.s _ _ (tM q mq).1
          have l5 := m5.s _ _ hl
          refine ⟨_, rfl, _, rfl, l, _, _, _, rfl, rfl, SqT.of l5, at0 (get_map hq), q.1, _, 0, _, rfl, rfl, SqT.of t5, rfl, _, rfl, rfl, _, rfl, ?_⟩
          have eb : decide (V.int q.2.1 = V.int (0 + (zb : Int))) = decide (btM M i = zb) := by
            rw [decide_eq_decide, Int.zero_add, eh.2]
            exact ⟨fun z => by injection z, fun z => by rw [z]⟩
          show if decide (V.int q.2.1 = V.int (0 + (zb : Int))) = true then _ else _
          rw [eb]
          by_cases c : btM M i = zb
          · rw [decide_eq_true c]
            refine iteT ?_
            obtain ⟨_, _, kn, hkn, knl⟩ := hd_at ok hi
            refine ⟨_, rfl, _, rfl, l, _, _, _, rfl, rfl, SqT.of l5, at0 (get_map hq), q.1, _, 1, _, rfl, rfl, SqT.of t5, rfl, ?_⟩
            have knl' : kn < rs5.length := by rw [m5.lr]; exact knl
            have hr : rs5[kn]? = some (rs5[kn]'knl') := List.getElem?_eq_getElem knl'
            generalize rs5[kn]'knl' = r at hr
            obtain ⟨ro, hrr⟩ := m5.er _ _ hr
            have ek : q.2.2.1 = (kn : Int) := by rw [← eh.1]; exact hkn
            have b1 := lotP_len M.length (EarP D M Ls kn (zb : Int) i (arY D M (zb : Int)))
            refine ⟨_, rfl, _, rfl, el, _, _, _, rfl, rfl, SqL.of m5.he, by rw [ek]; exact atI_nat (get_map hr), _, rfl, (by show 1 ≤ sizeLine; decide), fun o1 ho1 => ?_⟩
            have s6 := same_upd (o := HO.lst [V.int (0 + (i : Int))]) ho1
            have h6 : (upd H5 o1 (.lst [V.int (0 + (i : Int))])) o1 = some (.lst ([i].map vI)) := by rw [upd_same, Int.zero_add]; rfl
            generalize upd H5 o1 (.lst [V.int (0 + (i : Int))]) = H6 at s6 h6
            refine ⟨r, o1, _, _, rfl, rfl, s6 _ _ hrr, h6, by rw [List.length_map, List.length_map]; exact Nat.le_trans (show _ + 1 ≤ 200 by omega) (by decide), fun p hp => ?_⟩
            rw [← List.map_append]
            have s7 := same_upd (o := HO.lst ((lotP M.length (EarP D M Ls kn (zb : Int) i (arY D M (zb : Int))) ++ [i]).map vI)) hp
            refine rise_k (xs := lotP M.length (EarP D M Ls kn (zb : Int) i (arY D M (zb : Int))) ++ [i]) (m := M.length) (pr := EarP D M Ls kn (zb : Int) (i + 1) (arY D M (zb : Int))) upd_same (by rw [List.length_append]; show _ + 1 ≤ 60; omega) (fun a => by
              rw [List.mem_append, mem_lotP, List.mem_singleton, ear_look hi]
              constructor
              · rintro (⟨z1, z2⟩ | rfl)
                · exact ⟨z1, .inl z2⟩
                · exact ⟨hi, .inr ⟨rfl, c, hkn⟩⟩
              · rintro ⟨z1, z2 | ⟨rfl, _⟩⟩
                · exact .inl ⟨z1, z2⟩
                · exact .inr rfl) fun H8 r' hn8 h8 s8 => ?_
            have m8 := m5.same (s6.trans (s7.trans s8))
            have o8 := m5.out (none_back (s6.trans s7) hn8)
            refine ⟨_, rfl, _, rfl, el, _, _, kn, rfl, by rw [ek], m8.he, by rw [List.length_map]; exact ixN_nat knl', ?_⟩
            rw [← List.map_set]
            have m9 := (m8.put o8 h8).sub (E' := fun k => EarP D M Ls k (zb : Int) (i + 1) (arY D M (zb : Int))) fun k hk a ha => by
              by_cases ck : k = kn
              · rw [if_pos ck, ck]
              · rw [if_neg ck, ear_look hi]
                exact ⟨.inl, fun z => z.elim id fun z => absurd (by have := z.2.2; omega) ck⟩
            generalize upd H8 el (.lst ((rs5.set kn r').map V.ref)) = H9 at m9
            generalize rs5.set kn r' = rs9 at m9
            clear m8 m5 s6 s7 s8 h6 ho1 hp hn8 h8 o8 hr ro hrr b1 knl' t5 l5
            refine ⟨_, rfl, d, _, rfl, .inr (SqT.of (m9.s _ _ DA.at_)), (((D.map fun q => V.ref q.1).length : Nat) : Int), rfl, by rw [ln]; omega, by rw [ln]; omega, ?_⟩
            rw [Int.toNat_natCast, ln]
            refine for_range (lo := 0) (n := D.length) (fun o σ H5 => (∃ v10 v11 : Option V, σ = SM t g d l el tl ll (some (.int (0 + (zb : Nat)))) v8 (some (.int (0 + (i : Nat)))) v10 v11 (some (.int q.2.2.1))) ∧ ∃ L : List LtM, Ml H el tl ll D M Ls H5 rs9 (fun k => EarP D M Ls k (zb : Int) (i + 1) (arY D M (zb : Int))) L ts ∧ L.length ≤ 24 * zb + 4 * i + o ∧ ∀ p, p ∈ L.map (·.2.2) ↔ p ∈ ltrs D.length (M.map (·.2.2.1)) ∧ (¬ LostB Ls p.1 p.2 ∧ (Done M zb i p.1 ∨ p.1 = i ∧ p.2 < o)))
              ⟨⟨_, _, rfl⟩, L, m9, lL, fun p => by rw [kL p]; exact ⟨fun ⟨z1, z2, z3⟩ => ⟨z1, z2, .inl z3⟩, fun ⟨z1, z2, z3⟩ => ⟨z1, z2, z3.elim id fun z => absurd z.2 (Nat.not_lt_zero _)⟩⟩⟩ ?_ ?_
            · clear kL lL m9 L H9
              rintro o σ H9 ho ⟨⟨v10', v11', rfl⟩, L, m9, lL, kL⟩
              refine ⟨_, rfl, _, rfl, rfl, _, rfl, ?_⟩
              have eo : decide (V.int (0 + (o : Int)) = V.int q.2.2.1) = decide (o = kn) := by
                rw [decide_eq_decide, Int.zero_add, ek]
                exact ⟨fun z => by injection z with z; omega, fun z => by rw [z]⟩
              show if (!decide (V.int (0 + (o : Int)) = V.int q.2.2.1)) = true then _ else _
              rw [eo]
              have key : ∀ {p : Nat × Nat}, p.2 < o + 1 → p.2 < o ∨ p.2 = o := fun z => by omega
              by_cases co : o = kn
              · rw [decide_eq_true co]
                refine iteF ⟨⟨_, _, rfl⟩, L, m9, by omega, fun p => ?_⟩
                rw [kL p]
                constructor
                · rintro ⟨z1, z2, z3⟩
                  exact ⟨z1, z2, z3.imp id fun z => ⟨z.1, by omega⟩⟩
                · rintro ⟨z1, z2, z3⟩
                  refine ⟨z1, z2, z3.imp id fun z => ⟨z.1, (key z.2).elim id fun y => ?_⟩⟩
                  obtain ⟨_, _, n3⟩ := ltrs_mem z1
                  have n3 : (p.2 : Int) ≠ hdM M p.1 := n3
                  rw [z.1, hkn] at n3
                  omega
              · rw [decide_eq_false co]
                refine iteT ?_
                refine ⟨_, rfl, _, rfl, (by show 2 ≤ sizeLine; decide), fun tt htt => ?_⟩
                have s10 := same_upd (o := HO.tup [V.int (0 + (i : Int)), V.int (0 + (o : Int))]) htt
                have h10 : (upd H9 tt (.tup [V.int (0 + (i : Int)), V.int (0 + (o : Int))])) tt = some (.tup [vI i, vI o]) := by rw [upd_same, Int.zero_add, Int.zero_add]; rfl
                generalize upd H9 tt (.tup [V.int (0 + (i : Int)), V.int (0 + (o : Int))]) = H10 at s10 h10
                have m10 := m9.same s10
                refine ⟨_, rfl, lotD [(i : Int), (o : Int)], _, .tup (SqT.of h10) (dp_ints [(i : Int), (o : Int)]), (LT.same m10.s).dp, shaped_lot _, lotsT_shaped _, _, rfl, ?_⟩
                rw [lotZ_any, Bool.true_xor]
                by_cases cl : LostB Ls i o
                · rw [decide_eq_true (lost_mem.mpr cl)]
                  refine iteF ⟨⟨_, _, rfl⟩, L, m10, by omega, fun p => ?_⟩
                  rw [kL p]
                  constructor
                  · rintro ⟨z1, z2, z3⟩
                    exact ⟨z1, z2, z3.imp id fun z => ⟨z.1, by omega⟩⟩
                  · rintro ⟨z1, z2, z3⟩
                    refine ⟨z1, z2, z3.imp id fun z => ⟨z.1, (key z.2).elim id fun y => ?_⟩⟩
                    rw [z.1, y] at z2
                    exact absurd cl z2
                · rw [decide_eq_false (fun z => cl (lost_mem.mp z))]
                  refine iteT ?_
                  obtain ⟨zs, hz, lz⟩ := del_row DA.ok (k := kn) (by rw [List.length_map]; exact knl)
                  obtain ⟨dr, hdr, rfl⟩ : ∃ dr : DRw, D[kn]? = some dr ∧ dr.2 = zs := by
                    rw [List.getElem?_map] at hz
                    cases e : D[kn]? with
                    | none => rw [e] at hz; cases hz
                    | some dr => rw [e] at hz; exact ⟨dr, rfl, Option.some.inj hz⟩
                  rw [List.length_map] at lz
                  have hdr10 := m10.s _ _ (DA.row dr (List.mem_of_getElem? hdr)).1
                  have hv : dr.2[o]? = some (delayAt (D.map (·.2)) (hdM M i) o) := by
                    unfold delayAt
                    rw [hkn, Int.toNat_natCast, List.getD_eq_getElem?_getD, List.getD_eq_getElem?_getD, hz, Option.getD_some, List.getElem?_eq_getElem (by omega)]
                    rfl
                  have rl9 : kn < rs9.length := by rw [m10.lr]; exact knl
                  have hr9 : rs9[kn]? = some (rs9[kn]'rl9) := List.getElem?_eq_getElem rl9
                  generalize rs9[kn]'rl9 = r9 at hr9
                  obtain ⟨ro9, hrr9⟩ := m10.er _ _ hr9
                  refine ⟨_, rfl, .inl ⟨rfl, _, SqL.of m10.hl⟩, _, rfl, _, rfl, _, rfl, d, _, _, _, rfl, rfl, SqT.of (m10.s _ _ DA.at_), by rw [ek]; exact atI_nat (get_map hdr), _, rfl, dr.1, _, _, _, rfl, rfl, SqT.of hdr10, at0 (get_map hv), _, _, rfl, rfl, ?_⟩
                  have ec : lotP M.length (EarP D M Ls kn (zb : Int) (i + 1) (arY D M (zb : Int))) = lotP M.length (ContM D M Ls i) := lotP_congr fun a ha => ear_cont DA.ok ok hi c hkn knl
                  rw [ec] at hrr9
                  refine ⟨_, rfl, _, rfl, _, rfl, _, rfl, el, _, _, _, rfl, rfl, SqL.of m10.he, by rw [ek]; exact atI_nat (get_map hr9), r9, _, rfl, .inl (SqL.of hrr9), fun u hu => ?_⟩
                  have s11 := same_upd (o := HO.lst ((lotP M.length (ContM D M Ls i)).map vI)) hu
                  have h11 : (upd H10 u (.lst ((lotP M.length (ContM D M Ls i)).map vI))) u = some (.lst ((lotP M.length (ContM D M Ls i)).map vI)) := upd_same
                  generalize upd H10 u (.lst ((lotP M.length (ContM D M Ls i)).map vI)) = H11 at s11 h11
                  refine ⟨(by show 4 ≤ sizeLine; decide), fun tq htq => ?_⟩
                  have ea : (0 + (zb : Int) + delayAt (D.map (·.2)) (hdM M i) o) = arM D M i (o : Int) := by
                    show _ = btM M i + delayAt (D.map (·.2)) (hdM M i) (o : Int).toNat
                    rw [c, Int.toNat_natCast, Int.zero_add]
                  have s12 := same_upd (o := HO.tup [V.int (0 + (zb : Int) + delayAt (D.map (·.2)) (hdM M i) o), V.int (0 + (i : Int)), V.int (0 + (o : Int)), V.ref u]) htq
                  have h12 : (upd H11 tq (.tup [V.int (0 + (zb : Int) + delayAt (D.map (·.2)) (hdM M i) o), V.int (0 + (i : Int)), V.int (0 + (o : Int)), V.ref u])) tq = some (.tup [V.int (arM D M i (o : Int)), vI i, vI o, V.ref u]) := by
                    rw [upd_same, ea, Int.zero_add, Int.zero_add]
                    rfl
                  have m12 := m10.same (s11.trans s12)
                  refine ⟨ll, _, _, rfl, rfl, m12.hl, by rw [List.length_map]; exact Nat.lt_of_le_of_lt (show L.length ≤ 999 by omega) (by decide), ?_⟩
                  refine ⟨⟨_, _, rfl⟩, L ++ [(tq, u, i, o)], m12.send (q := (tq, u, i, o)) h12 (m10.out hu) (s12 _ _ h11), by rw [List.length_append]; show L.length + 1 ≤ _; omega, fun p => ?_⟩
                  rw [List.map_append, List.mem_append, kL p]
                  constructor
                  · rintro (⟨z1, z2, z3⟩ | z)
                    · exact ⟨z1, z2, z3.imp id fun z => ⟨z.1, by omega⟩⟩
                    · rw [List.mem_singleton.mp z]
                      have ne : (o : Int) ≠ (M.map (·.2.2.1)).getD i 0 := fun e => co (by have e : (o : Int) = hdM M i := e; omega)
                      exact ⟨ltrs_of (by rw [List.length_map]; exact hi) ho ne, cl, .inr ⟨rfl, Nat.lt_succ_self _⟩⟩
                  · rintro ⟨z1, z2, z3 | ⟨rfl, z3⟩⟩
                    · exact .inl ⟨z1, z2, .inl z3⟩
                    · rcases key z3 with y | y
                      · exact .inl ⟨z1, z2, .inr ⟨rfl, y⟩⟩
                      · subst y
                        exact .inr (List.mem_singleton.mpr rfl)
            · rintro σ H9' ⟨⟨v10', v11', rfl⟩, L', m9, lL, kL⟩
              refine ⟨⟨_, _, _, _, _, rfl⟩, rs9, L', m9, by omega, fun p => ?_⟩
              rw [kL p, done_succ]
              constructor
              · rintro ⟨z1, z2, z3⟩
                exact ⟨z1, z2, z3.imp id fun z => ⟨z.1, c⟩⟩
              · rintro ⟨z1, z2, z3⟩
                exact ⟨z1, z2, z3.imp id fun z => ⟨z.1, (ltrs_mem z1).2.1⟩⟩
          · rw [decide_eq_false c]
            refine iteF ⟨⟨_, _, _, _, _, rfl⟩, rs5, L, m5.sub fun k hk a ha => ?_, by omega, fun p => ?_⟩
            · rw [ear_look hi]
              exact ⟨.inl, fun z => z.elim id fun z => absurd z.2.1 c⟩
            · rw [kL p, done_succ]
              exact ⟨fun ⟨z1, z2, z3⟩ => ⟨z1, z2, .inl z3⟩, fun ⟨z1, z2, z3⟩ => ⟨z1, z2, z3.elim id fun z => absurd z.2 c⟩⟩
        · rintro σ H5 ⟨⟨v8, v9, v10, v11, v12', rfl⟩, rs5, L2', m5, lL5, kL5⟩
          have m6 := m5.sub (E' := fun k => HeardP D M Ls k (zb : Int)) fun k hk a ha => ear_end
          refine ⟨_, rfl, .inl ⟨rfl, _, SqL.of m6.ht⟩, _, rfl, el, rfl, ⟨_, SqL.of m6.he⟩, fun nu hnu => ?_⟩
          have nuo := m6.out hnu
          refine lc_it (walk_list (K := K) (a := el) (xs := rs5.map V.ref)) (fun i H6 => ∃ us : List Addr, H6 nu = some (.lst (us.map V.ref)) ∧ us.length = i ∧ (∀ k u, us[k]? = some u → u ≠ nu ∧ OutM H el tl ll u ∧ H6 u = some (.lst ((lotP M.length (HeardP D M Ls k (zb : Int))).map vI))) ∧ Same H5 H6)
            ⟨[], upd_same, rfl, fun k u e => (by simp at e), same_upd hnu⟩ (fun i H6 _ ⟨_, _, _, _, s6⟩ => SqL.of (s6 _ _ m6.he)) ?_ ?_
          · rintro i y H6' H6 hi ⟨us, h6, lus, eus, s6⟩ ⟨rfl, hy⟩
            rw [List.length_map, m6.lr] at hi
            obtain ⟨r, hr, rfl⟩ : ∃ r, rs5[i]? = some r ∧ y = V.ref r := by
              rw [List.getElem?_map] at hy
              cases e : rs5[i]? with
              | none => rw [e] at hy; cases hy
              | some r => rw [e] at hy; exact ⟨r, rfl, (Option.some.inj hy).symm⟩
            obtain ⟨ro, hrr⟩ := m6.er i r hr
            refine ⟨rfl, yesT ?_⟩
            refine ⟨_, rfl, r, _, rfl, .inl (SqL.of (s6 _ _ hrr)), fun u hu => ?_⟩
            have s7 := same_upd (o := HO.lst ((lotP M.length (HeardP D M Ls i (zb : Int))).map vI)) hu
            have un : u ≠ nu := fun e => by rw [e, h6] at hu; cases hu
            refine ⟨_, s7 _ _ h6, ?_, us ++ [u], by rw [upd_same, List.map_append]; rfl, by rw [List.length_append, lus]; rfl, fun k u' e => ?_, same_mut (s6.trans s7) hnu⟩
            · rw [List.length_map]
              exact Nat.lt_of_le_of_lt (show us.length ≤ 4 by omega) (by decide)
            · rcases Nat.lt_or_ge k us.length with c | c
              · rw [List.getElem?_append_left c] at e
                obtain ⟨g1, g2, g3⟩ := eus k u' e
                exact ⟨g1, g2, by rw [upd_ne g1]; exact s7 _ _ g3⟩
              · rw [List.getElem?_append_right c] at e
                have ek : k - us.length = 0 := by
                  obtain ⟨z1, _⟩ := List.getElem?_eq_some_iff.mp e
                  simp at z1
                  omega
                rw [ek] at e
                cases e
                refine ⟨un, (m6.same s6).out hu, ?_⟩
                rw [upd_ne un, upd_same, show k = i by omega]
          rintro H6 ⟨us, h6, lus, eus, s6⟩
          rw [List.length_map, m6.lr] at lus
          have m7 := m6.same s6
          refine ⟨tl, _, _, rfl, rfl, m7.ht, by rw [List.length_map, lts]; exact Nat.lt_of_lt_of_le hzb (by decide), ?_⟩
          refine ⟨⟨_, _, _, _, _, _, rfl⟩, rs5, L2', ts ++ [nu], (m7.tell lts nuo ⟨us, h6, lus, fun k u e => (eus k u e).2⟩).sub fun k hk a ha => by rw [show ((zb + 1 : Nat) : Int) - 1 = zb by omega], by rw [List.length_append, lts]; rfl, by omega, fun p => ?_⟩
          rw [kL5 p]
          constructor
          · rintro ⟨z1, z2, z3⟩
            refine ⟨z1, z2, .inl ?_⟩
            unfold Done at z3
            omega
          · rintro ⟨z1, z2, z3⟩
            refine ⟨z1, z2, ?_⟩
            have := (ltrs_mem z1).1
            rw [List.length_map] at this
            unfold Done at z3 ⊢
            omega
    · rintro σ H2 ⟨⟨v7, v8, v9, v10, v11, v12, rfl⟩, rs2, L, ts, m2, lts, lL, kL⟩
      refine ⟨_, rfl, _, rfl, (by show 2 ≤ sizeLine; decide), fun r hr => ?_⟩
      have m3 := m2.same (same_upd (o := HO.tup [V.ref tl, V.ref ll]) hr)
      exact h _ r (.ref ll) el tl ll ts upd_same m3.n3.2.1 m3.ht lts (fun j t e => m3.et j t e) m3.s
end
end RL
/-! heard: refused, and asked without lost letters -/
namespace RL
open PySem PySem.Spec PyProof.Rows L2 RLM
section
variable {P : Program} {w : World} {K : PySem.W.Frag} {mg : Str → Option Value} {base : Heap}
/-- a pair that stands alone and is no letter; or letters that are not in their order -/
def BadLs (K : PySem.W.Frag) (H : Hp) (t : Addr) (D : List DRw) (M : List TLk) : Prop := (∃ (u : Addr) (a b : Int), H t = some (.tup [.ref u]) ∧ H u = some (.tup [.int a, .int b]) ∧ ∀ p ∈ ltrs D.length (M.map (·.2.2.1)), zPair p ≠ [a, b]) ∨
  ∃ Ls : List (Addr × Nat × Nat), LtT H t Ls ∧ Ls.length ≤ 24 ∧ (∀ q ∈ Ls, q.2 ∈ ltrs D.length (M.map (·.2.2.1))) ∧ ¬ (Ls.map (·.2)).Pairwise lexLt
theorem BadLs.tk {K : PySem.W.Frag} {H H' : Hp} {t : Addr} {D : List DRw} {M : List TLk} (k : ∀ (a : Addr) (xs : List V), H a = some (.tup xs) → H' a = some (.tup xs)) : BadLs K H t D M → BadLs K H' t D M
  | .inl ⟨u, a, b, h1, h2, h3⟩ => .inl ⟨u, a, b, k _ _ h1, k _ _ h2, h3⟩
  | .inr ⟨Ls, h1, h2⟩ => .inr ⟨Ls, ⟨k _ _ h1.1, fun q hq => k _ _ (h1.2 q hq)⟩, h2⟩
theorem ok_heardD (T : Tx K mg) : ∃ fd, FnOk P w K mg base CX0 5 (mC K "Talk" "heard") fd ["self", "hand", "beat", "lost"] (spHeard K) ∧ KBn K fd ["self", "hand", "beat", "lost"] 3 ["lost"] (fun us ws => us ++ ws) (fun vs zs => vs ++ zs) ∧ (∃ ds, Vals [V.ref (RLX.kwdAt ("Talk", some "heard") "lost" K)] ds ∧ Binds K fd ["self", "hand", "beat", "lost"] ds) := by
  obtain ⟨fd, F⟩ := T.d_Talk_heard
  refine ⟨fd, okf_heard T F, kbindsA F 3 ["lost"] fun kV doc pm an cdv ct us ws l1 l2 => match us, ws, l1, l2 with
    | [_, _, _], [_], _, _ => rfl, ?_⟩
  exact F.binds0 3 (List.cons_ne_nil _ _) rfl fun D doc pm an cdv ct us ks l1 l2 => match us, ks, l1, l2 with
    | [_, _, _], [_], _, _ => ⟨_, _, _, _, _, _, rfl, rfl, rfl⟩
def spChkHandX (K : PySem.W.Frag) : Sp := fun vs H _ X => ∃ (x : Addr) (D : List DRw) (M : List TLk) (z : Int), vs = [.ref x, .int z] ∧ TalkAt K H x D M ∧ ¬ (0 ≤ z ∧ z ≤ (D.length : Int) - 1) ∧ Refuse K "NoHand" "hand" z H X
theorem okx_chkhand (T : Tx K mg) : HasX P w K mg base (mC K "Talk" "check_hand") 4 ["self", "hand"] (spChkHandX K) := by
  obtain ⟨⟨fd_is_between, F_is_between, b_is_between⟩, kp_is_between⟩ := ok_is_between (P := P) (w := w) (base := base) T
  obtain ⟨⟨fd_hands, F_hands, b_hands⟩, kp_hands⟩ := ok_hands (P := P) (w := w) (base := base) T
  obtain ⟨⟨fd_NoHand_init, F_NoHand_init, b_NoHand_init⟩, kp_NoHand_init⟩ := ok_NoHand_init (P := P) (w := w) (base := base) T
  obtain ⟨fd, F⟩ := T.d_Talk_check_hand
  refine ⟨⟨fd, F.ok sc_Talk_check_hand (fun vs H Q E h => ?_) (fun cdv A outer s H vs Q E hr h => ?_), F.bindsN fun _ _ _ _ _ _ us hl => match us, hl with | [_, _], _ => rfl⟩, F.kp⟩
  · obtain ⟨x, D, M, k, rfl, _⟩ := h
    rfl
  · obtain ⟨x, D, M, z, rfl, TA, no, rf⟩ := h
    have hr_is_between : Room 2 _ := hr.mono (by decide)
    have hr_hands : Room 1 _ := hr.mono (by decide)
    have hr_x : Room 3 _ := hr.mono (by decide)
    have XN := T.x_NoHand
    refine ⟨_, (pss_one (ps_if (pt_not (pt_val (pe_call F_is_between hr_is_between rfl T.glo_is_between kp_is_between b_is_between .nil pass0 (pa_cons (pv 1) (pa_cons pe_int (pa_cons (pe_op op_sub (pe_meth0 (pv 0) T.cl_Talk T.m_Talk_hands F_hands hr_hands b_hands .nil pass0) pe_int) pa_nil)))))) (pss_one (L2N.ps_raise rfl (L2N.takes_of rfl rfl rfl rfl) (RLX.pmkX RLX.exB_L XN.xc XN.ini XN.tin F_NoHand_init hr_x b_NoHand_init rfl T.glo_NoHand (pa_cons (pv 1) pa_nil)))) pss_nil)), ?_⟩
    obtain ⟨dx, d, r, hx, DA, hr'⟩ := TA.ex
    refine ⟨_, rfl, _, rfl, x, dx, _, rfl, hx, tf_hands _ _, x, D, M, rfl, TA, _, _, rfl, rfl, _, _, _, rfl, _, rfl, ?_⟩
    rw [decide_eq_false no]
    refine iteT ?_
    exact ⟨_, rfl, rmk_NoHand T fun dd H4 _ hd s4 => rf dd H4 hd s4⟩
def spChkLostX (K : PySem.W.Frag) : Sp := fun vs H _ X => ∃ (x t : Addr) (D : List DRw) (M : List TLk), vs = [.ref x, .ref t] ∧ TalkAt K H x D M ∧ BadLs K H t D M ∧ ∀ d H', H' d = some (.xd [("word", .str "BadLost")]) → Same H H' → X (.ref (He.ga K "BadLost")) (some d) H'
theorem okx_chklost (T : Tx K mg) : HasX P w K mg base (mC K "Talk" "check_lost") 4 ["self", "lost"] (spChkLostX K) := by
  obtain ⟨⟨fd_letters, F_letters, b_letters⟩, kp_letters⟩ := ok_letters (P := P) (w := w) (base := base) T
  obtain ⟨⟨fd_BadLost_init, F_BadLost_init, b_BadLost_init⟩, kp_BadLost_init⟩ := ok_BadLost_init (P := P) (w := w) (base := base) T
  obtain ⟨fd, F⟩ := T.d_Talk_check_lost
  refine ⟨⟨fd, F.ok sc_Talk_check_lost (fun vs H Q E h => ?_) (fun cdv A outer s H vs Q E hr h => ?_), F.bindsN fun _ _ _ _ _ _ us hl => match us, hl with | [_, _], _ => rfl⟩, F.kp⟩
  · obtain ⟨x, t, D, M, rfl, _⟩ := h
    rfl
  · obtain ⟨x, t, D, M, rfl, TA, bad, h⟩ := h
    have hr_letters : Room 2 _ := hr.mono (by decide)
    have hr_x : Room 3 _ := hr.mono (by decide)
    have XN := T.x_BadLost
    refine ⟨_, (pss_cons (ps_set (i := 2) sc_Talk_check_lost.nd rfl (Or.inr rfl) (pe_meth0 (pv 0) T.cl_Talk T.m_Talk_letters F_letters hr_letters b_letters .nil pass0))
      (pss_cons (ps_if (PW.pt (pw_or (pt_not (pt_val (pe_callB (isiK (K := K)) (by rfl) T.free_isinstance (by decide +kernel) (pa_cons (pv 1) (pa_cons (pe_bltn (v := .ty "tuple") (u := .type "tuple") (by rfl) T.free_tuple (by decide +kernel) rfl) pa_nil))))) (pw_or1 (pt_not (pt_val (pe_callB (allK (K := K)) (by rfl) T.free_all (by decide +kernel) (pa_cons (pe_lc (own := [("letter", 3)]) (g := (gName 3)) (tt := tYes) rfl sc_Talk_check_lost.nd (piT (K := K) (pv 1)) (blkOk_by (by kernel_rfl)) (fun _ _ _ _ _ => (pg_name (i := 3) sc_Talk_check_lost.nd rfl (Or.inl rfl))) (fun _ _ _ _ _ => pts_nil) (fun _ _ _ _ _ => (pe_cmpR (inDK (K := K) (hr65 hr)) (pv 3) (pv 2) (by rfl)))) pa_nil))))))) (pss_one (L2N.ps_raise rfl (L2N.takes_of rfl rfl rfl rfl) (RLX.pmkX0 RLX.exB_V XN.xc XN.ini XN.tin F_BadLost_init hr_x b_BadLost_init rfl T.glo_BadLost ))) pss_nil)
      (pss_one (ps_if (pt_cmpR (neD (K := K) hr.units) (pe_callTy (listK (K := K)) (by rfl) T.free_list (by decide +kernel) (pa_cons (pv 1) pa_nil)) (pe_callB (sortSetT (K := K) (P := P) (w := w)) (by rfl) T.free_sorted (by decide +kernel) (pa_cons (pe_callTy (setTTK (K := K) (P := P) (w := w) hr.units) (by rfl) T.free_set (by decide +kernel) (pa_cons (pv 1) pa_nil)) pa_nil)) (nomark _)) (pss_one (L2N.ps_raise rfl (L2N.takes_of rfl rfl rfl rfl) (RLX.pmkX0 RLX.exB_V XN.xc XN.ini XN.tin F_BadLost_init hr_x b_BadLost_init rfl T.glo_BadLost ))) pss_nil)))), ?_⟩
    obtain ⟨dx, d, r, hx, DA, hr'⟩ := TA.ex
    have l4 := DA.len
    have l6 := looks_len TA.ok
    refine ⟨_, rfl, x, dx, _, rfl, hx, tf_letters _ _, x, D, M, rfl, TA, fun H1 ll L lln LA eL s1 => ?_⟩
    rcases bad with ⟨u, a, b, ht, hu, no⟩ | ⟨Ls, LT, lL, sub, srt⟩
    · have ht1 := s1 _ _ ht
      refine ⟨_, rfl, _, _, _, _, true, rfl, .ty _, ty_sqT (SqT.of ht1), kit_ty (by decide +kernel), true, rfl, iteF ?_⟩
      refine ⟨_, rfl, t, rfl, ⟨_, SqT.of ht1⟩, fun Dd hDd => ?_⟩
      refine lc_val (walk_tup (K := K) (a := t) (xs := [V.ref u])) (fun _ => .bl false) (by show 1 ≤ 100000; decide) hDd (fun H2 s2 => SqT.of (s2 _ _ ht1)) ?_ ?_
      · rintro i y H2' H2 Nx hi s2 ⟨rfl, hy⟩ kk
        have i0 : i = 0 := by simpa using hi
        subst i0
        cases hy
        refine ⟨rfl, _, rfl, _, rfl, lotD [a, b], _, .tup (SqT.of (s2 _ _ (s1 _ _ hu))) (dp_ints [a, b]), (LA.same s2).dp, shaped_lot _, lots_shaped _, ?_⟩
        rw [lotZ_any, show decide ([a, b] ∈ (L.map (·.2)).map zPair) = false from decide_eq_false (fun z => by
          rw [eL] at z
          obtain ⟨p, hp, e⟩ := List.mem_map.mp z
          exact no p hp e)]
        exact kk _ fun _ _ e => e
      · intro H2 h2 s2
        refine ⟨Dd, (List.range 1).map fun _ => false, rfl, SqL.of (by rw [h2, List.map_map]; rfl), _, rfl, ?_⟩
        rw [show (((List.range 1).map fun _ => false).all id) = false by decide]
        refine iteT ?_
        exact rmk_BadLost T fun dd H4 _ hd s4 => h dd H4 hd ((s1.trans s2).trans s4)
    · have LT1 := (LT.s (K := K)).same s1
      refine ⟨_, rfl, _, _, _, _, true, rfl, .ty _, ty_sqT LT1.1, kit_ty (by decide +kernel), true, rfl, iteF ?_⟩
      refine ⟨_, rfl, t, rfl, ⟨_, LT1.1⟩, fun Dd hDd => ?_⟩
      refine lc_val (walk_tup (K := K) (a := t) (xs := Ls.map fun q => V.ref q.1)) (fun _ => .bl true) (by rw [List.length_map]; omega) hDd (fun H2 s2 => sqT_same s2 LT1.1) ?_ ?_
      · rintro i y H2' H2 Nx hi s2 ⟨rfl, hy⟩ kk
        obtain ⟨q, hq, rfl⟩ := get_mapV hy
        have mq := List.mem_of_getElem? hq
        refine ⟨rfl, _, rfl, _, rfl, lotD [(q.2.1 : Int), (q.2.2 : Int)], _, .tup (SqT.of (s2 _ _ (LT1.2 q mq))) (dp_ints [(q.2.1 : Int), (q.2.2 : Int)]), (LA.same s2).dp, shaped_lot _, lots_shaped _, ?_⟩
        rw [lotZ_any, show decide ([(q.2.1 : Int), (q.2.2 : Int)] ∈ (L.map (·.2)).map zPair) = true from decide_eq_true (by rw [eL]; exact List.mem_map.mpr ⟨_, sub q mq, rfl⟩)]
        exact kk _ fun _ _ e => e
      · intro H2 h2 s2
        have LT2 := LT1.same s2
        refine ⟨Dd, (List.range (Ls.map fun q => V.ref q.1).length).map fun _ => true, rfl, SqL.of (by rw [h2, List.map_map]; rfl), _, rfl, ?_⟩
        rw [show (((List.range (Ls.map fun q => V.ref q.1).length).map fun _ => true).all id) = true from List.all_eq_true.mpr (by simp)]
        refine iteF ?_
        refine ⟨_, rfl, t, _, rfl, .inr (LT2.1), fun l3 hl3 => ?_⟩
        have s3 := same_upd (o := HO.lst (Ls.map fun q => V.ref q.1)) hl3
        have h3 : (upd H2 l3 (.lst (Ls.map fun q => V.ref q.1))) l3 = some (.lst (Ls.map fun q => V.ref q.1)) := upd_same
        generalize upd H2 l3 (.lst (Ls.map fun q => V.ref q.1)) = H3 at s3 h3
        have LT3 := LT2.same s3
        have bd : ∀ p ∈ Ls.map (·.2), p.1 < 8 ∧ p.2 < 8 := fun p hp => by
          obtain ⟨q, hq, rfl⟩ := List.mem_map.mp hp
          obtain ⟨m1, m2, _⟩ := ltrs_mem (sub q hq)
          rw [List.length_map] at m1
          omega
        have eks : (Ls.map fun q => (q.1, zPair q.2)).map (fun p => V.ref p.1) = Ls.map fun q => V.ref q.1 := by rw [List.map_map]; rfl
        have ek2 : (Ls.map fun q => (q.1, zPair q.2)).map (·.2) = (Ls.map (·.2)).map zPair := by rw [List.map_map, List.map_map]; rfl
        refine ⟨_, rfl, t, Ls.map fun q => (q.1, zPair q.2), rfl, by rw [eks]; exact LT3.1, fun p hp => ?_, by rw [List.length_map]; omega, fun sd Lq hsd inL outL => ?_⟩
        · obtain ⟨q, hq, rfl⟩ := List.mem_map.mp hp
          exact SqT.of (LT3.2 q hq)
        have s4 := same_upd (o := SetTO P w sd Lq) hsd
        have h4 : (upd H3 sd (SetTO P w sd Lq)) sd = some (SetTO P w sd Lq) := upd_same
        generalize upd H3 sd (SetTO P w sd Lq) = H4 at s4 h4
        have inq : ∀ p ∈ Lq, ∃ q ∈ Ls, p = (q.1, zPair q.2) := fun p hp => by
          obtain ⟨q, hq, e⟩ := List.mem_map.mp (inL p hp)
          exact ⟨q, hq, e.symm⟩
        refine ⟨sd, Lq, 2, 64, rfl, h4, fun p hp => ?_, by decide, fun p hp => ?_, fun L' pq pm nd few pw hpq => ?_⟩
        · obtain ⟨q, hq, rfl⟩ := inq p hp
          exact SqT.of (s4 _ _ (LT3.2 q hq))
        · obtain ⟨q, hq, rfl⟩ := inq p hp
          have := bd q.2 (List.mem_map.mpr ⟨q, hq, rfl⟩)
          refine ⟨rfl, ?_⟩
          intro z hz
          have hz : z = (q.2.1 : Int) ∨ z = (q.2.2 : Int) := by simpa [zPair] using hz
          omega
        have s5 := same_upd (o := HO.lst (L'.map fun q => V.ref q.1)) hpq
        have h5 : (upd H4 pq (.lst (L'.map fun q => V.ref q.1))) pq = some (.lst (L'.map fun q => V.ref q.1)) := upd_same
        generalize upd H4 pq (.lst (L'.map fun q => V.ref q.1)) = H5 at s5 h5
        have s35 := s4.trans s5
        have differ : L'.map (·.2) ≠ (Ls.map (·.2)).map zPair := fun e => by
          have code : ∀ p : Nat × Nat, TS.code 64 (zPair p) = (p.1 : Int) * 64 + (p.2 : Int) := fun p => code_pair _ _
          refine srt ?_
          rw [e] at nd
          have p1 : ((Ls.map (·.2)).map zPair).Pairwise (fun a b => TS.code 64 a ≤ TS.code 64 b) := e ▸ List.pairwise_map.mpr pw
          have p2 := List.pairwise_map.mp p1
          have n2 := List.pairwise_map.mp nd
          refine (p2.and n2).imp_of_mem fun {a b} ha hb z => ?_
          have b1 := bd a ha
          have b2 := bd b hb
          obtain ⟨z1, z2⟩ := z
          have z1 : TS.code 64 (zPair a) ≤ TS.code 64 (zPair b) := z1
          rw [code, code] at z1
          have ne : a ≠ b := fun e => z2 (by rw [e])
          have ne2 : ¬ (a.1 = b.1 ∧ a.2 = b.2) := fun e => ne (Prod.ext e.1 e.2)
          unfold lexLt
          omega
        have d1 := dp_rowsZ (K := K) (L := Ls.map fun q => (q.1, zPair q.2)) (by rw [eks]; exact s35 _ _ h3) fun p hp => by
          obtain ⟨q, hq, rfl⟩ := List.mem_map.mp hp
          exact s35 _ _ (LT3.2 q hq)
        have d2 := dp_rowsZ (K := K) (L := L') h5 fun p hp => by
          obtain ⟨q, hq, rfl⟩ := inq p (pm.mem_iff.mp hp)
          exact s35 _ _ (LT3.2 q hq)
        refine ⟨_, _, d1, d2, lots_shaped _, lots_shaped _, _, rfl, ?_⟩
        rw [rowsZ_eqv, ek2, decide_eq_false (fun e => differ e.symm)]
        refine iteT ?_
        exact rmk_BadLost T fun dd H6 _ hd s6 => h dd H6 hd ((((s1.trans s2).trans s3).trans s35).trans s6)
def spHeardH (K : PySem.W.Frag) : Sp := fun vs H _ X => ∃ (x : Addr) (D : List DRw) (M : List TLk) (k : Int) (v u : V), vs = [.ref x, .int k, v, u] ∧ TalkAt K H x D M ∧ ¬ (0 ≤ k ∧ k ≤ (D.length : Int) - 1) ∧ Refuse K "NoHand" "hand" k H X
theorem okx_heardH (T : Tx K mg) : ∃ fd, FnOk P w K mg base (L2N.CX P w) 5 (mC K "Talk" "heard") fd ["self", "hand", "beat", "lost"] (spHeardH K) ∧ KBn K fd ["self", "hand", "beat", "lost"] 3 ["lost"] (fun us ws => us ++ ws) (fun vs zs => vs ++ zs) := by
  obtain ⟨⟨fd_handx, F_handx, b_handx⟩, kp_handx⟩ := okx_chkhand (P := P) (w := w) (base := base) T
  obtain ⟨fd, F⟩ := T.d_Talk_heard
  refine ⟨fd, F.ok sc_Talk_heard (fun vs H Q E h => ?_) (fun cdv A outer s H vs Q E hr h => ?_), kbindsA F 3 ["lost"] fun kV doc pm an cdv ct us ws l1 l2 => match us, ws, l1, l2 with
    | [_, _, _], [_], _, _ => rfl⟩
  · obtain ⟨x, D, M, k, v, u, rfl, _⟩ := h
    rfl
  · obtain ⟨x, D, M, k, v, u, rfl, TA, no, rf⟩ := h
    have hr_check_hand : Room 4 _ := hr.mono (by decide)
    refine ⟨_, (pss_cons (ps_expr (pe_meth (pv 0) T.cl_Talk T.m_Talk_check_hand F_handx hr_check_hand b_handx .nil (L2N.passes_call (L2N.takes_of rfl rfl rfl rfl) (fun _ _ _ _ h => h)) (pa_cons (pv 1) pa_nil)))
      (pss_cons ps_never
      (pss_cons ps_never
      (pss_cons ps_never
      (pss_cons ps_never
      (pss_one ps_never)))))), ?_⟩
    obtain ⟨dx, d, r, hx, DA, hr'⟩ := TA.ex
    exact ⟨_, rfl, x, dx, _, rfl, hx, tf_chkhand _ _, _, rfl, x, D, M, k, rfl, TA, no, rf⟩
def spHeardB (K : PySem.W.Frag) : Sp := fun vs H _ X => ∃ (x : Addr) (D : List DRw) (M : List TLk) (k : Nat) (z : Int) (u : V), vs = [.ref x, vI k, .int z, u] ∧ TalkAt K H x D M ∧ k < D.length ∧ z < 0 ∧ Refuse K "BadBeat" "beat" z H X
theorem okx_heardB (T : Tx K mg) : ∃ fd, FnOk P w K mg base (L2N.CX P w) 5 (mC K "Talk" "heard") fd ["self", "hand", "beat", "lost"] (spHeardB K) ∧ KBn K fd ["self", "hand", "beat", "lost"] 3 ["lost"] (fun us ws => us ++ ws) (fun vs zs => vs ++ zs) := by
  obtain ⟨⟨fd_check_hand, F_check_hand, b_check_hand⟩, kp_check_hand⟩ := ok_chkhand (P := P) (w := w) (base := base) T
  obtain ⟨⟨fd_is_number, F_is_number, b_is_number⟩, kp_is_number⟩ := ok_is_number (P := P) (w := w) (base := base) T
  obtain ⟨⟨fd_BadBeat_init, F_BadBeat_init, b_BadBeat_init⟩, kp_BadBeat_init⟩ := ok_BadBeat_init (P := P) (w := w) (base := base) T
  obtain ⟨fd, F⟩ := T.d_Talk_heard
  refine ⟨fd, F.ok sc_Talk_heard (fun vs H Q E h => ?_) (fun cdv A outer s H vs Q E hr h => ?_), kbindsA F 3 ["lost"] fun kV doc pm an cdv ct us ws l1 l2 => match us, ws, l1, l2 with
    | [_, _, _], [_], _, _ => rfl⟩
  · obtain ⟨x, D, M, k, z, u, rfl, _⟩ := h
    rfl
  · obtain ⟨x, D, M, k, z, u, rfl, TA, kl, zn, rf⟩ := h
    have hr_check_hand : Room 4 _ := hr.mono (by decide)
    have hr_is_number : Room 1 _ := hr.mono (by decide)
    have hr_x : Room 3 _ := hr.mono (by decide)
    have XN := T.x_BadBeat
    refine ⟨_, (pss_cons (ps_expr (pe_meth (pv 0) T.cl_Talk T.m_Talk_check_hand F_check_hand hr_check_hand b_check_hand .nil pass0 (pa_cons (pv 1) pa_nil)))
      (pss_cons (ps_if (PW.pt (pw_or (pt_not (pt_val (pe_call F_is_number hr_is_number rfl T.glo_is_number kp_is_number b_is_number .nil pass0 (pa_cons (pv 2) pa_nil)))) (pw_or1 (pt_cmpR op_lt (pv 2) pe_int (nomark _))))) (pss_one (L2N.ps_raise rfl (L2N.takes_of rfl rfl rfl rfl) (RLX.pmkX RLX.exB_V XN.xc XN.ini XN.tin F_BadBeat_init hr_x b_BadBeat_init rfl T.glo_BadBeat (pa_cons (pv 2) pa_nil)))) pss_nil)
      (pss_cons ps_never
      (pss_cons ps_never
      (pss_cons ps_never
      (pss_one ps_never)))))), ?_⟩
    obtain ⟨dx, d, r, hx, DA, hr'⟩ := TA.ex
    refine ⟨_, rfl, x, dx, _, rfl, hx, tf_chkhand _ _, _, rfl, x, D, M, k, rfl, TA, kl, ?_⟩
    refine ⟨_, rfl, z, rfl, _, rfl, iteF ?_⟩
    refine ⟨_, rfl, _, _, rfl, rfl, _, rfl, ?_⟩
    rw [decide_eq_true zn]
    refine iteT ?_
    exact ⟨_, rfl, rmk_BadBeat T fun dd H4 _ hd s4 => rf dd H4 hd s4⟩
def spHeardL (K : PySem.W.Frag) : Sp := fun vs H _ X => ∃ (x t : Addr) (D : List DRw) (M : List TLk) (k : Nat) (z : Int), vs = [.ref x, vI k, .int z, .ref t] ∧ TalkAt K H x D M ∧ k < D.length ∧ 0 ≤ z ∧ BadLs K H t D M ∧ ∀ d H', H' d = some (.xd [("word", .str "BadLost")]) → Same H H' → X (.ref (He.ga K "BadLost")) (some d) H'
theorem okx_heardL (T : Tx K mg) : ∃ fd, FnOk P w K mg base (L2N.CX P w) 5 (mC K "Talk" "heard") fd ["self", "hand", "beat", "lost"] (spHeardL K) ∧ KBn K fd ["self", "hand", "beat", "lost"] 3 ["lost"] (fun us ws => us ++ ws) (fun vs zs => vs ++ zs) := by
  obtain ⟨⟨fd_check_hand, F_check_hand, b_check_hand⟩, kp_check_hand⟩ := ok_chkhand (P := P) (w := w) (base := base) T
  obtain ⟨⟨fd_is_number, F_is_number, b_is_number⟩, kp_is_number⟩ := ok_is_number (P := P) (w := w) (base := base) T
  obtain ⟨⟨fd_lostx, F_lostx, b_lostx⟩, kp_lostx⟩ := okx_chklost (P := P) (w := w) (base := base) T
  obtain ⟨fd, F⟩ := T.d_Talk_heard
  refine ⟨fd, F.ok sc_Talk_heard (fun vs H Q E h => ?_) (fun cdv A outer s H vs Q E hr h => ?_), kbindsA F 3 ["lost"] fun kV doc pm an cdv ct us ws l1 l2 => match us, ws, l1, l2 with
    | [_, _, _], [_], _, _ => rfl⟩
  · obtain ⟨x, t, D, M, k, z, rfl, _⟩ := h
    rfl
  · obtain ⟨x, t, D, M, k, z, rfl, TA, kl, z0, bad, rf⟩ := h
    have hr_check_hand : Room 4 _ := hr.mono (by decide)
    have hr_is_number : Room 1 _ := hr.mono (by decide)
    have hr_check_lost : Room 4 _ := hr.mono (by decide)
    refine ⟨_, (pss_cons (ps_expr (pe_meth (pv 0) T.cl_Talk T.m_Talk_check_hand F_check_hand hr_check_hand b_check_hand .nil pass0 (pa_cons (pv 1) pa_nil)))
      (pss_cons (ps_if (PW.pt (pw_or (pt_not (pt_val (pe_call F_is_number hr_is_number rfl T.glo_is_number kp_is_number b_is_number .nil pass0 (pa_cons (pv 2) pa_nil)))) (pw_or1 (pt_cmpR op_lt (pv 2) pe_int (nomark _))))) (pss_one ps_never) pss_nil)
      (pss_cons (ps_expr (pe_meth (pv 0) T.cl_Talk T.m_Talk_check_lost F_lostx hr_check_lost b_lostx .nil (L2N.passes_call (L2N.takes_of rfl rfl rfl rfl) (fun _ _ _ _ h => h)) (pa_cons (pv 3) pa_nil)))
      (pss_cons ps_never
      (pss_cons ps_never
      (pss_one ps_never)))))), ?_⟩
    obtain ⟨dx, d, r, hx, DA, hr'⟩ := TA.ex
    refine ⟨_, rfl, x, dx, _, rfl, hx, tf_chkhand _ _, _, rfl, x, D, M, k, rfl, TA, kl, ?_⟩
    refine ⟨_, rfl, z, rfl, _, rfl, iteF ?_⟩
    refine ⟨_, rfl, _, _, rfl, rfl, _, rfl, ?_⟩
    rw [decide_eq_false (show ¬ z < 0 by omega)]
    refine iteF ?_
    exact ⟨_, rfl, x, dx, _, rfl, hx, tf_chklost _ _, _, rfl, x, t, D, M, rfl, TA, bad, rf⟩
end
end RL
/-! lambdas that are kept: their function objects tracked, a parameter with its default -/
namespace RLX
open PySem PySem.Spec PyProof.Rows L2 L2H HotX LamX
/-- captured names, globals, and parameters that the def's own names are not -/
structure LamP (N : List Str) (sc scope : Scope) : Prop where
  kind : scope.kind = .function
  co : scope.isCoroutine = false
  gen : scope.isGenerator = false
  noc : ∀ y ∈ scope.names, y.2 ≠ .cell
  par : ∀ y ∈ scope.names, y.2 = .local → y.1 ∉ N
  free : ∀ y ∈ scope.names, y.2 = .free → sc.names.lookup y.1 = some .cell ∨ sc.names.lookup y.1 = some .free
def lamPB (N : List Str) (sc scope : Scope) : Bool := decide (scope.kind = .function) && (!scope.isCoroutine && (!scope.isGenerator && (scope.names.all fun y => !decide (y.2 = .cell) && ((!decide (y.2 = .local) || !N.contains y.1) && (!decide (y.2 = .free) || (decide (sc.names.lookup y.1 = some .cell) || decide (sc.names.lookup y.1 = some .free)))))))
theorem lamP_by {N : List Str} {sc scope : Scope} (h : lamPB N sc scope = true) : LamP N sc scope := by
  unfold lamPB at h
  simp only [Bool.and_eq_true, Bool.or_eq_true, Bool.not_eq_true', decide_eq_true_eq, decide_eq_false_iff_not, List.all_eq_true] at h
  obtain ⟨h1, h2, h3, h4⟩ := h
  refine ⟨h1, h2, h3, fun y hy => (h4 y hy).1, fun y hy e => ?_, fun y hy e => ?_⟩
  · rcases (h4 y hy).2.1 with z | z
    · exact absurd e z
    · exact fun m => by rw [List.contains_iff_mem.mpr m] at z; cases z
  · rcases (h4 y hy).2.2 with z | z
    · exact absurd e z
    · exact z
section
variable {X : Cx} {pins : List (Addr × Obj)} {σ : L2.St} {H HZ : Hp} {s s1 : Shared} {ex : List Addr}
/-- the lambda's body begins, where the def's own state was known ahead -/
theorem lam_start3 {A : Around} {outer : List Env} {E : XK} {scope : Scope} {f c' : Addr} {h1 : Heap} {tk : Nat} {m1 : Str → Option Value} (I : Inv X pins σ H s) (L : LamP X.N X.env.scope scope) (e0 : Env0 X.prog X.w X.K X.mg X.base A outer s1 HZ) (hd : A.handled = none)
    (un : Un (frs X.stack) ex H HZ s.heap s1.heap) (hx : ∀ x c, X.env.cells.lookup x = some c → c ∉ ex) (hns : h1.Ns s1.heap.objs.size m1) (kp : ∀ b o, s1.heap.get? b = some o → h1.get? b = some o) :
    Inv (lamCx X A outer s1 HZ E scope f c') [] σ HZ { s1 with heap := h1, toks := tk } := by
  -- a captured name's cell is the def's own
  have hf : ∀ z ∈ scope.names, z.2 = .free → ∃ c, X.env.cells.lookup z.1 = some c := fun z hz e => (L.free z hz e).elim (fun k => I.ok.has _ (.inl k)) fun k => I.ok.has _ (.inr k)
  have own : ∀ {z c}, (cloFrom X.env.cells scope.names []).lookup z = some c → X.env.cells.lookup z = some c := fun {z c} e => by
    rcases cloFrom_mem (PySem.mem_of_lookup e) with k | ⟨k1, k2⟩
    · exact nomatch k
    · obtain ⟨c1, hc⟩ := hf _ k1 rfl
      have hc : X.env.cells.lookup z = some c1 := hc
      rw [k2, hc]
      rfl
  have got : ∀ {z}, scope.names.lookup z = some .free → ∃ c, (cloFrom X.env.cells scope.names []).lookup z = some c := fun {z} k => mem_lookup (cloFrom_has (cells := X.env.cells) (acc := []) (PySem.mem_of_lookup k))
  have stays : ∀ {x : Str} {c : Addr} {v : Option Value}, X.env.cells.lookup x = some c → s.heap.IsCell c v → h1.IsCell c v := fun {x c v} e ⟨o, ho, hd⟩ => by
    obtain ⟨sl, q⟩ := un.any ho (I.freeC x c e) (hx x c e)
    exact ⟨_, kp _ _ q, hd⟩
  have nx : ∀ b : Addr, b ∉ (lamCx X A outer s1 HZ E scope f c').ex := fun b z => nomatch (show b ∈ ([] : List Addr) from z)
  refine ⟨?_, rfl, e0.bare, Un.kept kp, ⟨m1, hns, fun i y v e1 e2 e3 => ?_⟩, fun y c e => ?_, e0.hok.fresh (Nat.le_refl _), fun y c e => ?_, fun q hq => absurd (show q ∈ ([] : List (Addr × Obj)) from hq) List.not_mem_nil, e0.hok.kept kp, I.len⟩
  · exact { mod := e0.mod, kind := L.kind, glob := rfl, blt := rfl, above := Nat.le_refl _, inj := fun y z c a b => I.ok.inj y z c (own a) (own b)
            has := fun y hy => by
              have hy : scope.names.lookup y = some .cell ∨ scope.names.lookup y = some .free := hy
              rcases hy with k | k
              · exact absurd rfl (L.noc _ (PySem.mem_of_lookup k))
              · exact got k
            cab := fun y c z _ => absurd (show false = true from z) (by decide)
            hd := fun _ => hd, frames := Around.frames_deeper e0.frames, stk := .inr ⟨rfl, rfl⟩, exf := fun b z => absurd z (nx b), bs := e0.bs, bsz := e0.bsz, noex := fun b _ _ => nx b, exfs := fun b z => absurd z (nx b), funs := e0.funs, frf := e0.frf }
  · have e3 : Vis scope y := e3
    rcases e3 with k | k | k
    · exact absurd (List.mem_of_getElem? e1) (L.par _ (PySem.mem_of_lookup k) rfl)
    · exact absurd rfl (L.noc _ (PySem.mem_of_lookup k))
    · obtain ⟨m, hn, hl⟩ := I.loc
      have cap := L.free _ (PySem.mem_of_lookup k) rfl
      obtain ⟨w', r, q⟩ := hl i y v e1 e2 (cap.elim (fun k => .inr (.inl k)) fun k => .inr (.inr k))
      obtain ⟨c2, h2⟩ := got k
      refine ⟨w', r, .inr ⟨.inr k, c2, h2, ?_⟩⟩
      rcases q with ⟨k', _⟩ | ⟨_, c3, e', z⟩
      · have k' : X.env.scope.names.lookup y = some .local := k'
        rcases cap with k2 | k2 <;> rw [show X.env.scope.names.lookup y = _ from k2] at k' <;> cases k'
      · rw [own h2] at e'
        cases e'
        exact stays (own h2) z
  · obtain ⟨w', z⟩ := I.cell y c (own e)
    exact ⟨w', stays (own e) z⟩
  · obtain ⟨v, o, ho, _⟩ := I.cell y c (own e)
    exact un.free c o ho (I.freeC y c (own e)) (hx y c (own e))
/-- what is tracked of a lambda's function object -/
abbrev LamO (q : Str) (params : Arguments) (body : Expr) (scope : Scope) (cl : List (Str × Addr)) (dV doc pm : Value) (c' : Addr) (ctv : Value) : HO := .frz (PySem.W.kdv_obj "<lambda>" q params (.expr body) scope cl dV doc pm c' ctv) (.ext fun _ => True)
theorem tabs_more {T : List (Addr × Str)} {P c' : Addr} {q : Str} {ps : Array Value} {pos : Pos} {G : Hp} (hT : Tabs T H) (hP : H P = some (.tbl ps)) (ht : TriplesOk ps.toList) (ha : ∀ (p : Pos) (cv : Value), codeAmong p ps.toList = some cv → ∃ c, cv = .ref c ∧ H c = some (CodeO c q)) (hu : ∀ p ∈ T, p.1 = P → p.2 = q)
    (e : ExtN H G) (gP : G P = some (.tbl (ps ++ #[rawInt pos.line, rawInt pos.col, .ref c']))) (gc : G c' = some (CodeO c' q)) (rest : ∀ b ps', b ≠ P → H b = some (.tbl ps') → G b = some (.tbl ps')) : Tabs T G := fun p hp => by
  have eL : (ps ++ #[rawInt pos.line, rawInt pos.col, .ref c']).toList = ps.toList ++ [rawInt pos.line, rawInt pos.col, .ref c'] := by simp
  by_cases at_ : p.1 = P
  · rw [hu p hp at_, at_]
    refine ⟨_, gP, ?_, fun p' cv k => ?_⟩
    · rw [eL]
      exact PySem.TriplesOk_snoc _ _ _ _ ht
    · rw [eL] at k
      rcases among_app _ ht k with z | z
      · obtain ⟨c0, e1, e2⟩ := ha p' cv z
        exact ⟨c0, e1, e _ _ e2 codeO_ne⟩
      · exact ⟨c', z, gc⟩
  · obtain ⟨ps', a1, a2, a3⟩ := hT p hp
    refine ⟨ps', rest _ _ at_ a1, a2, fun p' cv k => ?_⟩
    obtain ⟨c0, e1, e2⟩ := a3 p' cv k
    exact ⟨c0, e1, e _ _ e2 codeO_ne⟩
/-- a lambda is made, its function object tracked -/
theorem lam_make3 {T : List (Addr × Str)} {c P : Addr} {params : Arguments} {body : Expr} {scope : Scope} {pos : Pos} {dV : Value} {E : Value → Shared → Prop} {Q : Value → Shared → Prop} (I : Inv X pins σ H s) (TB : TabB X.base X.mg c P) (hcode : X.env.code = .ref c)
    (hm : (P, X.env.qual ++ "<lambda>") ∈ T) (hu : ∀ p ∈ T, p.1 = P → p.2 = X.env.qual ++ "<lambda>") (hT : Tabs T H) (hfree : ∀ y ∈ scope.names, y.2 = .free → ∃ c, X.env.cells.lookup y.1 = some c)
    (h : ∀ (f c' : Addr) (doc pm ctv : Value) (G : Hp) (s' : Shared), Inv X pins σ G s' → ExtN H G → Tabs T G → G f = some (LamO (X.env.qual ++ "<lambda>") params body scope (cloFrom X.env.cells scope.names []) dV doc pm c' ctv) → G c' = some (CodeO c' (X.env.qual ++ "<lambda>")) → Q (.ref f) s') :
    wpAny (model X.prog X.w) X.A (PySem.makeTail "<lambda>" (X.env.qual ++ "<lambda>") params (.expr body) scope X.env dV .none none pos pos.line) Q E s := by
  obtain ⟨ps, hP, ht, ha⟩ := hT _ hm
  have oP : s.heap.get? P = some { cls := .none, data := .fields ps } := I.hok P _ hP
  have fin : ∀ {G : Hp} {s2 : Shared} {doc pm ctv : Value} {c' : Addr}, Inv X pins σ G s2 → ExtN H G → Tabs T G → G c' = some (CodeO c' (X.env.qual ++ "<lambda>")) → Q (.ref s2.heap.objs.size) { s2 with heap := s2.heap.push (PySem.W.kdv_obj "<lambda>" (X.env.qual ++ "<lambda>") params (.expr body) scope (cloFrom X.env.cells scope.names []) dV doc pm c' ctv) } := fun {G s2 doc pm ctv c'} I2 e2 T2 hc => by
    have nf := I2.hok.fresh (Nat.le_refl _)
    have up : ∀ b o, G b = some o → upd G s2.heap.objs.size (LamO (X.env.qual ++ "<lambda>") params body scope (cloFrom X.env.cells scope.names []) dV doc pm c' ctv) b = some o := fun b o e => by
      rw [upd_ne (ne_of_none e nf)]
      exact e
    exact h _ c' doc pm ctv _ _ (I2.laid (t' := s2.toks) (o := LamO (X.env.qual ++ "<lambda>") params body scope (cloFrom X.env.cells scope.names []) dV doc pm c' ctv) (fun b o e => Heap.get?_push_of_some _ e) (Nat.le_refl _) ⟨Heap.get?_push_size _ rfl, True.intro, ⟨_, Heap.get?_push_size _ rfl⟩, fun _ _ _ _ => True.intro⟩) (e2.trans (ExtN.of up)) (T2.ext up) upd_same (up _ _ hc)
  cases hc : codeAmong pos ps.toList with
  | none =>
    refine PySem.W.kdv_makeTail (mg := X.mg) (c := c) (P := P) (ps := ps) (closure_ok hfree) I.ok.glob (I.mod.glob.keeps I.bk) hcode (TB.code.keeps I.bk) oP ht hc TB.gP (TB.bm.keeps I.bk) fun c' ctv doc h' tk hx hge hlt hrec htb => ?_
    obtain ⟨c2, oc, vs, t, e2, o1, o2, o3⟩ := hrec
    cases e2
    have nC : H c' = none := I.hok.fresh hge
    have nPc : P ≠ c' := ne_of_none hP nC
    have I1 := inv_table (t' := tk) (more := #[rawInt pos.line, rawInt pos.col, .ref c']) (h' := h') I hP (fun b o hb e => hx b o hb e) htb hge ⟨oc, vs, t, o1, o2, o3⟩
    have kept : ∀ b o, b ≠ P → H b = some o → upd (upd H P (.tbl (ps ++ #[rawInt pos.line, rawInt pos.col, .ref c']))) c' (CodeO c' (X.env.qual ++ "<lambda>")) b = some o := fun b o hb e => by
      rw [upd_ne (ne_of_none e nC), upd_ne hb]
      exact e
    have eN : ExtN H (upd (upd H P (.tbl (ps ++ #[rawInt pos.line, rawInt pos.col, .ref c']))) c' (CodeO c' (X.env.qual ++ "<lambda>"))) := fun b o e n => kept b o (fun z => by
      rw [z, hP] at e
      exact n ps (Option.some.inj e).symm) e
    exact fin (s2 := { s with heap := h', toks := tk }) I1 eN (tabs_more hT hP ht ha hu eN (by rw [upd_ne nPc, upd_same]) upd_same fun b ps' hb e => kept b _ hb e) upd_same
  | some cv =>
    obtain ⟨c', rfl, hco⟩ := ha pos cv hc
    refine PySem.W.kdv_makeTailHit (mg := X.mg) (c := c) (P := P) (ps := ps) (closure_ok hfree) I.ok.glob (I.mod.glob.keeps I.bk) hcode (TB.code.keeps I.bk) oP ht hc (TB.bm.keeps I.bk) fun ctv doc h' tk hx hsz => ?_
    exact fin (s2 := { s with heap := h', toks := tk }) (I.kept (t' := tk) hx) (ExtN.refl H) hT hco
end
end RLX
namespace RLX
open PySem PySem.Spec PyProof.Rows L2
section
variable {X : Cx}
/-- the turns of a comprehension's block -/
theorem blk_loop {u : Shared} {G H : Hp} {scope : Scope} {ce : Env} {fp : List Addr} {elt iter : Expr} {y : Str} {py pos : Pos} {it D : Addr} {J : It} {tn : Nat → Heap → Prop} {σ0 : L2.St} {vs : List Nat} {g : TG} {te : TE} {R : Result → Shared → Prop} {Qd : Hp → Prop} {W : Nat → Nat → Hp → Prop} {i0 m0 : Nat} {s : Shared} (hc : X.calm = true)
    (T : Turn X.prog X.w X.K (.Name y py) J fp it tn) (pg : PG (X.blk u G scope ce fp) (.Name y py) g) (pe : PE (X.blk u G scope ce fp) elt te)
    (turn : ∀ i m H, W i m H → (J.stop i H ∧ Qd H) ∨ (J.go i H ∧ ∃ Nx : Hp → Prop, (∀ H', Nx H' → ∃ m', m' < m ∧ W (i + 1) m' H') ∧ ∀ x H', J.yld i H x H' → g x σ0 H' fun σ2 H2 => wipe σ2 vs = σ0 ∧ tYes σ2 H2 fun b H3 =>
      if b = true then te σ2 H3 fun yv H4 => ∃ acc, H4 D = some (.lst acc) ∧ acc.length < sizeLine ∧ Nx (upd H4 D (.lst (acc ++ [yv]))) else Nx H3))
    (hend : ∀ H' s', Inv (X.blk u G scope ce fp) [] σ0 H' s' → Qd H' → R (.ok .next) s')
    (I : Inv (X.blk u G scope ce fp) [] σ0 H s) (st : tn i0 s.heap) (nf : ∀ b ∈ fp, H b = none) (w : W i0 m0 H) :
    codeAny (model X.prog X.w) X.A (.compLoop (.ListComp elt [⟨.Name y py, iter, [], 0⟩] scope pos) 0 (.ref it) (.ref D) ce) R s := by
  have free : ∀ {σ' : L2.St} {K' : Hp} {s' : Shared}, Inv (X.blk u G scope ce fp) [] σ' K' s' → (∀ b ∈ fp, K' b = none) → ∀ b ∈ fp, FpOk (X.blk u G scope ce fp) [] K' b := fun {σ' K' s'} I' hn b hb => by
    have ex := I'.ok.exf b hb
    exact ⟨hn b hb, ex.1, I'.ok.exfs b hb, .inl hb, fun x c e => ex.2 x c e, fun p hp => nomatch (show p ∈ ([] : List (Addr × Obj)) from hp)⟩
  refine compLoop_any (fun n s' => ∃ i K', Inv (X.blk u G scope ce fp) [] σ0 K' s' ∧ tn i s'.heap ∧ (∀ b ∈ fp, K' b = none) ∧ W i n K') (fun n a ha => ?_) m0 ⟨i0, H, I, st, nf, w⟩
  obtain ⟨i, K1, I1, st1, nf1, w1⟩ := ha
  rcases turn i n K1 w1 with ⟨stop, qd⟩ | ⟨go, Nx, hNx, step⟩
  · refine thnF (T.done (X.blk u G scope ce fp) rfl rfl rfl hc i [] a σ0 K1 (fun _ _ => False) I1 (free I1 nf1) st1 stop) fun r a2 ⟨er, I2⟩ => ?_
    subst er
    exact hend K1 a2 I2 qd
  · refine thnF (T.item (X.blk u G scope ce fp) rfl rfl rfl hc i [] a σ0 K1 (fun _ _ => False) I1 (free I1 nf1) st1 go) fun r a2 ⟨uv, er, h2⟩ => ?_
    subst er
    refine thnF h2 fun _ a3 ⟨x, K3, I3, r3, y3, st3, nf3⟩ => ?_
    have I3p := I3.pinned (free I3 nf3) (T.obj _ _ st3)
    refine thnF (pg.run _ a3 _ K3 x uv _ I3p r3 (step x K3 y3)) fun _ a4 ⟨σ4, K4, I4, e4, q4⟩ => ?_
    refine thnF ((pts_nil (X := X.blk u G scope ce fp)).run _ a4 σ4 K4 _ I4 q4) fun b a5 ⟨K5, I5, q5⟩ => ?_
    have back : ∀ {s' : Shared} {K' : Hp}, Inv (X.blk u G scope ce fp) ([] ++ pinsAt fp a3.heap) σ4 K' s' → Nx K' → ∃ m, m < n ∧ ∃ i K', Inv (X.blk u G scope ce fp) [] σ0 K' s' ∧ tn i s'.heap ∧ (∀ b ∈ fp, K' b = none) ∧ W i m K' := fun {s' K'} I' nx => by
      obtain ⟨m', lt, w'⟩ := hNx K' nx
      have pin : ∀ b ∈ fp, ∀ o, a3.heap.get? b = some o → s'.heap.get? b = some o ∧ K' b = none := fun b hb o e => by
        have z := I'.pin (b, o) (List.mem_append_right _ (List.mem_append_right _ (mem_pinsAt hb e)))
        exact ⟨z.1, z.2.1⟩
      have fr : ∀ b ∈ fp, K' b = none := fun b hb => by
        obtain ⟨o, e, _⟩ := T.obj _ _ st3 b hb
        exact (pin b hb o e).2
      have lens : σ0.length = σ4.length := by rw [← e4, wipe_length]
      exact ⟨m', lt, i + 1, K', (I'.unpinned (pins := [])).weak lens fun j v e => (wipe_some (by rw [e4]; exact e)).1, T.keep _ _ _ st3 fun b hb o e => (pin b hb o e).1, fr, w'⟩
    cases b with
    | false =>
      rw [if_neg (by decide)] at q5 ⊢
      exact back I5 q5
    | true =>
      rw [if_pos rfl] at q5 ⊢
      refine thnF (pe.run _ a5 σ4 K5 _ I5 q5) fun z a6 ⟨yv, K6, I6, r6, acc, h6, l6, nx⟩ => ?_
      exact app_ok (X := X.blk u G scope ce fp) I6 h6 l6 r6 fun a7 I7 => back I7 nx
def tLcA (wi : TI) (g : TG) (te : L2.St → TE) (vs : List Nat) : TE := fun σ H Q => tLc wi g tYes (te σ) vs σ H Q
/-- [elt for y in iter], the element read where the def's own state is known -/
theorem pe_lcA {elt iter : Expr} {y : Str} {scope : Scope} {own : List (Str × Nat)} {py pos : Pos} {wi : TI} {g : TG} {te : L2.St → TE} (hc : X.calm = true) (hN : X.N.Nodup) (hi : PI X (.Name y py) iter wi) (ok : BlkOk X.N X.env.scope scope own)
    (hg : ∀ (s : Shared) (H : Hp) (C : Addr) (cl : List (Str × Addr)) (fp : List Addr), PG (X.blk s H scope (compEnvC scope cl C X.env) fp) (.Name y py) g)
    (he : ∀ (pins : List (Addr × Obj)) (σ : L2.St) (u : Shared) (G : Hp) (C : Addr) (cl : List (Str × Addr)) (fp : List Addr), Inv X pins σ G u → (∀ b ∈ fp, FpOk X pins G b) → PE (X.blk u G scope (compEnvC scope cl C X.env) fp) elt (te σ))
    (hs : ∀ x, foldedSetIterable iter X.env x = pure x := by intro _; rfl) : PE X (.ListComp elt [⟨.Name y py, iter, [], 0⟩] scope pos) (tLcA wi g te (own.map (·.2))) := by
  refine ⟨fun pins s σ H Q I h => ?_⟩
  have free : ∀ z ∈ scope.names, z.2 = .free → ∃ c, X.env.cells.lookup z.1 = some c := fun z hz e => (ok.free z hz e).elim (fun k => I.ok.has _ (.inl k)) fun k => I.ok.has _ (.inr k)
  rw [eval_ListComp]
  refine wpAny_comprehension_free rfl hs (closure_ok free) ok.kind (fun z hz e => by rw [ok.uniq z hz, e]) ?_
  refine thn (hi.run pins s σ H _ I h) fun xv a1 ha => thn ha fun iv a2 hb => ?_
  obtain ⟨it, fp, tn, J, G, rfl, I2, T, t2, fo, q⟩ := hb
  refine wpAny_newObj_type (newEnv_comp ?_) (by show 0 ≤ sizeLine; decide)
  obtain ⟨W, ⟨m0, w0⟩, turn⟩ := q a2.heap.objs.size (I2.hok.fresh (Nat.le_refl _))
  have J3 : Inv X pins σ (upd G a2.heap.objs.size (.lst [])) { a2 with heap := a2.heap.push { cls := .type "list", data := .seq #[] } } :=
    I2.laid (t' := a2.toks) (fun b o e => Heap.get?_push_of_some _ e) (Nat.le_refl _) ⟨Nat.zero_le _, [], 0, .nil, Heap.get?_push_size _ rfl⟩
  have lt : ∀ b ∈ fp, b < a2.heap.objs.size := fun b hb => by
    obtain ⟨o, e, _⟩ := T.obj _ _ t2 b hb
    exact Heap.lt_size e
  generalize eu : ({ a2 with heap := a2.heap.push { cls := .type "list", data := .seq #[] } } : Shared) = u at J3
  have hu : u.heap = a2.heap.push { cls := .type "list", data := .seq #[] } := by rw [← eu]
  have f3 : ∀ b ∈ fp, FpOk X pins (upd G a2.heap.objs.size (.lst [])) b ∧ b < u.heap.objs.size := fun b hb => by
    have l := lt b hb
    have hs : b < u.heap.objs.size := by
      rw [hu, Heap.size_push]
      exact Nat.lt_succ_of_lt l
    have z := fo b hb
    refine ⟨⟨?_, z.2⟩, hs⟩
    rw [upd_ne (Nat.ne_of_lt l)]
    exact z.1
  have B := block_start J3 ok hN f3
  have t3 : tn 0 (pushCells (u.heap.push { cls := .type "dict", data := .dict #[] }) scope.names) := T.keep _ _ _ t2 fun b hb o e => pushCells_keeps _ _ _ _ (Heap.get?_push_of_some _ (by rw [hu]; exact Heap.get?_push_of_some _ e))
  show codeAny (model X.prog X.w) X.A (.compStart (.ListComp elt [⟨.Name y py, iter, [], 0⟩] scope pos) 0 (.ref it) (.ref a2.heap.objs.size) (compEnvC scope (cellsFrom (u.heap.objs.size + 1) scope.names (cloFrom X.env.cells scope.names [])) u.heap.objs.size X.env)) (compPost (model X.prog X.w) X.A X.xe none (EP X pins σ Q) (.ref a2.heap.objs.size) u.heap.objs.size) { u with heap := pushCells (u.heap.push { cls := .type "dict", data := .dict #[] }) scope.names }
  have L := blk_loop (X := X) (elt := elt) (iter := iter) (pos := pos) (it := it) (D := a2.heap.objs.size) (R := compPost (model X.prog X.w) X.A X.xe none (EP X pins σ Q) (.ref a2.heap.objs.size) u.heap.objs.size) hc T (hg u _ u.heap.objs.size _ fp) (he pins σ u _ u.heap.objs.size _ fp J3 fun b hb => (f3 b hb).1) turn (fun K' s' I' qd => ?_) B t3 (fun b hb => (f3 b hb).1.1) w0
  · exact codeAny_compStart_list L (T.self X.A 0 _ _ _ t3 L)
  · have Ib : Inv X pins σ K' s' := J3.call' (ch := fp) I'.os I'.base I'.hok I'.bare fun b hb => ⟨(f3 b hb).1.2.2.2.1, (f3 b hb).1.2.1, (f3 b hb).1.2.2.2.2.1, (f3 b hb).1.2.2.2.2.2⟩
    have nC : K' u.heap.objs.size = none := I'.free
    obtain ⟨m, hn, _⟩ := I'.loc
    obtain ⟨f0, f1, f2, f3, f4, f5⟩ := J3.fpOk (Nat.le_refl _) nC
    exact ⟨m, hn, fun h'' sb => ⟨.ref a2.heap.objs.size, K', Ib.turned (t' := s'.toks) (fun b o hb e => (sb.2 b hb).trans e) f0 f1 f3 f4 f5, rfl, qd⟩⟩
end
end RLX
/-! lambdas kept in names and lists, asked later -/
namespace RLX
open PySem PySem.Spec PyProof.Rows L2 L2H HotX LamX
/-- the tuples of G stand in H -/
abbrev Tups (G H : Hp) : Prop := ∀ (T : Addr) (xs : List V), G T = some (.tup xs) → H T = some (.tup xs)
/-- at f stands a lambda of the def's; when it is called, t is asked -/
structure Ask (X : Cx) (kb : Nat) (G : Hp) (f c' : Addr) (t : XK → TE) : Prop where
  ex : ∃ (params : Arguments) (body : Expr) (scope : Scope) (dV doc pm ctv : Value), G f = some (LamO (X.env.qual ++ "<lambda>") params body scope (cloFrom X.env.cells scope.names []) dV doc pm c' ctv) ∧ G c' = some (CodeO c' (X.env.qual ++ "<lambda>")) ∧ LamP X.N X.env.scope scope ∧
    (∀ (s1 : Shared) (H1 : Hp), HOk X.prog X.w H1 s1.heap → Tups G H1 → ∃ binds, BindsTo s1 (PySem.W.kdv_fn "<lambda>" (X.env.qual ++ "<lambda>") params (.expr body) scope (cloFrom X.env.cells scope.names []) dV doc pm (.ref c') ctv) ⟨[], []⟩ binds ∧ ∀ y ∈ binds, scope.names.lookup y.1 = some .local) ∧
    ∀ (A : Around) (outer : List Env) (s : Shared) (H : Hp) (E : XK), Room kb (A.deeper (lamEnv X scope s.heap.objs.size f c')) → PE (lamX X A outer s H E scope f c') body (t E)
/-- what such a lambda leans on -/
def Rests (G G' : Hp) : Prop := ∀ (b : Addr) (o : HO), G b = some o → ((∃ ob u, o = .frz ob u) ∨ (∃ φ, o = .ext φ) ∨ ∃ xs, o = .tup xs) → G' b = some o
theorem Ask.on {X : Cx} {kb : Nat} {G G' : Hp} {f c' : Addr} {t : XK → TE} (a : Ask X kb G f c' t) (r : Rests G G') : Ask X kb G' f c' t := by
  obtain ⟨params, body, scope, dV, doc, pm, ctv, h1, h2, h3, h4, h5⟩ := a.ex
  exact ⟨params, body, scope, dV, doc, pm, ctv, r _ _ h1 (.inl ⟨_, _, rfl⟩), r _ _ h2 (.inr (.inl ⟨_, rfl⟩)), h3, fun s1 H1 ok u => h4 s1 H1 ok fun T xs e => u T xs (r _ _ e (.inr (.inr ⟨_, rfl⟩))), h5⟩
theorem Ask.code {X : Cx} {kb : Nat} {G : Hp} {f c' : Addr} {t : XK → TE} (a : Ask X kb G f c' t) : G c' = some (CodeO c' (X.env.qual ++ "<lambda>")) := by
  obtain ⟨_, _, _, _, _, _, _, _, h2, _⟩ := a.ex
  exact h2
theorem rests_same {G G' : Hp} (s : ∀ b o, G b = some o → G' b = some o) : Rests G G' := fun b o h _ => s b o h
theorem rests_ext {G G' : Hp} (e : ExtN G G') : Rests G G' := fun b o h k => e b o h fun ps z => by
  subst z
  rcases k with ⟨_, _, z⟩ | ⟨_, z⟩ | ⟨_, z⟩ <;> cases z
section
variable {X : Cx} {pins : List (Addr × Obj)} {σ : L2.St} {G H : Hp} {u s : Shared} {ex : List Addr} {kb : Nat} {f c' : Addr} {t : XK → TE}
/-- such a lambda, called from a later frame; I: the def's own state, at some time ahead -/
theorem ask_act (I : Inv X pins σ G u) (hx : ∀ x c, X.env.cells.lookup x = some c → c ∉ ex) (un : Un (frs X.stack) ex G H u.heap s.heap) (a : Ask X kb H f c' t) :
    LamAct X.prog X.w X.K X.mg X.base (kb + 1) (frs X.stack) s H f (fun E H' Q => H' c' = some (CodeO c' (X.env.qual ++ "<lambda>")) ∧ t E σ H' Q) := by
  obtain ⟨params, body, scope, dV, doc, pm, ctv, hf, hc, L, hb, body_⟩ := a.ex
  have of1 : ∀ {s1 : Shared} {H1 : Hp}, HOk X.prog X.w H1 s1.heap → Un (frs X.stack) [] H H1 s.heap s1.heap → s1.heap.get? f = some (PySem.W.kdv_obj "<lambda>" (X.env.qual ++ "<lambda>") params (.expr body) scope (cloFrom X.env.cells scope.names []) dV doc pm c' ctv) := fun {s1 H1} ok v => (ok f _ (v.frzs _ _ _ hf)).1
  refine ⟨fun s1 H1 ok v => ⟨_, _, _, _, of1 ok v⟩, fun A outer s1 H1 Q E hr e0 v h => ?_⟩
  obtain ⟨hc1, ht⟩ := h
  obtain ⟨⟨oc, vs, tk, hoc, hdc, hvc⟩, _, _⟩ := e0.hok c' _ hc1
  have lim : s1.heap.NoLimit := e0.mod.nolimit.keeps fun b o e => (e0.bs b o e).1
  obtain ⟨binds, hbt, hloc⟩ := hb s1 H1 e0.hok v.tups
  refine PySem.W.kla_callFunE hr.depth (of1 e0.hok v) rfl L.co L.gen rfl ⟨c', oc, vs, tk, rfl, hoc, hdc, hvc⟩ (hbt _ _ _ _ ?_)
  refine wpAny_newFunctionEnv L.noc hloc (fun h1 hns hsb => ⟨lim.fresh _ hsb, ?_⟩) L.kind
  show codeAny _ _ (.expr body (lamEnv X scope s1.heap.objs.size f c')) _ _
  have kp : ∀ b o, s1.heap.get? b = some o → h1.get? b = some o := fun b o e => hsb.extBut b o (Nat.ne_of_lt (Heap.lt_size e)) (Heap.get?_push_of_some _ e)
  have J := (lam_start3 (E := E) (f := f) (c' := c') (tk := s1.toks + binds.length) I L e0 hr.hd (un.trans (v.mono (fun _ z => z) fun _ z => absurd z List.not_mem_nil)) hx hns kp).toTry (fun e s' => wpAny (model X.prog X.w) (A.deeper (lamEnv X scope s1.heap.objs.size f c')) (leaving (lamEnv X scope s1.heap.objs.size f c') e) (fun _ s'' => L2N.CX X.prog X.w outer H1 s1 E e s'') (fun e' s'' => L2N.CX X.prog X.w outer H1 s1 E e' s'') s')
  refine PySem.W.kla_codeExpr (wpAny_mono ((body_ A outer s1 H1 E (hr.deeper _)).run [] _ _ H1 Q J ht) (fun v s' hq => ?_) fun e s' hq => hq)
  obtain ⟨v', H', J', rv, q⟩ := hq
  exact ⟨v', H', J'.os, J'.bare, J'.base, J'.hok, rv, q⟩
end
section
variable {Z X : Cx} {pins : List (Addr × Obj)} {σ : L2.St} {H : Hp} {s : Shared} {k kl kb : Nat} {g f : Addr} {TT : TTL} {tl : XK → Hp → VK → Prop} {Q : VK}
theorem run_fnL (Fn : FnL Z.prog Z.w Z.K Z.mg Z.base k kl g TT) (hr : Room k Z.A) (I : Inv Z pins σ H s) (act : LamAct Z.prog Z.w Z.K Z.mg Z.base kl (frs Z.stack) s H f tl) (h : TT tl H Q) : wpAny (model Z.prog Z.w) Z.A (call (.ref g) [.ref f]) (EP Z pins σ Q) Z.xe s := by
  refine wpAny_call (codeAny_mono (Fn.run _ _ s H f Q tl hr I.env0 act h) fun r s2 hq => ?_)
  cases r with
  | error e => exact hq.elim
  | ok fl =>
    cases fl with
    | ret u => exact I.after hq
    | next => exact hq.elim
    | brk => exact hq.elim
    | cont => exact hq.elim
/-- what is asked there: σL gives the def's own slots -/
def tAskL (X : Cx) (kb : Nat) (TT : TTL) (te : TE) (σL : L2.St → L2.St) : TE := fun σZ H Q => te σZ H fun v H1 => ∃ (f c' : Addr) (t : XK → TE), v = .ref f ∧ Ask X kb H1 f c' t ∧ TT (fun E H' Q' => H' c' = some (CodeO c' (X.env.qual ++ "<lambda>")) ∧ t E (σL σZ) H' Q') H1 Q
/-- x(e), e a lambda that is kept -/
theorem pe_ask {e : Expr} {te : TE} {x : Str} {q pos : Pos} (σL : L2.St → L2.St) (Fn : FnL Z.prog Z.w Z.K Z.mg Z.base k kl g TT) (hkl : kb + 1 ≤ kl) (hr : Room k Z.A) (hg : Gl Z x) (hm : Z.mg x = some (.ref g)) (hk : PySem.W.keepIn Z.K (.ref g) = true) (pe : PE Z e te)
    (link : ∀ (pins : List (Addr × Obj)) (σZ : L2.St) (HZ : Hp) (sZ : Shared) (f c' : Addr) (t : XK → TE), Inv Z pins σZ HZ sZ → Ask X kb HZ f c' t → LamAct Z.prog Z.w Z.K Z.mg Z.base (kb + 1) (frs Z.stack) sZ HZ f (fun E H' Q' => H' c' = some (CodeO c' (X.env.qual ++ "<lambda>")) ∧ t E (σL σZ) H' Q'))
    (hdb : (x == ("__debug__" : Str)) = false := by decide) (he : starEach [e] Z.env = (false, eval e Z.env) :: starEach [] Z.env := by rfl) :
    PE Z (.Call (.Name x q) [e] [] pos) (tAskL X kb TT te σL) := by
  refine ⟨fun pins s σZ H Q I h => ?_⟩
  have ha : PA Z [e] _ := pa_cons pe pa_nil he
  have ask : tCons te tNil σZ H (fun vs H1 => match vs with
    | [v] => ∃ (f c' : Addr) (t : XK → TE), v = .ref f ∧ Ask X kb H1 f c' t ∧ TT (fun E H' Q' => H' c' = some (CodeO c' (X.env.qual ++ "<lambda>")) ∧ t E (σL σZ) H' Q') H1 Q
    | _ => False) := h
  refine wpAny_Call_Name_kw (ld_glob I hg hm (PySem.W.callWith_K (first := []) (h₀ := Z.base) I.ok.mod.kin hk (thn (ha.run pos pins s σZ H _ I ask) fun us s1 ⟨vs, H1, I1, r1, q1⟩ => ⟨I1.kIn, ?_⟩) he rfl) hdb)
  match vs, r1, q1 with
  | [v], r1, q1 =>
    obtain ⟨f, c', t, rfl, a, q⟩ := q1
    obtain rfl : us = [Value.ref f] := by
      cases r1 with
      | cons r rr =>
        cases rr
        cases r
        rfl
    exact run_fnL Fn hr I1 ((link pins σZ H1 s1 f c' t I1 a).mono hkl) q
theorem link_def {kb : Nat} {f c' : Addr} {t : XK → TE} (I : Inv X pins σ H s) (a : Ask X kb H f c' t) : LamAct X.prog X.w X.K X.mg X.base (kb + 1) (frs X.stack) s H f (fun E H' Q' => H' c' = some (CodeO c' (X.env.qual ++ "<lambda>")) ∧ t E σ H' Q') :=
  ask_act I (ex := []) (fun _ _ _ => List.not_mem_nil) Un.refl a
theorem link_blk {u : Shared} {G HZ : Hp} {scope : Scope} {ce : Env} {fp : List Addr} {pinsZ : List (Addr × Obj)} {σZ : L2.St} {sZ : Shared} {c' : Addr} {t : XK → TE} (I : Inv X pins σ G u) (fo : ∀ b ∈ fp, FpOk X pins G b) (IZ : Inv (X.blk u G scope ce fp) pinsZ σZ HZ sZ) (a : Ask X kb HZ f c' t) :
    LamAct X.prog X.w X.K X.mg X.base (kb + 1) (frs X.stack) sZ HZ f (fun E H' Q' => H' c' = some (CodeO c' (X.env.qual ++ "<lambda>")) ∧ t E σ H' Q') :=
  ask_act I (fun x c e z => (fo c z).2.2.2.2.1 x c e rfl) IZ.base a
end
/-- .. within a comprehension's block -/
theorem pe_askB {X : Cx} {pins : List (Addr × Obj)} {σ : L2.St} {u : Shared} {G : Hp} {scope : Scope} {ce : Env} {fp : List Addr} {k kl kb : Nat} {g : Addr} {TT : TTL} {e : Expr} {te : TE} {x : Str} {q pos : Pos} (I : Inv X pins σ G u) (fo : ∀ b ∈ fp, FpOk X pins G b)
    (Fn : FnL X.prog X.w X.K X.mg X.base k kl g TT) (hkl : kb + 1 ≤ kl) (hr : Room k X.A) (hg : Gl (X.blk u G scope ce fp) x) (hm : X.mg x = some (.ref g)) (hk : PySem.W.keepIn X.K (.ref g) = true) (pe : PE (X.blk u G scope ce fp) e te)
    (hdb : (x == ("__debug__" : Str)) = false := by decide) (he : starEach [e] ce = (false, eval e ce) :: starEach [] ce := by rfl) :
    PE (X.blk u G scope ce fp) (.Call (.Name x q) [e] [] pos) (tAskL X kb TT te (fun _ => σ)) :=
  pe_ask (Z := X.blk u G scope ce fp) (X := X) (fun _ => σ) Fn hkl hr hg hm hk pe (fun _ _ _ _ _ _ _ IZ a => link_blk I fo IZ a) hdb he
/-- .. at the def's own place -/
theorem pe_askD {X : Cx} {k kl kb : Nat} {g : Addr} {TT : TTL} {e : Expr} {te : TE} {x : Str} {q pos : Pos} (Fn : FnL X.prog X.w X.K X.mg X.base k kl g TT) (hkl : kb + 1 ≤ kl) (hr : Room k X.A) (hg : Gl X x) (hm : X.mg x = some (.ref g)) (hk : PySem.W.keepIn X.K (.ref g) = true) (pe : PE X e te)
    (hdb : (x == ("__debug__" : Str)) = false := by decide) (he : starEach [e] X.env = (false, eval e X.env) :: starEach [] X.env := by rfl) :
    PE X (.Call (.Name x q) [e] [] pos) (tAskL X kb TT te (fun σ => σ)) :=
  pe_ask (Z := X) (X := X) (fun σ => σ) Fn hkl hr hg hm hk pe (fun _ _ _ _ _ _ _ IZ a => link_def IZ a) hdb he
/-! ### the lambda itself, as a value -/
theorem mk_none {M : Model} {A : Around} {E : Value → Shared → Prop} {Q : Value → Shared → Prop} {s : Shared} {n q : Str} {params : Arguments} {b : Expr} {scope : Scope} {env : Env} {pos : Pos} {fl : Nat} (h : wpAny M A (PySem.makeTail n q params (.expr b) scope env .none .none none pos fl) Q E s) :
    wpAny M A (makeFunction n q params (.expr b) scope env [] [] [] pos fl) Q E s := by
  rw [makeFunction_eq]
  simpa only [List.zip_nil_right, List.filterMap_nil, List.isEmpty_nil, if_true, pure_bind] using h
theorem mk_one {M : Model} {A : Around} {E : Value → Shared → Prop} {Q : Value → Shared → Prop} {s : Shared} {n q : Str} {params : Arguments} {b : Expr} {scope : Scope} {env : Env} {pos : Pos} {fl : Nat} {v : Value} (h : wpAny M A (PySem.makeTail n q params (.expr b) scope env (.ref s.heap.objs.size) .none none pos fl) Q E { s with heap := s.heap.push (PySem.W.kdv_tup [v]) }) :
    wpAny M A (makeFunction n q params (.expr b) scope env [v] [] [] pos fl) Q E s := by
  rw [makeFunction_eq]
  simp only [List.zip_nil_right, List.filterMap_nil, List.isEmpty_nil, List.isEmpty_cons, Bool.false_eq_true, if_false, if_true, pure_bind]
  exact wpAny_bind (wpAny_newTextTuple h)
/-- a lambda is made: T the tables of the code objects -/
def tMkL (X : Cx) (T : List (Addr × Str)) (kb : Nat) (t : XK → TE) : TE := fun _ H Q => Tabs T H ∧ ∀ (f c' : Addr) (G : Hp), ExtN H G → Tabs T G → Ask X kb G f c' t → Q (.ref f) G
section
variable {X : Cx} {T : List (Addr × Str)} {c P : Addr} {kb : Nat} {params : Arguments} {body : Expr} {scope : Scope} {t : XK → TE} {pos : Pos}
theorem pe_lam0 (TB : TabB X.base X.mg c P) (hcode : X.env.code = .ref c) (hm : (P, X.env.qual ++ "<lambda>") ∈ T) (hu : ∀ p ∈ T, p.1 = P → p.2 = X.env.qual ++ "<lambda>") (L : LamP X.N X.env.scope scope) (hdef : defaultsOf params X.env = ([], []))
    (hbind : ∀ (q : Str) (cl : List (Str × Addr)) (doc pm cv ctv : Value), bindArgs (PySem.W.kdv_fn "<lambda>" q params (.expr body) scope cl .none doc pm cv ctv) ⟨[], []⟩ = pure [])
    (hbody : ∀ (A : Around) (outer : List Env) (s : Shared) (H : Hp) (E : XK) (f c' : Addr), Room kb (A.deeper (lamEnv X scope s.heap.objs.size f c')) → PE (lamX X A outer s H E scope f c') body (t E)) :
    PE X (.Lambda params body scope pos) (tMkL X T kb t) := by
  refine ⟨fun pins s σ H Q I h => ?_⟩
  obtain ⟨hT, h⟩ := h
  refine PySem.W.kla_eval hdef (mk_none (lam_make3 I TB hcode hm hu hT (fun z hz e => (L.free z hz e).elim (fun k => I.ok.has _ (.inl k)) fun k => I.ok.has _ (.inr k)) fun f c' doc pm ctv G s' I' e' T' hf hc => ?_))
  exact ⟨.ref f, G, I', rfl, h f c' G e' T' ⟨_, _, _, _, _, _, _, hf, hc, L, fun s1 H1 _ _ => ⟨[], .of_eq (hbind _ _ _ _ _ _), fun y z => absurd z List.not_mem_nil⟩, fun A outer s H E r => hbody A outer s H E f c' r⟩⟩
/-- .. with one parameter that has a default -/
theorem pe_lam1 {x : Str} {d : Expr} {td : TE} (TB : TabB X.base X.mg c P) (hcode : X.env.code = .ref c) (hm : (P, X.env.qual ++ "<lambda>") ∈ T) (hu : ∀ p ∈ T, p.1 = P → p.2 = X.env.qual ++ "<lambda>") (L : LamP X.N X.env.scope scope) (hd : params.defaults = [d]) (hk : params.kw_defaults = [])
    (pd : PE X d td) (hx : scope.names.lookup x = some .local)
    (hbind : ∀ (T0 : Addr) (q : Str) (cl : List (Str × Addr)) (doc pm cv ctv : Value), ∃ k, bindArgs (PySem.W.kdv_fn "<lambda>" q params (.expr body) scope cl (.ref T0) doc pm cv ctv) ⟨[], []⟩ = seqItems? (.ref T0) >>= k ∧ ∀ u : Value, k (some #[u]) = pure [(x, u)])
    (hbody : ∀ (A : Around) (outer : List Env) (s : Shared) (H : Hp) (E : XK) (f c' : Addr), Room kb (A.deeper (lamEnv X scope s.heap.objs.size f c')) → PE (lamX X A outer s H E scope f c') body (t E)) :
    PE X (.Lambda params body scope pos) (fun σ H Q => td σ H fun _ H1 => tMkL X T kb t σ H1 Q) := by
  refine ⟨fun pins s σ H Q I h => ?_⟩
  refine PySem.W.kdv_lam (by rw [hd]; rfl) hk ?_
  rw [hd]
  refine PySem.W.kdv_all1 (thn (pd.run pins s σ H _ I h) fun u s1 ⟨v, H1, I1, r1, hT, q⟩ => PySem.W.kdv_all0 (mk_one ?_))
  have nT := I1.hok.fresh (Nat.le_refl _)
  have up : ∀ b o, H1 b = some o → upd H1 s1.heap.objs.size (.tup [v]) b = some o := fun b o e => by
    rw [upd_ne (ne_of_none e nT)]
    exact e
  have I2 : Inv X pins σ (upd H1 s1.heap.objs.size (.tup [v])) { s1 with heap := s1.heap.push (PySem.W.kdv_tup [u]) } := I1.laid (t' := s1.toks) (o := .tup [v]) (fun b o e => Heap.get?_push_of_some _ e) (Nat.le_refl _) ⟨(by show 1 ≤ sizeLine; decide), [u], .cons r1 .nil, _, Heap.get?_push_size _ rfl, rfl, _, rfl⟩
  refine lam_make3 I2 TB hcode hm hu (hT.ext up) (fun z hz e => (L.free z hz e).elim (fun k => I.ok.has _ (.inl k)) fun k => I.ok.has _ (.inr k)) fun f c' doc pm ctv G s' I' e' T' hf hc => ?_
  have gT : G s1.heap.objs.size = some (.tup [v]) := e' _ _ upd_same fun ps z => by cases z
  refine ⟨.ref f, G, I', rfl, q f c' G ((ExtN.of up).trans e') T' ⟨_, _, _, _, _, _, _, hf, hc, L, fun s2 H2 ok tu => ?_, fun A outer s H E r => hbody A outer s H E f c' r⟩⟩
  obtain ⟨_, its, rv, o, ho, _, n, hn⟩ := ok _ _ (tu _ _ gT)
  cases rv with
  | cons ra rr =>
    cases rr
    obtain ⟨k, k1, k2⟩ := hbind s1.heap.objs.size (X.env.qual ++ "<lambda>") (cloFrom X.env.cells scope.names []) doc pm (.ref c') ctv
    exact ⟨[(x, _)], BindsTo.of_defaults rfl ho hn k1 (k2 _), fun y hy => by
      rw [List.mem_singleton.mp hy]
      exact hx⟩
end
end RLX
/-! what stays when a lambda is made, for laws without stories -/
namespace RL
open PySem PySem.Spec PyProof.Rows L2 RLM
abbrev LT (K : PySem.W.Frag) (H : Hp) : Prop := LamX.Tabs [((He.cT K ("law", none)).2, ("law.<locals>.<lambda>" : Str))] H
section
variable {K : PySem.W.Frag} {b c D x : Addr} {H H' : Hp} {n : Nat} {rs : List Addr} {M : Nat → Nat → Nat} {E : List (Nat × Nat)}
theorem ext_lst (e : LamX.ExtN H H') {a : Addr} {xs : List V} (h : H a = some (.lst xs)) : H' a = some (.lst xs) := e _ _ h fun _ z => by cases z
theorem ext_tup (e : LamX.ExtN H H') {a : Addr} {xs : List V} (h : H a = some (.tup xs)) : H' a = some (.tup xs) := e _ _ h fun _ z => by cases z
theorem BoardAt.ext (e : LamX.ExtN H H') (h : BoardAt K c H x n E) : BoardAt K c H' x n E := by
  obtain ⟨dx, lp, ll, lf, L, ls, F, h1, h2, h3, h4, h5, h6, h7, h8, h9, h10⟩ := h.ex
  exact ⟨⟨dx, lp, ll, lf, L, ls, F, e _ _ h1 (fun _ z => by cases z), ⟨ext_lst e h2.at_, h2.ne, fun q hq => ext_tup e (h2.tup q hq)⟩, h3, ext_lst e h4, h5, h6, ext_lst e h7, h8, h9, fun a q eq => ⟨ext_lst e (h10 a q eq).1, (h10 a q eq).2⟩⟩, h.lo, h.hi, h.on, h.nd⟩
theorem Box.ext (e : LamX.ExtN H H') (h : Box b c H) : Box b c H' := by
  obtain ⟨ns, r, s, t, h1, h2, h3⟩ := h.ex
  exact ⟨ns, r, s, t, e _ _ h1 (fun _ z => by cases z), ext_lst e h2, h3⟩
theorem TabAt.ext (e : LamX.ExtN H H') (h : TabAt c H D n rs M) : TabAt c H' D n rs M := ⟨ext_lst e h.at_, h.len, h.nd, h.nD, h.nc, fun i r er => ext_lst e (h.row i r er)⟩
theorem tabs_kc {T : List (Addr × Str)} (k : Kc c H H') (hc : ∃ ys, H c = some (.lst ys)) (h : LamX.Tabs T H) : LamX.Tabs T H' := fun q hq => by
  obtain ⟨ps, h1, h2, h3⟩ := h q hq
  obtain ⟨ys, hc⟩ := hc
  have ne : ∀ {a : Addr} {o : HO}, H a = some o → (∀ zs, o ≠ .lst zs) → a ≠ c := fun {a o} ha no z => by
    rw [z, hc] at ha
    exact no ys (Option.some.inj ha).symm
  refine ⟨ps, k _ _ (ne h1 fun _ z => by cases z) (fun _ z => by cases z) h1, h2, fun pos cv hcv => ?_⟩
  obtain ⟨c0, e1, e2⟩ := h3 pos cv hcv
  refine ⟨c0, e1, k _ _ (ne e2 fun zs z => ?_) (fun kvs z => ?_) e2⟩
  · unfold LamX.CodeO at z
    cases z
  · unfold LamX.CodeO at z
    cases z
theorem tabs_same {T : List (Addr × Str)} (s : Same H H') (h : LamX.Tabs T H) : LamX.Tabs T H' := h.ext s
/-- a list that is new grows: all else stays -/
theorem ext_grow {H1 H2 : Hp} {l : Addr} {o : HO} (hl : H l = none) (s : Same H H1) (e : LamX.ExtN H1 H2) : LamX.ExtN H (L2.upd H2 l o) := fun b u h n => by
  rw [upd_ne (ne_of_none h hl)]
  exact e b u (s b u h) n
theorem kc_grow {l : Addr} {o : HO} : Kc l H (L2.upd H l o) := fun a u h1 _ h => by
  rw [upd_ne h1]
  exact h
theorem rests_grow {l : Addr} {o : HO} {xs : List V} (h : H l = some (.lst xs)) : RLX.Rests H (L2.upd H l o) := fun a u e k => by
  have ne : a ≠ l := fun z => by
    rw [z, h] at e
    cases e
    rcases k with ⟨_, _, z⟩ | ⟨_, z⟩ | ⟨_, z⟩ <;> cases z
  rw [upd_ne ne]
  exact e
/-- board, table, box and the lambdas' table -/
structure Grd (K : PySem.W.Frag) (b c : Addr) (H : Hp) (D x n : Nat) (rs : List Addr) (M : Nat → Nat → Nat) (E : List (Nat × Nat)) : Prop where
  ta : TabAt c H D n rs M
  bd : BoardAt K c H x n E
  bx : Box b c H
  tab : LT K H
theorem Grd.same (h : Grd K b c H D x n rs M E) (s : Same H H') : Grd K b c H' D x n rs M E := ⟨h.ta.same s, h.bd.same s, h.bx.same s, tabs_same s h.tab⟩
theorem Grd.keep (h : Grd K b c H D x n rs M E) (k : Kc c H H') (B : Box b c H') : Grd K b c H' D x n rs M E := ⟨h.ta.keep k, h.bd.keep k h.bx.lst, B, tabs_kc k h.bx.lst h.tab⟩
theorem Grd.ext (h : Grd K b c H D x n rs M E) (e : LamX.ExtN H H') (t : LT K H') : Grd K b c H' D x n rs M E := ⟨h.ta.ext e, h.bd.ext e, h.bx.ext e, t⟩
end
end RL
namespace RL
open PySem PySem.Spec PyProof.Rows L2 RLM
/-! things that are alike -/
theorem SameV.more {H : Hp} {d : Nat} {x y : V} (h : SameV d H x y) : ∀ k, SameV (d + k) H x y
  | 0 => h
  | k + 1 => (SameV.more h k).up
theorem sv_tup {d : Nat} {H : Hp} {a : Addr} {xs : List V} (h : H a = some (.tup xs)) (l : xs.length ≤ 1000) (e : ∀ x ∈ xs, SameV d H x x) : SameV (d + 1) H (.ref a) (.ref a) :=
  .inr ⟨a, a, xs, xs, rfl, rfl, .inr ⟨.inl h, .inl h⟩, rfl, l, fun k u v h1 h2 => by
    rw [h1] at h2
    cases h2
    exact e u (List.mem_of_getElem? h1)⟩
theorem sv_lst {d : Nat} {H : Hp} {a b : Addr} {xs : List V} (h : H a = some (.lst xs)) (h' : H b = some (.lst xs)) (l : xs.length ≤ 1000) (e : ∀ x ∈ xs, SameV d H x x) : SameV (d + 1) H (.ref a) (.ref b) :=
  .inr ⟨a, b, xs, xs, rfl, rfl, .inl ⟨.inl h, .inl h'⟩, rfl, l, fun k u v h1 h2 => by
    rw [h1] at h2
    cases h2
    exact e u (List.mem_of_getElem? h1)⟩
theorem sv_int (d : Nat) (H : Hp) (i : Int) : SameV d H (.int i) (.int i) := SameV.of0 ⟨rfl, .inl ⟨_, rfl⟩⟩
theorem sv_str (d : Nat) (H : Hp) (s : Str) : SameV d H (.str s) (.str s) := SameV.of0 ⟨rfl, .inr (.inr (.inr ⟨_, rfl⟩))⟩
theorem sv_lot {d n : Nat} {H : Hp} {a : Addr} {p : Nat → Prop} (n8 : n ≤ 8) (h : H a = some (.tup ((lotP n p).map vI))) : SameV (d + 1) H (.ref a) (.ref a) := sv_tup h (by rw [List.length_map]; exact Nat.le_trans (lotP_len n p) (by omega)) fun x hx => by
  obtain ⟨i, _, rfl⟩ := List.mem_map.mp hx
  exact sv_int d H _
theorem sv_look {n : Nat} {H : Hp} {l : Addr} (n8 : n ≤ 8) : ∀ {L : Look}, LookAt n H (.ref l) L → LookOk n L → SameV 3 H (.ref l) (.ref l)
  | .lot _, ⟨t, u, e, h1, h2⟩, _ => by
    cases e
    refine sv_tup h1 (by show 2 ≤ 1000; decide) fun x hx => ?_
    simp only [List.mem_cons, List.not_mem_nil, or_false] at hx
    rcases hx with e | e <;> subst e
    · exact sv_str _ _ _
    · exact sv_lot n8 h2
  | .parts ps, ⟨t, u, us, e, h1, h2, lu, h3⟩, LO => by
    cases e
    refine sv_tup h1 (by show 2 ≤ 1000; decide) fun x hx => ?_
    simp only [List.mem_cons, List.not_mem_nil, or_false] at hx
    rcases hx with e | e <;> subst e
    · exact sv_str _ _ _
    · refine sv_tup h2 (by rw [List.length_map, lu]; exact Nat.le_trans LO.1 (by omega)) fun x hx => ?_
      obtain ⟨a, ha, rfl⟩ := List.mem_map.mp hx
      obtain ⟨k, hk, rfl⟩ := List.getElem_of_mem ha
      exact sv_lot n8 (h3 k _ _ (List.getElem?_eq_getElem hk) (List.getElem?_eq_getElem (by omega)))
  | .near _ _, ⟨t, e, h1⟩, _ => by
    cases e
    refine sv_tup h1 (by show 3 ≤ 1000; decide) fun x hx => ?_
    simp only [List.mem_cons, List.not_mem_nil, or_false] at hx
    rcases hx with e | e | e <;> subst e
    · exact sv_str _ _ _
    · exact sv_int _ _ _
    · exact sv_int _ _ _
theorem sv_lt {d : Nat} {H : Hp} {a b : Addr} {L L' : List (Addr × Nat × Nat)} (h : LtAt H a L) (h' : LtAt H b L') (e : L.map (·.2) = L'.map (·.2)) (l : L.length ≤ 1000) : SameV (d + 2) H (.ref a) (.ref b) := by
  have le : L.length = L'.length := by
    have := congrArg List.length e
    rwa [List.length_map, List.length_map] at this
  refine .inr ⟨a, b, _, _, rfl, rfl, .inl ⟨.inl h.at_, .inl h'.at_⟩, by rw [List.length_map, List.length_map, le], by rw [List.length_map]; exact l, fun k u v h1 h2 => ?_⟩
  obtain ⟨p, hp, rfl⟩ := get_mapV h1
  obtain ⟨q, hq, rfl⟩ := get_mapV h2
  have ek := congrArg (fun z => z[k]?) e
  simp only [List.getElem?_map, hp, hq, Option.map_some] at ek
  have epq : p.2 = q.2 := Option.some.inj ek
  have t1 := h.tup p (List.mem_of_getElem? hp)
  have t2 := h'.tup q (List.mem_of_getElem? hq)
  rw [← epq] at t2
  refine .inr ⟨p.1, q.1, _, _, rfl, rfl, .inr ⟨.inl t1, .inl t2⟩, rfl, (by show 2 ≤ 1000; decide), fun k u v h1 h2 => ?_⟩
  match k, h1, h2 with
  | 0, rfl, rfl => exact sv_int _ _ _
  | 1, rfl, rfl => exact sv_int _ _ _
end RL
namespace RL
open PySem PySem.Spec PyProof.Rows L2 RLM
/-- the law's mail, told: a row of lists for each of the beats 0 to 23 -/
structure TdAt (c : Addr) (H : Hp) (tl : Addr) (D : List DRw) (M : List TLk) (Ls : List (Addr × Nat × Nat)) (ts : List Addr) : Prop where
  at_ : H tl = some (.lst (ts.map V.ref))
  ne : tl ≠ c
  len : ts.length = 24
  row : ∀ (j : Nat) (t : Addr), ts[j]? = some t → t ≠ c ∧ ∃ us : List Addr, H t = some (.lst (us.map V.ref)) ∧ us.length = D.length ∧ ∀ (k : Nat) (u : Addr), us[k]? = some u → u ≠ c ∧ H u = some (.lst ((lotP M.length (HeardP D M Ls k j)).map vI))
theorem TdAt.on {c : Addr} {H H' : Hp} {tl : Addr} {D : List DRw} {M : List TLk} {Ls : List (Addr × Nat × Nat)} {ts : List Addr} (k : ∀ (a : Addr) (xs : List V), a ≠ c → H a = some (.lst xs) → H' a = some (.lst xs)) (h : TdAt c H tl D M Ls ts) : TdAt c H' tl D M Ls ts :=
  ⟨k _ _ h.ne h.at_, h.ne, h.len, fun j t e => by
    obtain ⟨n1, us, h1, h2, h3⟩ := h.row j t e
    exact ⟨n1, us, k _ _ n1 h1, h2, fun i u e => ⟨(h3 i u e).1, k _ _ (h3 i u e).1 (h3 i u e).2⟩⟩⟩
/-- what stays through a turn -/
structure Fm (K : PySem.W.Frag) (b c : Addr) (H : Hp) (t d l x lt g : Addr) (D : List DRw) (M : List TLk) (L Ls : List (Addr × Nat × Nat)) : Prop where
  bx : Box b c H
  tab : LT K H
  ht : H t = some (.tup [.ref d, .ref l])
  de : DelAt H d D
  hl : H l = some (.tup (M.map fun q => V.ref q.1))
  tk : ∀ q ∈ M, TLAt H q
  ok : looksB D.length (bk M) = true
  la : LtAt H lt L
  lc : lt ≠ c
  el : L.map (·.2) = ltrs D.length (M.map (·.2.2.1))
  gn : LtT H g Ls
  ob : ∃ dx r, H x = some (.ins (cT K) dx (tfs d r)) ∧ H r = some (.lst (M.map fun q => V.ref q.1)) ∧ r ≠ c
section
variable {K : PySem.W.Frag} {b c t d l x lt g tl pl : Addr} {D : List DRw} {M : List TLk} {L Ls : List (Addr × Nat × Nat)} {ts ps : List Addr} {H H' : Hp}
theorem Fm.tr (h : Fm K b c H t d l x lt g D M L Ls) (k : TK H H') (kl : ∀ (a : Addr) (xs : List V), a ≠ c → H a = some (.lst xs) → H' a = some (.lst xs)) (ki : ∀ (a : Addr) C dx fs, H a = some (.ins C dx fs) → H' a = some (.ins C dx fs)) (B : Box b c H') (T : LT K H') : Fm K b c H' t d l x lt g D M L Ls := by
  obtain ⟨dx, r, h1, h2, h3⟩ := h.ob
  exact ⟨B, T, k _ _ h.ht, ⟨k _ _ h.de.at_, fun q hq => ⟨k _ _ (h.de.row q hq).1, (h.de.row q hq).2⟩, h.de.ok⟩, k _ _ h.hl, fun q hq => (h.tk q hq).tk k, h.ok, ⟨kl _ _ h.lc h.la.at_, fun q hq => k _ _ (h.la.tup q hq)⟩, h.lc, h.el,
    ⟨k _ _ h.gn.1, fun q hq => k _ _ (h.gn.2 q hq)⟩, dx, r, ki _ _ _ _ h1, kl _ _ h3 h2, h3⟩
theorem Fm.same (h : Fm K b c H t d l x lt g D M L Ls) (s : Same H H') : Fm K b c H' t d l x lt g D M L Ls :=
  h.tr (tk_same s) (fun _ _ _ e => s _ _ e) (fun _ _ _ _ e => s _ _ e) (h.bx.same s) (tabs_same s h.tab)
theorem kc_ins {C : Addr} {fs : List (Str × V)} {a dx : Addr} (k : Kc c H H') (B : Box b c H) (e : H a = some (.ins C dx fs)) : H' a = some (.ins C dx fs) := k _ _ (fun z => by
    obtain ⟨ys, hc⟩ := B.lst
    rw [z, hc] at e
    cases e) (fun _ z => by cases z) e
theorem Fm.keep (h : Fm K b c H t d l x lt g D M L Ls) (k : Kc c H H') (B : Box b c H') : Fm K b c H' t d l x lt g D M L Ls :=
  h.tr (k.tk h.bx.lst) (fun _ _ n e => k _ _ n (fun _ z => by cases z) e) (fun _ _ _ _ e => kc_ins k h.bx e) B (tabs_kc k h.bx.lst h.tab)
theorem Fm.ext (h : Fm K b c H t d l x lt g D M L Ls) (e : LamX.ExtN H H') (T : LT K H') : Fm K b c H' t d l x lt g D M L Ls :=
  h.tr (fun _ _ z => ext_tup e z) (fun _ _ _ z => ext_lst e z) (fun _ _ _ _ z => e _ _ z fun _ y => by cases y) (h.bx.ext e) T
theorem Fm.ta (h : Fm K b c H t d l x lt g D M L Ls) : TalkAt K H x D M := by
  obtain ⟨dx, r, h1, h2, h3⟩ := h.ob
  exact ⟨⟨dx, d, r, h1, h.de, h2⟩, h.tk, h.ok⟩
theorem Fm.l24 (h : Fm K b c H t d l x lt g D M L Ls) : L.length ≤ 24 := by
  have e := congrArg List.length h.el
  rw [List.length_map] at e
  have h1 := ltrs_len D.length (M.map (·.2.2.1))
  rw [List.length_map] at h1
  have h2 : M.length * D.length ≤ 6 * 4 := Nat.mul_le_mul (looks_len h.ok) h.de.len.2
  omega
theorem TdAt.same (h : TdAt c H tl D M Ls ts) (s : Same H H') : TdAt c H' tl D M Ls ts := h.on fun _ _ _ e => s _ _ e
theorem TdAt.keep (h : TdAt c H tl D M Ls ts) (k : Kc c H H') : TdAt c H' tl D M Ls ts := h.on fun _ _ n e => k _ _ n (fun _ z => by cases z) e
/-- what is asked of the mail's answer -/
theorem told_of {H0 : Hp} {el ll : Addr} (B : Box b c H0) (n1 : H0 tl = none) (h1 : H tl = some (.lst (ts.map V.ref))) (lt : ts.length = 24) (et : ∀ j t, ts[j]? = some t → OutM H0 el tl ll t ∧ ToldM H0 el tl ll D M Ls H t j) : TdAt c H tl D M Ls ts :=
  ⟨h1, (B.new n1).1, lt, fun j t e => by
    obtain ⟨o, us, g1, g2, g3⟩ := et j t e
    exact ⟨(B.new o.f).1, us, g1, g2, fun k u e => ⟨(B.new (g3 k u e).1.f).1, (g3 k u e).2⟩⟩⟩
end
abbrev S41 (a b : Addr) (i : Nat) (t lt x g tl pl : Addr) (v9 v10 v11 v12 v13 v14 v15 v16 : Option V) : L2.St := [some (.ref a), some (.ref b), some (.int (0 + (i : Nat))), some (.ref t), some (.ref lt), some (.ref x), some (.ref g), some (.ref tl), some (.ref pl), v9, v10, v11, v12, v13, v14, v15, v16, none]
section
variable {P : Program} {w : World} {K : PySem.W.Frag} {mg : Str → Option Value} {base : Heap}
def spLaw (K : PySem.W.Frag) : Sp := fun vs H Q _ => ∃ (a : Addr) (ns : List Int), vs = [.ref a] ∧ SqL K H a (ns.map V.int) ∧ ns.length ≤ 63 ∧ H (He.cT K ("law", none)).2 = some (.tbl #[]) ∧ ∀ H', Q (.bl true) H'
theorem sc_law : FnScope ["_law_script", "_law_box_here", "_law_k", "_law_talk_here", "_law_letters_here", "_law_here", "_law_gone_ones", "_law_told", "_law_plain", "_law_hand", "_law_beat", "_law_again", "_law_found", "_law_far", "_law_odd", "_law_asks", "_law_due", "_law_ask"] ["_law_script"] (defScope s_law) := ⟨rfl, rfl, rfl, by decide +kernel, rfl, by decide +kernel, by decide +kernel⟩
theorem ok_law (T : Tx K mg) (TB : LamX.TabB base mg (He.cT K ("law", none)).1 (He.cT K ("law", none)).2) {fd : FuncData} (F : FnP K "law" "law" s_law [] (He.ga K "law") fd) : FnOk P w K mg base CX0 9 (He.ga K "law") fd ["_law_script"] (spLaw K) := by
  obtain ⟨⟨fd_law_box, F_law_box, b_law_box⟩, kp_law_box⟩ := ok_box (P := P) (w := w) (base := base) T
  obtain ⟨⟨fd_law_pick, F_law_pick, b_law_pick⟩, kp_law_pick⟩ := ok_pick (P := P) (w := w) (base := base) T
  obtain ⟨⟨fd_law_from, F_law_from, b_law_from⟩, kp_law_from⟩ := ok_from (P := P) (w := w) (base := base) T
  obtain ⟨⟨fd_law_talk, F_law_talk, b_law_talk⟩, kp_law_talk⟩ := ok_talk (P := P) (w := w) (base := base) T
  obtain ⟨⟨fd_law_letters, F_law_letters, b_law_letters⟩, kp_law_letters⟩ := ok_lettersL (P := P) (w := w) (base := base) T
  obtain ⟨⟨fd_law_some_lost, F_law_some_lost, b_law_some_lost⟩, kp_law_some_lost⟩ := ok_someL (P := P) (w := w) (base := base) T
  obtain ⟨⟨fd_law_mail, F_law_mail, b_law_mail⟩, kp_law_mail⟩ := ok_mail (P := P) (w := w) (base := base) T
  obtain ⟨⟨fd_law_far_number, F_law_far_number, b_law_far_number⟩, kp_law_far_number⟩ := ok_farN (P := P) (w := w) (base := base) T
  obtain ⟨⟨fd_Talk, F_Talk, b_Talk⟩, kp_Talk⟩ := ok_tinit (P := P) (w := w) (base := base) T
  obtain ⟨⟨fd_law_same, F_law_same, b_law_same⟩, kp_law_same⟩ := ok_same (P := P) (w := w) (base := base) T 3
  obtain ⟨fd_heard, F_heard, kb_heard, ds_heard, r_heard, b_heard⟩ := ok_heardD (P := P) (w := w) (base := base) T
  obtain ⟨fd_heardH, F_heardH, kb_heardH⟩ := okx_heardH (P := P) (w := w) (base := base) T
  obtain ⟨fd_heardB, F_heardB, kb_heardB⟩ := okx_heardB (P := P) (w := w) (base := base) T
  obtain ⟨fd_heardL, F_heardL, kb_heardL⟩ := okx_heardL (P := P) (w := w) (base := base) T
  have kp_refused : PySem.W.keepIn K (.ref (He.ga K "_law_refused")) = true := by
    obtain ⟨_, F'⟩ := T.d__law_refused
    exact F'.kp
  obtain ⟨oc, od, dV, kV, doc, pm, an, cdv, ct, osl, rfl, lk, hcd, _, _⟩ := F.ex
  obtain ⟨cc, rfl⟩ := He.codeIn_ref hcd
  have ecc : (He.cT K ("law", none)).1 = cc := He.codeOf_eq lk rfl
  rw [ecc] at TB
  refine fn_of lk hcd sc_law (fun vs H Q E h => ?_) (fun A outer s H vs Q E hr h => ?_)
  · obtain ⟨a, ns, rfl, _⟩ := h
    rfl
  · obtain ⟨a, ns, rfl, hS, hl, hTab, h⟩ := h
    have hr_law_box : Room 1 _ := hr.mono (by decide)
    have hr_law_pick : Room 1 _ := hr.mono (by decide)
    have hr_law_from : Room 2 _ := hr.mono (by decide)
    have hr_law_talk : Room 4 _ := hr.mono (by decide)
    have hr_law_letters : Room 1 _ := hr.mono (by decide)
    have hr_law_some_lost : Room 2 _ := hr.mono (by decide)
    have hr_law_mail : Room 1 _ := hr.mono (by decide)
    have hr_law_far_number : Room 3 _ := hr.mono (by decide)
    have hr_Talk : Room 6 _ := hr.mono (by decide)
    have hr_heard : Room 5 _ := hr.mono (by decide)
    have hr_law_same : Room 4 _ := hr.mono (by decide)
    have hr_refused : Room 8 _ := hr
    refine ⟨_, PSs.nox (pss_cons (ps_set (i := 1) sc_law.nd rfl (Or.inl rfl) (pe_call F_law_box hr_law_box rfl T.glo_law_box kp_law_box b_law_box .nil pass0 (pa_cons (pv 0) pa_nil)))
      (pss_cons (ps_for PassesOwn.never rfl (pi_range1 (by rfl) T.free_range (pa_cons pe_int pa_nil)) (pg_name (i := 2) sc_law.nd rfl (Or.inl rfl)) (pss_cons (ps_set (i := 3) sc_law.nd rfl (Or.inl rfl) (pe_call F_law_talk hr_law_talk rfl T.glo_law_talk kp_law_talk b_law_talk .nil pass0 (pa_cons (pv 1) (pa_cons (pe_op op_add pe_int (pe_call F_law_pick hr_law_pick rfl T.glo_law_pick kp_law_pick b_law_pick .nil pass0 (pa_cons (pv 1) (pa_cons pe_int pa_nil)))) (pa_cons pe_int (pa_cons pe_int pa_nil))))))
      (pss_cons (ps_set (i := 4) sc_law.nd rfl (Or.inl rfl) (pe_call F_law_letters hr_law_letters rfl T.glo_law_letters kp_law_letters b_law_letters .nil pass0 (pa_cons (pv 3) pa_nil)))
      (pss_cons (ps_asg (pe_tup (pa_cons (pe_make T.mk_Talk F_Talk hr_Talk rfl T.glo_Talk b_Talk .nil pass0 (pa_cons (pe_ix (ixT (K := K)) (pv 3) pe_int (fun _ _ => rfl)) (pa_cons (pe_ix (ixT (K := K)) (pv 3) pe_int (fun _ _ => rfl)) pa_nil))) (pa_cons (pe_call F_law_some_lost hr_law_some_lost rfl T.glo_law_some_lost kp_law_some_lost b_law_some_lost .nil pass0 (pa_cons (pv 1) (pa_cons (pv 4) pa_nil))) pa_nil))) (pgT (K := K) (n := 2) rfl (pgs_cons (pg_name (i := 5) sc_law.nd rfl (Or.inr rfl)) (pgs_cons (pg_name (i := 6) sc_law.nd rfl (Or.inl rfl)) pgs_nil))))
      (pss_cons (ps_set (i := 7) sc_law.nd rfl (Or.inl rfl) (pe_ix (ixT (K := K)) (pe_call F_law_mail hr_law_mail rfl T.glo_law_mail kp_law_mail b_law_mail .nil pass0 (pa_cons (pv 3) (pa_cons (pv 6) pa_nil))) pe_int (fun _ _ => rfl)))
      (pss_cons (ps_set (i := 8) sc_law.nd rfl (Or.inl rfl) (pe_ix (ixT (K := K)) (pe_call F_law_mail hr_law_mail rfl T.glo_law_mail kp_law_mail b_law_mail .nil pass0 (pa_cons (pv 3) (pa_cons (pe_tup pa_nil) pa_nil))) pe_int (fun _ _ => rfl)))
      (pss_cons (ps_for PassesOwn.never rfl (pi_range1 (by rfl) T.free_range (pa_cons (pe_callB (lenK (K := K)) (by rfl) T.free_len (by decide +kernel) (pa_cons (pe_ix (ixT (K := K)) (pv 3) pe_int (fun _ _ => rfl)) pa_nil)) pa_nil)) (pg_name (i := 9) sc_law.nd rfl (Or.inl rfl)) (pss_one (ps_for PassesOwn.never rfl (piT (K := K) (pe_tup (pa_cons pe_int (pa_cons pe_int (pa_cons pe_int (pa_cons (pe_op op_pow pe_int pe_int) (pa_cons (pe_call F_law_pick hr_law_pick rfl T.glo_law_pick kp_law_pick b_law_pick .nil pass0 (pa_cons (pv 1) (pa_cons pe_int pa_nil))) (pa_cons (pe_call F_law_pick hr_law_pick rfl T.glo_law_pick kp_law_pick b_law_pick .nil pass0 (pa_cons (pv 1) (pa_cons pe_int pa_nil))) pa_nil)))))))) (pg_name (i := 10) sc_law.nd rfl (Or.inl rfl)) (pss_one (ps_for PassesOwn.never rfl (pi_range1 (by rfl) T.free_range (pa_cons pe_int pa_nil)) (pg_name (i := 11) sc_law.nd rfl (Or.inl rfl)) (pss_cons (ps_set (i := 12) sc_law.nd rfl (Or.inl rfl) (pe_lst (pa_cons (pe_methN (pv 5) T.cl_Talk T.m_Talk_heard F_heard hr_heard kb_heard pass0 (pa_cons (pv 9) (pa_cons (pv 10) pa_nil)) (pk_cons (pv 6) pk_nil)) (pa_cons (pe_meth (pv 5) T.cl_Talk T.m_Talk_heard F_heard hr_heard b_heard r_heard pass0 (pa_cons (pv 9) (pa_cons (pv 10) pa_nil))) pa_nil))))
      (pss_cons (ps_if (pt_not (pt_val (pe_call F_law_same hr_law_same rfl T.glo_law_same kp_law_same b_law_same .nil pass0 (pa_cons (pv 12) (pa_cons (pe_lst (pa_cons (pe_ix (ixL (K := K)) (pe_ix (ixL (K := K)) (pv 7) (pe_callB (call_min2 rfl) (by rfl) T.free_min (by decide +kernel) (pa_cons (pv 10) (pa_cons pe_int pa_nil))) (fun _ _ => rfl)) (pv 9) (fun _ _ => rfl)) (pa_cons (pe_ix (ixL (K := K)) (pe_ix (ixL (K := K)) (pv 8) (pe_callB (call_min2 rfl) (by rfl) T.free_min (by decide +kernel) (pa_cons (pv 10) (pa_cons pe_int pa_nil))) (fun _ _ => rfl)) (pv 9) (fun _ _ => rfl)) pa_nil))) pa_nil))))) (pss_one (ps_ret pe_bl)) pss_nil)
      (pss_one (ps_expr (bmK (K := K) PySem.F.plainAttrs_list PySem.F.slot_list_append PySem.F.type_list_append mt_append (pe_ix (ixL (K := K)) (pv 12) pe_int (fun _ _ => rfl)) (pa_cons pe_int pa_nil)))))))))))
      (pss_cons (ps_asg (pe_tup (pa_cons (pe_call F_law_far_number hr_law_far_number rfl T.glo_law_far_number kp_law_far_number b_law_far_number .nil pass0 (pa_cons (pv 1) (pa_cons pe_int (pa_cons (pe_op op_sub (pe_callB (lenK (K := K)) (by rfl) T.free_len (by decide +kernel) (pa_cons (pe_ix (ixT (K := K)) (pv 3) pe_int (fun _ _ => rfl)) pa_nil)) pe_int) pa_nil)))) (pa_cons (pe_call F_law_from hr_law_from rfl T.glo_law_from kp_law_from b_law_from .nil pass0 (pa_cons (pv 1) (pa_cons (pe_lst (pa_cons (pe_tup (pa_cons (pe_tup (pa_cons pe_int (pa_cons pe_int pa_nil))) pa_nil)) (pa_cons (pe_tup (pa_cons (pe_tup (pa_cons (pe_op op_sub pe_int pe_int) (pa_cons pe_int pa_nil))) pa_nil)) pa_nil))) pa_nil))) pa_nil))) (pgT (K := K) (n := 2) rfl (pgs_cons (pg_name (i := 13) sc_law.nd rfl (Or.inr rfl)) (pgs_cons (pg_name (i := 14) sc_law.nd rfl (Or.inr rfl)) pgs_nil))))
      (C8.pss_cut (ps_if (pt_cmpR op_gt (pe_callB (lenK (K := K)) (by rfl) T.free_len (by decide +kernel) (pa_cons (pv 4) pa_nil)) pe_int (nomark _)) (pss_one (ps_set (i := 14) sc_law.nd rfl (Or.inr rfl) (pe_call F_law_from hr_law_from rfl T.glo_law_from kp_law_from b_law_from .nil pass0 (pa_cons (pv 1) (pa_cons (pe_lst (pa_cons (pv 14) (pa_cons (pe_tup (pa_cons (pe_ix (ixL (K := K)) (pv 4) pe_int (fun _ _ => rfl)) (pa_cons (pe_ix (ixL (K := K)) (pv 4) pe_int (fun _ _ => rfl)) pa_nil))) (pa_cons (pe_tup (pa_cons (pe_ix (ixL (K := K)) (pv 4) pe_int (fun _ _ => rfl)) (pa_cons (pe_ix (ixL (K := K)) (pv 4) pe_int (fun _ _ => rfl)) pa_nil))) pa_nil)))) pa_nil))))) pss_nil)
      (pss_cons (ps_set (i := 15) sc_law.nd rfl (Or.inl rfl) (pe_lst (pa_cons (RLX.pe_lam0 (T := [((He.cT K ("law", none)).2, "law.<locals>.<lambda>")]) (kb := 5) TB rfl List.mem_cons_self (fun p hp _ => by rw [List.mem_singleton.mp hp]; rfl) (RLX.lamP_by (by kernel_rfl)) rfl (fun _ _ _ _ _ _ => rfl) (fun A outer s H E f c' hr2 => (pe_methN (pv 5) T.cl_Talk T.m_Talk_heard F_heardH (hr2.mono (by decide)) kb_heardH (L2N.passes_call RLX.lam_takes (fun _ _ _ _ h => h)) (pa_cons (pv 13) (pa_cons (pe_op op_sub pe_int pe_int) pa_nil)) (pk_cons (pv 14) pk_nil)))) (pa_cons (RLX.pe_lam1 (T := [((He.cT K ("law", none)).2, "law.<locals>.<lambda>")]) (kb := 5) (x := "_law_a") TB rfl List.mem_cons_self (fun p hp _ => by rw [List.mem_singleton.mp hp]; rfl) (RLX.lamP_by (by kernel_rfl)) rfl rfl pe_int (by kernel_rfl) (fun _ _ _ _ _ _ _ => ⟨_, rfl, fun _ => rfl⟩) (fun A outer s H E f c' hr2 => (pe_methN (pv 5) T.cl_Talk T.m_Talk_heard F_heardB (hr2.mono (by decide)) kb_heardB (L2N.passes_call RLX.lam_takes (fun _ _ _ _ h => h)) (pa_cons pe_int (pa_cons (pe_op op_sub pe_int pe_int) pa_nil)) (pk_cons (pv 14) pk_nil)))) pa_nil))))
      (pss_cons (ps_expr (bmK (K := K) PySem.F.plainAttrs_list PySem.F.slot_list_append PySem.F.type_list_append mt_append (pv 15) (pa_cons (RLX.pe_lam0 (T := [((He.cT K ("law", none)).2, "law.<locals>.<lambda>")]) (kb := 5) TB rfl List.mem_cons_self (fun p hp _ => by rw [List.mem_singleton.mp hp]; rfl) (RLX.lamP_by (by kernel_rfl)) rfl (fun _ _ _ _ _ _ => rfl) (fun A outer s H E f c' hr2 => (pe_methN (pv 5) T.cl_Talk T.m_Talk_heard F_heardL (hr2.mono (by decide)) kb_heardL (L2N.passes_call RLX.lam_takes (fun _ _ _ _ h => h)) (pa_cons pe_int (pa_cons pe_int pa_nil)) (pk_cons (pv 14) pk_nil)))) pa_nil)))
      (pss_cons (ps_set (i := 16) sc_law.nd rfl (Or.inl rfl) (pe_lst (pa_cons (pe_tup (pa_cons pe_str (pa_cons (pv 13) pa_nil))) (pa_cons (pe_tup (pa_cons pe_str (pa_cons (pe_op op_sub pe_int pe_int) pa_nil))) (pa_cons (pe_tup (pa_cons pe_str (pa_cons pe_non pa_nil))) pa_nil)))))
      (pss_one (ps_if (pt_not (pt_val (pe_call F_law_same hr_law_same rfl T.glo_law_same kp_law_same b_law_same .nil pass0 (pa_cons (RLX.pe_lcA (own := [("_law_ask", 17)]) (g := gName 17) rfl sc_law.nd (piL (K := K) (pv 15)) (blkOk_by (by kernel_rfl)) (fun _ _ _ _ _ => (pg_name (i := 17) sc_law.nd rfl (Or.inl rfl))) (fun pins σ u G C cl fp I fo => (RLX.pe_askB (kb := 5) (kl := 6) I fo (okl_refused (P := P) (w := w) (base := base) (mg := mg) (K := K) T) (by decide) hr_refused rfl T.glo_law_refused kp_refused (pv 17)))) (pa_cons (pv 16) pa_nil))))) (pss_one (ps_ret pe_bl)) pss_nil))))))))))))))
      (pss_one (ps_ret pe_bl)))), ?_⟩
    have hT0 : LT K H := fun q hq => by
      rw [List.mem_singleton.mp hq]
      exact LamX.TabS.nil hTab
    refine ⟨_, rfl, a, ns, rfl, hS, hl, fun H1 b c s1 B1 => ?_⟩
    refine ⟨4, rfl, by decide, by decide, for_range (lo := 0) (n := 4) (fun i σ H2 => (∃ (v2 v3 v4 v5 v6 v7 v8 v9 v10 v11 v12 v13 v14 v15 v16 : Option V), σ = [some (.ref a), some (.ref b), v2, v3, v4, v5, v6, v7, v8, v9, v10, v11, v12, v13, v14, v15, v16, none]) ∧ Box b c H2 ∧ LT K H2)
      ⟨⟨none, none, none, none, none, none, none, none, none, none, none, none, none, none, none, rfl⟩, B1, tabs_same s1 hT0⟩ ?_ (fun σ H2 _ => h H2)⟩
    rintro i σ H2 hi ⟨⟨v2, v3, v4, v5, v6, v7, v8, v9, v10, v11, v12, v13, v14, v15, v16, rfl⟩, B2, T2⟩
    refine ⟨_, rfl, _, rfl, b, c, _, rfl, B2, by decide, by decide, fun H3 j k3 B3 j0 j1 => ?_⟩
    obtain ⟨j, rfl⟩ : ∃ jn : Nat, j = (jn : Int) := ⟨j.toNat, by omega⟩
    refine ⟨_, _, rfl, rfl, b, c, 1 + j, 12, 6, rfl, B3, by omega, by omega, by decide, by decide, fun H4 t d l D M k4 B4 ht de hl4 tk ok lk' lM => ?_⟩
    have k24 := k3.trans k4
    have T4 := tabs_kc k24 B2.lst T2
    have l4 := de.len
    have l6 : M.length ≤ 6 := looks_len ok
    refine ⟨_, rfl, t, d, l, D, M, rfl, ht, de.at_, hl4, tk, l4.2, l6, fun H5 lt L LA eL s5 nlt => ?_⟩
    have B5 := B4.same s5
    have ltc := (B4.new nlt).1
    have ht5 := s5 _ _ ht
    refine ⟨_, rfl, t, _, 0, _, rfl, rfl, SqT.of ht5, rfl, _, rfl, t, _, 1, _, rfl, rfl, SqT.of ht5, rfl, fun x dx hx hdx ne => ?_⟩
    refine ⟨H5, x, dx, d, l, D, M, rfl, fun q o e => ?_, hx, upd_same, de.same s5, s5 _ _ hl4, fun q hq => (tk q hq).same s5, ok, fun H7 r hx7 de7 hr7 tl7 rn s7 => ⟨rfl, ?_⟩⟩
    · rw [upd_ne (ne_of_none e hx), upd_ne (ne_of_none e hdx)]
      exact e
    have s57 := s5.trans s7
    have rc := (B5.new rn).1
    have L24 : L.length ≤ 24 := by
      have e := congrArg List.length eL
      rw [List.length_map] at e
      have h1 := ltrs_len D.length (M.map (·.2.2.1))
      rw [List.length_map] at h1
      have h2 : M.length * D.length ≤ 6 * 4 := Nat.mul_le_mul l6 l4.2
      omega
    refine ⟨_, rfl, _, rfl, b, c, lt, L, rfl, B5.same s7, LA.same s7, ltc, L24, fun H8 g Ls hg8 sb k8 B8 => ?_⟩
    have B7 := B5.same s7
    have k8t : ∀ {a : Addr} {xs : List V}, H7 a = some (.tup xs) → H8 a = some (.tup xs) := fun {a xs} e => k8.tup B7.lst e
    have loLs : LostOk D M Ls := lost_of eL sb
    have lLs : Ls.length ≤ 24 := Nat.le_trans sb.length_le L24
    have f8 : Fm K b c H8 t d l x lt g D M L Ls := ⟨B8, tabs_kc k8 B7.lst (tabs_same s57 T4), k8t (s57 _ _ ht), ⟨k8t de7.at_, fun q hq => ⟨k8t (de7.row q hq).1, (de7.row q hq).2⟩, de7.ok⟩, k8t (s57 _ _ hl4), fun q hq => (tl7 q hq).tk fun _ _ e => k8t e, ok, ⟨k8 _ _ ltc (fun _ z => by cases z) (s7 _ _ LA.at_), fun q hq => k8t (s7 _ _ (LA.tup q hq))⟩, ltc, eL, hg8, dx, r, kc_ins k8 B7 hx7, k8 _ _ rc (fun _ z => by cases z) hr7, rc⟩
    refine ⟨(by show 2 ≤ sizeLine; decide), fun pt hpt => ?_⟩
    have s9 := same_upd (o := HO.tup [V.ref x, V.ref g]) hpt
    have h9 : (upd H8 pt (.tup [V.ref x, V.ref g])) pt = some (.tup [V.ref x, V.ref g]) := upd_same
    generalize upd H8 pt (.tup [V.ref x, V.ref g]) = H9 at s9 h9
    have f9 := f8.same s9
    clear f8 k8t k8 B7 B8 hg8 sb s9 hpt L24 rc s57 hx7 de7 hr7 tl7 rn s7 ne hdx hx ht5 ltc B5 nlt s5 eL LA lM lk' tk hl4 de ht k4 k3 k24 T4 B3 B4 T2 B2
    refine ⟨pt, _, rfl, SqT.of h9, rfl, _, _, rfl, _, _, rfl, rfl, ?_⟩
    refine ⟨_, rfl, _, rfl, t, g, d, l, D, M, Ls, rfl, f9.ht, f9.de, f9.hl, f9.tk, f9.ok, f9.gn, fun H10 r1 x1 el1 tl ll1 ts hr1 nt ht1 lts ets s10 => ?_⟩
    have td10 := told_of f9.bx nt ht1 lts ets
    have f10 := f9.same s10
    refine ⟨r1, _, 0, _, rfl, rfl, SqT.of hr1, rfl, ?_⟩
    refine ⟨_, rfl, (by show 0 ≤ sizeLine; decide), fun u0 hu0 => ?_⟩
    have s11 := same_upd (o := HO.tup []) hu0
    have g11 : LtT (upd H10 u0 (.tup [])) u0 [] := ⟨upd_same, fun q hq => nomatch hq⟩
    generalize upd H10 u0 (.tup []) = H11 at s11 g11
    have f11 := f10.same s11
    refine ⟨t, u0, d, l, D, M, [], rfl, f11.ht, f11.de, f11.hl, f11.tk, f11.ok, g11, fun H12 r2 x2 el2 pl ll2 ps hr2 np hp lps eps s12 => ?_⟩
    have pd12 := told_of f11.bx np hp lps eps
    have td12 := td10.same (s11.trans s12)
    have f12 := f11.same s12
    clear f11 f10 f9 td10 g11 s11 s12 s10 hu0 hr1 nt ht1 lts ets np hp lps eps h9
    refine ⟨r2, _, 0, _, rfl, rfl, SqT.of hr2, rfl, ?_⟩
    have ln : (D.map fun q => V.ref q.1).length = D.length := List.length_map ..
    refine ⟨_, rfl, t, _, 0, _, rfl, rfl, SqT.of f12.ht, rfl, d, _, rfl, .inr (SqT.of f12.de.at_), (((D.map fun q => V.ref q.1).length : Nat) : Int), rfl, by rw [ln]; omega, by rw [ln]; omega, ?_⟩
    rw [Int.toNat_natCast, ln]
    refine for_range (lo := 0) (n := D.length) (fun k σ H2 => (∃ (v9 v10 v11 v12 : Option V), σ = S41 a b i t lt x g tl pl v9 v10 v11 v12 v13 v14 v15 v16) ∧ Fm K b c H2 t d l x lt g D M L Ls ∧ TdAt c H2 tl D M Ls ts ∧ TdAt c H2 pl D M [] ps)
      ⟨⟨_, _, _, _, rfl⟩, f12, td12, pd12⟩ ?_ ?_
    · clear f12 td12 pd12 hr2
      rintro k σ H12 hk ⟨⟨v9', v10', v11', v12', rfl⟩, f12, td12, pd12⟩
      refine ⟨_, _, rfl, rfl, ⟨by decide, by decide, by decide⟩, _, rfl, b, c, _, rfl, f12.bx, by decide, by decide, fun H13 p1 k13 B13 p10 p11 => ?_⟩
      refine ⟨_, rfl, b, c, _, rfl, B13, by decide, by decide, fun H14 p2 k14 B14 p20 p21 => ?_⟩
      have k1214 := k13.trans k14
      have f14 := f12.keep k1214 B14
      have td14 := td12.keep k1214
      have pd14 := pd12.keep k1214
      clear f12 td12 pd12 k13 k14 k1214 B13 B14
      refine ⟨(by show 6 ≤ sizeLine; decide), fun bt hbt => ?_⟩
      have s15 := same_upd (o := HO.tup [V.int 0, V.int 12, V.int 21, V.int (10 ^ (8 : Int).toNat), V.int p1, V.int p2]) hbt
      have h15 : (upd H14 bt (.tup [V.int 0, V.int 12, V.int 21, V.int (10 ^ (8 : Int).toNat), V.int p1, V.int p2])) bt = some (.tup [V.int 0, V.int 12, V.int 21, V.int (10 ^ (8 : Int).toNat), V.int p1, V.int p2]) := upd_same
      generalize upd H14 bt (.tup [V.int 0, V.int 12, V.int 21, V.int (10 ^ (8 : Int).toNat), V.int p1, V.int p2]) = H15 at s15 h15
      have f15 := f14.same s15
      have td15 := td14.same s15
      have pd15 := pd14.same s15
      clear f14 td14 pd14 s15 hbt
      refine ⟨bt, rfl, ⟨_, SqT.of h15⟩, for_it (walk_tup (K := K) (a := bt) (xs := [V.int 0, V.int 12, V.int 21, V.int (10 ^ (8 : Int).toNat), V.int p1, V.int p2])) (fun q σ H2 => (∃ (v10 v11 v12 : Option V), σ = S41 a b i t lt x g tl pl (some (.int (0 + (k : Nat)))) v10 v11 v12 v13 v14 v15 v16) ∧ Same H15 H2)
        ⟨⟨_, _, _, rfl⟩, fun _ _ e => e⟩ (fun q σ H2 _ z => SqT.of (z.2 _ _ h15)) ?_ ?_⟩
      · rintro q y σ H16' H16 hq ⟨⟨v10', v11', v12', rfl⟩, s16⟩ ⟨rfl, hy⟩
        obtain ⟨z, rfl, z0⟩ : ∃ z : Int, y = .int z ∧ 0 ≤ z := by
          match q, hy with
          | 0, rfl => exact ⟨_, rfl, by decide⟩
          | 1, rfl => exact ⟨_, rfl, by decide⟩
          | 2, rfl => exact ⟨_, rfl, by decide⟩
          | 3, rfl => exact ⟨_, rfl, by decide⟩
          | 4, rfl => exact ⟨_, rfl, p10⟩
          | 5, rfl => exact ⟨_, rfl, p20⟩
        obtain ⟨zn, rfl⟩ : ∃ zn : Nat, z = (zn : Int) := ⟨z.toNat, by omega⟩
        clear hy hq
        refine ⟨2, rfl, by decide, by decide, for_range (lo := 0) (n := 2) (fun q2 σ H2 => (∃ (v11 v12 : Option V), σ = S41 a b i t lt x g tl pl (some (.int (0 + (k : Nat)))) (some (.int (zn : Int))) v11 v12 v13 v14 v15 v16) ∧ Same H15 H2)
          ⟨⟨_, _, rfl⟩, s16⟩ ?_ ?_⟩
        · clear s16 H16
          rintro q2 σ H16 hq2 ⟨⟨v11', v12', rfl⟩, s16⟩
          have f16 := f15.same s16
          have td16 := td15.same s16
          have pd16 := pd15.same s16
          have ta16 := f16.ta
          obtain ⟨dx, r, hx16, _, _⟩ := f16.ob
          have ek : V.int (0 + (k : Int)) = vI k := by rw [Int.zero_add]; rfl
          refine ⟨_, rfl, x, dx, _, rfl, hx16, tf_heard _ _, _, rfl, _, rfl, _, rfl, rfl, rfl, x, g, D, M, Ls, k, (zn : Int), by rw [ek]; rfl, ta16, f16.gn.s, lLs, loLs, hk, z0, fun H17 e1 ne1 he1 s17 => ?_⟩
          refine ⟨_, rfl, x, dx, _, rfl, s17 _ _ hx16, tf_heard _ _, _, rfl, _, rfl, x, _, D, M, [], k, (zn : Int), by rw [ek]; rfl, ta16.same s17, ⟨T.kwd_heard _, fun q hq => nomatch hq⟩, Nat.zero_le _, ⟨fun q hq => (nomatch hq), List.Pairwise.nil⟩, hk, z0, fun H18 e2 ne2 he2 s18 => ?_⟩
          refine ⟨(by show 2 ≤ sizeLine; decide), fun fo hfo => ?_⟩
          have s19 := same_upd (o := HO.lst [V.ref e1, V.ref e2]) hfo
          have h19 : (upd H18 fo (.lst [V.ref e1, V.ref e2])) fo = some (.lst [V.ref e1, V.ref e2]) := upd_same
          generalize upd H18 fo (.lst [V.ref e1, V.ref e2]) = H19 at s19 h19
          have s1619 := s17.trans (s18.trans s19)
          obtain ⟨mz, em, ml, mc⟩ : ∃ mz : Nat, (if (23 : Int) < (zn : Int) then (23 : Int) else (zn : Int)) = (mz : Int) ∧ mz < 24 ∧ (mz = zn ∨ (mz = 23 ∧ 23 < zn)) := by
            by_cases c1 : 23 < zn
            · exact ⟨23, by rw [if_pos (by omega)]; rfl, by omega, .inr ⟨rfl, c1⟩⟩
            · exact ⟨zn, by rw [if_neg (by omega)], by omega, .inl rfl⟩
          have eH : ∀ Ls, lotP M.length (HeardP D M Ls k (mz : Int)) = lotP M.length (HeardP D M Ls k (zn : Int)) := fun Ls => by
            rcases mc with e | ⟨e1, e2⟩
            · rw [e]
            · exact lotP_congr fun a _ => heard_last f16.de.ok f16.ok (by omega) (by omega)
          have f19 := f16.same s1619
          have td19 := td16.same s1619
          have pd19 := pd16.same s1619
          have tl1 : mz < ts.length := by rw [td19.len]; exact ml
          have htj : ts[mz]? = some (ts[mz]'tl1) := List.getElem?_eq_getElem tl1
          generalize ts[mz]'tl1 = tj at htj
          obtain ⟨_, us, htj19, lus, rus⟩ := td19.row mz tj htj
          have ul1 : k < us.length := by rw [lus]; exact hk
          have huk : us[k]? = some (us[k]'ul1) := List.getElem?_eq_getElem ul1
          generalize us[k]'ul1 = uk at huk
          have huk19 := (rus k uk huk).2
          have pl1 : mz < ps.length := by rw [pd19.len]; exact ml
          have hpj : ps[mz]? = some (ps[mz]'pl1) := List.getElem?_eq_getElem pl1
          generalize ps[mz]'pl1 = pj at hpj
          obtain ⟨_, us2, hpj19, lus2, rus2⟩ := pd19.row mz pj hpj
          have ul2 : k < us2.length := by rw [lus2]; exact hk
          have hwk : us2[k]? = some (us2[k]'ul2) := List.getElem?_eq_getElem ul2
          generalize us2[k]'ul2 = wk at hwk
          have hwk19 := (rus2 k wk hwk).2
          rw [eH] at huk19 hwk19
          refine ⟨_, rfl, _, rfl, _, rfl, _, _, rfl, tl, _, _, _, rfl, rfl, SqL.of td19.at_, by rw [em]; exact atI_nat (get_map htj), _, rfl, tj, _, _, _, rfl, rfl, SqL.of htj19, at0 (get_map huk), _, rfl, _, rfl, _, _, rfl, pl, _, _, _, rfl, rfl, SqL.of pd19.at_, by rw [em]; exact atI_nat (get_map hpj), _, rfl, pj, _, _, _, rfl, rfl, SqL.of hpj19, at0 (get_map hwk), (by show 2 ≤ sizeLine; decide), fun du hdu => ?_⟩
          have s20 := same_upd (o := HO.lst [V.ref uk, V.ref wk]) hdu
          have h20 : (upd H19 du (.lst [V.ref uk, V.ref wk])) du = some (.lst [V.ref uk, V.ref wk]) := upd_same
          generalize upd H19 du (.lst [V.ref uk, V.ref wk]) = H20 at s20 h20
          have he1' := (s18.trans (s19.trans s20)) _ _ he1
          have he2' := (s19.trans s20) _ _ he2
          have num : ∀ (p : Nat → Prop) (v : V), v ∈ (lotP M.length p).map vI → SameV 0 H20 v v := fun p v hv => by
            obtain ⟨i, _, rfl⟩ := List.mem_map.mp hv
            exact sv_int _ _ _
          refine ⟨_, _, rfl, ?_, fun H21 s21 => ⟨_, rfl, iteF ?_⟩⟩
          · refine .inr ⟨fo, du, _, _, rfl, rfl, .inl ⟨.inl (s20 _ _ h19), .inl h20⟩, rfl, (by show 2 ≤ 1000; decide), fun j u' v' g1 g2 => ?_⟩
            match j, g1, g2 with
            | 0, rfl, rfl => exact sv_lst he1' (s20 _ _ huk19) (by rw [List.length_map]; exact Nat.le_trans (lotP_len _ _) (by omega)) (num _)
            | 1, rfl, rfl => exact sv_lst he2' (s20 _ _ hwk19) (by rw [List.length_map]; exact Nat.le_trans (lotP_len _ _) (by omega)) (num _)
          have he1s := s21 _ _ he1'
          refine ⟨_, rfl, fo, _, 0, _, rfl, rfl, SqL.of ((s20.trans s21) _ _ h19), rfl, .inl ⟨rfl, _, SqL.of he1s⟩, e1, _, _, rfl, rfl, he1s, by rw [List.length_map]; exact Nat.lt_of_le_of_lt (lotP_len _ _) (Nat.lt_of_le_of_lt l6 (by decide)), ⟨_, _, rfl⟩, ?_⟩
          exact same_mut (s16.trans (s1619.trans (s20.trans s21))) (none_back s16 ne1)
        · rintro σ H17 ⟨⟨v11', v12', rfl⟩, s17⟩
          exact ⟨⟨_, _, _, rfl⟩, s17⟩
      · rintro σ H16 ⟨⟨v10', v11', v12', rfl⟩, s16⟩
        exact ⟨⟨_, _, _, _, rfl⟩, f15.same s16, td15.same s16, pd15.same s16⟩
    · clear f12 td12 pd12 hr2
      rintro σ H12 ⟨⟨v9', v10', v11', v12', rfl⟩, f12, td12, pd12⟩
      have l24 := f12.l24
      refine ⟨_, rfl, _, rfl, t, _, 0, _, rfl, rfl, SqT.of f12.ht, rfl, d, _, rfl, .inr (SqT.of f12.de.at_), ?_⟩
      rw [ln]
      refine ⟨_, _, rfl, rfl, b, c, 0, _, rfl, f12.bx, by decide, by decide, by omega, fun H13 zf k13 B13 of => ?_⟩
      have f13 := f12.keep k13 B13
      refine ⟨_, rfl, (by show 2 ≤ sizeLine; decide), fun i1 hi1 => ⟨(by show 1 ≤ sizeLine; decide), fun o1 ho1 => ⟨_, _, rfl, rfl, (by show 2 ≤ sizeLine; decide), fun i2 hi2 => ⟨(by show 1 ≤ sizeLine; decide), fun o2 ho2 => ⟨(by show 2 ≤ sizeLine; decide), fun m1 hm1 => ?_⟩⟩⟩⟩⟩
      have t1 := same_upd (o := HO.tup [V.int 9, V.int 0]) hi1
      have t2 := same_upd (o := HO.tup [V.ref i1]) ho1
      have t3 := same_upd (o := HO.tup [V.int (0 - 1), V.int 0]) hi2
      have t4 := same_upd (o := HO.tup [V.ref i2]) ho2
      have t5 := same_upd (o := HO.lst [V.ref o1, V.ref o2]) hm1
      have t25 := t2.trans (t3.trans (t4.trans t5))
      have t15 := t1.trans t25
      have q1 := t25 _ _ (upd_same (H := H13) (a := i1) (o := HO.tup [V.int 9, V.int 0]))
      have q2 := (t3.trans (t4.trans t5)) _ _ (upd_same (a := o1) (o := HO.tup [V.ref i1]))
      have q3 := (t4.trans t5) _ _ (upd_same (a := i2) (o := HO.tup [V.int (0 - 1), V.int 0]))
      have q4 := t5 _ _ (upd_same (a := o2) (o := HO.tup [V.ref i2]))
      refine ⟨b, c, m1, _, rfl, f13.bx.same t15, upd_same, ((f13.bx.same (t1.trans (t2.trans (t3.trans t4)))).new hm1).1, (by show 1 ≤ 2; decide), (by show 2 ≤ 1000; decide), fun H19 v k19 B19 hv => ?_⟩
      have f18 := f13.same t15
      have f19 := f18.keep k19 B19
      have nol : ∀ {p : Nat × Nat} {z : Int}, p ∈ ltrs D.length (M.map (·.2.2.1)) → (z < 0 ∨ 6 < z) → zPair p ≠ [z, 0] := fun {p z} hp hz e => by
        obtain ⟨m1, _, _⟩ := ltrs_mem hp
        rw [List.length_map] at m1
        unfold zPair at e
        injection e with e _
        omega
      obtain ⟨od, rfl, bad19⟩ : ∃ od : Addr, v = .ref od ∧ BadLs K H19 od D M := by
        simp only [List.mem_cons, List.not_mem_nil, or_false] at hv
        rcases hv with e | e <;> subst e
        · exact ⟨o1, rfl, .inl ⟨i1, 9, 0, k19.tup f18.bx.lst q2, k19.tup f18.bx.lst q1, fun p hp => nol hp (by decide)⟩⟩
        · exact ⟨o2, rfl, .inl ⟨i2, 0 - 1, 0, k19.tup f18.bx.lst q4, k19.tup f18.bx.lst q3, fun p hp => nol hp (by decide)⟩⟩
      clear t1 t2 t3 t4 t5 t25 t15 q1 q2 q3 q4 hm1 ho1 ho2 hi1 hi2 f18 k19 B19 hv f13 k13 B13 f12 nol
      refine ⟨(by show 2 ≤ sizeLine; decide), fun pt hpt => ⟨pt, _, rfl, SqT.of upd_same, rfl, _, _, rfl, _, _, rfl, rfl, ?_⟩⟩
      have s20 := same_upd (o := HO.tup [V.int zf, V.ref od]) hpt
      have f20 := f19.same s20
      have bad20 := bad19.tk fun _ _ e => s20 _ _ e
      clear f19 bad19 s20
      generalize upd H19 pt (.tup [V.int zf, V.ref od]) = H20' at f20 bad20
      refine ⟨fun σ H' => ∃ od : Addr, σ = S41 a b i t lt x g tl pl v9' v10' v11' v12' (some (.int zf)) (some (.ref od)) v15 v16 ∧ Fm K b c H' t d l x lt g D M L Ls ∧ BadLs K H' od D M, ?_, ?_⟩
      · refine ⟨_, rfl, lt, _, rfl, .inl (SqL.of f20.la.at_), _, _, rfl, rfl, _, rfl, ?_⟩
        by_cases c1 : 1 < L.length
        · rw [decide_eq_true (by rw [List.length_map]; omega)]
          refine iteT ?_
          have hq0 : L[0]? = some L[0] := List.getElem?_eq_getElem (by omega)
          have hq1 : L[1]? = some L[1] := List.getElem?_eq_getElem c1
          generalize L[0] = q0 at hq0
          generalize L[1] = q1 at hq1
          have srt : lexLt q0.2 q1.2 := by
            have h1 : (L.map (·.2)).Pairwise lexLt := by rw [f20.el]; exact ltrs_sorted _ _
            have h2 := List.pairwise_iff_getElem.mp h1 0 1 (by rw [List.length_map]; omega) (by rw [List.length_map]; exact c1) (by decide)
            rw [List.getElem_map, List.getElem_map] at h2
            have e0 := (List.getElem?_eq_some_iff.mp hq0).2
            have e1 := (List.getElem?_eq_some_iff.mp hq1).2
            rw [e0, e1] at h2
            exact h2
          have mem : ∀ q ∈ L, q.2 ∈ ltrs D.length (M.map (·.2.2.1)) := fun q hq => f20.el ▸ List.mem_map.mpr ⟨q, hq, rfl⟩
          have w0 : ∀ {H' : Hp}, Fm K b c H' t d l x lt g D M L Ls → atI (L.map fun q => V.ref q.1) (0 : Int) = some (V.ref q0.1) := fun {H'} _ => (show atI _ ((0 : Nat) : Int) = _ from atI_nat (get_map hq0))
          have w1 : atI (L.map fun q => V.ref q.1) (1 : Int) = some (V.ref q1.1) := (show atI _ ((1 : Nat) : Int) = _ from atI_nat (get_map hq1))
          have w0 := w0 f20
          refine ⟨_, rfl, _, rfl, _, rfl, lt, _, 1, _, rfl, rfl, SqL.of f20.la.at_, w1, _, rfl, lt, _, 0, _, rfl, rfl, SqL.of f20.la.at_, w0, (by show 2 ≤ sizeLine; decide), fun u1 hu1 => ?_⟩
          have s21 := same_upd (o := HO.tup [V.ref q1.1, V.ref q0.1]) hu1
          have h21 : (upd H20' u1 (.tup [V.ref q1.1, V.ref q0.1])) u1 = some (.tup [V.ref q1.1, V.ref q0.1]) := upd_same
          have f21 := f20.same s21
          refine ⟨_, rfl, lt, _, 0, _, rfl, rfl, SqL.of f21.la.at_, w0, _, rfl, lt, _, 0, _, rfl, rfl, SqL.of f21.la.at_, w0, (by show 2 ≤ sizeLine; decide), fun u2 hu2 => ⟨(by show 3 ≤ sizeLine; decide), fun m2 hm2 => ?_⟩⟩
          have s22 := same_upd (o := HO.tup [V.ref q0.1, V.ref q0.1]) hu2
          have s23 := same_upd (o := HO.lst [V.ref od, V.ref u1, V.ref u2]) hm2
          have h22 := s23 _ _ (upd_same (a := u2) (o := HO.tup [V.ref q0.1, V.ref q0.1]))
          have h21' := (s22.trans s23) _ _ h21
          have f23 := f21.same (s22.trans s23)
          refine ⟨b, c, m2, _, rfl, f23.bx, upd_same, ((f21.same s22).bx.new hm2).1, (by show 1 ≤ 3; decide), (by show 3 ≤ 1000; decide), fun H26 v k26 B26 hv => ?_⟩
          have f26 := f23.keep k26 B26
          have k26t := fun {a : Addr} {xs : List V} (e : _ = some (HO.tup xs)) => k26.tup (a := a) f23.bx.lst e
          have mq0 := List.mem_of_getElem? hq0
          have mq1 := List.mem_of_getElem? hq1
          simp only [List.mem_cons, List.not_mem_nil, or_false] at hv
          rcases hv with e | e | e <;> subst e
          · exact ⟨od, rfl, f26, bad20.tk fun _ _ e => k26t ((s21.trans (s22.trans s23)) _ _ e)⟩
          · refine ⟨u1, rfl, f26, .inr ⟨[q1, q0], ⟨k26t h21', fun q hq => ?_⟩, (by show 2 ≤ 24; decide), fun q hq => ?_, fun pw => ?_⟩⟩
            · simp only [List.mem_cons, List.not_mem_nil, or_false] at hq
              rcases hq with e | e <;> subst e
              · exact f26.la.tup _ mq1
              · exact f26.la.tup _ mq0
            · simp only [List.mem_cons, List.not_mem_nil, or_false] at hq
              rcases hq with e | e <;> subst e
              · exact mem _ mq1
              · exact mem _ mq0
            · have z : lexLt q1.2 q0.2 := (List.pairwise_cons.mp pw).1 _ (List.mem_singleton.mpr rfl)
              unfold lexLt at z srt
              omega
          · refine ⟨u2, rfl, f26, .inr ⟨[q0, q0], ⟨k26t h22, fun q hq => ?_⟩, (by show 2 ≤ 24; decide), fun q hq => ?_, fun pw => ?_⟩⟩
            · simp only [List.mem_cons, List.not_mem_nil, or_false] at hq
              rcases hq with e | e <;> subst e <;> exact f26.la.tup _ mq0
            · simp only [List.mem_cons, List.not_mem_nil, or_false] at hq
              rcases hq with e | e <;> subst e <;> exact mem _ mq0
            · have z : lexLt q0.2 q0.2 := (List.pairwise_cons.mp pw).1 _ (List.mem_singleton.mpr rfl)
              unfold lexLt at z
              omega
        · rw [decide_eq_false (by rw [List.length_map]; omega)]
          exact iteF ⟨od, rfl, f20, bad20⟩
      rintro σ H21 ⟨od', rfl, f21, bad21⟩
      clear f20 bad20 hpt pt od
      refine ⟨f21.tab, fun f1 c1 G1 e1 T1 a1 => ⟨T1, fun f2 c2 G2 e2 T2 a2 => ?_⟩⟩
      have f22 := (f21.ext e1 T1).ext e2 T2
      have bad22 := bad21.tk fun _ _ e => ext_tup e2 (ext_tup e1 e)
      replace a1 := a1.on (RLX.rests_ext e2)
      refine ⟨(by show 2 ≤ sizeLine; decide), fun l1 hl1 => ?_⟩
      have s23 := same_upd (o := HO.lst [V.ref f1, V.ref f2]) hl1
      have h23 : (L2.upd G2 l1 (.lst [V.ref f1, V.ref f2])) l1 = some (.lst [V.ref f1, V.ref f2]) := upd_same
      have f23 := f22.same s23
      refine ⟨_, rfl, .inl ⟨rfl, _, SqL.of h23⟩, f23.tab, fun f3 c3 G3 e3 T3 a3 => ?_⟩
      have h24 := ext_lst e3 h23
      refine ⟨l1, _, _, rfl, rfl, h24, (by show 2 < sizeLine; decide), ?_⟩
      have e24 : LamX.ExtN G2 (L2.upd G3 l1 (.lst ([V.ref f1, V.ref f2] ++ [V.ref f3]))) := ext_grow hl1 s23 e3
      have T24 : LT K (L2.upd G3 l1 (.lst ([V.ref f1, V.ref f2] ++ [V.ref f3]))) := tabs_kc kc_grow ⟨_, h24⟩ T3
      have f24 := f22.ext e24 T24
      have bad24 := bad22.tk fun _ _ e => ext_tup e24 e
      replace a1 := a1.on (RLX.rests_ext e24)
      replace a2 := a2.on (RLX.rests_ext e24)
      replace a3 := a3.on (rests_grow (o := .lst ([V.ref f1, V.ref f2] ++ [V.ref f3])) h24)
      have h25 : (L2.upd G3 l1 (.lst ([V.ref f1, V.ref f2] ++ [V.ref f3]))) l1 = some (.lst [V.ref f1, V.ref f2, V.ref f3]) := upd_same
      clear f21 bad21 f22 bad22 f23 s23 h23 e1 e2 e3 T1 T2 T3 h24 e24 T24 hl1
      generalize L2.upd G3 l1 (.lst ([V.ref f1, V.ref f2] ++ [V.ref f3])) = H25 at f24 bad24 a1 a2 a3 h25
      refine ⟨_, rfl, (by show 2 ≤ sizeLine; decide), fun d1 hd1 => ?_⟩
      have z1 := same_upd (o := HO.tup [V.str "NoHand", .int zf]) hd1
      have k1 : (L2.upd H25 d1 (.tup [V.str "NoHand", .int zf])) d1 = some (.tup [V.str "NoHand", .int zf]) := upd_same
      generalize L2.upd H25 d1 (.tup [V.str "NoHand", .int zf]) = K1 at z1 k1
      refine ⟨_, _, rfl, rfl, (by show 2 ≤ sizeLine; decide), fun d2 hd2 => ?_⟩
      have z2 := same_upd (o := HO.tup [V.str "BadBeat", .int (0 - 1)]) hd2
      have k2 : (L2.upd K1 d2 (.tup [V.str "BadBeat", .int (0 - 1)])) d2 = some (.tup [V.str "BadBeat", .int (0 - 1)]) := upd_same
      generalize L2.upd K1 d2 (.tup [V.str "BadBeat", .int (0 - 1)]) = K2 at z2 k2
      refine ⟨(by show 2 ≤ sizeLine; decide), fun d3 hd3 => ?_⟩
      have z3 := same_upd (o := HO.tup [V.str "BadLost", V.non]) hd3
      have k3 : (L2.upd K2 d3 (.tup [V.str "BadLost", V.non])) d3 = some (.tup [V.str "BadLost", V.non]) := upd_same
      generalize L2.upd K2 d3 (.tup [V.str "BadLost", V.non]) = K3 at z3 k3
      refine ⟨(by show 3 ≤ sizeLine; decide), fun ld hld => ?_⟩
      have z4 := same_upd (o := HO.lst [V.ref d1, V.ref d2, V.ref d3]) hld
      have k4 : (L2.upd K3 ld (.lst [V.ref d1, V.ref d2, V.ref d3])) ld = some (.lst [V.ref d1, V.ref d2, V.ref d3]) := upd_same
      generalize L2.upd K3 ld (.lst [V.ref d1, V.ref d2, V.ref d3]) = K4 at z4 k4
      have z04 := z1.trans (z2.trans (z3.trans z4))
      have f26 := f24.same z04
      have bad26 := bad24.tk fun _ _ e => z04 _ _ e
      replace a1 := a1.on (RLX.rests_same z04)
      replace a2 := a2.on (RLX.rests_same z04)
      replace a3 := a3.on (RLX.rests_same z04)
      have h26 := z04 _ _ h25
      have due : ∀ (i : Nat) (v : V), [V.ref d1, V.ref d2, V.ref d3][i]? = some v → ∃ d : Addr, v = .ref d ∧ K4 d = some (.tup [.str (if i = 0 then "NoHand" else if i = 1 then "BadBeat" else "BadLost"), if i = 0 then .int zf else if i = 1 then .int (0 - 1) else .non]) := fun i v e => by
        match i, e with
        | 0, rfl => exact ⟨d1, rfl, (z2.trans (z3.trans z4)) _ _ k1⟩
        | 1, rfl => exact ⟨d2, rfl, (z3.trans z4) _ _ k2⟩
        | 2, rfl => exact ⟨d3, rfl, z4 _ _ k3⟩
      clear f24 bad24 h25 z1 z2 z3 z4 z04 k1 k2 k3 hld hd1 hd2 hd3
      have XH := T.x_NoHand
      have XB := T.x_BadBeat
      have XL := T.x_BadLost
      have l4' := f26.de.len
      refine ⟨_, rfl, l1, rfl, ⟨_, SqL.of h26⟩, fun Dc hDc => ?_⟩
      refine lc_rel (walk_list (K := K) (a := l1) (xs := [V.ref f1, V.ref f2, V.ref f3])) (fun i v H' => ∃ t : Addr, v = .ref t ∧ H' t = some (.tup [.str (if i = 0 then "NoHand" else if i = 1 then "BadBeat" else "BadLost"), if i = 0 then .int zf else if i = 1 then .int (0 - 1) else .non])) (show 3 ≤ 100000 by decide) hDc (fun _ _ _ _ ⟨t, e, h⟩ tk => ⟨t, e, tk _ _ h⟩) (fun H1 s1 => SqL.of (s1 _ _ h26)) ?_ ?_
      · rintro i y H0 H1 Nx hi s1 ⟨rfl, hy⟩ k
        have t1 := f26.same s1
        have bad1 := bad26.tk fun _ _ e => s1 _ _ e
        have hand : ∀ (E' : XK) (H2 : Hp) (Nx : V → Hp → Prop), Same H1 H2 → (∀ cls d H', ExQ K (fun x v H2 => ∀ H3 t, H3 t = some (.tup [x, v]) → Same H2 H3 → Nx (.ref t) H3) cls d H' → E' cls d H') → (∀ H3 t, H3 t = some (.tup [.str "NoHand", .int zf]) → Same H1 H3 → Nx (.ref t) H3) → Refuse K "NoHand" "hand" zf H2 E' := fun E' H2 Nx s2 hE k d H' hd s3 =>
          hE _ _ _ ⟨"NoHand", d, _, .int zf, rfl, rfl, by decide, ⟨rfl, XH.ec, XH.no _ (by decide), fun f hf => XH.no f hf, XH.kit, hd⟩, XH.exm, rfl, rfl, fun H4 s4 H5 tr htr s5 => k H5 tr htr (s2.trans (s3.trans (s4.trans s5)))⟩
        have beat : ∀ (E' : XK) (H2 : Hp) (Nx : V → Hp → Prop), Same H1 H2 → (∀ cls d H', ExQ K (fun x v H2 => ∀ H3 t, H3 t = some (.tup [x, v]) → Same H2 H3 → Nx (.ref t) H3) cls d H' → E' cls d H') → (∀ H3 t, H3 t = some (.tup [.str "BadBeat", .int (0 - 1)]) → Same H1 H3 → Nx (.ref t) H3) → Refuse K "BadBeat" "beat" (0 - 1) H2 E' := fun E' H2 Nx s2 hE k d H' hd s3 =>
          hE _ _ _ ⟨"BadBeat", d, _, .int (0 - 1), rfl, rfl, by decide, ⟨rfl, XB.ec, XB.no _ (by decide), fun f hf => XB.no f hf, XB.kit, hd⟩, XB.exm, rfl, rfl, fun H4 s4 H5 tr htr s5 => k H5 tr htr (s2.trans (s3.trans (s4.trans s5)))⟩
        have lost : ∀ (E' : XK) (H2 : Hp) (Nx : V → Hp → Prop), Same H1 H2 → (∀ cls d H', ExQ K (fun x v H2 => ∀ H3 t, H3 t = some (.tup [x, v]) → Same H2 H3 → Nx (.ref t) H3) cls d H' → E' cls d H') → (∀ H3 t, H3 t = some (.tup [.str "BadLost", .non]) → Same H1 H3 → Nx (.ref t) H3) → ∀ d H', H' d = some (.xd [("word", .str "BadLost")]) → Same H2 H' → E' (.ref (He.ga K "BadLost")) (some d) H' := fun E' H2 Nx s2 hE k d H' hd s3 =>
          hE _ _ _ ⟨"BadLost", d, _, .non, rfl, rfl, by decide, ⟨rfl, XL.ec, XL.no _ (by decide), fun f hf => XL.no f hf, XL.kit, hd⟩, XL.exm, rfl, rfl, fun H4 s4 H5 tr htr s5 => k H5 tr htr (s2.trans (s3.trans (s4.trans s5)))⟩
        refine ⟨rfl, _, rfl, ?_⟩
        match i, hy with
        | 0, rfl =>
          have a := a1.on (RLX.rests_same s1)
          refine ⟨f1, c1, _, rfl, a, fun H2 E' Q' s2 hE => ⟨s2 _ _ a.code, ?_⟩⟩
          have t2 := t1.same s2
          obtain ⟨dx, r, hx, _, _⟩ := t2.ob
          exact ⟨_, rfl, x, dx, _, rfl, hx, tf_heard _ _, _, rfl, _, _, rfl, rfl, _, rfl, rfl, rfl, x, D, M, zf, _, _, rfl, t2.ta, by omega, hand E' H2 _ s2 hE fun H3 t ht s3 => k _ _ ⟨t, rfl, ht⟩ s3⟩
        | 1, rfl =>
          have a := a2.on (RLX.rests_same s1)
          refine ⟨f2, c2, _, rfl, a, fun H2 E' Q' s2 hE => ⟨s2 _ _ a.code, ?_⟩⟩
          have t2 := t1.same s2
          obtain ⟨dx, r, hx, _, _⟩ := t2.ob
          exact ⟨_, rfl, x, dx, _, rfl, hx, tf_heard _ _, _, _, rfl, rfl, _, rfl, rfl, rfl, x, D, M, 0, 0 - 1, _, rfl, t2.ta, by omega, by decide, beat E' H2 _ s2 hE fun H3 t ht s3 => k _ _ ⟨t, rfl, ht⟩ s3⟩
        | 2, rfl =>
          have a := a3.on (RLX.rests_same s1)
          refine ⟨f3, c3, _, rfl, a, fun H2 E' Q' s2 hE => ⟨s2 _ _ a.code, ?_⟩⟩
          have t2 := t1.same s2
          obtain ⟨dx, r, hx, _, _⟩ := t2.ob
          exact ⟨_, rfl, x, dx, _, rfl, hx, tf_heard _ _, _, rfl, rfl, rfl, x, od', D, M, 0, 3, rfl, t2.ta, by omega, by decide, bad1.tk fun _ _ e => s2 _ _ e, lost E' H2 _ s2 hE fun H3 t ht s3 => k _ _ ⟨t, rfl, ht⟩ s3⟩
      · intro H1 ys h1 ly hys s1
        have t1 := f26.same s1
        refine ⟨_, rfl, _, _, rfl, .inr ⟨Dc, ld, ys, _, rfl, rfl, .inl ⟨.inl h1, .inl (s1 _ _ k4)⟩, ly, ?_, fun j u v e1 e2 => ?_⟩, fun H3 s3 => ⟨_, rfl, iteF ⟨⟨_, _, _, _, _, _, _, _, _, _, _, _, _, _, _, rfl⟩, (t1.same s3).bx, (t1.same s3).tab⟩⟩⟩
        · rw [ly]
          exact (show 3 ≤ 1000 by decide)
        · have jl : j < 3 := by
            have := (List.getElem?_eq_some_iff.mp e1).1
            rw [ly] at this
            exact this
          obtain ⟨t, rfl, ht⟩ := hys j u e1
          obtain ⟨d, rfl, hd⟩ := due j v e2
          refine .inr ⟨t, d, _, _, rfl, rfl, .inr ⟨.inl ht, .inl (s1 _ _ hd)⟩, rfl, (by show 2 ≤ 1000; decide), fun k y z g1 g2 => ?_⟩
          match k, g1, g2 with
          | 0, rfl, rfl => exact ⟨rfl, .inr (.inr (.inr ⟨_, rfl⟩))⟩
          | 1, rfl, rfl =>
            match j, jl with
            | 0, _ => exact ⟨rfl, .inl ⟨_, rfl⟩⟩
            | 1, _ => exact ⟨rfl, .inl ⟨_, rfl⟩⟩
            | 2, _ => exact ⟨rfl, .inr (.inr (.inl rfl))⟩
end
end RL
namespace RL
open PySem PySem.Spec PyProof.Rows L2
theorem law_facts {P : Program} {w : World} {K : PySem.W.Frag} {h : Heap} {mg : Str → Option Value} {f : Addr} (X : K.In h) (G : h.Ns mainGlobals mg) (hfa : mg ("law" : Str) = some (.ref f)) (c : RLX.SaysL fa fn tf exF h K) :
    ∃ fd : FuncData, (∀ (s : Shared) (v : Value), BindsTo s fd ⟨[v], []⟩ [("_law_script", v)]) ∧ ∀ base : Heap, K.In base → base.Ns mainGlobals mg → (∀ p ∈ [He.cT K ("law", none)], LamX.TabB base mg p.1 p.2) → FnOk P w K mg base CX0 9 f fd ["_law_script"] (spLaw K) := by
  have T : Tx K mg := ⟨c.d, fun x z => He.glo_ok X G z, fun x z => He.free_ok X G z, fun x i z => He.int_ok X G z, c.more⟩
  obtain ⟨fd, F⟩ := T.d_law
  have e := hfa.symm.trans T.glo_law
  cases e
  have b := FunD.bindsA (ps := ["_law_script"]) F fun _ _ _ _ _ _ us hl => match us, hl with | [_], _ => rfl
  exact ⟨fd, fun s v => b s [v] rfl, fun base _ _ tb => ok_law T (tb _ List.mem_cons_self) F⟩
end RL
open PySem PySem.W PySem.Calls PyProof.Rows
theorem PySem.Challenge.cw_roamlook_k41_what_hands_hear_holds : PySem.Challenge.rw_roamlook_k41_what_hands_hear.Holds := by
  w_on; o_law
  refine HandSHeadRun.head_any (r := OpenLaw.row PySem.Challenge.rw_roamlook_k41_what_hands_hear) (q := view (OpenLaw.row PySem.Challenge.rw_roamlook_k41_what_hands_hear).prog [68]) (H := RL.hkL) (ob := RL.obL) (M := 12000) (loose := RL.loose) (d := HandSHeadRun.topDef (OpenLaw.row PySem.Challenge.rw_roamlook_k41_what_hands_hear).prog 68) (kwd := []) RL.obL_eq
    (by kernel_rfl) (fun s => by kernel_rfl) RL.run (by kernel_rfl) (by kernel_rfl) (by kernel_rfl) (by rfl) (by first | assumption | decide +kernel) (by decide +kernel) ⟨rfl, rfl, rfl, rfl, rfl, by decide +kernel⟩ ?hw ?hc
  case hw => w_witness2
  case hc =>
    refine LamX.walk_ofTsE (l := PySem.Challenge.rw_roamlook_k41_what_hands_hear) (n := 63) (k := 9) (x := "_law_script") (CX := fun _ => L2.CX0) rfl (by decide) (by kernel_rfl) ⟨rfl, by decide, by decide⟩ ?F (fun _ _ _ _ _ z => z)
    intro w mg fa h Y G hmg0
    obtain ⟨K, KX, c⟩ := Y
    have hmg : mg ("law" : PySem.Str) = some (.ref fa) := by
      have e : (HandSHeadRun.topDef (OpenLaw.row PySem.Challenge.rw_roamlook_k41_what_hands_hear).prog 68).name = ("law" : PySem.Str) := by kernel_rfl
      rw [← e]
      exact hmg0
    obtain ⟨fd, hb, hF⟩ := RL.law_facts (P := (PySem.Challenge.rw_roamlook_k41_what_hands_hear).prog) (w := w) KX G hmg c
    have one : ∀ {p : Addr × Addr}, p ∈ [He.cT K ("law", none)] → p = He.cT K ("law", none) := fun hp => by simpa using hp
    have mem : (("law", none) : He.Defn) ∈ RL.tf := by decide
    exact ⟨K, KX, fd, [He.cT K ("law", none)], RL.spLaw K, fun p hp => by rw [one hp]; exact c.empty _ mem, fun p hp => by rw [one hp]; exact c.out _ mem, fun p hp => by rw [one hp]; exact PySem.W.codeHd_of_K KX (c.hd _ mem), hb, fun H a ns hl _ hT hS => ⟨a, ns, rfl, hS, hl, hT _ List.mem_cons_self, fun _ => rfl⟩, hF⟩
