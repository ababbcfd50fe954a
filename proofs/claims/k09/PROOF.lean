import PyProof.Rows.All
import Wide.All
import OpenK.AllK
import HandS.HotCalls
import HandS.Comp
import HandS.Iter
import HandS.Words
import HandS.ExcField
import HandS.ExcIs
import HandS.Lambda
import KE.KExcIs
import HandS.ExcInit
import KE.KExcInit
import OpenK.KCls
import HandS.Defaults
import HandS.HeadHook4
import HandS.HeadWalk
import HandS.HeadHook3
import Wide.FinOn
import KE.KStateDown
import HandS.Base
import HandS.Call
import HandS.List
import HandS.Ends
import HandS.Dict
import HandS.Text
import HandS.More
import HandS.WordsList
import HandS.WordsDict
import HandS.WordsExc
import HandS.Exc
import HandS.IsInst
import HandS.Set
import HandS.Strs
import HandS.SetFor
import HandS.TupSets
import HandS.TupMul
import HandS.TupAny
import HandS.TupLe
import HandS.Conv
import HandS.Walk
import HandS.Evl
import HandS.Flow
import HandS.Style
import HandS.Deep
import HandS.DeepEq
import HandS.SetBool
import HandS.Codes
import HandS.Head0
import HandS.Head1
import HandS.Head2
import HandS.HeadEnd
import HandS.HeadHook1
import HandS.HeadHook2
import PySem.Challenge.RW_roamlook_k09_looks_written_and_read
import KE.GoesEnum
import PyProof.TupleOfSeq
import PyProof.EnumMake
import HandS.Zip0
import HandS.Zip
import KE.KRevSl
import HandS.SortRule
import HandS.FStr
import HandS.Flt
import KE.KEqSeq
import KE.KEqDeep
import KE.KDflt
import PyProof.StrLawsOccR
import PyProof.FitsReplace
import PyProof.Rows.SortShellAny
import PyProof.ListStr
set_option Elab.async false
set_option linter.all false
set_option maxRecDepth 100000
set_option maxHeartbeats 0
/-! walks that end while an exception is handled: a list's, a tuple's, a zip's -/
namespace RLH
open PySem PySem.Spec PyProof.Rows L2 HotX
theorem push2 {h : Heap} {b : Addr} {o p q : Obj} (e : h.get? b = some o) : ((h.push p).push q).get? b = some o := Heap.get?_push_of_some _ (Heap.get?_push_of_some _ e)
section
variable {prog : Program} {w : World} {A : Around} {E : Value → Shared → Prop} {s : Shared}
/-- what a StopIteration leaves -/
def Stops (E : Value → Shared → Prop) (s : Shared) : Prop :=
  ∀ h' e, (∀ b o, s.heap.get? b = some o → h'.get? b = some o) → (∃ o, h'.get? e = some o ∧ o.cls = .type "StopIteration") → E (.ref e) { s with heap := h' }
theorem stop_hot {α : Type} {x1 : Addr} {Q : α → Shared → Prop} (hot : HotAt A x1 s.heap) (hE : Stops E s) :
    wpAny (model prog w) A ((newExc (.type "StopIteration") [] : Sem Value) >>= fun e => (raiseNew e : Sem α)) Q E s := by
  obtain ⟨hh, o1, vs1, h1, d1, c1⟩ := hot
  refine wpAny_bind ?_
  unfold newExc
  wp_walk
  refine raiseNew_hot ⟨hh, o1, vs1, push2 h1, d1, c1⟩ (Nat.ne_of_lt (Heap.lt_size (Heap.get?_push_of_some _ h1))) (Heap.get?_push_size _ rfl) rfl (by first | (simp; done) | (simp; omega)) ?_
  refine hE _ _ (fun b o e => ?_) ⟨_, Heap.get?_update_self _ (Heap.get?_push_size _ rfl) rfl, rfl⟩
  rw [Heap.get?_update_other _ _ (Nat.ne_of_gt (Heap.lt_size (Heap.get?_push_of_some _ e)))]
  exact push2 e
theorem HotAt.but {x1 it : Addr} {h h' : Heap} (hot : HotAt A x1 h) (k : Heap.ExtBut it h h') (ne : x1 ≠ it) : HotAt A x1 h' := by
  obtain ⟨hh, o, vs, e, r⟩ := hot
  exact ⟨hh, o, vs, k _ _ ne e, r⟩
/-- the list's iterator is at its end -/
theorem list_end_hot {x1 it l : Addr} {i : Nat} {items : Array Value} {Q : Value → Shared → Prop} (hot : HotAt A x1 s.heap) (nx : x1 ≠ it) (hit : s.heap.IsListIter it l i) (hl : s.heap.IsList l items) (hx : items[i]? = none)
    (hE : ∀ h' e, Heap.ExtBut it s.heap h' → (∃ o, h'.get? e = some o ∧ o.cls = .type "StopIteration") → E (.ref e) { s with heap := h' }) :
    wpAny (model prog w) A (Builtin.SmallTypes.nextOf (.ref it)) Q E s := by
  obtain ⟨o, ho, hc, hd⟩ := id hit
  obtain ⟨ol, hol, _, nl, hdl⟩ := hl
  unfold Builtin.SmallTypes.nextOf
  obtain ⟨hh, o1, vs1, h1, d1, c1⟩ := hot
  refine wpAny_bind (wpAny_callSpecial?_slot (name := Str.ofString "__next__") hit.typeIs slot_listiter_next (wpAny_call_entry slot_listiter_next hit.typeIs entry_listiter_next ?_ (args_listiter_next _)))
  have f0 : (#[Value.ref l, Value.int (↑i) 0] : Array Value)[0]? = some (.ref l) := rfl
  have f1 : (#[Value.ref l, Value.int (↑i) 0] : Array Value)[1]? = some (.int i 0) := rfl
  refine wpAny_bind (m := field (.ref it) 0) (wpAny_field ho hd f0 ?_)
  rw [if_neg (by simp : ¬ ((Value.ref l == Value.none) = true))]
  refine wpAny_bind (m := field (.ref it) 1) (wpAny_field ho hd f1 (wpAny_bind (m := seqItems? (.ref l)) (wpAny_seqItems hol hdl ?_)))
  simp only [Int.toNat_natCast, hx]
  refine wpAny_bind (wpAny_rule (wpAny_bind (wpAny_setField ho hd (by simp) ?_)))
  have up : HotAt A.in1 x1 (s.heap.update it (Obj.mapFields (·.setIfInBounds 0 Value.none))) := ⟨hh, o1, vs1, by rw [Heap.get?_update_other _ _ (Ne.symm nx)]; exact h1, d1, c1⟩
  refine stop_hot up fun h' e k he => hE h' e (fun b u hb eb => k b u ?_) he
  rw [Heap.get?_update_other _ _ (Ne.symm hb)]
  exact eb
/-- the first list of a zip is at its end -/
theorem zip_end_hot {x1 z TI TO i1 i2 l1 l2 : Addr} {k1 : Nat} {xs : Array Value} {Q : Option Value → Shared → Prop} (hot : HotAt A x1 s.heap) (n1 : x1 ≠ z) (n2 : x1 ≠ i1) (D : ZipApart z TI TO i1 i2 l1 l2)
    (hz : IsZip s.heap z TI TO .none) (hTI : IsPair s.heap TI (.ref i1) (.ref i2)) (it1 : s.heap.IsListIter i1 l1 k1) (hl1 : s.heap.IsList l1 xs) (hx : xs[k1]? = none)
    (hQ : ∀ h', (∀ c o, c ≠ z → c ≠ i1 → s.heap.get? c = some o → h'.get? c = some o) → Q none { s with heap := h' }) : wpAny (model prog w) A (pyNext (.ref z)) Q E s := by
  have hT : s.TypeIs (.ref z) "zip" := ⟨_, hz, rfl⟩
  unfold pyNext
  refine wpAny_bind (wpAny_attempt (wpAny_callSpecial?_slot (name := Str.ofString "__next__") hT F.slot_zip_next (wpAny_call_entry F.slot_zip_next hT F.entry_zip_next ?_ (F.args_zip_next_1 _))))
  refine wpAny_bind (m := field (.ref z) 2) (wpAny_field hz rfl (x := .bool false) rfl (wpAny_bind (m := field (.ref z) 3) (wpAny_field hz rfl (x := .ref TI) rfl (wpAny_bind (m := seqItems? (.ref TI)) (wpAny_seqItems hTI rfl ?_)))))
  refine wpAny_bind (m := Builtin.SmallTypes.ownedTupleIsFree (.ref z)) ?_
  unfold Builtin.SmallTypes.ownedTupleIsFree
  refine wpAny_bind (wpAny_field hz rfl (x := .none) rfl (wpAny_pure ?_))
  simp only [if_true]
  refine wpAny_bind (wpAny_rule (wpAny_bind (wpAny_field hz rfl (x := .ref TO) rfl (wpAny_bind (wpAny_setField_rec hz (by simp) fun ha za sa => wpAny_bind ?_)))))
  have za : IsZip ha z TI TO .ellipsis := za
  simp only [List.zipIdx_cons, List.zipIdx_nil, List.forIn_cons, List.forIn_nil]
  have hotA : HotAt A.in1 x1 ha := HotAt.but (A := A.in1) ⟨hot.1, hot.2⟩ sa.extBut n1
  refine wpAny_bind (wpAny_bind (wpAny_onRaise (wpAny_bind (m := Builtin.SmallTypes.nextOf (.ref i1)) (list_end_hot (s := { s with heap := ha }) hotA n2 (it1.extBut sa.extBut D.i1z) (hl1.extBut sa.extBut D.l1z) hx fun hb e kb eb => ?_))))
  obtain ⟨oe, ge, ce⟩ := eb
  have zb : IsZip hb z TI TO .ellipsis := kb _ _ D.i1z.symm za
  have ez : e ≠ z := fun q => by
    rw [q, show hb.get? z = _ from zb] at ge
    cases ge
    simp at ce
  refine wpAny_setField_rec zb (by simp) fun hc _ sc => ?_
  refine wpAny_bind (wpAny_isInstance (T := "StopIteration") (b := true) ⟨oe, sc.extBut _ _ ez ge, ce⟩ isSubtype_stop (wpAny_pure (hQ hc fun c o c1 c2 q => ?_)))
  exact sc.extBut _ _ c1 (kb _ _ c2 (sa.extBut _ _ c1 q))
/-- a tuple's iterator is at its end -/
theorem tuple_end_hot {x1 it l : Addr} {i : Nat} {items : Array Value} {Q : Option Value → Shared → Prop} (hot : HotAt A x1 s.heap) (nx : x1 ≠ it) (hit : s.heap.IsTupleIter it l i) (hl : s.heap.IsTuple l items) (hx : items[i]? = none)
    (hQ : ∀ h', Heap.ExtBut it s.heap h' → Q none { s with heap := h' }) : wpAny (model prog w) A (pyNext (.ref it)) Q E s := by
  obtain ⟨o, ho, hc, hd⟩ := id hit
  obtain ⟨ol, hol, _, nl, hdl⟩ := hl
  obtain ⟨hh, o1, vs1, h1, d1, c1⟩ := hot
  unfold pyNext
  refine wpAny_bind (wpAny_attempt (wpAny_callSpecial?_slot (name := Str.ofString "__next__") hit.typeIs F.slot_tuple_iterator_next (wpAny_call_entry F.slot_tuple_iterator_next hit.typeIs F.entry_tuple_iterator_next ?_ (F.args_tuple_iterator_next_1 _))))
  have f0 : (#[Value.ref l, Value.int (↑i) 0] : Array Value)[0]? = some (.ref l) := rfl
  have f1 : (#[Value.ref l, Value.int (↑i) 0] : Array Value)[1]? = some (.int i 0) := rfl
  refine wpAny_bind (m := field (.ref it) 0) (wpAny_field ho hd f0 ?_)
  rw [if_neg (by simp : ¬ ((Value.ref l == Value.none) = true))]
  refine wpAny_bind (m := field (.ref it) 1) (wpAny_field ho hd f1 (wpAny_bind (m := seqItems? (.ref l)) (wpAny_seqItems hol hdl ?_)))
  simp only [Int.toNat_natCast, hx]
  refine wpAny_bind (wpAny_rule (wpAny_bind (wpAny_setField ho hd (by simp) ?_)))
  have up : HotAt A.in1 x1 (s.heap.update it (Obj.mapFields (·.setIfInBounds 0 Value.none))) := ⟨hh, o1, vs1, by rw [Heap.get?_update_other _ _ (Ne.symm nx)]; exact h1, d1, c1⟩
  refine stop_hot up fun h' e k he => ?_
  obtain ⟨oe, ge, ce⟩ := he
  refine wpAny_bind (wpAny_isInstance (T := "StopIteration") (b := true) ⟨oe, ge, ce⟩ isSubtype_stop (wpAny_pure (hQ h' fun b u hb eb => k b u ?_)))
  rw [Heap.get?_update_other _ _ (Ne.symm hb)]
  exact eb
/-- (a, b, ..) = a tuple -/
theorem unpack_hot {x1 t : Addr} {items : Array Value} {targets : List (Bool × (Value → Sem Unit))} {Q : Unit → Shared → Prop} (hot : HotAt A x1 s.heap) (ht : s.heap.IsTuple t items) (hn : targets.length = items.size) (hst : targets.findIdx? (·.1) = none)
    (h : ∀ h', (∀ b o, s.heap.get? b = some o → h'.get? b = some o) → wpAny (model prog w) A (assignInOrder (targets.map (·.2)) items.toList) Q E { s with heap := h' }) : wpAny (model prog w) A (unpack (.ref t) targets) Q E s := by
  have hlt : t ≠ s.heap.objs.size := by
    obtain ⟨o, ho, _⟩ := ht
    exact Nat.ne_of_lt (Heap.lt_size ho)
  have hx1 : x1 ≠ s.heap.objs.size := by
    obtain ⟨_, o, _, ho, _⟩ := hot
    exact Nat.ne_of_lt (Heap.lt_size ho)
  have fresh : ∀ {b : Addr} {o : Obj}, s.heap.get? b = some o → b ≠ s.heap.objs.size := fun q => Nat.ne_of_lt (Heap.lt_size q)
  unfold unpack
  rw [hn, hst]
  refine wpAny_bind (wpAny_holding ?_)
  unfold unpackItems notIterableAtAll
  refine wpAny_bind (wpAny_bind (wpAny_specialOf ht.typeIs F.slot_tuple_iter.lookup (wpAny_pure ?_)))
  simp only [Bool.false_eq_true, if_false]
  refine wpAny_bind (wpAny_holding (wpAny_pyIter_tuple ht (wpAny_bind (wpAny_holding (wpAny_draw_tuple hlt items.size 0 _ _ ⟨_, Heap.get?_push_size _ rfl, rfl, rfl⟩ (ht.push _) (by omega) fun ha ita sa => ?_)))))
  have all : List.take items.size (List.drop 0 items.toList) = items.toList := by
    rw [List.drop_zero]
    exact List.take_of_length_le (by simp)
  rw [all, if_neg (by simp)]
  have hotA : HotAt A x1 ha := HotAt.but ⟨hot.1, by obtain ⟨o, vs, g, r⟩ := hot.2; exact ⟨o, vs, Heap.get?_push_of_some _ g, r⟩⟩ sa.extBut hx1
  refine wpAny_bind (wpAny_holding (tuple_end_hot (s := { s with heap := ha }) hotA hx1 ita ((ht.push _).extBut sa.extBut hlt) (by simp) fun hb kb => ?_))
  simp only [Option.isSome_none, Bool.false_eq_true, if_false]
  exact wpAny_pure (h hb fun b o q => kb b o (fresh q) (sa.extBut b o (fresh q) (Heap.get?_push_of_some _ q)))
end
end RLH
/-! [x for x, y in zip(e, e2) if y] while an exception is handled -/
namespace RLH
open PySem PySem.Spec PyProof.Rows L2 HotX L2H
/-- the texts whose flags are up -/
def sel : List Str → List Bool → List Str
  | x :: xs, true :: bs => x :: sel xs bs
  | _ :: xs, false :: bs => sel xs bs
  | _, _ => []
theorem sel_len : ∀ (xs : List Str) (bs : List Bool), (sel xs bs).length ≤ xs.length
  | [], bs => by simp [sel]
  | x :: xs, [] => by simp [sel]
  | x :: xs, true :: bs => by have := sel_len xs bs; simp [sel]; omega
  | x :: xs, false :: bs => by have := sel_len xs bs; simp [sel]; omega
theorem sel_take : ∀ (xs : List Str) (bs : List Bool) (k : Nat) (x : Str) (b : Bool), xs[k]? = some x → bs[k]? = some b → sel (xs.take (k + 1)) (bs.take (k + 1)) = sel (xs.take k) (bs.take k) ++ (if b = true then [x] else [])
  | [], _, _, _, _, h, _ => by simp at h
  | _ :: _, [], _, _, _, _, h => by simp at h
  | y :: xs, c :: bs, 0, x, b, h1, h2 => by
    simp at h1 h2
    subst h1 h2
    cases c <;> simp [sel]
  | y :: xs, c :: bs, k + 1, x, b, h1, h2 => by
    have ih := sel_take xs bs k x b (by simpa using h1) (by simpa using h2)
    cases c <;> simp only [List.take_succ_cons, sel, ih, List.cons_append]
/-- all but D as in H -/
def Same' (H : Hp) (D : Addr) (H' : Hp) : Prop := ∀ c, c ≠ D → H' c = H c
section
variable {X : Cx}
abbrev Xb (X : Cx) (scope : Scope) (s : Shared) (H : Hp) (ce : Env) (fp : List Addr) (p : Addr × Obj) : Cx := (X.blk s H scope ce fp).tr [p] (fun _ _ => False)
def tLcZ (K : PySem.W.Frag) (ta : TA) : TE := fun σ H Q => ta σ H fun vs H1 => ∃ (a b : Addr) (ws : List Str) (bs : List Bool), vs = [.ref a, .ref b] ∧ SqL K H1 a (ws.map V.str) ∧ SqL K H1 b (bs.map V.bl) ∧ ws.length = bs.length ∧
  ∀ D, H1 D = none → Q (.ref D) (upd H1 D (.lst ((sel ws bs).map V.str)))
structure ZSt (h : Heap) (z TI TO i1 i2 a b : Addr) (k : Nat) : Prop where
  hz : IsZip h z TI TO .none
  ti : IsPair h TI (.ref i1) (.ref i2)
  to_ : ∃ x y, IsPair h TO x y
  one : h.IsListIter i1 a k
  two : h.IsListIter i2 b k
theorem ZSt.keep {h h' : Heap} {z TI TO i1 i2 a b : Addr} {k : Nat} (Z : ZSt h z TI TO i1 i2 a b k) (kp : ∀ c ∈ [z, TI, TO, i1, i2], ∀ o, h.get? c = some o → h'.get? c = some o) : ZSt h' z TI TO i1 i2 a b k :=
  ⟨kp z (by simp) _ Z.hz, kp TI (by simp) _ Z.ti, by obtain ⟨x, y, e⟩ := Z.to_; exact ⟨x, y, kp TO (by simp) _ e⟩, Z.one.at fun o e => kp i1 (by simp) o e, Z.two.at fun o e => kp i2 (by simp) o e⟩
theorem ZSt.obj {h : Heap} {z TI TO i1 i2 a b : Addr} {k : Nat} (Z : ZSt h z TI TO i1 i2 a b k) : ∀ c ∈ [z, TI, TO, i1, i2], ∃ o, h.get? c = some o ∧ ∀ v, o.data ≠ .cell v := fun c hc => by
  obtain ⟨x, y, e⟩ := Z.to_
  obtain ⟨o1, e1, _, d1⟩ := Z.one
  obtain ⟨o2, e2, _, d2⟩ := Z.two
  simp only [List.mem_cons, List.not_mem_nil, or_false] at hc
  rcases hc with q | q | q | q | q <;> subst q
  · exact ⟨_, Z.hz, fun v n => by cases n⟩
  · exact ⟨_, Z.ti, fun v n => by cases n⟩
  · exact ⟨_, e, fun v n => by cases n⟩
  · exact ⟨o1, e1, fun v n => by rw [d1] at n; cases n⟩
  · exact ⟨o2, e2, fun v n => by rw [d2] at n; cases n⟩
theorem pe_lczH {xn yn : Str} {i j : Nat} {e e2 : Expr} {ta : TA} {scope : Scope} {pos zpos zp tpos qx qy q1 q2 : Pos} {kk : Nat} (hc : HotC X) (hN : X.N.Nodup) (hij : i ≠ j) (hiN : X.N[i]? = some xn) (hjN : X.N[j]? = some yn) (hg : Gl X "zip") (hm : X.mg "zip" = none) (ha : PA X [e, e2] ta)
    (ok : BlkOk X.N X.env.scope scope [(xn, i), (yn, j)])
    (vx : Vis (relabel scope X.env) xn) (vy : Vis (relabel scope X.env) yn) (lx : (relabel scope X.env).names.lookup xn = some .local) (ly : (relabel scope X.env).names.lookup yn = some .local)
    (dx : (xn == ("__debug__" : Str)) = false) (cx : (xn == ("__classdict__" : Str)) = false) (dy : (yn == ("__debug__" : Str)) = false) (cy : (yn == ("__classdict__" : Str)) = false)
    (hs : starEach [e, e2] X.env = (false, eval e X.env) :: starEach [e2] X.env := by rfl) (hpl : (backTo zpos (starEach [e2] X.env)).any (·.1) = false := by rfl)
    (hfs : ∀ x, foldedSetIterable (.Call (.Name "zip" zp) [e, e2] [] zpos) X.env x = pure x := by intro _; rfl) :
    PE X (.ListComp (.Name xn q1) [⟨.Tuple [.Name xn qx, .Name yn qy] kk tpos, .Call (.Name "zip" zp) [e, e2] [] zpos, [.Name yn q2], 0⟩] scope pos) (tLcZ X.K ta) := by
  refine ⟨fun pins s σ H Q I h => ?_⟩
  obtain ⟨p, hot1, hp⟩ := hc
  rw [eval_ListComp]
  have hfree : ∀ y ∈ scope.names, y.2 = .free → ∃ c, X.env.cells.lookup y.1 = some c := fun y hy q => (ok.free y hy q).elim (fun r => I.ok.has _ (.inl r)) (fun r => I.ok.has _ (.inr r))
  refine wpAny_comprehension_free (use := none) rfl hfs (closure_ok hfree) ok.kind (fun y hy q => by rw [ok.uniq y hy, q]) (Call_ (ld_blt I hg hm PyProof.Rows.boot_zip (PyProof.Rows.callWith_type1 (thn (ha.run zpos pins s σ H _ I h) fun us s1 ⟨vs, H1, I1, r1, q1⟩ => ?_) hs hpl)))
  obtain ⟨a, b, ws, bs, ev, sa, sb, hlen, fin⟩ := q1
  subst ev
  obtain ⟨u1, u2, rfl, e1, e2⟩ : ∃ u1 u2, us = [u1, u2] ∧ u1 = Value.ref a ∧ u2 = Value.ref b := by
    cases r1 with
    | cons ra rr =>
      cases rr with
      | cons rb rn =>
        cases rn
        exact ⟨_, _, rfl, ra, rb⟩
  subst e1 e2
  obtain ⟨ia, va, pa, zline⟩ := I1.list sa
  obtain ⟨ib, vb, pb, zb⟩ := I1.list sb
  refine call_zip_2 pa.isList pb.isList fun hZ hz hTI hTO h1 h2 hsz hk => wpAny_pyIter_zip hz (wpAny_newObj_type (newEnv_comp ?_) (by show 0 ≤ sizeLine; decide))
  have D0 : ZipApart (s1.heap.objs.size + 4) (s1.heap.objs.size + 2) (s1.heap.objs.size + 3) s1.heap.objs.size (s1.heap.objs.size + 1) a b := PySem.W.ktu_apart s1.heap.objs.size a b pa.lt pb.lt
  generalize hn : s1.heap.objs.size = n at hz hTI hTO h1 h2 hsz D0
  have Z0 : ZSt hZ (n + 4) (n + 2) (n + 3) n (n + 1) a b 0 := ⟨hz, hTI, ⟨_, _, hTO⟩, h1, h2⟩
  have I2 : Inv X pins σ H1 { s1 with heap := hZ } := I1.kept (t' := s1.toks) hk
  have nD : H1 hZ.objs.size = none := I2.hok.fresh (Nat.le_refl _)
  generalize hs3 : ({ s1 with heap := hZ.push { cls := .type "list", data := .seq ([] : List Value).toArray } } : Shared) = s3
  have eh3 : s3.heap = hZ.push { cls := .type "list", data := .seq ([] : List Value).toArray } := by rw [← hs3]
  generalize hD : hZ.objs.size = D at nD
  have I3 : Inv X pins σ (upd H1 D (.lst [])) s3 := by
    rw [← hs3]
    refine I2.laid (t' := s1.toks) (fun c o q => Heap.get?_push_of_some _ q) (Nat.le_of_eq hD) ⟨Nat.zero_le _, [], 0, .nil, ?_⟩
    rw [← hD]
    exact Heap.get?_push_size _ rfl
  generalize hfp : [n + 4, n + 2, n + 3, n, n + 1] = fp
  have inF : ∀ c ∈ fp, n ≤ c ∧ c < n + 5 := fun c hc => by
    rw [← hfp] at hc
    simp only [List.mem_cons, List.not_mem_nil, or_false] at hc
    omega
  have sz3 : s3.heap.objs.size = n + 6 := by rw [eh3, Heap.size_push, hsz]
  have f3 : ∀ c ∈ fp, FpOk X pins (upd H1 D (.lst [])) c ∧ c < s3.heap.objs.size := fun c hc => by
    have r := inF c hc
    refine ⟨I1.fpOk (by rw [hn]; exact r.1) ?_, by rw [sz3]; omega⟩
    rw [upd_ne (show @Ne Nat c D by have := r.2; omega)]
    exact I1.hok.fresh (by rw [hn]; exact r.1)
  have I4 := block_start I3 ok hN f3
  show codeAny _ _ (.compStart (.ListComp (.Name xn q1) [⟨.Tuple [.Name xn qx, .Name yn qy] kk tpos, .Call (.Name "zip" zp) [e, e2] [] zpos, [.Name yn q2], 0⟩] scope pos) 0 (.ref (n + 4)) (.ref D)
    (compEnvC scope (cellsFrom (s3.heap.objs.size + 1) scope.names (cloFrom X.env.cells scope.names [])) s3.heap.objs.size X.env)) (compPost (model X.prog X.w) X.A X.xe none _ (.ref D) s3.heap.objs.size) { s3 with heap := pushCells (s3.heap.push { cls := .type "dict", data := .dict #[] }) scope.names }
  generalize hce : compEnvC scope (cellsFrom (s3.heap.objs.size + 1) scope.names (cloFrom X.env.cells scope.names [])) s3.heap.objs.size X.env = ce at I4 ⊢
  have ceL : ce.locals = s3.heap.objs.size := by subst hce; rfl
  have ceS : ce.scope = relabel scope X.env := by subst hce; rfl
  have k34 : ∀ c o, s3.heap.get? c = some o → (pushCells (s3.heap.push { cls := .type "dict", data := .dict #[] }) scope.names).get? c = some o := fun c o q => pushCells_keeps _ _ _ _ (Heap.get?_push_of_some _ q)
  generalize hs4 : ({ s3 with heap := pushCells (s3.heap.push { cls := .type "dict", data := .dict #[] }) scope.names } : Shared) = s4 at I4 ⊢
  have k34' : ∀ c o, s3.heap.get? c = some o → s4.heap.get? c = some o := fun c o q => by rw [← hs4]; exact k34 c o q
  have Z4 : ZSt s4.heap (n + 4) (n + 2) (n + 3) n (n + 1) a b 0 := Z0.keep fun c _ o q => k34' c o (by rw [eh3]; exact Heap.get?_push_of_some _ q)
  have pP := I3.pin p (List.mem_append_left _ hp)
  have I5 : Inv (X.blk s3 (upd H1 D (.lst [])) scope ce fp) [p] (wipe σ [i, j]) (upd H1 D (.lst [])) s4 := I4.pins_of fun q hq => by
    have eq : q = p := by simpa using hq
    subst eq
    refine ⟨k34' _ _ pP.1, pP.2.1, ?_, fun hm' => ?_, pP.2.2.2.2⟩
    · show q.1 ≠ ce.locals
      rw [ceL]
      exact Nat.ne_of_lt (Heap.lt_size pP.1)
    · exact (List.mem_cons.mp (I3.stkSub q.1 hm')).elim pP.2.2.1 pP.2.2.2.1
  have I6 : Inv (Xb X scope s3 (upd H1 D (.lst [])) ce fp p) [] (wipe σ [i, j]) (upd H1 D (.lst [])) s4 := I5.toTry _
  have nP : ∀ c ∈ fp, p.1 ≠ c := fun c hc => (f3 c hc).1.2.2.2.2.2 p (List.mem_append_left _ hp)
  have stat : ∀ {σ' : L2.St} {H' : Hp} {s' : Shared}, Inv (Xb X scope s3 (upd H1 D (.lst [])) ce fp p) [] σ' H' s' → (∀ c ∈ fp, H' c = none) → ∀ c ∈ fp, FpOk (Xb X scope s3 (upd H1 D (.lst [])) ce fp p) [] H' c := fun {σ' H' s'} J hn' c hc =>
    ⟨hn' c hc, (J.ok.exf c hc).1, J.ok.exfs c hc, .inl hc, fun y cc q => (J.ok.exf c hc).2 y cc q, fun q hq => by
      have eq : q = p := by simpa using (show q ∈ [p] ++ ([] : List (Addr × Obj)) from hq)
      rw [eq]
      exact nP c hc⟩
  have hotOf : ∀ {ps' : List (Addr × Obj)} {σ' : L2.St} {H' : Hp} {s' : Shared}, Inv (Xb X scope s3 (upd H1 D (.lst [])) ce fp p) ps' σ' H' s' → HotAt X.A p.1 s'.heap := fun {ps' σ' H' s'} J => by
    obtain ⟨hh, v1, d1, c1⟩ := hot1
    exact ⟨hh, p.2, v1, (J.pin p (List.mem_append_left _ (by simp))).1, d1, c1⟩
  have freeF : ∀ {H' : Hp}, Same' H1 D H' → ∀ c ∈ fp, H' c = none := fun {H'} e c hc => by
    rw [e c (show @Ne Nat c D by have := (inF c hc).2; omega)]
    exact I1.hok.fresh (by rw [hn]; exact (inF c hc).1)
  have seqA : ∀ {H' : Hp} {q : Addr} {xs : List V}, Same' H1 D H' → SqL X.K H1 q xs → SqL X.K H' q xs := fun {H' q xs} e r => Same.seq (fun c o hc => by rw [e c (ne_of_none hc nD)]; exact hc) r
  have loop : codeAny (model X.prog X.w) X.A (.compLoop (.ListComp (.Name xn q1) [⟨.Tuple [.Name xn qx, .Name yn qy] kk tpos, .Call (.Name "zip" zp) [e, e2] [] zpos, [.Name yn q2], 0⟩] scope pos) 0 (.ref (n + 4)) (.ref D) ce)
      (compPost (model X.prog X.w) X.A X.xe none (EP X pins σ Q) (.ref D) s3.heap.objs.size) s4 := by
    refine compLoop_any (fun m s' => ∃ k, m + k = ws.length ∧ Inv (Xb X scope s3 (upd H1 D (.lst [])) ce fp p) [] (wipe σ [i, j]) (upd H1 D (.lst ((sel (ws.take k) (bs.take k)).map V.str))) s' ∧ ZSt s'.heap (n + 4) (n + 2) (n + 3) n (n + 1) a b k) ?_ ws.length ⟨0, rfl, by simpa [sel] using I6, Z4⟩
    rintro m s5 ⟨k, hmk, J, Z⟩
    have sm : Same' H1 D (upd H1 D (.lst ((sel (ws.take k) (bs.take k)).map V.str))) := fun c hc => upd_ne hc
    obtain ⟨ya, wa, la, _⟩ := J.list (seqA sm sa)
    obtain ⟨yb, wb, lb, _⟩ := J.list (seqA sm sb)
    have lna := wa.length
    have lnb := wb.length
    rw [List.length_map] at lna lnb
    by_cases hend : k = ws.length
    · refine thnF (zip_end_hot (E := fun _ _ => False) (Q := fun r s' => r = none ∧ Inv (Xb X scope s3 (upd H1 D (.lst [])) ce fp p) [] (wipe σ [i, j]) (upd H1 D (.lst ((sel (ws.take k) (bs.take k)).map V.str))) s') (hotOf J) (nP _ (by rw [← hfp]; simp)) (nP _ (by rw [← hfp]; simp)) D0 Z.hz Z.ti Z.one la.isList (by simp; omega) fun h' kp => ⟨rfl, J.turnedL (t' := s5.toks) (ch := fp) (fun c o hc q => kp c o (fun z => hc (by rw [z, ← hfp]; simp)) (fun z => hc (by rw [z, ← hfp]; simp)) q) (stat J (freeF sm))⟩) fun r s6 ⟨hr, J6⟩ => ?_
      subst hr
      have back : Inv X pins σ (upd H1 D (.lst ((sel (ws.take k) (bs.take k)).map V.str))) s6 := I3.call' (ch := fp) J6.os J6.base J6.hok J6.bare fun c hc => ⟨(f3 c hc).1.2.2.2.1, (f3 c hc).1.2.1, (f3 c hc).1.2.2.2.2.1, (f3 c hc).1.2.2.2.2.2⟩
      have free : (upd H1 D (.lst ((sel (ws.take k) (bs.take k)).map V.str))) s3.heap.objs.size = none := by
        have q : (upd H1 D (.lst ((sel (ws.take k) (bs.take k)).map V.str))) ce.locals = none := J6.free
        rw [ceL] at q
        exact q
      obtain ⟨mm, hns, _⟩ := J6.loc
      have hns : s6.heap.Ns ce.locals mm := hns
      rw [ceL] at hns
      obtain ⟨g0, g1, g2, g3, g4, g5⟩ := I3.fpOk (Nat.le_refl _) free
      refine ⟨mm, hns, fun h' sb' => ⟨.ref D, _, back.turned (t' := s6.toks) (fun c o hc q => (sb'.2 c hc).trans q) g0 g1 g3 g4 g5, rfl, ?_⟩⟩
      rw [hend, List.take_length, hlen, List.take_length]
      exact fin D nD
    · have hlt : k < ws.length := by omega
      obtain ⟨x, hx⟩ : ∃ x, ws[k]? = some x := ⟨_, List.getElem?_eq_getElem hlt⟩
      obtain ⟨f, hf⟩ : ∃ f, bs[k]? = some f := ⟨_, List.getElem?_eq_getElem (by omega)⟩
      obtain ⟨u, hu, ru⟩ := wa.get (i := k) (x := V.str x) (by rw [List.getElem?_map, hx]; rfl)
      obtain ⟨v, hv, rv⟩ := wb.get (i := k) (x := V.bl f) (by rw [List.getElem?_map, hf]; rfl)
      obtain ⟨x0, y0, hTO5⟩ := Z.to_
      refine wpAny_pyNext_zip_item D0 Z.hz Z.ti hTO5 Z.one Z.two la.isList lb.isList (x := u) (y := v) (by simpa using hu) (by simpa using hv) fun ha za toa ona twa pra sza kpa => ?_
      refine wpAny_letOwnedTupleGo_zip (s := { s5 with heap := ha }) za fun hb zb sbb => ?_
      have kab : ∀ c o, c ∉ fp → s5.heap.get? c = some o → hb.get? c = some o := fun c o hc q => (sbb.2 c (fun z => hc (by rw [z, ← hfp]; simp))).trans (kpa c o (fun z => hc (by rw [z, ← hfp]; simp)) (fun z => hc (by rw [z, ← hfp]; simp)) (fun z => hc (by rw [z, ← hfp]; simp)) (fun z => hc (by rw [z, ← hfp]; simp)) q)
      have Jb : Inv (Xb X scope s3 (upd H1 D (.lst [])) ce fp p) [] (wipe σ [i, j]) (upd H1 D (.lst ((sel (ws.take k) (bs.take k)).map V.str))) { s5 with heap := hb } := J.turnedL (t' := s5.toks) (ch := fp) kab (stat J (freeF sm))
      have zlt : n + 4 < s5.heap.objs.size := Heap.lt_size Z.hz
      have Zb : ZSt hb (n + 4) (n + 2) (n + 3) n (n + 1) a b (k + 1) := ⟨zb, (sbb.2 _ D0.TIz).trans (kpa _ _ D0.TIz D0.TITO D0.TIi1 D0.TIi2 Z.ti), ⟨u, v, (sbb.2 _ D0.TOz).trans toa⟩, ona.at fun o q => (sbb.2 _ D0.i1z).trans q, twa.at fun o q => (sbb.2 _ D0.i2z).trans q⟩
      have pair : hb.IsTuple s5.heap.objs.size #[u, v] := ⟨_, (sbb.2 _ (Nat.ne_of_gt zlt)).trans pra, rfl, _, rfl⟩
      have Jp := Jb.pinned (stat Jb (freeF sm)) (by rw [← hfp]; exact Zb.obj)
      rw [arm_assign_Tuple]
      refine wpAny_bind (wpAny_standAt (unpack_hot (hotOf Jb) pair rfl rfl fun hc kpc => ?_))
      have Jc : Inv (Xb X scope s3 (upd H1 D (.lst [])) ce fp p) ([] ++ pinsAt fp hb) (wipe σ [i, j]) (upd H1 D (.lst ((sel (ws.take k) (bs.take k)).map V.str))) { s5 with heap := hc } := Jp.kept (t' := s5.toks) kpc
      have lx' : ce.scope.names.lookup xn = some .local := by rw [ceS]; exact lx
      have ly' : ce.scope.names.lookup yn = some .local := by rw [ceS]; exact ly
      show wpAny _ _ (assignInOrder [assign (.Name xn qx) ce, assign (.Name yn qy) ce] [u, v]) _ _ _
      refine assignInOrder_cons (wpAny_assign_Name (store_ok Jc hN hiN (.inl lx') ru (fun s6 J6 => ?_) (.inr lx')))
      refine assignInOrder_cons (wpAny_assign_Name (store_ok J6 hN hjN (.inl ly') rv (fun s7 J7 => ?_) (.inr ly')))
      refine assignInOrder_nil ?_
      have wl : (wipe σ [i, j]).length = X.N.length := by rw [wipe_length]; exact I.len
      have il : i < (wipe σ [i, j]).length := by rw [wl]; exact (List.getElem?_eq_some_iff.mp hiN).1
      have jl : j < ((wipe σ [i, j]).set i (some (V.str x))).length := by rw [List.length_set, wl]; exact (List.getElem?_eq_some_iff.mp hjN).1
      have atj : (((wipe σ [i, j]).set i (some (V.str x))).set j (some (V.bl f)))[j]? = some (some (V.bl f)) := List.getElem?_set_self jl
      have ati : (((wipe σ [i, j]).set i (some (V.str x))).set j (some (V.bl f)))[i]? = some (some (V.str x)) := by
        rw [List.getElem?_set_ne (Ne.symm hij)]
        exact List.getElem?_set_self il
      have next : ∀ {H' : Hp} {s' : Shared}, H' = upd H1 D (.lst ((sel (ws.take (k + 1)) (bs.take (k + 1))).map V.str)) → Inv (Xb X scope s3 (upd H1 D (.lst [])) ce fp p) ([] ++ pinsAt fp hb) (((wipe σ [i, j]).set i (some (V.str x))).set j (some (V.bl f))) H' s' →
          ∃ m', m' < m ∧ ∃ k', m' + k' = ws.length ∧ Inv (Xb X scope s3 (upd H1 D (.lst [])) ce fp p) [] (wipe σ [i, j]) (upd H1 D (.lst ((sel (ws.take k') (bs.take k')).map V.str))) s' ∧ ZSt s'.heap (n + 4) (n + 2) (n + 3) n (n + 1) a b k' := fun {H' s'} eH J' => by
        subst eH
        refine ⟨m - 1, by omega, k + 1, by omega, (J'.unpinned (pins := [])).weak (by rw [List.length_set, List.length_set]) (fun t y q => ?_), Zb.keep fun c hc o q => (J'.pin (c, o) (List.mem_append_right _ (List.mem_append_right _ (mem_pinsAt (by rw [← hfp]; exact hc) q)))).1⟩
        obtain ⟨_, nin⟩ := wipe_some q
        simp only [List.mem_cons, List.not_mem_nil, or_false, not_or] at nin
        rw [List.getElem?_set_ne (Ne.symm nin.2), List.getElem?_set_ne (Ne.symm nin.1)]
        exact q
      have tst := pts_one (pt_val (pe_var (X := Xb X scope s3 (upd H1 D (.lst [])) ce fp p) (i := j) (x := yn) (pos := q2) hjN (by show Vis ce.scope yn; rw [ceS]; exact vy) dy cy))
      refine thnF (tst.run _ s7 _ _ (fun c H' => c = f ∧ H' = upd H1 D (.lst ((sel (ws.take k) (bs.take k)).map V.str))) J7 ⟨_, atj, f, rfl, rfl, rfl⟩) fun c s8 ⟨H8, J8, ec, eH8⟩ => ?_
      subst ec
      cases c with
      | false =>
        simp only [Bool.false_eq_true, if_false]
        refine next ?_ J8
        rw [eH8, sel_take ws bs k x false hx hf]
        simp
      | true =>
        simp only [if_true]
        have elt := pe_var (X := Xb X scope s3 (upd H1 D (.lst [])) ce fp p) (i := i) (x := xn) (pos := q1) hiN (by show Vis ce.scope xn; rw [ceS]; exact vx) dx cx
        refine thnF (elt.run _ s8 _ _ (fun y H' => y = V.str x ∧ H' = H8) J8 ⟨_, ati, rfl, rfl⟩) fun w' s9 ⟨y, H9, J9, r9, ey, eH9⟩ => ?_
        subst ey eH9
        rw [eH8] at J9
        refine app_ok (X := Xb X scope s3 (upd H1 D (.lst [])) ce fp p) J9 (D := D) (xs := (sel (ws.take k) (bs.take k)).map V.str) upd_same ?_ r9 fun s10 J10 => next ?_ J10
        · have := sel_len (ws.take k) (bs.take k)
          rw [List.length_take] at this
          rw [List.length_map] at zline ⊢
          omega
        · rw [upd_upd, sel_take ws bs k x true hx hf]
          simp
  exact codeAny_compStart_list loop (wpAny_pyIter_zip Z4.hz loop)
end
end RLH
/-! the exception that is handled, read in defs that an except suite calls -/
namespace RLX
open PySem PySem.Spec PyProof.Rows L2 L2H HotX
/-- the exception at a, of the class at D, its fields at dd, is handled and pinned -/
structure ExA (X : Cx) (a D dd : Addr) : Prop where
  pin : ∃ (oe : Obj) (vs : Array Value), (a, oe) ∈ X.pn ∧ L2N.Zn (.ref D) (some dd) oe ∧ oe.data = .fields vs
  hot : X.A.handled = some (.ref a)
theorem ExA.hotC {X : Cx} {a D dd : Addr} (E : ExA X a D dd) : HotC X := by
  obtain ⟨oe, vs, hp, hz, hd⟩ := E.pin
  exact ⟨(a, oe), ⟨E.hot, vs, hd, hz.2.2 vs hd⟩, hp⟩
theorem ExA.inst {X : Cx} {a D dd : Addr} {pins : List (Addr × Obj)} {σ : L2.St} {H : Hp} {s : Shared} {fs : List (Str × V)} (E : ExA X a D dd) (I : Inv X pins σ H s) (hf : H dd = some (.xd fs)) :
    ∃ (oe od : Obj) (mA : Str → Option Value), PySem.W.InstAt s.heap a oe D (some od) ∧ (∀ f, PySem.W.lookIn f od = some (mA f)) ∧ ∀ f, RelO (fs.lookup f) (mA f) := by
  obtain ⟨oe, vs, hp, hz, hd⟩ := E.pin
  obtain ⟨get, _⟩ := I.pin (a, oe) (List.mem_append_left _ hp)
  obtain ⟨mA, hns, hr⟩ := (show ObjOk X.prog X.w H s.heap dd (.xd fs) from I.hok dd _ hf)
  obtain ⟨od, ho, hl⟩ := lookIn_ns hns
  exact ⟨oe, od, mA, ⟨get, hz.1, by unfold PySem.W.notCls; rw [hd] <;> rfl, by rw [hz.2.1]; exact ho⟩, hl, hr⟩
theorem kitE {K : PySem.W.Frag} {D a : Addr} {oe : Obj} {od : Option Obj} (C : ExcC K D) : PySem.W.KitX K (.ref a) (.ref D) fun h => PySem.W.InstAt h a oe D od := by
  obtain ⟨cd, hc, _⟩ := PySem.W.any_some C.hd
  exact PySem.W.kitx_exc (by rw [hc] <;> rfl) C.hg C.hk C.hs C.ha C.hn C.ht C.hm
/-- isinstance(e, C) -/
def rIsX (K : PySem.W.Frag) (D a dd : Addr) : List V → Hp → VK → Prop := fun xs H Q => ∃ (c : Addr) (b : Bool) (fs : List (Str × V)), xs = [.ref a, .ref c] ∧ PySem.W.kitOne K (.ref D) (.ref c) = some b ∧ H dd = some (.xd fs) ∧ Q (.bl b) H
theorem call_isX {X : Cx} {a D dd : Addr} (E : ExA X a D dd) (C : ExcC X.K D) : CallR X (.builtin "isinstance") (rIsX X.K D a dd) := by
  intro pins s σ H xs us Q I r h
  obtain ⟨c, b, fs, rfl, hk, hf, q⟩ := h
  obtain ⟨oe, od, mA, J, _, _⟩ := E.inst I hf
  cases r with
  | cons ra rr =>
    cases rr with
    | cons rc rn =>
      cases rn
      cases ra
      cases rc
      exact PySem.W.kia_one (kitE C) I.kIn J hk (fun z => nomatch z) fun tk => ⟨.bl b, H, I.kept (t' := tk) fun _ _ z => z, rfl, q⟩
/-- isinstance(e, (C, ..)) -/
def rIsXT (K : PySem.W.Frag) (D a dd : Addr) : List V → Hp → VK → Prop := fun xs H Q => ∃ (t : Addr) (cs : List Addr) (b : Bool) (fs : List (Str × V)), xs = [.ref a, .ref t] ∧ H t = some (.tup (cs.map V.ref)) ∧ PySem.W.kitAny K (.ref D) (cs.map Value.ref) = some b ∧ H dd = some (.xd fs) ∧ Q (.bl b) H
theorem vals_refs : ∀ {cs : List Addr} {us : List Value}, Vals (cs.map V.ref) us → us = cs.map Value.ref
  | [], _, .nil => rfl
  | c :: cs, _, .cons r rr => by
    cases r
    rw [vals_refs rr]
    rfl
theorem call_isXT {X : Cx} {a D dd : Addr} (E : ExA X a D dd) (C : ExcC X.K D) : CallR X (.builtin "isinstance") (rIsXT X.K D a dd) := by
  intro pins s σ H xs us Q I r h
  obtain ⟨t, cs, b, fs, rfl, ht, hk, hf, q⟩ := h
  obtain ⟨oe, od, mA, J, _, _⟩ := E.inst I hf
  obtain ⟨_, us', vs', o, ho, hc, n, hd⟩ := (show ObjOk X.prog X.w H s.heap t (.tup (cs.map V.ref)) from I.hok t _ ht)
  have eu := vals_refs vs'
  obtain ⟨oc, od', oda, osl⟩ := o
  dsimp only at hc hd
  subst hc hd eu
  cases r with
  | cons ra rr =>
    cases rr with
    | cons rc rn =>
      cases rn
      cases ra
      cases rc
      exact PySem.W.kia_tup (kitE C) I.kIn J ho hk (fun z => nomatch z) fun tk => ⟨.bl b, H, I.kept (t' := tk) fun _ _ z => z, rfl, q⟩
/-- e.f -/
def tFldX (a dd : Addr) (f : Str) (te : TE) : TE := fun σ H Q => te σ H fun x H1 => ∃ (fs : List (Str × V)) (v : V), x = .ref a ∧ H1 dd = some (.xd fs) ∧ fs.lookup f = some v ∧ Q v H1
theorem pe_fldX {X : Cx} {a D dd : Addr} {e : Expr} {te : TE} {pos : Pos} {n : Str} (E : ExA X a D dd) (C : ExcC X.K D) (hno : PySem.W.findIn X.K (.ref D) n = some none) (he : PE X e te) (hb : attributeBase e n X.env (eval e X.env) = eval e X.env := by rfl) :
    PE X (.Attribute e n pos) (tFldX a dd n te) := by
  refine ⟨fun pins s σ H Q I h => attr_of hb (thn (he.run pins s σ H _ I h) fun u s1 ⟨x, H1, J1, rx, fs, v, ex, hf, l, q⟩ => ?_)⟩
  subst ex
  obtain rfl : u = Value.ref a := rx
  obtain ⟨oe, od, mA, J, hl, hr⟩ := E.inst J1 hf
  obtain ⟨w, hw, rw'⟩ := RelO.some_of (v := v) (o := mA n) (by rw [← l]; exact hr n)
  exact HandSPX.exc_get J1.kIn J C.hg C.hk C.hs (PySem.W.findObj_own C.hd hno rfl (by rw [hl, hw])) (handed_of rw') ⟨v, H1, J1.tok _, rw', q⟩
end RLX
/-! own exceptions over a built-in class: made by the chain of their own __init__ -/
namespace RLX
open PySem PySem.Spec PyProof.Rows L2 L2H HotX
/-- own classes, then the tail -/
def refsT (tail : List Value) : List Value → Bool
  | .ref _ :: r => refsT tail r
  | l => l == tail
theorem refsT_cases {tail : List Value} : ∀ {l : List Value}, refsT tail l = true → (∃ c r, l = .ref c :: r ∧ refsT tail r = true) ∨ l = tail
  | .ref c :: r, h => .inl ⟨c, r, rfl, h⟩
  | [], h => .inr (eq_of_beq h)
  | .none :: _, h | .ellipsis :: _, h | .notImplemented :: _, h | .bool _ :: _, h | .int _ _ :: _, h | .float _ _ :: _, h | .str _ _ :: _, h | .bytes _ _ :: _, h | .type _ :: _, h | .builtin _ :: _, h => .inr (eq_of_beq h)
/-- what is known of the built-in class B -/
structure ExB (B newId initId : String) (tail : List Value) : Prop where
  facts : ExcBaseFacts B newId initId tail
  pass : ∀ self, refuseLoop self "__setattr__" tail = pure ()
  obj : tail.contains (.type "object") = true
theorem exB_V : ExB "ValueError" "ValueError.__new__" "ValueError.__init__" [.type "ValueError", .type "Exception", .type "BaseException", .type "object"] := ⟨F.excBase_ValueError, F.store_ValueError.passes, by decide +kernel⟩
theorem exB_L : ExB "LookupError" "LookupError.__new__" "LookupError.__init__" [.type "LookupError", .type "Exception", .type "BaseException", .type "object"] := ⟨F.excBase_LookupError, F.store_LookupError.passes, by decide +kernel⟩
theorem exB_I : ExB "IndexError" "IndexError.__new__" "IndexError.__init__" [.type "IndexError", .type "LookupError", .type "Exception", .type "BaseException", .type "object"] := ⟨F.excBase_IndexError, F.store_IndexError.passes, by decide +kernel⟩
section
variable {B newId initId : String} {tail : List Value}
theorem refsT_pass (EB : ExB B newId initId tail) (self : Value) : ∀ {l : List Value}, refsT tail l = true → refuseLoop self "__setattr__" l = pure ()
  | l, h => by
    rcases refsT_cases h with ⟨c, r, e, h'⟩ | e
    · subst e
      rw [refuseLoop_ref]
      exact refsT_pass EB self h'
    · rw [e]
      exact EB.pass self
termination_by l => l.length
decreasing_by subst e; simp
theorem refsT_has (Y : String) : ∀ {l : List Value}, refsT tail l = true → l.contains (.type Y) = tail.contains (.type Y)
  | l, h => by
    rcases refsT_cases h with ⟨c, r, e, h'⟩ | e
    · subst e
      rw [List.contains_cons, refsT_has Y h']
      rfl
    · rw [e]
termination_by l => l.length
decreasing_by subst e; simp
/-- what the written part says of an own class over B -/
structure XcC (K : PySem.W.Frag) (newId : String) (tail : List Value) (C : Addr) : Prop where
  cls : ∃ nm q N bs bm sn sub ab col dd k0 k1 k2 k3 k5, K.lookup C = some (excClassObj nm q C N bs bm true sn sub ab col dd k0 k1 k2 k3 k5 newId) ∧ refsT tail bm = true
  sa : PySem.W.findIn K (.ref C) "__setattr__" = some (some (.builtin "object.__setattr__"))
  exC : PySem.W.subIn K (.ref C) (.type "BaseException") = some true
  tyC : PySem.W.typeIn K (.ref C) = some (.type "type")
  kC : PySem.W.keepIn K (.ref C) = true
section
open Builtin Builtin.ObjectAttr
variable {prog : Program} {w : World} {A : Around} {E : Value → Shared → Prop} {R : Result → Shared → Prop} {hp : Heap} {g : Array GenState} {d : Drawn} {t : Nat} {os : OsState}
/-- up to the own dict -/
theorem osaX {K : PySem.W.Frag} {name : Str} {tk : Tok} {v : Value} {x C : Addr} {ox : Obj} {od : Option Obj} {cd : ClassData} (EB : ExB B newId initId tail) (X : K.In hp) (I : PySem.W.InstAt hp x ox C od) (hcd : PySem.W.clsIn K C = some cd) {bm : List Value} (hm : cd.mro = .ref C :: bm) (hr : refsT tail bm = true)
    (ha : PySem.W.findIn K (.ref C) name = some none)
    (hq : wpAny (model prog w) A.in1 (storeInOwnDict (.ref x) (.ref C) (.str name tk) name v false) (fun fin s' => match fin with | .done f => R (.ok f) s' | .again c' => c'.quiet = true ∧ codeAny (model prog w) A c' R s') (fun e s' => R (.error e) s') ⟨hp, g, d, t, os⟩) :
    codeAny (model prog w) A (.call (.builtin "object.__setattr__") ⟨[.ref x, .str name tk, v], []⟩) R ⟨hp, g, d, t, os⟩ := by
  have hr2 : refsT tail cd.mro = true := by rw [hm]; exact hr
  have ob : PySem.W.mroIn K C (.type "object") = some true := by
    unfold PySem.W.mroIn
    rw [hcd, Option.bind_some, if_neg (by rw [hm]; exact Bool.false_ne_true), refsT_has "object" hr2, EB.obj]
  have one : PySem.W.Looks (model prog w) hp (isInstance (.ref x) (.type "object")) true := I.type.andThen (PySem.W.looks_mroIn X ob)
  have two : PySem.W.Looks (model prog w) hp (mroOf (.ref C)) cd.mro := (PySem.W.looks_clsIn X hcd).andThen .now
  refine codeAny_call_builtin F.store_object.slot.plain F.store_object.entry (@PySem.W.check_slot (model prog w) _ _ ⟨hp, g, d, t, os⟩ "object.__setattr__" "object" "__setattr__" (.ref x) [.str name tk, v] [] _ F.store_object.kind F.store_object.split one (F.store_object.args (.ref x) (.str name tk) v) ?_)
  rw [PySem.W.osa_eq, refuse_eq]
  refine wpAny_bind (wpAny_bind (I.type.at (wpAny_bind (two.at ?_))))
  rw [refsT_pass EB (.ref x) hr2]
  have three : PySem.W.Looks (model prog w) hp (storeTaker? none) none := .now
  exact wpAny_pure (wpAny_bind (I.type.at (wpAny_bind ((PySem.W.looks_findIn X ha).at (wpAny_bind (three.at hq))))))
theorem osaX_new {K : PySem.W.Frag} {name : Str} {tk : Tok} {v : Value} {x C : Addr} {fv : Array Value} {cd : ClassData} (EB : ExB B newId initId tail) (X : K.In hp) (hx : hp.get? x = some { cls := .ref C, data := .fields fv }) (hcd : PySem.W.clsIn K C = some cd) {bm : List Value} (hm : cd.mro = .ref C :: bm) (hr : refsT tail bm = true) (hh : cd.hasDict = true)
    (ha : PySem.W.findIn K (.ref C) name = some none)
    (hq : ∀ h' tk' dx, (∀ b o, b ≠ x → hp.get? b = some o → h'.get? b = some o) → hp.objs.size ≤ dx → dx ≠ x → h'.get? x = some { cls := .ref C, dict := some dx, data := .fields fv } → h'.Ns1 dx (fun y => if y = name then some v else none) → R (.ok (.ret .none)) ⟨h', g, d, tk', os⟩) :
    codeAny (model prog w) A (.call (.builtin "object.__setattr__") ⟨[.ref x, .str name tk, v], []⟩) R ⟨hp, g, d, t, os⟩ := by
  have lt : x ≠ hp.objs.size := Nat.ne_of_lt (Heap.lt_size hx)
  refine osaX (od := none) EB X ⟨hx, rfl, rfl, trivial⟩ hcd hm hr ha ?_
  have four : PySem.W.Looks (model prog w) hp (classData C) cd := PySem.W.looks_clsIn X hcd
  obtain ⟨c1, c2, c3, c4, c5, c6, c7, c8, c9, c10, c11⟩ := cd
  dsimp only at hh hm
  subst hh
  unfold storeInOwnDict ownDictForStores
  repeat (first | with_reducible refine four.at ?_ | with_reducible refine wpAny_loadPart_at hx ?_ | with_reducible refine HandSPX.store_in_new ?_ ?_ | wp_step)
  · exact ⟨_, #[], _, (Heap.get?_update_ne _ _ _ _ (Ne.symm lt)).trans (Heap.get?_push_at rfl rfl), rfl, fun e he => absurd he (by simp), fun _ => rfl⟩
  · intro h' tk' n1 sb
    refine hq h' tk' hp.objs.size (fun b o hb ho => ?_) (Nat.le_refl _) (Ne.symm lt) ?_ n1
    · rw [sb.2 b (Nat.ne_of_lt (Heap.lt_size ho)), Heap.get?_update_ne _ _ _ _ hb]
      exact Heap.get?_push_of_some _ ho
    · rw [sb.2 x lt]
      exact Heap.get?_update_self _ (Heap.get?_push_of_some _ hx) rfl
theorem osaX_old {K : PySem.W.Frag} {name : Str} {tk : Tok} {v : Value} {x C dx : Addr} {fv : Array Value} {cd : ClassData} {m0 : Str → Option Value} {nl : List Str} (EB : ExB B newId initId tail) (X : K.In hp) (hx : hp.get? x = some { cls := .ref C, dict := some dx, data := .fields fv }) (hn : hp.Ns1 dx m0) (hw : Within m0 nl) (hz : nl.length ≤ 1000)
    (hcd : PySem.W.clsIn K C = some cd) {bm : List Value} (hm : cd.mro = .ref C :: bm) (hr : refsT tail bm = true) (hh : cd.hasDict = true) (ha : PySem.W.findIn K (.ref C) name = some none)
    (hq : ∀ h' tk', (∀ b o, b ≠ dx → hp.get? b = some o → h'.get? b = some o) → h'.Ns1 dx (fun y => if y = name then some v else m0 y) → R (.ok (.ret .none)) ⟨h', g, d, tk', os⟩) :
    codeAny (model prog w) A (.call (.builtin "object.__setattr__") ⟨[.ref x, .str name tk, v], []⟩) R ⟨hp, g, d, t, os⟩ := by
  obtain ⟨oD, _, _, ho, _, _⟩ := hn.count hw
  refine osaX (od := some oD) EB X ⟨hx, rfl, rfl, ho⟩ hcd hm hr ha ?_
  have four : PySem.W.Looks (model prog w) hp (classData C) cd := PySem.W.looks_clsIn X hcd
  obtain ⟨c1, c2, c3, c4, c5, c6, c7, c8, c9, c10, c11⟩ := cd
  dsimp only at hh hm
  subst hh
  unfold storeInOwnDict ownDictForStores
  repeat (first | with_reducible refine four.at ?_ | with_reducible refine wpAny_loadPart_at hx ?_ | with_reducible refine OEX.store_in_old hn hw hz ?_ | wp_step)
  exact fun h' tk' n1 sb => hq h' tk' (fun b o hb ho => (sb.2 b hb).trans ho) n1
end
end
end RLX
/-! .. the rules -/
namespace RLX
open PySem PySem.Spec PyProof.Rows L2 L2H HotX
variable {B newId initId : String} {tail : List Value}
theorem XcC.data {K : PySem.W.Frag} {C : Addr} (T : XcC K newId tail C) : ∃ cd bm, PySem.W.clsIn K C = some cd ∧ cd.mro = .ref C :: bm ∧ refsT tail bm = true ∧ cd.hasDict = true := by
  obtain ⟨nm, q, N, bs, bm, sn, sub, ab, col, dd, k0, k1, k2, k3, k5, hC, hb⟩ := T.cls
  refine ⟨_, bm, (by unfold PySem.W.clsIn; rw [hC] <;> rfl), rfl, hb, rfl⟩
section
variable {X : Cx} {pins : List (Addr × Obj)} {σ : L2.St} {H : Hp} {s : Shared} {a C dx : Addr} {f : Str} {y : V} {u : Value} {fs : List (Str × V)} {Q : Unit → Shared → Prop} {E : Value → Shared → Prop} {A : Around}
/-- the first field -/
theorem put_first (EB : ExB B newId initId tail) (T : XcC X.K newId tail C) (I : Inv X pins σ H s) (ea : H a = some (exo a C none)) (hno : PySem.W.findIn X.K (.ref C) f = some none) (ry : RelV y u)
    (h : ∀ dx s', H dx = none → dx ≠ a → Inv X pins σ (upd (upd H dx (exd dx [(f, y)])) a (exo a C (some dx))) s' → Q () s') : wpAny (model X.prog X.w) A (setAttr (.ref a) f u) Q E s := by
  obtain ⟨cd, bm, hcd, hm, hr, hh⟩ := T.data
  obtain ⟨t1, ho⟩ := exo_at I.hok ea
  obtain ⟨hp, g, d, t, os⟩ := s
  refine PySem.W.set_plain I.kIn (od := none) ⟨ho, rfl, rfl, trivial⟩ T.sa (osaX_new EB I.kIn ho hcd hm hr hh hno fun h' tk' dx k ge ne hx hn => ?_)
  have nd : H dx = none := I.hok.fresh ge
  have old : ∀ {b : Addr} {o : Obj}, hp.get? b = some o → b ≠ dx := fun q => Nat.ne_of_lt (Nat.lt_of_lt_of_le (Heap.lt_size q) ge)
  have na : ∀ {b : Addr}, H b = none → b ≠ a := fun {b} n z => by
    rw [z, ea] at n
    cases n
  have at_ : ∀ {b : Addr} {o : HO}, H b = some o → o ≠ exo a C none → upd (upd H dx (exd dx [(f, y)])) a (exo a C (some dx)) b = some o := fun {b o} q n => by
    rw [upd_ne (fun z => n (by rw [z, ea] at q; exact (Option.some.inj q).symm)), upd_ne (ne_of_none q nd)]
    exact q
  refine h dx _ nd ne (I.un (t' := tk') (H' := upd (upd H dx (exd dx [(f, y)])) a (exo a C (some dx))) ⟨fun b o q n _ _ => k b o (na n) q, fun b o q n _ _ => ⟨o.slots, k b o (na n) q⟩, fun b o q n _ => by rw [upd_ne (na n), upd_ne (old q)]; exact n, fun b o q _ => ?_, fun b xs q => at_ q (Ne.symm exo_tup), fun b o v q => at_ q (Ne.symm exo_frz), fun b ps q => ⟨#[], by rw [at_ q (Ne.symm exo_tbl)]; simp⟩⟩ fun b o q => ?_)
  · by_cases hb : b = a
    · exact ⟨_, by rw [hb]; exact hx⟩
    · exact ⟨o, k b o hb q⟩
  · by_cases hb : b = a
    · subst hb
      rw [upd_same] at q
      cases q
      exact exo_ok hx
    · rw [upd_ne hb] at q
      by_cases hd : b = dx
      · subst hd
        rw [upd_same] at q
        cases q
        exact exd_ok hn (relO_put (fs := []) ry fun g => True.intro)
      · rw [upd_ne hd] at q
        refine (I.hok b o q).stay (fun c v hc z => k c v ?_ z) (fun c hc => at_ hc (Ne.symm exo_own)) (fun c xs hc => at_ hc (Ne.symm exo_tup))
        rcases hc with hc | hc
        · rw [hc]
          exact hb
        · exact at_ne ea hc exo_own
/-- a further one -/
theorem put_more (EB : ExB B newId initId tail) (T : XcC X.K newId tail C) (I : Inv X pins σ H s) (ea : H a = some (exo a C (some dx))) (ed : H dx = some (exd dx fs)) (hl : fs.length ≤ 900) (hno : PySem.W.findIn X.K (.ref C) f = some none) (ry : RelV y u)
    (h : ∀ s', Inv X pins σ (upd H dx (exd dx ((f, y) :: fs))) s' → Q () s') : wpAny (model X.prog X.w) A (setAttr (.ref a) f u) Q E s := by
  obtain ⟨cd, bm, hcd, hm, hr, hh⟩ := T.data
  obtain ⟨t1, ho⟩ := exo_at I.hok ea
  obtain ⟨mA, hn, rel⟩ := exd_at I.hok ed
  obtain ⟨hp, g, d, t, os⟩ := s
  obtain ⟨oD, _, _, hoD, _, _⟩ := hn.count (within_of rel)
  refine PySem.W.set_plain I.kIn (od := some oD) ⟨ho, rfl, rfl, hoD⟩ T.sa (osaX_old EB I.kIn ho hn (within_of rel) (by rw [List.length_map]; omega) hcd hm hr hh hno fun h' tk' k n1 => ?_)
  obtain ⟨o1, _, _, e1, _⟩ := id n1
  exact h _ (I.write (t' := tk') (x := dx) (e := dx) (o := exd dx ((f, y) :: fs)) (by rw [ed]; exact True.intro) (.inl rfl) k ⟨o1, e1⟩ (exd_ok n1 (relO_put ry rel)))
/-- B.__init__(self, ..) tells nothing -/
theorem base_init {us : List Value} {Q : Value → Shared → Prop} (EB : ExB B newId initId tail) (T : XcC X.K newId tail C) (I : Inv X pins σ H s) (ea : H a = some (exo a C none)) (hl : us.length ≤ sizeLine) (h : ∀ s', Inv X pins σ H s' → Q .none s') :
    wpAny (model X.prog X.w) A (call (.builtin initId) (.ref a :: us)) Q E s := by
  obtain ⟨nm, q, N, bs, bm, sn, sub, ab, col, dd, k0, k1, k2, k3, k5, hC, hb⟩ := T.cls
  obtain ⟨t1, ho⟩ := exo_at I.hok ea
  obtain ⟨hp, g, d, t, os⟩ := s
  refine wpAny_call (PySem.HandSPX.init_base EB.facts (fun Y => refsT_has Y hb) (I.kIn _ _ hC) ho hl fun h' t2 k hx => ?_)
  have J := I.write (t' := t) (x := a) (e := a) (o := exo a C none) (by rw [ea]; exact True.intro) (.inl rfl) k ⟨_, hx⟩ (exo_ok hx)
  rw [show upd H a (exo a C none) = H from funext fun b => by
    by_cases hb : b = a
    · rw [hb, upd_same, ea]
    · rw [upd_ne hb]] at J
  exact h _ J
end
/-- self.f = e on an exception that is being made -/
def tPut (K : PySem.W.Frag) (newId : String) (tail : List Value) (f : Str) (to te : TE) : TS := fun D σ H => te σ H fun y H1 => to σ H1 fun x H2 => ∃ a C : Addr, x = .ref a ∧ XcC K newId tail C ∧ PySem.W.findIn K (.ref C) f = some none ∧
  ((H2 a = some (exo a C none) ∧ ∀ dx, H2 dx = none → dx ≠ a → D.nx σ (upd (upd H2 dx (exd dx [(f, y)])) a (exo a C (some dx)))) ∨
    ∃ (dx : Addr) (fs : List (Str × V)), H2 a = some (exo a C (some dx)) ∧ H2 dx = some (exd dx fs) ∧ fs.length ≤ 900 ∧ D.nx σ (upd H2 dx (exd dx ((f, y) :: fs))))
/-- B.__init__(self, ..) -/
def tBase (K : PySem.W.Frag) (newId : String) (tail : List Value) (ta : TA) : TE := fun σ H Q => ta σ H fun vs H1 => ∃ (a C : Addr) (ws : List V), vs = .ref a :: ws ∧ ws.length ≤ 1000 ∧ XcC K newId tail C ∧ H1 a = some (exo a C none) ∧ Q .non H1
section
variable {X : Cx} {o e : Expr} {es : List Expr} {to te : TE} {ta : TA} {f : Str} {p p' p1 p2 pos : Pos}
theorem ps_put (EB : ExB B newId initId tail) (ho : PE X o to) (he : PE X e te) (hs : swapsWith e (some (.Attribute o f p')) pos.line X.env = pure false := by rfl) : PS X (.Assign [.Attribute o f p'] e pos) (tPut X.K newId tail f to te) := by
  refine ⟨fun pins s σ H D I h => plainObj_wpAny_Assign_Attribute (thn (he.run pins s σ H _ I h) fun v s1 ⟨y, H1, J1, r1, q1⟩ => thn (ho.run pins s1 σ H1 _ J1 q1) fun u s2 ⟨x, H2, J2, r2, a, C, ex, T, hno, q⟩ => ?_) hs⟩
  subst ex
  obtain rfl : u = Value.ref a := r2
  rcases q with ⟨ea, q⟩ | ⟨dx, fs, ea, ed, hl, q⟩
  · exact put_first EB T J2 ea hno r1 fun dx s' n ne J => ⟨σ, _, J, q dx n ne⟩
  · exact put_more EB T J2 ea ed hl hno r1 fun s' J => ⟨σ, _, J, q⟩
theorem pe_base {T : String} {pl : Sem Bool} (EB : ExB B newId initId tail) (hb : bootBuiltins (Str.ofString T) = some (.type T)) (ht : typeOf (.type T) = pure (.type "type")) (hst : Manifest.isStub T = false) (hg : Gl X (Str.ofString T)) (hm : X.mg (Str.ofString T) = none) (n1 : Str.ofString T ≠ "__name__") (n2 : (Str.ofString T == ("__debug__" : Str)) = false)
    (vV : PySem.W.findCls X.K (.type T) (.type "type") "__init__" = some (.val (.builtin initId))) (hh : PySem.W.handedIn (.builtin initId) = true) (ha : PA X (e :: es) ta)
    (hc : eval (.Call (.Attribute (.Name (Str.ofString T) p1) "__init__" p2) (e :: es) [] pos) X.env = (do
      let ov ← eval (.Name (Str.ofString T) p1) X.env
      standAt p2.atName
      let (f, first) ← holding [ov] (getMethod ov "__init__" pl)
      callWith pos f first (backTo pos (starEach (e :: es) X.env)) (backToKw pos (keywordEach [] X.env))) := by rfl)
    (he : starEach (e :: es) X.env = (false, eval e X.env) :: starEach es X.env := by rfl) (hpl : (backTo pos (starEach es X.env)).any (·.1) = false := by rfl) :
    PE X (.Call (.Attribute (.Name (Str.ofString T) p1) "__init__" p2) (e :: es) [] pos) (tBase X.K newId tail ta) := by
  refine ⟨fun pins s σ H Q I h => PySem.W.methodCall_KW (ld_blt I hg hm hb ?_ n1 n2) hc⟩
  obtain ⟨m, fr⟩ := I.fr
  refine PySem.W.method_type fr I.ok.mod.kin ht hst vV hh ?_
  refine PyProof.Rows.callWith_method1 (first := []) (thn (ha.run pos pins _ σ H _ (I.tok _) h) fun us s1 ⟨vs, H1, J1, r1, a, C, ws, ev, hl, Tc, ea, q⟩ => ?_) he hpl
  subst ev
  cases r1 with
  | @cons _ u0 _ ur ra rr =>
    obtain rfl : u0 = Value.ref a := ra
    exact base_init EB Tc J1 ea (by rw [← Paired.length rr, sizeLine_eq]; omega) fun s' J => ⟨.non, H1, J, rfl, q⟩
/-- C.__init__(self, ..), C an own class -/
theorem pe_own {CX : CXT} {x : Str} {C fI : Addr} {k : Nat} {fd : FuncData} {ps : List Str} {sp : Sp} {mc : Value} {ds : List Value} {dvs : List V} {E : XK} {pl : Sem Bool} (hg : Gl X x) (hm : X.mg x = some (.ref C)) (hga : PySem.W.specialIn X.K (.ref C) "__getattribute__" = some (some (.builtin "type.__getattribute__"))) (hrd : PySem.W.readsIn X.K C mc = true)
    (hf : PySem.W.findCls X.K (.ref C) mc "__init__" = some (.val (.ref fI))) (hk : PySem.W.keepIn X.K (.ref fI) = true) (Fn : FnOk X.prog X.w X.K X.mg X.base CX k fI fd ps sp) (hr : Room k X.A) (hb : Binds X.K fd ps ds) (hd : Vals dvs ds) (hx : Passes CX X E) (ha : PA X (e :: es) ta) (hdb : (x == ("__debug__" : Str)) = false := by decide)
    (hc : eval (.Call (.Attribute (.Name x p1) "__init__" p2) (e :: es) [] pos) X.env = (do
      let ov ← eval (.Name x p1) X.env
      standAt p2.atName
      let (f, first) ← holding [ov] (getMethod ov "__init__" pl)
      callWith pos f first (backTo pos (starEach (e :: es) X.env)) (backToKw pos (keywordEach [] X.env))) := by rfl)
    (he : starEach (e :: es) X.env = (false, eval e X.env) :: starEach es X.env := by rfl) (hpl : (backTo pos (starEach es X.env)).any (·.1) = false := by rfl) :
    PE X (.Call (.Attribute (.Name x p1) "__init__" p2) (e :: es) [] pos) (fun σ H Q => ta σ H fun vs H1 => sp (vs ++ dvs) H1 Q E) := by
  refine ⟨fun pins s σ H Q I h => PySem.W.methodCall_KW (ld_glob I hg hm ?_ hdb) hc⟩
  refine PySem.W.method_cls I.kIn hga (PySem.W.cls_value I.kIn hrd hf rfl ?_)
  refine PySem.W.callWith_K (first := []) (h₀ := X.base) I.ok.mod.kin hk (thn (ha.run pos pins _ σ H _ (I.tok _) h) fun us s1 ⟨vs, H1, J1, r1, q1⟩ => ⟨J1.kIn, ?_⟩) he hpl
  exact run_fn Fn hr hb hd hx J1 r1 q1
end
end RLX
/-! C(e, ..): an own exception, made where nothing is handled -/
namespace RLX
open PySem PySem.Spec PyProof.Rows L2 L2H HotX
variable {B newId initId : String} {tail : List Value}
/-- C(vs), C's own __init__ keeping sp -/
def rMk (C : Addr) (sp : Sp) (vs : List V) (H : Hp) (Q : XK) : Prop := vs.length ≤ 1000 ∧ ∀ a, H a = none → sp (.ref a :: vs) (upd H a (exo a C none))
  (fun v H2 => v = .non ∧ ∃ (d : Addr) (fs : List (Str × V)), H2 a = some (exo a C (some d)) ∧ H2 d = some (exd d fs) ∧ H d = none ∧ Q (.ref C) (some d) (upd (del H2 a) d (.xd fs))) E0
def tMkX (C : Addr) (sp : Sp) (ta : TA) : L2.St → Hp → XK → Prop := fun σ H Q => ta σ H fun vs H1 => rMk C sp vs H1 Q
section
variable {X : Cx} {e : Expr} {es : List Expr} {ta : TA} {p pos : Pos} {C fI : Addr} {k : Nat} {fd : FuncData} {ps : List Str} {sp : Sp} {x : Str}
theorem run_mkX {pins : List (Addr × Obj)} {σ : L2.St} {H : Hp} {s : Shared} {Q : XK} {vs : List V} {us : List Value} (EB : ExB B newId initId tail) (T : XcC X.K newId tail C) (iC : PySem.W.findIn X.K (.ref C) "__init__" = some (some (.ref fI))) (tI : PySem.W.typeIn X.K (.ref fI) = some (.type "function"))
    (Fn : FnOk X.prog X.w X.K X.mg X.base CX0 k fI fd ps sp) (hr : Room (k + 1) X.A) (hb : Binds X.K fd ps []) (I : Inv X pins σ H s) (r : Vals vs us) (h : rMk C sp vs H Q) : wpAny (model X.prog X.w) X.A (call (.ref C) us) (L2N.MkP X pins σ Q) X.xe s := by
  obtain ⟨nm, q, N, bs, bm, sn, sub, ab, col, dd, k0, k1, k2, k3, k5, hC, hbm⟩ := T.cls
  obtain ⟨hz, hq⟩ := h
  obtain ⟨hp, g, dr, tk, os⟩ := s
  have ge : hp.objs.size ≤ hp.objs.size + 1 := Nat.le_succ _
  have hq := hq (hp.objs.size + 1) (I.hok.fresh ge)
  generalize hh2 : ((hp.push (PySem.W.kdv_tup us)).push (PySem.HandSPX.excO C hp.objs.size)) = hp2
  have kk : ∀ b o, hp.get? b = some o → hp2.get? b = some o := fun b o z => by rw [← hh2]; exact RLH.push2 z
  have hget : hp2.get? (hp.objs.size + 1) = some (PySem.HandSPX.excO C hp.objs.size) := by rw [← hh2]; heap_get
  have J : Inv X pins σ (upd H (hp.objs.size + 1) (exo (hp.objs.size + 1) C none)) ⟨hp2, g, dr, tk, os⟩ := I.laid (t' := tk) (a := hp.objs.size + 1) (o := exo (hp.objs.size + 1) C none) kk ge (exo_ok hget)
  have r2 : Vals (V.ref (hp.objs.size + 1) :: vs) (Value.ref (hp.objs.size + 1) :: us) := .cons rfl r
  have hl : (Value.ref (hp.objs.size + 1) :: us).length = ps.length := by rw [← r2.length]; exact Fn.len _ _ _ _ hq
  have bnd := hb _ (Value.ref (hp.objs.size + 1) :: us) J.kIn (by rw [List.append_nil]; exact hl)
  rw [List.append_nil] at bnd
  refine wpAny_call (PySem.HandSPX.call_own EB.facts (fun Y => refsT_has Y hbm) (I.kIn _ _ hC) (PySem.W.looks_findIn I.kIn iC) (fun self => PySem.W.bind_fn I.kIn self tI) (by rw [← Paired.length r, sizeLine_eq]; omega) ?_)
  rw [hh2]
  refine codeAny_mono (Fn.run _ X.stack _ _ ⟨Value.ref (hp.objs.size + 1) :: us, []⟩ (Value.ref (hp.objs.size + 1) :: us) _ _ E0 (hr.make C us []) (J.env0.make C us []) bnd r2 hq) fun res s' hres => ?_
  cases res with
  | error er => exact hres.elim
  | ok fl =>
    cases fl with
    | ret u =>
      obtain ⟨v, H2, os2, bare2, un2, hok2, rv, ev, d, fs, ea, ed, hd1, q2⟩ := hres
      subst ev
      obtain ⟨h2, g2, d2, t2, os'⟩ := s'
      obtain ⟨t0, G, J2, kG, gn, hoe, na⟩ := mk_end0 (d2 := d2) (t2 := t2) I ge kk un2 hok2 os2 bare2 ea ed hd1
      exact ⟨rv, hp.objs.size + 1, _, _, ⟨G, g2, d2, t2, os'⟩, _, .ref C, some d, rfl, J2, kG, gn, hoe, ⟨rfl, rfl, fun ws hv => by cases hv; rfl⟩, rfl, rfl, na, rfl, bare2, raises_own T.exC T.tyC, q2⟩
    | next => exact hres.elim
    | brk => exact hres.elim
    | cont => exact hres.elim
theorem pmkX (EB : ExB B newId initId tail) (T : XcC X.K newId tail C) (iC : PySem.W.findIn X.K (.ref C) "__init__" = some (some (.ref fI))) (tI : PySem.W.typeIn X.K (.ref fI) = some (.type "function"))
    (Fn : FnOk X.prog X.w X.K X.mg X.base CX0 k fI fd ps sp) (hr : Room (k + 1) X.A) (hb : Binds X.K fd ps []) (hg : Gl X x) (hm : X.mg x = some (.ref C)) (ha : PA X (e :: es) ta)
    (hdb : (x == ("__debug__" : Str)) = false := by decide) (he : starEach (e :: es) X.env = (false, eval e X.env) :: starEach es X.env := by rfl) (hpl : (backTo pos (starEach es X.env)).any (·.1) = false := by rfl) :
    L2N.PMk X (.Call (.Name x p) (e :: es) [] pos) (tMkX C sp ta) := fun pins s σ H Q I h =>
  wpAny_Call_Name_kw (ld_glob I hg hm (PySem.W.callWith_K (first := []) (h₀ := X.base) I.ok.mod.kin T.kC (thn (ha.run pos pins s σ H _ I h) fun us s1 ⟨vs, H1, J1, r1, q1⟩ => ⟨J1.kIn, run_mkX EB T iC tI Fn hr hb J1 r1 q1⟩) he hpl) hdb)
theorem pmkX0 (EB : ExB B newId initId tail) (T : XcC X.K newId tail C) (iC : PySem.W.findIn X.K (.ref C) "__init__" = some (some (.ref fI))) (tI : PySem.W.typeIn X.K (.ref fI) = some (.type "function"))
    (Fn : FnOk X.prog X.w X.K X.mg X.base CX0 k fI fd ps sp) (hr : Room (k + 1) X.A) (hb : Binds X.K fd ps []) (hg : Gl X x) (hm : X.mg x = some (.ref C)) (hdb : (x == ("__debug__" : Str)) = false := by decide) :
    L2N.PMk X (.Call (.Name x p) [] [] pos) (fun _ H Q => rMk C sp [] H Q) := fun pins s σ H Q I h =>
  wpAny_Call_Name_kw (ld_glob I hg hm (PySem.W.callWith_K0 (first := []) I.kIn T.kC (run_mkX EB T iC tI Fn hr hb I .nil h)) hdb)
end
end RLX
/-! defs that an except suite calls with what it has caught -/
namespace RLX
open PySem PySem.Spec PyProof.Rows L2 L2H HotX
/-- a promise of a def that is called while the exception at a (of the class at D, its fields at dd) is handled -/
abbrev SpX := Addr → Addr → Addr → List V → Hp → VK → Prop
structure FnX (P : Program) (w : World) (K : PySem.W.Frag) (mg : Str → Option Value) (base : Heap) (k : Nat) (f : Addr) (fd : FuncData) (ps : List Str) (sp : SpX) : Prop where
  len : ∀ a D dd vs H Q, sp a D dd vs H Q → vs.length = ps.length
  run : ∀ (A : Around) (outer : List Env) (s : Shared) (H : Hp) (args : Args) (us : List Value) (vs : List V) (Q : VK) (p : Addr × Obj) (D dd : Addr), RoomH k A → Hot1 A p → PinOk outer H s p → L2N.Zn (.ref D) (some dd) p.2 → Env0 P w K mg base A outer s H → BindsTo s fd args (ps.zip us) → Vals vs us → sp p.1 D dd vs H Q →
    codeAny (model P w) A (.call (.ref f) args) (CR CX0 outer P w H s Q E0) s
section
variable {P : Program} {w : World} {K : PySem.W.Frag} {mg : Str → Option Value} {base : Heap} {x qual : Str} {params : Arguments} {body : List Stmt} {scope : Scope} {dvs : List V} {kws : List (Str × V)} {f : Addr} {fd : FuncData}
theorem fnX_of {N ps : List Str} {k : Nat} {sp : SpX} (F : FunD K x qual params body scope dvs kws f fd) (S : FnScope N ps scope) (len : ∀ a D dd vs H Q, sp a D dd vs H Q → vs.length = ps.length)
    (hbody : ∀ (X : Cx) (a D dd : Addr) (H : Hp) (vs : List V) (Q : VK), (∃ (cdv : Value) (A : Around) (outer : List Env) (s : Shared) (p : Addr × Obj), X = (cxH CX0 P w K mg base N qual scope f cdv A outer s H E0 p).nox) → ExA X a D dd → RoomH k X.A → sp a D dd vs H Q →
      ∃ t, PSs X body t ∧ t { nx := fun _ H' => Q .non H', rt := Q } (L2.start N vs) H) : FnX P w K mg base (k + 1) f fd ps sp := by
  obtain ⟨oc, od, dV, kV, doc, pm, an, cdv, ct, osl, rfl, lk, hcd, _, _⟩ := F.ex
  refine ⟨len, fun A outer s H args us vs Q p D dd hr hot hpin hz e0 hb r hsp => ?_⟩
  have KX : K.In s.heap := e0.mod.kin.keeps fun b o e => (e0.bs b o e).1
  have lim : s.heap.NoLimit := e0.mod.nolimit.keeps fun b o e => (e0.bs b o e).1
  refine codeAny_call_function hr.depth (KX _ _ lk) rfl S.co S.gen rfl (PySem.W.codeRec_of KX hcd) (hb _ _ _ _ (wpAny_newFunctionEnv_cells S.kind (fun y hy => ?_) fun env he s1 xx => ?_))
  · obtain ⟨n, v⟩ := y
    rcases S.par n (List.of_mem_zip hy).1 with q | q
    · exact .inl q
    · exact .inr ⟨q, PySem.W.cellsFrom_some _ _ _ (.inl q)⟩
  · subst he
    obtain ⟨hh, v1, d1, c1⟩ := hot
    have EX : ExA (cxH CX0 P w K mg base N qual scope f cdv A outer s H E0 p).nox p.1 D dd := ⟨⟨p.2, v1, by simp [cxH, Cx.nox], hz, d1⟩, hh⟩
    obtain ⟨t, ht, hq⟩ := hbody _ p.1 D dd H vs Q ⟨cdv, A, outer, s, p, rfl⟩ EX (hr.deeper _) hsp
    have I : Inv (cxH CX0 P w K mg base N qual scope f cdv A outer s H E0 p) [] (L2.start N vs) H s1 := inv_startH S hpin e0 (len _ _ _ _ _ _ hsp) r xx
    refine ⟨lim.keeps xx.toInCall.keep, codeAny_func (wpAny_mono (ht.nox.run [] s1 (L2.start N vs) H _ I hq) (fun fl s' hs => ?_) fun e s' hs => hs)⟩
    cases fl with
    | ret u =>
      obtain ⟨v, σ', H', J, rv, q⟩ := hs
      exact ⟨v, H', J.os, J.bare, J.base, J.hok, rv, q⟩
    | next =>
      obtain ⟨σ', H', J, q⟩ := hs
      exact ⟨V.non, H', J.os, J.bare, J.base, J.hok, rfl, q⟩
    | brk =>
      obtain ⟨_, _, _, q⟩ := hs
      exact q.elim
    | cont =>
      obtain ⟨_, _, _, q⟩ := hs
      exact q.elim
end
section
variable {X : Cx} {k : Nat} {f a D dd : Addr} {fd : FuncData} {ps : List Str} {sp : SpX} {x : Str} {q pos : Pos} {e : Expr} {es : List Expr} {t : TA}
theorem pe_callX (Fn : FnX X.prog X.w X.K X.mg X.base k f fd ps sp) (hr : RoomH k X.A) (EX : ExA X a D dd) (hg : Gl X x) (hm : X.mg x = some (.ref f)) (hk : PySem.W.keepIn X.K (.ref f) = true) (hb : Binds X.K fd ps []) (ha : PA X (e :: es) t)
    (hdb : (x == ("__debug__" : Str)) = false := by decide) (he : starEach (e :: es) X.env = (false, eval e X.env) :: starEach es X.env := by rfl) (hpl : (backTo pos (starEach es X.env)).any (·.1) = false := by rfl) :
    PE X (.Call (.Name x q) (e :: es) [] pos) (fun σ H Q => t σ H fun vs H1 => sp a D dd vs H1 Q) := by
  refine ⟨fun pins s σ H Q I h => wpAny_Call_Name_kw (ld_glob I hg hm (PySem.W.callWith_K (first := []) (h₀ := X.base) I.ok.mod.kin hk (thn (ha.run pos pins s σ H _ I h) fun us s1 ⟨vs, H1, J, r, q1⟩ => ⟨J.kIn, ?_⟩) he hpl) hdb)⟩
  obtain ⟨oe, v1, hp, hz, hd⟩ := EX.pin
  have hl : us.length = ps.length := by rw [← r.length]; exact Fn.len _ _ _ _ _ _ q1
  have b := hb s1 us J.kIn (by rw [List.append_nil]; exact hl)
  rw [List.append_nil] at b
  have P1 := J.pin (a, oe) (List.mem_append_left _ hp)
  have hpin : PinOk X.stack H1 s1 (a, oe) := ⟨P1.1, P1.2.1, fun hm' => (List.mem_cons.mp (J.stkSub _ hm')).elim P1.2.2.1 P1.2.2.2.1, P1.2.2.2.2⟩
  refine wpAny_call (codeAny_mono (Fn.run X.A X.stack s1 H1 ⟨us, []⟩ us vs Q (a, oe) D dd hr ⟨EX.hot, v1, hd, hz.2.2 v1 hd⟩ hpin hz J.env0 b r q1) fun res s' hres => ?_)
  cases res with
  | error er => exact hres.elim
  | ok fl =>
    cases fl with
    | ret u => exact J.after hres
    | next => exact hres.elim
    | brk => exact hres.elim
    | cont => exact hres.elim
end
end RLX
/-! try: .. except (C, D, F) as n: ..; what the body raises is of one of the three -/
namespace RLX
open PySem PySem.Spec PyProof.Rows L2 L2H HotX
theorem traced_keep {B h h' : Heap} {l : List Env} {a : Addr} {Z : Obj → Prop} (fl : HandSPX.FlyingZ B l a Z h) (k : ∀ b o, h.get? b = some o → h'.get? b = some o) : HandSPX.FlyingZ B l a Z h' := by
  obtain ⟨f1, f2, f3, oe, vs, T, oT, ts, g1, z, g2, g3, g4, g5, g6, g7⟩ := fl
  exact ⟨fun b o e => k b o (f1 b o e), f2, Heap.FunFrames.of_keeps (fun b o e _ => ⟨o, k b o e, rfl⟩) f3, oe, vs, T, oT, ts, k _ _ g1, z, g2, g3, g4, g5, k _ _ g6, g7⟩
def wTup (K : PySem.W.Frag) (cs : List Value) (i : Nat) (ts : Addr → Value → Option Addr → TS) (D : Ends) : WX := fun cls d σ H =>
  PySem.W.exmAny K cls cs = some true ∧ ∀ a, H a = none → ts a cls d { nx := fun σ' H' => D.nx (σ'.set i none) H', rt := fun _ _ => False } (σ.set i (some (.ref a))) H
section
variable {X : Cx} {x1 x2 x3 n : Str} {c1 c2 c3 : Addr} {i kk : Nat} {body suite : List Stmt} {b0 : Stmt} {n1 n2 n3 tp pos pos' : Pos} {tb : WX → TS} {ts : Addr → Value → Option Addr → TS}
theorem ps_tryT (hs : X.stack = X.env :: X.outer) (hf : X.env.frame = some X.env.locals) (hN : X.N.Nodup) (hi : X.N[i]? = some n) (hln : X.env.kindOf n = some .local) (g1 : Gl X x1) (m1 : X.mg x1 = some (.ref c1)) (d1 : (x1 == ("__debug__" : Str)) = false) (g2 : Gl X x2) (m2 : X.mg x2 = some (.ref c2)) (d2 : (x2 == ("__debug__" : Str)) = false) (g3 : Gl X x3) (m3 : X.mg x3 = some (.ref c3)) (d3 : (x3 == ("__debug__" : Str)) = false)
    (hb : ∀ (W : WX) (pn : List (Addr × Obj)) (xe : Value → Shared → Prop), L2N.Takes (X.tr pn xe) W → PSs (X.tr pn xe) body (tb W))
    (hsu : ∀ (a : Addr) (oe : Obj) (cls : Value) (d : Option Addr) (pn : List (Addr × Obj)), L2N.Zn cls d oe → (∃ vs, oe.data = .fields vs) → PSs (X.suite a ((a, oe) :: pn)) (b0 :: suite) (ts a cls d))
    (he : backTo tp (starEach [.Name x1 n1, .Name x2 n2, .Name x3 n3] X.env) = [(false, eval (.Name x1 n1) X.env), (false, eval (.Name x2 n2) X.env), (false, eval (.Name x3 n3) X.env)] := by rfl) :
    PS X (.Try body [.ExceptHandler (some (.Tuple [.Name x1 n1, .Name x2 n2, .Name x3 n3] kk tp)) (some n) (b0 :: suite) pos'] [] [] pos) (fun D σ H => tb (wTup X.K [.ref c1, .ref c2, .ref c3] i ts D) D σ H) := by
  refine ⟨fun pins s σ H D I h => wpAny_Try_except (wpAny_mono ((hb (wTup X.K [.ref c1, .ref c2, .ref c3] i ts D) (X.pn ++ pins) (fun e sa => wpAny (model X.prog X.w) X.A (noteFrame e X.env) (fun _ sb => wpAny (model X.prog X.w) X.A (setFlight e none) (fun _ sc => wpAny (model X.prog X.w) X.A (handleBy e X.env [.ExceptHandler (some (.Tuple [.Name x1 n1, .Name x2 n2, .Name x3 n3] kk tp)) (some n) (b0 :: suite) pos']) (SP X pins D) X.xe sc) X.xe sb) X.xe sa)
    (fun u s' xx => ?_)).run [] s σ H D (I.toTry _) h) (fun f s1 q => ?_) fun e s1 q => q)⟩
  · obtain ⟨a, Bh, sI, pins', σ', H', cls, d, rfl, J', nb, up, sky, na, os, ag, hm, hyes⟩ := xx
    have J : Inv X pins σ' H' sI := J'.ofTry I.ok
    have fr : X.A.frames = some (X.env :: X.outer) := by rw [I.ok.frames, hs]
    have sky' : Sky Bh (X.env :: X.outer) a (L2N.Zn cls d) X.env.locals s'.heap := by rw [← hs]; exact sky
    show wpAny (model X.prog X.w) X.A (noteFrame (.ref a) X.env) _ _ _
    refine L2N.Sky.land L2N.Zn.steady fr hf sky' fun h3 fl3 up3 => ?_
    have apart : ∀ {hh : Heap} {o : Obj}, HandSPX.FlyingZ Bh (X.env :: X.outer) a (L2N.Zn cls d) hh → a ∉ frs (X.env :: X.outer) := fun {hh o} fl hmem => by
      obtain ⟨_, o', e', hnf⟩ := fl.2.2.1.mem hmem
      obtain ⟨oe, vs, _, _, _, ge, _, hd, _⟩ := fl.2.2.2
      rw [ge] at e'
      cases e'
      exact hnf _ hd
    have nfr := apart (o := default) fl3
    have nL : a ≠ X.env.locals := fun z => nfr (List.mem_filterMap.mpr ⟨X.env, List.mem_cons_self, by rw [hf, z]⟩)
    have nF : a ∉ X.fs := fun hmem => by
      obtain ⟨e, hee, q⟩ := List.mem_filterMap.mp hmem
      exact nfr (List.mem_filterMap.mpr ⟨e, List.mem_cons_of_mem _ hee, q⟩)
    have J3 : Inv X pins σ' H' { s' with heap := h3 } := J.landed nb fl3.1 (up.trans up3) os ag
    obtain ⟨oe3, vs3, he3, hz3, hd3⟩ := fl3.there
    have S3 := J3.suite he3 hd3 na nL nF
    refine wpAny_handleBy_cons (codeAny_handlers_test (Tuple_ ?_)) (fun q => by cases q)
    rw [he]
    refine Calls.spliced_cons (ld_glob (X := X.suite a ((a, oe3) :: (X.pn ++ pins))) S3 g1 m1 ?_ d1)
    refine Calls.spliced_cons (ld_glob (X := X.suite a ((a, oe3) :: (X.pn ++ pins))) S3 g2 m2 ?_ d2)
    refine Calls.spliced_cons (ld_glob (X := X.suite a ((a, oe3) :: (X.pn ++ pins))) S3 g3 m3 ?_ d3)
    refine Calls.spliced_nil (wpAny_newObj_type ?_ (by show 3 ≤ sizeLine; decide))
    have kp : ∀ b o, h3.get? b = some o → (h3.push { cls := .type "tuple", data := .seq [Value.ref c1, .ref c2, .ref c3].toArray }).get? b = some o := fun b o q => Heap.get?_push_of_some _ q
    have LT : PySem.W.Looks (model X.prog X.w) (h3.push { cls := .type "tuple", data := .seq [Value.ref c1, .ref c2, .ref c3].toArray }) (typeOf (.ref a)) cls := fun A Q E s k q => wpAny_typeOf_ref (k _ _ (kp _ _ he3)) (by rw [hz3.1]; exact q)
    refine (PySem.W.exm_tup3 (M := model X.prog X.w) (J3.kIn.keeps kp) LT (Heap.get?_push_size h3 rfl) hm).here ?_
    refine codeAny_handlers_suite_as (HandSPX.lands_againZ (traced_keep fl3 kp) fun h4 fl4 up4 => ?_)
    have J4 : Inv X pins σ' H' { s' with heap := h4 } := J.landed nb fl4.1 ((up.trans (up3.trans (Heap.UpToSlots.of_keeps kp))).trans up4) os ag
    obtain ⟨oe4, vs4, he4, hz4, hd4⟩ := fl4.there
    have S4 := J4.suite he4 hd4 na nL nF
    refine store_ok (X := X.suite a ((a, oe4) :: (X.pn ++ pins))) (v := .ref a) S4 hN hi (.inl hln) rfl (fun s5 S5 => ?_) (.inr hln)
    refine wpAny_mono ((hsu a oe4 cls d (X.pn ++ pins) hz4 ⟨_, hd4⟩).run [] s5 _ H' _ S5 (hyes a na)) (fun f s6 q => ?_) (fun _ _ z => z.elim)
    cases f with
    | next =>
      obtain ⟨σ6, H6, S6, q6⟩ := q
      exact gone_ok (S6.unsuite I.ok) hN hi hln fun s7 J7 => ⟨_, _, J7, q6⟩
    | brk =>
      obtain ⟨_, _, _, q6⟩ := q
      exact q6.elim
    | cont =>
      obtain ⟨_, _, _, q6⟩ := q
      exact q6.elim
    | ret u =>
      obtain ⟨_, _, _, _, _, q6⟩ := q
      exact q6.elim
  · cases f with
    | next =>
      obtain ⟨σ', H', J', q⟩ := q
      exact wpAny_execs_nil ⟨σ', H', J'.ofTry I.ok, q⟩
    | brk =>
      obtain ⟨σ', H', J', q⟩ := q
      exact ⟨σ', H', J'.ofTry I.ok, q⟩
    | cont =>
      obtain ⟨σ', H', J', q⟩ := q
      exact ⟨σ', H', J'.ofTry I.ok, q⟩
    | ret u =>
      obtain ⟨v, σ', H', J', r, q⟩ := q
      exact ⟨v, σ', H', J'.ofTry I.ok, r, q⟩
end
end RLX
/-! a lambda handed to a def, and handed on: what it gives when it is called from any later frame -/
namespace RLX
open PySem PySem.Spec PyProof.Rows L2 L2H HotX LamX
/-- the function at f, made at (s, H) with the frames fs running, when it is called later -/
structure LamAct (P : Program) (w : World) (K : PySem.W.Frag) (mg : Str → Option Value) (base : Heap) (k : Nat) (fs : List Addr) (s : Shared) (H : Hp) (f : Addr) (tl : XK → Hp → VK → Prop) : Prop where
  fn : ∀ (s1 : Shared) (H1 : Hp), HOk P w H1 s1.heap → Un fs [] H H1 s.heap s1.heap → PySem.W.FnAt f s1.heap
  run : ∀ (A : Around) (outer : List Env) (s1 : Shared) (H1 : Hp) (Q : VK) (E : XK), Room k A → Env0 P w K mg base A outer s1 H1 → Un fs [] H H1 s.heap s1.heap → tl E H1 Q →
    codeAny (model P w) A (.call (.ref f) ⟨[], []⟩) (CR (L2N.CX P w) outer P w H1 s1 Q E) s1
theorem un_on {fs : List Addr} {L : Addr} {H H1 H2 : Hp} {h h1 h2 : Heap} (a : Un fs [] H H1 h h1) (b : Un (L :: fs) [] H1 H2 h1 h2) (hL : h.get? L = none) : Un fs [] H H2 h h2 := by
  have nL : ∀ {c : Addr} {o : Obj}, h.get? c = some o → c ≠ L := fun {c o} e z => by
    rw [z, hL] at e
    cases e
  have mem : ∀ {c : Addr} {o : Obj}, h.get? c = some o → c ∉ fs → c ∉ L :: fs := fun e n z => (List.mem_cons.mp z).elim (nL e) n
  have no : ∀ c : Addr, c ∉ ([] : List Addr) := fun c z => by cases z
  refine ⟨fun c o e n hc _ => b.keep c o (a.keep c o e n hc (no c)) (a.free c o e n (no c)) (mem e hc) (no c), fun c o e n hc _ => ?_, fun c o e n _ => ?_, fun c o e _ => ?_, fun c xs e => b.tups c xs (a.tups c xs e), fun c o u e => b.frzs c o u (a.frzs c o u e), fun c ps e => ?_⟩
  · obtain ⟨sl, q⟩ := a.slot c o e n hc (no c)
    obtain ⟨sl2, q2⟩ := b.slot c _ q (a.free c o e n (no c)) (List.mem_cons_of_mem _ hc) (no c)
    exact ⟨sl2, q2⟩
  · obtain ⟨o', q⟩ := a.there c o e (no c)
    exact b.free c o' q (a.free c o e n (no c)) (no c)
  · obtain ⟨o', q⟩ := a.there c o e (no c)
    exact b.there c o' q (no c)
  · obtain ⟨m1, q⟩ := a.tbls c ps e
    obtain ⟨m2, q2⟩ := b.tbls c _ q
    exact ⟨m1 ++ m2, by rw [q2, Array.append_assoc]⟩
theorem LamAct.on {P : Program} {w : World} {K : PySem.W.Frag} {mg : Str → Option Value} {base : Heap} {k : Nat} {fs : List Addr} {s s1 : Shared} {H H1 : Hp} {f L : Addr} {tl : XK → Hp → VK → Prop} (a : LamAct P w K mg base k fs s H f tl) (u : Un fs [] H H1 s.heap s1.heap) (hL : s.heap.get? L = none) : LamAct P w K mg base k (L :: fs) s1 H1 f tl :=
  ⟨fun s2 H2 ok v => a.fn s2 H2 ok (un_on u v hL), fun A outer s2 H2 Q E hr e0 v h => a.run A outer s2 H2 Q E hr e0 (un_on u v hL) h⟩
theorem LamAct.mono {P : Program} {w : World} {K : PySem.W.Frag} {mg : Str → Option Value} {base : Heap} {k j : Nat} {fs : List Addr} {s : Shared} {H : Hp} {f : Addr} {tl : XK → Hp → VK → Prop} (a : LamAct P w K mg base k fs s H f tl) (h : k ≤ j) : LamAct P w K mg base j fs s H f tl :=
  ⟨a.fn, fun A outer s1 H1 Q E hr => a.run A outer s1 H1 Q E (hr.mono h)⟩
/-- the context of the lambda's body -/
abbrev lamX (X : Cx) (A : Around) (outer : List Env) (s : Shared) (H : Hp) (E : XK) (scope : Scope) (f c' : Addr) : Cx :=
  (lamCx X A outer s H E scope f c').tr [] (fun e s' => wpAny (model X.prog X.w) (A.deeper (lamEnv X scope s.heap.objs.size f c')) (leaving (lamEnv X scope s.heap.objs.size f c') e) (fun _ s'' => L2N.CX X.prog X.w outer H s E e s'') (fun e' s'' => L2N.CX X.prog X.w outer H s E e' s'') s')
theorem lam_takes {X : Cx} {A : Around} {outer : List Env} {s : Shared} {H : Hp} {E : XK} {scope : Scope} {f c' : Addr} : L2N.Takes (lamX X A outer s H E scope f c') fun cls d _ H' => E cls d H' := L2N.takes_of rfl rfl rfl rfl
section
variable {X : Cx} {pins : List (Addr × Obj)} {σ : L2.St} {H : Hp} {s : Shared}
theorem lam_act {f c' : Addr} {pm ctv : Value} {params : Arguments} {body : Expr} {scope : Scope} {k : Nat} {t : XK → TE} (I : Inv X pins σ H s) (L : LamS X.env.scope scope)
    (hf : s.heap.get? f = some (PySem.W.kla_obj "<lambda>" (X.env.qual ++ "<lambda>") params body scope (cloFrom X.env.cells scope.names []) pm c' ctv)) (hfn : H f = none) (hfr : f ∉ frs X.stack)
    (hbind : bindArgs (PySem.W.kla_fn "<lambda>" (X.env.qual ++ "<lambda>") params body scope (cloFrom X.env.cells scope.names []) pm (.ref c') ctv) ⟨[], []⟩ = pure [])
    (hbody : ∀ (A : Around) (outer : List Env) (s : Shared) (H : Hp) (E : XK), Room k (A.deeper (lamEnv X scope s.heap.objs.size f c')) → PE (lamX X A outer s H E scope f c') body (t E)) :
    LamAct X.prog X.w X.K X.mg X.base (k + 1) (frs X.stack) s H f (fun E H' Q => H' c' = some (CodeO c' (X.env.qual ++ "<lambda>")) ∧ t E σ H' Q) := by
  have of1 : ∀ {s1 : Shared} {H1 : Hp}, Un (frs X.stack) [] H H1 s.heap s1.heap → s1.heap.get? f = some (PySem.W.kla_obj "<lambda>" (X.env.qual ++ "<lambda>") params body scope (cloFrom X.env.cells scope.names []) pm c' ctv) := fun u => u.keep f _ hf hfn hfr (fun z => nomatch z)
  refine ⟨fun s1 H1 _ u => ⟨_, _, _, _, of1 u⟩, fun A outer s1 H1 Q E hr e0 u h => ?_⟩
  obtain ⟨hc, ht⟩ := h
  obtain ⟨⟨oc, vs, tk, hoc, hdc, hvc⟩, _, _⟩ := e0.hok c' _ hc
  have lim : s1.heap.NoLimit := e0.mod.nolimit.keeps fun b o e => (e0.bs b o e).1
  refine PySem.W.kla_callFunE hr.depth (of1 u) rfl L.co L.gen rfl ⟨c', oc, vs, tk, rfl, hoc, hdc, hvc⟩ ?_
  rw [hbind]
  refine wpAny_pure (wpAny_newFunctionEnv (fun y hy => (L.own y hy).2) (fun y hy => absurd hy (by simp)) (fun h1 hns hsb => ⟨lim.fresh _ hsb, ?_⟩) L.kind)
  show codeAny _ _ (.expr body (lamEnv X scope s1.heap.objs.size f c')) _ _
  have kp : ∀ b o, s1.heap.get? b = some o → h1.get? b = some o := fun b o e => hsb.extBut b o (Nat.ne_of_lt (Heap.lt_size e)) (Heap.get?_push_of_some _ e)
  have J := (lam_start2 (E := E) (f := f) (c' := c') (tk := s1.toks + ([] : List (Str × Value)).length) I L e0 hr.hd u hns kp).toTry (fun e s' => wpAny (model X.prog X.w) (A.deeper (lamEnv X scope s1.heap.objs.size f c')) (leaving (lamEnv X scope s1.heap.objs.size f c') e) (fun _ s'' => L2N.CX X.prog X.w outer H1 s1 E e s'') (fun e' s'' => L2N.CX X.prog X.w outer H1 s1 E e' s'') s')
  refine PySem.W.kla_codeExpr (wpAny_mono ((hbody A outer s1 H1 E (hr.deeper _)).run [] _ _ H1 Q J ht) (fun v s' hq => ?_) fun e s' hq => hq)
  obtain ⟨v', H', J', rv, q⟩ := hq
  exact ⟨v', H', J'.os, J'.bare, J'.base, J'.hok, rv, q⟩
end
end RLX
/-! defs with one parameter that is such a function -/
namespace RLX
open PySem PySem.Spec PyProof.Rows L2 L2H HotX LamX
abbrev TTL := (XK → Hp → VK → Prop) → Hp → VK → Prop
structure FnL (P : Program) (w : World) (K : PySem.W.Frag) (mg : Str → Option Value) (base : Heap) (k kl : Nat) (g : Addr) (TT : TTL) : Prop where
  run : ∀ (A : Around) (outer : List Env) (s : Shared) (H : Hp) (f : Addr) (Q : VK) (tl : XK → Hp → VK → Prop), Room k A → Env0 P w K mg base A outer s H → LamAct P w K mg base kl (frs outer) s H f tl → TT tl H Q →
    codeAny (model P w) A (.call (.ref g) ⟨[.ref f], []⟩) (CR CX0 outer P w H s Q E0) s
section
variable {P : Program} {w : World} {K : PySem.W.Frag} {mg : Str → Option Value} {base : Heap} {x qual a : Str} {params : Arguments} {body : List Stmt} {scope : Scope} {kws : List (Str × V)} {g : Addr} {fd : FuncData}
theorem fnL_of {N : List Str} {k kl : Nat} {TT : TTL} (F : FunD K x qual params body scope [] kws g fd) (S : FnScope N [a] scope) (hb : Binds K fd [a] [])
    (hbody : ∀ (cdv : Value) (A : Around) (outer : List Env) (s : Shared) (H : Hp) (f : Addr) (Q : VK) (tl : XK → Hp → VK → Prop), Room k (A.deeper (envOfC qual scope s.heap.objs.size g cdv)) → LamAct P w K mg base kl (frs outer) s H f tl → TT tl H Q →
      ∃ t, PSs (cxOf CX0 P w K mg base N qual scope g cdv A outer s H E0).nox body t ∧ t { nx := fun _ H' => Q .non H', rt := Q } (L2.start N [.ref f]) H) : FnL P w K mg base (k + 1) kl g TT := by
  obtain ⟨oc, od, dV, kV, doc, pm, an, cdv, ct, osl, rfl, lk, hcd, _, _⟩ := F.ex
  refine ⟨fun A outer s H f Q tl hr e0 act h => ?_⟩
  have KX : K.In s.heap := e0.mod.kin.keeps fun b o e => (e0.bs b o e).1
  refine run_ofS (N := N) (ps := [a]) (us := [.ref f]) (vs := [.ref f]) lk hcd S hr e0 (hb s [.ref f] KX rfl) (.cons rfl .nil) rfl fun hr' => ?_
  obtain ⟨t, ht, hq⟩ := hbody cdv A outer s H f Q tl hr' act h
  exact ⟨t, ht.nox, hq⟩
end
section
variable {P : Program} {w : World} {K : PySem.W.Frag} {mg : Str → Option Value} {base : Heap} {N : List Str} {qual a : Str} {scope : Scope} {g f : Addr} {cdv : Value} {A : Around} {outer : List Env} {s : Shared} {H : Hp} {tl : XK → Hp → VK → Prop} {kl i : Nat} {p1 p2 : Pos}
/-- a(), within a try -/
theorem pe_actL {pn : List (Addr × Obj)} {xe : Value → Shared → Prop} {W : WX} {E : XK} (act : LamAct P w K mg base kl (frs outer) s H f tl) (tk : L2N.Takes ((cxOf CX0 P w K mg base N qual scope g cdv A outer s H E0).nox.tr pn xe) W) (hW : ∀ cls d σ' H', E cls d H' → W cls d σ' H')
    (hr : Room kl (A.deeper (envOfC qual scope s.heap.objs.size g cdv))) (hN : N[i]? = some a) (hv : Vis scope a) (hd : (a == ("__debug__" : Str)) = false := by decide) (hcd : (a == ("__classdict__" : Str)) = false := by decide) :
    PE ((cxOf CX0 P w K mg base N qual scope g cdv A outer s H E0).nox.tr pn xe) (.Call (.Name a p1) [] [] p2) (fun σZ HZ Q => σZ[i]? = some (some (.ref f)) ∧ tl E HZ Q) := by
  refine ⟨fun pins sZ σZ HZ Q IZ h => ?_⟩
  obtain ⟨hs, ht⟩ := h
  refine wpAny_Call_Name_kw (thn ((pe_var (pos := p1) (i := i) hN hv hd hcd).run pins sZ σZ HZ (fun v H1 => v = .ref f ∧ H1 = HZ) IZ ⟨.ref f, hs, rfl, rfl⟩) fun u s1 ⟨v, H1, I1, r1, ev, eH⟩ => ?_)
  subst ev
  rw [eH] at I1
  obtain rfl : u = Value.ref f := r1
  have un : Un (frs outer) [] H HZ s.heap s1.heap := I1.base
  refine PySem.W.callWith_F0 (act.fn s1 HZ I1.hok un) (wpAny_call (codeAny_mono (act.run _ _ s1 HZ Q E hr I1.env0 un ht) fun r s' hq => ?_))
  cases r with
  | error e => exact L2N.passes_call tk hW pins σZ HZ s1 e s' I1 hq
  | ok fl =>
    cases fl with
    | ret u => exact I1.after hq
    | next => exact hq.elim
    | brk => exact hq.elim
    | cont => exact hq.elim
/-- x(a): handed on -/
theorem pe_handL {x : Str} {g2 : Addr} {k2 kl2 : Nat} {TT : TTL} {q pos pa : Pos} (act : LamAct P w K mg base kl (frs outer) s H f tl) (Fn : FnL P w K mg base k2 kl2 g2 TT) (hkl : kl ≤ kl2) (hr : Room k2 (A.deeper (envOfC qual scope s.heap.objs.size g cdv))) (hg : Gl (cxOf CX0 P w K mg base N qual scope g cdv A outer s H E0).nox x) (hm : mg x = some (.ref g2)) (hk : PySem.W.keepIn K (.ref g2) = true) (hN : N[i]? = some a) (hv : Vis scope a)
    (hdx : (x == ("__debug__" : Str)) = false := by decide) (hd : (a == ("__debug__" : Str)) = false := by decide) (hcd : (a == ("__classdict__" : Str)) = false := by decide)
    (he : starEach [.Name a pa] (cxOf CX0 P w K mg base N qual scope g cdv A outer s H E0).nox.env = (false, eval (.Name a pa) (cxOf CX0 P w K mg base N qual scope g cdv A outer s H E0).nox.env) :: starEach [] (cxOf CX0 P w K mg base N qual scope g cdv A outer s H E0).nox.env := by rfl) :
    PE (cxOf CX0 P w K mg base N qual scope g cdv A outer s H E0).nox (.Call (.Name x q) [.Name a pa] [] pos) (fun σZ HZ Q => σZ[i]? = some (some (.ref f)) ∧ TT tl HZ Q) := by
  refine ⟨fun pins sZ σZ HZ Q IZ h => ?_⟩
  obtain ⟨hs, ht⟩ := h
  have ha : PA (cxOf CX0 P w K mg base N qual scope g cdv A outer s H E0).nox [.Name a pa] _ := pa_cons (pe_var (pos := pa) (i := i) hN hv hd hcd) pa_nil he
  refine wpAny_Call_Name_kw (ld_glob IZ hg hm (PySem.W.callWith_K (first := []) (h₀ := base) IZ.ok.mod.kin hk (thn (ha.run pos pins sZ σZ HZ (fun vs H1 => vs = [.ref f] ∧ H1 = HZ) IZ ⟨.ref f, hs, rfl, rfl⟩) fun us s1 ⟨vs, H1, I1, r1, ev, eH⟩ => ⟨I1.kIn, ?_⟩) he rfl) hdx)
  subst ev
  rw [eH] at I1
  obtain rfl : us = [Value.ref f] := by
    cases r1 with
    | cons r rr =>
      cases rr
      cases r
      rfl
  have un : Un (frs outer) [] H HZ s.heap s1.heap := I1.base
  have act2 := (act.on un (Heap.get?_none_of_le (Nat.le_refl _))).mono hkl
  refine wpAny_call (codeAny_mono (Fn.run _ _ s1 HZ f Q tl hr I1.env0 act2 ht) fun r s' hq => ?_)
  cases r with
  | error e => exact hq.elim
  | ok fl =>
    cases fl with
    | ret u => exact I1.after hq
    | next => exact hq.elim
    | brk => exact hq.elim
    | cont => exact hq.elim
end
/-- x(lambda: body): T the tables of the code objects -/
def tLamL (T : List (Addr × Str)) (q : Str) (TT : TTL) (t : XK → TE) : TE := fun σ H Q => Tabs T H ∧ ∀ (H1 : Hp) (c' : Addr), ExtN H H1 → Tabs T H1 → H1 c' = some (CodeO c' q) → TT (fun E H' Q' => H' c' = some (CodeO c' q) ∧ t E σ H' Q') H1 Q
section
variable {X : Cx}
theorem pe_lamL {T : List (Addr × Str)} {TT : TTL} {x : Str} {g c Pt : Addr} {k kl kb : Nat} {params : Arguments} {body : Expr} {scope : Scope} {t : XK → TE} {p lpos pos : Pos} (Fn : FnL X.prog X.w X.K X.mg X.base k kl g TT) (hkl : kb + 1 ≤ kl) (hr : Room k X.A) (hg : Gl X x) (hm : X.mg x = some (.ref g)) (hk : PySem.W.keepIn X.K (.ref g) = true)
    (TB : TabB X.base X.mg c Pt) (hcode : X.env.code = .ref c) (hmT : (Pt, X.env.qual ++ "<lambda>") ∈ T) (hu : ∀ p ∈ T, p.1 = Pt → p.2 = X.env.qual ++ "<lambda>") (L : LamS X.env.scope scope) (hdef : defaultsOf params X.env = ([], []))
    (hbind : ∀ (q : Str) (cl : List (Str × Addr)) (pm cv ctv : Value), bindArgs (PySem.W.kla_fn "<lambda>" q params body scope cl pm cv ctv) ⟨[], []⟩ = pure [])
    (hbody : ∀ (A : Around) (outer : List Env) (s : Shared) (H : Hp) (E : XK) (f c' : Addr), Room kb (A.deeper (lamEnv X scope s.heap.objs.size f c')) → PE (lamX X A outer s H E scope f c') body (t E)) (hdb : (x == ("__debug__" : Str)) = false := by decide)
    (he : starEach [.Lambda params body scope lpos] X.env = (false, eval (.Lambda params body scope lpos) X.env) :: starEach [] X.env := by rfl) :
    PE X (.Call (.Name x p) [.Lambda params body scope lpos] [] pos) (tLamL T (X.env.qual ++ "<lambda>") TT t) := by
  refine ⟨fun pins s σ H Q I h => ?_⟩
  obtain ⟨hT, h⟩ := h
  refine wpAny_Call_Name_kw (ld_glob I hg hm (PySem.W.callWith_K (first := []) (h₀ := X.base) I.ok.mod.kin hk ?_ he rfl) hdb)
  rw [show backTo pos (starEach [.Lambda params body scope lpos] X.env) = (false, eval (.Lambda params body scope lpos) X.env) :: [] from by rw [he]; rfl]
  refine Calls.spliced_cons (lam_make2 I TB hcode hmT hu hT hdef (L.has I.ok) fun f c' pm' ctv H1 s' I1 eN T1 hf hfn hfr hco => Calls.spliced_nil ⟨I1.kIn, ?_⟩)
  have act := (lam_act (t := t) (k := kb) I1 L hf hfn hfr (hbind _ _ _ _ _) (fun A outer s H E hr2 => hbody A outer s H E f c' hr2)).mono hkl
  refine wpAny_call (codeAny_mono (Fn.run _ _ s' H1 f Q _ hr I1.env0 act (h H1 c' eN T1 hco)) fun r s2 hq => ?_)
  cases r with
  | error e => exact hq.elim
  | ok fl =>
    cases fl with
    | ret u => exact I1.after hq
    | next => exact hq.elim
    | brk => exact hq.elim
    | cont => exact hq.elim
end
end RLX
/-! what the head tells of the exceptions, by names; a Hook with its addresses as a list -/
namespace RLX
open PySem PySem.Spec PyProof.Rows L2 L2H HotX LamX
/-- all classes that are told apart, in the law's order -/
def allX1 : List Str := ["BadMany", "BadWay", "BadOrder", "BadPace", "BadLot", "BadLook", "BadAnswer", "BadStory", "BadBeat", "BadCount", "BadHands", "BadWish", "BadTalk", "BadLost", "BadWorld", "BadSaying", "TooMany"]
def allX2 : List Str := ["BadText", "BadName", "Taken", "Full", "Unfit", "Wrong", "Right", "Late", "BadDeed", "Broken", "NoPlace", "NoNumber", "NoHand", "NoThing", "NoLook", "NoWish", "NothingLeft"]
def allX : List Str := allX1 ++ allX2
def xObj (newId : String) (tail : List Value) (C : Addr) (o : Obj) : Bool := o.cls == .type "type" && ((match o.data with
  | .cls cd => !cd.hasDel && (cd.hasDict && (match cd.mro with
    | .ref c :: bm => decide (c = C) && refsT tail bm
    | _ => false))
  | _ => false) && (match o.slots.toList with
  | [_, _, _, _, some (.builtin n), _] => n == newId
  | _ => false))
theorem xObj_ok {newId : String} {tail : List Value} {C : Addr} {o : Obj} (h : xObj newId tail C o = true) : ∃ nm q N bs bm sn sub ab col dd k0 k1 k2 k3 k5, o = excClassObj nm q C N bs bm true sn sub ab col dd k0 k1 k2 k3 k5 newId ∧ refsT tail bm = true := by
  obtain ⟨oc, od, oda, osl⟩ := o
  obtain ⟨h1, h⟩ := He.ba h
  obtain ⟨h2, h3⟩ := He.ba h
  have e1 : oc = .type "type" := eq_of_beq h1
  subst e1
  dsimp only at h2 h3
  cases oda with
  | cls cd =>
    obtain ⟨c1, c2, c3, c4, c5, c6, c7, c8, c9, c10, c11⟩ := cd
    dsimp only at h2
    have ha := He.ba h2
    have hb := He.ba ha.2
    have e2 : c11 = false := by simpa using ha.1
    have e3 : c6 = true := hb.1
    have h4 := hb.2
    clear h2 ha hb h h1
    subst e2
    subst e3
    cases c3 with
    | nil => cases h4
    | cons m bm =>
      cases m with
      | ref c =>
        obtain ⟨b1, b2⟩ := He.ba h4
        have e3 : c = C := of_decide_eq_true b1
        subst e3
        obtain ⟨l⟩ := osl
        dsimp only at h3
        match l, h3 with
        | [k0, k1, k2, k3, some (.builtin n), k5], h3 =>
          have e4 : n = newId := eq_of_beq h3
          subst e4
          exact ⟨c1, c5, c4, c2, bm, c7, c8, c9, c10, od, k0, k1, k2, k3, k5, rfl, b2⟩
      | _ => cases h4
  | _ => cases h2
def xcB (K : PySem.W.Frag) (newId : String) (tail : List Value) (C : Addr) : Bool := (match K.lookup C with
  | some o => xObj newId tail C o
  | none => false) && (He.eqO (PySem.W.findIn K (.ref C) "__setattr__") (some (some (.builtin "object.__setattr__"))) && (decide (PySem.W.subIn K (.ref C) (.type "BaseException") = some true) && (decide (PySem.W.typeIn K (.ref C) = some (.type "type")) && PySem.W.keepIn K (.ref C))))
theorem xcB_ok {K : PySem.W.Frag} {newId : String} {tail : List Value} {C : Addr} (h : xcB K newId tail C = true) : XcC K newId tail C := by
  obtain ⟨h1, h⟩ := He.ba h
  obtain ⟨h2, h⟩ := He.ba h
  obtain ⟨h3, h⟩ := He.ba h
  obtain ⟨h4, h5⟩ := He.ba h
  refine ⟨?_, He.eqO_ok h2, of_decide_eq_true h3, of_decide_eq_true h4, h5⟩
  cases q : K.lookup C with
  | none =>
    rw [q] at h1
    cases h1
  | some o =>
    rw [q] at h1
    obtain ⟨nm, qq, N, bs, bm, sn, sub, ab, col, dd, k0, k1, k2, k3, k5, e, hb⟩ := xObj_ok h1
    exact ⟨nm, qq, N, bs, bm, sn, sub, ab, col, dd, k0, k1, k2, k3, k5, by rw [e], hb⟩
def ecB (K : PySem.W.Frag) (C : Addr) : Bool := He.eqO (PySem.W.findIn K (.ref C) "__getattribute__") (some (some (.builtin "BaseException.__getattribute__"))) && (He.eqO (PySem.W.findIn K (.ref C) "__getattr__") (some none) && (decide (PySem.W.subIn K (.ref C) (.type "BaseException") = some true) && (PySem.W.hasDictIn K C && (He.eqO (PySem.W.findIn K (.ref C) "__class__") (some (some (.builtin "object.__class__"))) && decide (PySem.W.mroIn K C (.type "object") = some true)))))
theorem get_class {K : PySem.W.Frag} : PySem.W.specialIn K (.builtin "object.__class__") "__get__" = some (some (.builtin "getset_descriptor.__get__")) := by kernel_rfl
theorem takes_class {K : PySem.W.Frag} : PySem.W.takesIn K (.builtin "object.__class__") = some true := by kernel_rfl
theorem ecB_ok {K : PySem.W.Frag} {C : Addr} (h : ecB K C = true) : ExcC K C := by
  obtain ⟨h1, h⟩ := He.ba h
  obtain ⟨h2, h⟩ := He.ba h
  obtain ⟨h3, h⟩ := He.ba h
  obtain ⟨h4, h⟩ := He.ba h
  obtain ⟨h5, h6⟩ := He.ba h
  exact ⟨He.eqO_ok h1, He.eqO_ok h2, of_decide_eq_true h3, h4, He.eqO_ok h5, get_class, takes_class, of_decide_eq_true h6⟩
/-- an exception of the text: its name, its built-in class, its fields -/
structure XName where
  name : Str
  newId : String
  tail : List Value
  fields : List Str
def gx (K : PySem.W.Frag) (x : Str) : Value := .ref (He.ga K x)
def caught (K : PySem.W.Frag) : List Value := [gx K "RoamError", gx K "Missing", gx K "NothingLeft"]
def xnB (K : PySem.W.Frag) (u : XName) : Bool := xcB K u.newId u.tail (He.ga K u.name) && (ecB K (He.ga K u.name) && ((u.fields.all fun f => He.eqO (PySem.W.findIn K (gx K u.name) f) (some none)) && ((allX.all fun m => decide (PySem.W.kitOne K (gx K u.name) (gx K m) = some (decide (m = u.name)))) &&
  (decide (PySem.W.exmAny K (gx K u.name) (caught K) = some true) && (He.eqO (PySem.W.findIn K (gx K u.name) "__init__") (some (some (.ref (He.ma K (He.ga K u.name) "__init__")))) && decide (PySem.W.typeIn K (.ref (He.ma K (He.ga K u.name) "__init__")) = some (.type "function")))))))
structure XnOk (K : PySem.W.Frag) (u : XName) : Prop where
  xc : XcC K u.newId u.tail (He.ga K u.name)
  ec : ExcC K (He.ga K u.name)
  no : ∀ f ∈ u.fields, PySem.W.findIn K (gx K u.name) f = some none
  kit : ∀ m ∈ allX, PySem.W.kitOne K (gx K u.name) (gx K m) = some (decide (m = u.name))
  exm : PySem.W.exmAny K (gx K u.name) (caught K) = some true
  ini : PySem.W.findIn K (gx K u.name) "__init__" = some (some (.ref (He.ma K (He.ga K u.name) "__init__")))
  tin : PySem.W.typeIn K (.ref (He.ma K (He.ga K u.name) "__init__")) = some (.type "function")
theorem xnB_ok {K : PySem.W.Frag} {u : XName} (h : xnB K u = true) : XnOk K u := by
  obtain ⟨h1, h⟩ := He.ba h
  obtain ⟨h2, h⟩ := He.ba h
  obtain ⟨h3, h⟩ := He.ba h
  obtain ⟨h4, h⟩ := He.ba h
  obtain ⟨h5, h⟩ := He.ba h
  obtain ⟨h6, h7⟩ := He.ba h
  exact ⟨xcB_ok h1, ecB_ok h2, fun f hf => He.eqO_ok (List.all_eq_true.mp h3 f hf), fun m hm => of_decide_eq_true (List.all_eq_true.mp h4 m hm), of_decide_eq_true h5, He.eqO_ok h6, of_decide_eq_true h7⟩
theorem kitAny_of {K : PySem.W.Frag} {n : Str} : ∀ {ms : List Str}, (∀ m ∈ ms, PySem.W.kitOne K (gx K n) (gx K m) = some (decide (m = n))) → PySem.W.kitAny K (gx K n) ((ms.map (He.ga K)).map Value.ref) = some (decide (n ∈ ms))
  | [], _ => by simp [PySem.W.kitAny]
  | m :: ms, h => by
    have h1 := h m List.mem_cons_self
    have ih := kitAny_of (ms := ms) fun m' hm' => h m' (List.mem_cons_of_mem _ hm')
    show (match PySem.W.kitOne K (gx K n) (gx K m) with
      | some true => some true
      | some false => PySem.W.kitAny K (gx K n) ((ms.map (He.ga K)).map Value.ref)
      | none => none) = _
    rw [h1]
    by_cases e : m = n
    · subst e
      simp
    · rw [decide_eq_false e]
      show PySem.W.kitAny K (gx K n) ((ms.map (He.ga K)).map Value.ref) = _
      rw [ih]
      have e' : n ≠ m := fun z => e z.symm
      simp [e']
/-- an own class whose __init__ is called by its name -/
def rootB (K : PySem.W.Frag) (x : Str) : Bool := decide (PySem.W.specialIn K (gx K x) "__getattribute__" = some (some (.builtin "type.__getattribute__"))) && (PySem.W.readsIn K (He.ga K x) (.type "type") && ((match PySem.W.findCls K (gx K x) (.type "type") "__init__" with
  | some (.val (.ref a)) => decide (a = He.ma K (He.ga K x) "__init__")
  | _ => false) && PySem.W.keepIn K (.ref (He.ma K (He.ga K x) "__init__"))))
structure RootOk (K : PySem.W.Frag) (x : Str) : Prop where
  ga : PySem.W.specialIn K (gx K x) "__getattribute__" = some (some (.builtin "type.__getattribute__"))
  rd : PySem.W.readsIn K (He.ga K x) (.type "type") = true
  fn : PySem.W.findCls K (gx K x) (.type "type") "__init__" = some (.val (.ref (He.ma K (He.ga K x) "__init__")))
  kp : PySem.W.keepIn K (.ref (He.ma K (He.ga K x) "__init__")) = true
theorem rootB_ok {K : PySem.W.Frag} {x : Str} (h : rootB K x = true) : RootOk K x := by
  obtain ⟨h1, h⟩ := He.ba h
  obtain ⟨h2, h⟩ := He.ba h
  obtain ⟨h3, h4⟩ := He.ba h
  refine ⟨of_decide_eq_true h1, h2, ?_, h4⟩
  cases q : PySem.W.findCls K (gx K x) (.type "type") "__init__" with
  | none =>
    rw [q] at h3
    cases h3
  | some c =>
    rw [q] at h3
    cases c with
    | get _ _ _ _ => cases h3
    | val v =>
      cases v with
      | ref a =>
        have e : a = He.ma K (He.ga K x) "__init__" := of_decide_eq_true h3
        rw [e]
      | _ => cases h3
theorem init_V {K : PySem.W.Frag} : PySem.W.findCls K (.type "ValueError") (.type "type") "__init__" = some (.val (.builtin "ValueError.__init__")) := by kernel_rfl
theorem init_L {K : PySem.W.Frag} : PySem.W.findCls K (.type "LookupError") (.type "type") "__init__" = some (.val (.builtin "LookupError.__init__")) := by kernel_rfl
theorem init_I {K : PySem.W.Frag} : PySem.W.findCls K (.type "IndexError") (.type "type") "__init__" = some (.val (.builtin "IndexError.__init__")) := by kernel_rfl
theorem typ_V : typeOf (.type "ValueError") = pure (.type "type") := by kernel_rfl
theorem typ_L : typeOf (.type "LookupError") = pure (.type "type") := by kernel_rfl
theorem typ_I : typeOf (.type "IndexError") = pure (.type "type") := by kernel_rfl
def exB (roots : List Str) (us : List XName) (K : PySem.W.Frag) : Bool := (roots.all fun x => rootB K x) && us.all fun u => xnB K u
/-! ### the Hook -/
structure SaysL (fa : List He.Fa) (fn : List He.DefD) (tf : List He.Defn) (ex : PySem.W.Frag → Bool) (h : Heap) (K : PySem.W.Frag) : Prop where
  d : He.SaysD fa fn K
  more : ex K = true
  hd : ∀ p ∈ tf, PySem.W.codeHdIn K (He.cT K p).1 (He.cT K p).2 = true
  out : ∀ p ∈ tf, K.lookup (He.cT K p).2 = none
  empty : ∀ p ∈ tf, h.get? (He.cT K p).2 = some { cls := .none, data := .fields #[] }
def obsL (as : List Addr) (fa : List He.Fa) (fn : List He.DefD) (tf : List He.Defn) (ex : PySem.W.Frag → Bool) (g : Addr → Option Obj) : He.AlD × Bool := (He.obsD fa fn (He.frT g as), ex (He.frT g as) && He.tabsB g tf (He.frT g as))
theorem saysL_of {as : List Addr} {fa : List He.Fa} {fn : List He.DefD} {tf : List He.Defn} {ex : PySem.W.Frag → Bool} {h : Heap} (e : obsL as fa fn tf ex h.get? = (He.valD fn, true)) : SaysL fa fn tf ex h (He.frT h.get? as) := by
  obtain ⟨e1, e2⟩ := Prod.mk.inj e
  obtain ⟨m1, m2⟩ := He.ba e2
  have tab : ∀ p ∈ tf, PySem.W.codeHdIn (He.frT h.get? as) (He.cT (He.frT h.get? as) p).1 (He.cT (He.frT h.get? as) p).2 = true ∧ ∃ o, h.get? (He.cT (He.frT h.get? as) p).2 = some o ∧ He.emptyTab o = true := fun p hp => by
    obtain ⟨t1, t2⟩ := He.ba (List.all_eq_true.mp m2 p hp)
    refine ⟨t1, ?_⟩
    cases q : h.get? (He.cT (He.frT h.get? as) p).2 with
    | none =>
      rw [q] at t2
      cases t2
    | some o =>
      rw [q] at t2
      exact ⟨o, rfl, t2⟩
  refine ⟨e1, m1, fun p hp => (tab p hp).1, fun p hp => ?_, fun p hp => ?_⟩
  · obtain ⟨_, o, g1, g2⟩ := tab p hp
    exact He.frT_none g1 g2
  · obtain ⟨_, o, g1, g2⟩ := tab p hp
    rw [g1, He.emptyTab_eq g2]
def hookL (as : List Addr) (fa : List He.Fa) (fn : List He.DefD) (tf : List He.Defn) (ex : PySem.W.Frag → Bool) : PySem.W.Hook where
  α := He.AlD × Bool
  obs := fun s => obsL as fa fn tf ex s.heap.get?
  val := fun _ => (He.valD fn, true)
  says := fun _ h => ∃ K : PySem.W.Frag, K.In h ∧ SaysL fa fn tf ex h K
  of := fun _ _ e => ⟨_, He.frT_in, saysL_of e⟩
  keeps := fun _ _ _ ⟨K, hK, c⟩ k => ⟨K, PySem.W.Frag.In.keeps hK k, ⟨c.d, c.more, c.hd, c.out, fun p hp => k _ _ (c.empty p hp)⟩⟩
end RLX
/-! the empty tuple that a def has as its default -/
namespace RLX
open PySem PySem.Spec PyProof.Rows L2
def dflB (f : Str × Option Str) (K : PySem.W.Frag) : Bool := match K.lookup (He.dflAt f 0 K) with
  | some o => decide (o.cls = .type "tuple") && (match o.data with
    | .seq its _ => its.size == 0
    | _ => false)
  | none => false
theorem dfl_ok {K : PySem.W.Frag} {f : Str × Option Str} (h : dflB f K = true) (H : Hp) : SqT K H (He.dflAt f 0 K) [] := by
  unfold dflB at h
  cases e : K.lookup (He.dflAt f 0 K) with
  | none => rw [e] at h; cases h
  | some o =>
    rw [e] at h
    obtain ⟨h1, h2⟩ := He.ba h
    cases d : o.data with
    | seq its n =>
      have h2 : (match o.data with
        | .seq its _ => its.size == 0
        | _ => false) = true := h2
      rw [d] at h2
      have z : its.size = 0 := by simpa using h2
      have ez : its = #[] := Array.eq_empty_of_size_eq_zero z
      subst ez
      exact .inr ⟨o, #[], n, e, of_decide_eq_true h1, d, Nat.zero_le _, .nil⟩
    | _ =>
      exfalso
      have h2 : (match o.data with
        | .seq its _ => its.size == 0
        | _ => false) = true := h2
      rw [d] at h2
      cases h2
/-- the object that a keyword-only parameter has as its default -/
def kwdAt (f : Str × Option Str) (x : Str) (K : PySem.W.Frag) : Addr := match K.lookup (He.fAd K f) with
  | some ⟨_, _, .func fd, _⟩ => (match fd.kwdefaults with
    | .ref D => (match PySem.W.nsIn K D x with
      | some (some (.ref a)) => a
      | _ => 0)
    | _ => 0)
  | _ => 0
def kwdB (f : Str × Option Str) (x : Str) (K : PySem.W.Frag) : Bool := match K.lookup (kwdAt f x K) with
  | some o => decide (o.cls = .type "tuple") && (match o.data with
    | .seq its _ => its.size == 0
    | _ => false)
  | none => false
theorem kwd_ok {K : PySem.W.Frag} {f : Str × Option Str} {x : Str} (h : kwdB f x K = true) (H : Hp) : SqT K H (kwdAt f x K) [] := by
  unfold kwdB at h
  cases e : K.lookup (kwdAt f x K) with
  | none => rw [e] at h; cases h
  | some o =>
    rw [e] at h
    obtain ⟨h1, h2⟩ := He.ba h
    cases d : o.data with
    | seq its n =>
      have h2 : (match o.data with
        | .seq its _ => its.size == 0
        | _ => false) = true := h2
      rw [d] at h2
      have z : its.size = 0 := by simpa using h2
      have ez : its = #[] := Array.eq_empty_of_size_eq_zero z
      subst ez
      exact .inr ⟨o, #[], n, e, of_decide_eq_true h1, d, Nat.zero_le _, .nil⟩
    | _ =>
      exfalso
      have h2 : (match o.data with
        | .seq its _ => its.size == 0
        | _ => false) = true := h2
      rw [d] at h2
      cases h2
end RLX
/-! the Hook of a law with lambdas and exceptions, and with written dicts of the module -/
namespace RLX
open PySem PySem.Spec PyProof.Rows L2 L2H HotX LamX
abbrev AlLT : Type := (He.AlD × Bool) × List (Option (List (Option (Str × Int))))
def obsLT (as : List Addr) (fa : List He.Fa) (fn : List He.DefD) (tf : List He.Defn) (ex : PySem.W.Frag → Bool) (ts : List He.Tab) (g : Addr → Option Obj) : AlLT := (obsL as fa fn tf ex g, ts.map fun t => He.dicW (He.frT g as) (t.1 (He.frT g as)))
structure SaysLT (fa : List He.Fa) (fn : List He.DefD) (tf : List He.Defn) (ex : PySem.W.Frag → Bool) (ts : List He.Tab) (w : World) (h : Heap) (K : PySem.W.Frag) : Prop extends SaysL fa fn tf ex h K where
  tabs : (ts.map fun t => He.dicW K (t.1 K)) = ts.map fun t => some (He.keysIn w.params t.2)
def hookLT (as : List Addr) (fa : List He.Fa) (fn : List He.DefD) (tf : List He.Defn) (ex : PySem.W.Frag → Bool) (ts : List He.Tab) : PySem.W.Hook where
  α := AlLT
  obs := fun s => obsLT as fa fn tf ex ts s.heap.get?
  val := fun w => ((He.valD fn, true), ts.map fun t => some (He.keysIn w.params t.2))
  says := fun w h => ∃ K : PySem.W.Frag, K.In h ∧ SaysLT fa fn tf ex ts w h K
  of := fun _ _ e => by
    obtain ⟨e1, e2⟩ := Prod.mk.inj e
    exact ⟨_, He.frT_in, ⟨saysL_of e1, e2⟩⟩
  keeps := fun _ _ _ ⟨K, hK, c⟩ k => ⟨K, PySem.W.Frag.In.keeps hK k, ⟨⟨c.d, c.more, c.hd, c.out, fun p hp => k _ _ (c.empty p hp)⟩, c.tabs⟩⟩
theorem SaysLT.tab {fa : List He.Fa} {fn : List He.DefD} {tf : List He.Defn} {ex : PySem.W.Frag → Bool} {ts : List He.Tab} {w : World} {h : Heap} {K : PySem.W.Frag} (c : SaysLT fa fn tf ex ts w h K) (i : Nat) {t : He.Tab} (hi : ts[i]? = some t := by rfl) : He.dicW K (t.1 K) = some (He.keysIn w.params t.2) := by
  have e2 : (ts.map fun t => He.dicW K (t.1 K))[i]? = (ts.map fun t => some (He.keysIn w.params t.2))[i]? := by rw [c.tabs]
  rw [List.getElem?_map, List.getElem?_map, hi] at e2
  exact Option.some.inj e2
/-- a written dict of the module, by its name: its keys in their order -/
class Dct (K : PySem.W.Frag) (w : World) (x : Str) (ks : List Str) : Prop where
  is : He.dicW K (He.ga K x) = some (He.keysIn w.params ks)
theorem Dct.kd {K : PySem.W.Frag} {w : World} {x : Str} {ks : List Str} (D : Dct K w x ks) : ∃ es n, KDict K w (He.ga K x) es n ∧ es.toList.map He.keyOf = He.keysIn w.params ks := by
  have h := D.is
  obtain ⟨es, n, k⟩ := He.dicW_ok h
  refine ⟨es, n, k, ?_⟩
  unfold He.dicW at h
  rw [k.at_] at h
  have h1 : (match decide ("dict" = "dict") && ((#[] : Array (Option Value)).isEmpty && !(He.ga K x == sysModules)) with
    | true => some (es.toList.map He.keyOf)
    | false => none) = some (He.keysIn w.params ks) := h
  rw [k.low] at h1
  exact Option.some.inj h1
theorem find_none : ∀ {P : Params} {l : List DictEntry} {ks : List Str} {z : Str}, l.map He.keyOf = He.keysIn P ks → z ∉ ks → l.find? (·.key.isStr z) = none ∧ l.any (·.refKey) = false
  | _, [], _, _, _, _ => ⟨rfl, rfl⟩
  | _, e :: r, [], _, h, _ => by cases h
  | P, e :: r, k :: ks, z, h, n => by
    have h1 : He.keyOf e :: r.map He.keyOf = some (k, PyData.keyHash P k) :: He.keysIn P ks := h
    injection h1 with h2 h3
    obtain ⟨i1, i2⟩ := find_none h3 fun m => n (List.mem_cons_of_mem _ m)
    unfold He.keyOf at h2
    split at h2
    · rename_i x t q
      have h4 := Option.some.inj h2
      obtain ⟨h5, h6⟩ := Prod.mk.inj h4
      have e1 : e.key.isStr z = false := by
        rw [q, PySem.W.isStr_of]
        show decide _ = false
        exact decide_eq_false fun y => n (by rw [← y, h5]; exact List.mem_cons_self)
      refine ⟨by rw [List.find?_cons, e1]; exact i1, ?_⟩
      rw [List.any_cons, i2, Bool.or_false]
      unfold DictEntry.refKey
      rw [q]
    · cases h2
/-- a key that the dict lacks -/
theorem Dct.lacks {K : PySem.W.Frag} {w : World} {x : Str} {ks : List Str} (D : Dct K w x ks) {z : Str} (h : z ∉ ks) : PySem.W.nsIn K (He.ga K x) z = some none := by
  obtain ⟨es, n, k, e⟩ := D.kd
  obtain ⟨i1, i2⟩ := find_none e h
  unfold PySem.W.nsIn
  rw [k.at_]
  simp only [i1, i2]
  rfl
end RLX
/-! The text by places, its facts by names. -/
namespace RL
open PySem PySem.Spec PyProof.Rows L2
def top (i : Nat) : Stmt := PySem.Challenge.pw_roamlook_k09_looks_written_and_read.main.body.getD i (.Pass ⟨0, 0, 0, 0⟩)
abbrev s_RoamError_init : Stmt := inClass (top 2) 0
abbrev s_BadText_init : Stmt := inClass (top 20) 0
abbrev s_is_number : Stmt := top 40
abbrev s_is_between : Stmt := top 41
abbrev s_is_lot : Stmt := top 42
abbrev s_is_filled_lot : Stmt := top 43
abbrev s_rising_ways : Stmt := top 44
abbrev s_fars_from : Stmt := top 45
abbrev s_way_text : Stmt := top 46
abbrev s_Board_init : Stmt := inClass (top 47) 0
abbrev s_Board_ways : Stmt := inClass (top 47) 1
abbrev s_Board_far : Stmt := inClass (top 47) 3
abbrev s_Board_check_place : Stmt := inClass (top 47) 7
abbrev s_Board_len : Stmt := inClass (top 47) 9
abbrev s_figures_text : Stmt := top 50
abbrev s_read_figures : Stmt := top 51
abbrev s_lot_text : Stmt := top 52
abbrev s_read_lot : Stmt := top 53
abbrev s_are_parts : Stmt := top 56
abbrev s_is_look : Stmt := top 57
abbrev s_look_text : Stmt := top 58
abbrev s_look_of_words : Stmt := top 59
abbrev s_read_look : Stmt := top 60
abbrev s__law_box : Stmt := top 62
abbrev s__law_pick : Stmt := top 63
abbrev s__law_from : Stmt := top 64
abbrev s__law_mixed : Stmt := top 65
abbrev s__law_same : Stmt := top 66
abbrev s__law_flags : Stmt := top 67
abbrev s__law_word : Stmt := top 68
abbrev s__law_field : Stmt := top 69
abbrev s__law_tried : Stmt := top 70
abbrev s__law_refused : Stmt := top 71
abbrev s__law_lot : Stmt := top 72
abbrev s__law_look : Stmt := top 73
abbrev s__law_lot_text : Stmt := top 74
abbrev s__law_look_text : Stmt := top 75
abbrev s__law_read_lot : Stmt := top 76
abbrev s__law_read_look : Stmt := top 77
abbrev s_law : Stmt := top 78
abbrev FnP (K : PySem.W.Frag) (x q : Str) (st : Stmt) (ds : List V) (f : Addr) (fd : FuncData) : Prop := FunD K x q (defArgs st) (defBody st) (defScope st) ds [] f fd
def d_RoamError_init : He.DefD := ⟨("RoamError", some "__init__"), "__init__", "RoamError.__init__", defArgs s_RoamError_init, defBody s_RoamError_init, defScope s_RoamError_init, [.str "RoamError"], []⟩
def d_BadText_init : He.DefD := ⟨("BadText", some "__init__"), "__init__", "BadText.__init__", defArgs s_BadText_init, defBody s_BadText_init, defScope s_BadText_init, [], []⟩
def d_is_number : He.DefD := ⟨("is_number", none), "is_number", "is_number", defArgs s_is_number, defBody s_is_number, defScope s_is_number, [], []⟩
def d_is_between : He.DefD := ⟨("is_between", none), "is_between", "is_between", defArgs s_is_between, defBody s_is_between, defScope s_is_between, [], []⟩
def d_is_lot : He.DefD := ⟨("is_lot", none), "is_lot", "is_lot", defArgs s_is_lot, defBody s_is_lot, defScope s_is_lot, [], []⟩
def d_is_filled_lot : He.DefD := ⟨("is_filled_lot", none), "is_filled_lot", "is_filled_lot", defArgs s_is_filled_lot, defBody s_is_filled_lot, defScope s_is_filled_lot, [], []⟩
def d_rising_ways : He.DefD := ⟨("rising_ways", none), "rising_ways", "rising_ways", defArgs s_rising_ways, defBody s_rising_ways, defScope s_rising_ways, [], []⟩
def d_fars_from : He.DefD := ⟨("fars_from", none), "fars_from", "fars_from", defArgs s_fars_from, defBody s_fars_from, defScope s_fars_from, [], []⟩
def d_way_text : He.DefD := ⟨("way_text", none), "way_text", "way_text", defArgs s_way_text, defBody s_way_text, defScope s_way_text, [], []⟩
def d_Board_init : He.DefD := ⟨("Board", some "__init__"), "__init__", "Board.__init__", defArgs s_Board_init, defBody s_Board_init, defScope s_Board_init, [.adr (He.dflAt ("Board", some "__init__") 0)], []⟩
def d_Board_ways : He.DefD := ⟨("Board", some "ways"), "ways", "Board.ways", defArgs s_Board_ways, defBody s_Board_ways, defScope s_Board_ways, [], []⟩
def d_Board_far : He.DefD := ⟨("Board", some "far"), "far", "Board.far", defArgs s_Board_far, defBody s_Board_far, defScope s_Board_far, [], []⟩
def d_Board_check_place : He.DefD := ⟨("Board", some "check_place"), "check_place", "Board.check_place", defArgs s_Board_check_place, defBody s_Board_check_place, defScope s_Board_check_place, [], []⟩
def d_Board_len : He.DefD := ⟨("Board", some "__len__"), "__len__", "Board.__len__", defArgs s_Board_len, defBody s_Board_len, defScope s_Board_len, [], []⟩
def d_figures_text : He.DefD := ⟨("figures_text", none), "figures_text", "figures_text", defArgs s_figures_text, defBody s_figures_text, defScope s_figures_text, [], []⟩
def d_read_figures : He.DefD := ⟨("read_figures", none), "read_figures", "read_figures", defArgs s_read_figures, defBody s_read_figures, defScope s_read_figures, [], []⟩
def d_lot_text : He.DefD := ⟨("lot_text", none), "lot_text", "lot_text", defArgs s_lot_text, defBody s_lot_text, defScope s_lot_text, [], []⟩
def d_read_lot : He.DefD := ⟨("read_lot", none), "read_lot", "read_lot", defArgs s_read_lot, defBody s_read_lot, defScope s_read_lot, [], []⟩
def d_are_parts : He.DefD := ⟨("are_parts", none), "are_parts", "are_parts", defArgs s_are_parts, defBody s_are_parts, defScope s_are_parts, [], []⟩
def d_is_look : He.DefD := ⟨("is_look", none), "is_look", "is_look", defArgs s_is_look, defBody s_is_look, defScope s_is_look, [], []⟩
def d_look_text : He.DefD := ⟨("look_text", none), "look_text", "look_text", defArgs s_look_text, defBody s_look_text, defScope s_look_text, [], []⟩
def d_look_of_words : He.DefD := ⟨("look_of_words", none), "look_of_words", "look_of_words", defArgs s_look_of_words, defBody s_look_of_words, defScope s_look_of_words, [], []⟩
def d_read_look : He.DefD := ⟨("read_look", none), "read_look", "read_look", defArgs s_read_look, defBody s_read_look, defScope s_read_look, [], []⟩
def d__law_box : He.DefD := ⟨("_law_box", none), "_law_box", "_law_box", defArgs s__law_box, defBody s__law_box, defScope s__law_box, [], []⟩
def d__law_pick : He.DefD := ⟨("_law_pick", none), "_law_pick", "_law_pick", defArgs s__law_pick, defBody s__law_pick, defScope s__law_pick, [], []⟩
def d__law_from : He.DefD := ⟨("_law_from", none), "_law_from", "_law_from", defArgs s__law_from, defBody s__law_from, defScope s__law_from, [], []⟩
def d__law_mixed : He.DefD := ⟨("_law_mixed", none), "_law_mixed", "_law_mixed", defArgs s__law_mixed, defBody s__law_mixed, defScope s__law_mixed, [], []⟩
def d__law_same : He.DefD := ⟨("_law_same", none), "_law_same", "_law_same", defArgs s__law_same, defBody s__law_same, defScope s__law_same, [], []⟩
def d__law_flags : He.DefD := ⟨("_law_flags", none), "_law_flags", "_law_flags", defArgs s__law_flags, defBody s__law_flags, defScope s__law_flags, [], []⟩
def d__law_word : He.DefD := ⟨("_law_word", none), "_law_word", "_law_word", defArgs s__law_word, defBody s__law_word, defScope s__law_word, [], []⟩
def d__law_field : He.DefD := ⟨("_law_field", none), "_law_field", "_law_field", defArgs s__law_field, defBody s__law_field, defScope s__law_field, [], []⟩
def d__law_tried : He.DefD := ⟨("_law_tried", none), "_law_tried", "_law_tried", defArgs s__law_tried, defBody s__law_tried, defScope s__law_tried, [], []⟩
def d__law_refused : He.DefD := ⟨("_law_refused", none), "_law_refused", "_law_refused", defArgs s__law_refused, defBody s__law_refused, defScope s__law_refused, [], []⟩
def d__law_lot : He.DefD := ⟨("_law_lot", none), "_law_lot", "_law_lot", defArgs s__law_lot, defBody s__law_lot, defScope s__law_lot, [], []⟩
def d__law_look : He.DefD := ⟨("_law_look", none), "_law_look", "_law_look", defArgs s__law_look, defBody s__law_look, defScope s__law_look, [], []⟩
def d__law_lot_text : He.DefD := ⟨("_law_lot_text", none), "_law_lot_text", "_law_lot_text", defArgs s__law_lot_text, defBody s__law_lot_text, defScope s__law_lot_text, [], []⟩
def d__law_look_text : He.DefD := ⟨("_law_look_text", none), "_law_look_text", "_law_look_text", defArgs s__law_look_text, defBody s__law_look_text, defScope s__law_look_text, [], []⟩
def d__law_read_lot : He.DefD := ⟨("_law_read_lot", none), "_law_read_lot", "_law_read_lot", defArgs s__law_read_lot, defBody s__law_read_lot, defScope s__law_read_lot, [], []⟩
def d__law_read_look : He.DefD := ⟨("_law_read_look", none), "_law_read_look", "_law_read_look", defArgs s__law_read_look, defBody s__law_read_look, defScope s__law_read_look, [], []⟩
def d_law : He.DefD := ⟨("law", none), "law", "law", defArgs s_law, defBody s_law, defScope s_law, [], []⟩
def fn : List He.DefD := [d_RoamError_init, d_BadText_init, d_is_number, d_is_between, d_is_lot, d_is_filled_lot, d_rising_ways, d_fars_from, d_way_text, d_Board_init, d_Board_ways, d_Board_far, d_Board_check_place, d_Board_len, d_figures_text, d_read_figures, d_lot_text, d_read_lot, d_are_parts, d_is_look, d_look_text, d_look_of_words, d_read_look, d__law_box, d__law_pick, d__law_from, d__law_mixed, d__law_same, d__law_flags, d__law_word, d__law_field, d__law_tried, d__law_refused, d__law_lot, d__law_look, d__law_lot_text, d__law_look_text, d__law_read_lot, d__law_read_look, d_law]
def fa0 : List He.Fa := [.glo "is_number", .glo "is_between", .glo "is_lot", .glo "is_filled_lot", .glo "rising_ways", .glo "fars_from", .glo "way_text", .glo "figures_text", .glo "read_figures", .glo "lot_text", .glo "read_lot", .glo "are_parts", .glo "is_look", .glo "look_text", .glo "look_of_words", .glo "read_look", .glo "_law_box", .glo "_law_pick", .glo "_law_from", .glo "_law_mixed", .glo "_law_same", .glo "_law_flags", .glo "_law_word", .glo "_law_field", .glo "_law_tried", .glo "_law_refused", .glo "_law_lot", .glo "_law_look", .glo "_law_lot_text", .glo "_law_look_text"]
def fa1 : List He.Fa := [.glo "_law_read_lot", .glo "_law_read_look", .glo "law", .glo "Board", .free "all", .free "any", .free "bool", .free "enumerate", .free "int", .free "isinstance", .free "len", .free "list", .free "max", .free "range", .free "set", .free "sorted", .free "str", .free "tuple", .free "zip", .int "MOST_PLACES" 8, .int "MOST_NEAR" 7, .glo "RoamError", .glo "BadMany", .glo "BadWay", .glo "BadOrder", .glo "BadPace", .glo "BadLot", .glo "BadLook", .glo "BadAnswer", .glo "BadStory"]
def fa2 : List He.Fa := [.glo "BadBeat", .glo "BadCount", .glo "BadHands", .glo "BadWish", .glo "BadTalk", .glo "BadLost", .glo "BadWorld", .glo "BadSaying", .glo "TooMany", .glo "BadText", .glo "BadName", .glo "Taken", .glo "Full", .glo "Unfit", .glo "Wrong", .glo "Right", .glo "Late", .glo "BadDeed", .glo "Broken", .glo "Missing", .glo "NoPlace", .glo "NoNumber", .glo "NoHand", .glo "NoThing", .glo "NoLook", .glo "NoWish", .glo "NothingLeft", .glo "FIGURES", .free "ValueError", .free "LookupError"]
def fa3 : List He.Fa := [.free "IndexError", .cls "Board", .mkr "Board", .noat "Board" "many", .noat "Board" "pairs", .noat "Board" "leads", .noat "Board" "fars", .meth "Board" "ways", .meth "Board" "far", .meth "Board" "check_place", .meth "Board" "__len__"]
def fa : List He.Fa := fa0 ++ fa1 ++ fa2 ++ fa3
abbrev R : PySem.W.OpenRow := PySem.W.OpenLaw.row PySem.Challenge.rw_roamlook_k09_looks_written_and_read
def xn_BadText : RLX.XName := ⟨"BadText", "ValueError.__new__", [.type "ValueError", .type "Exception", .type "BaseException", .type "object"], ["word", "at", "name", "number", "most", "many", "beat", "count", "place", "hand"]⟩
def exF : PySem.W.Frag → Bool := fun K => RLX.exB ["RoamError"] [xn_BadText] K && (RLX.dflB ("Board", some "__init__") K && He.valsB K (He.ga K "FIGURES") [("0", .int 0), ("1", .int 1), ("2", .int 2), ("3", .int 3), ("4", .int 4), ("5", .int 5), ("6", .int 6), ("7", .int 7)])
def tsD : List He.Tab := [(fun K => He.ga K "FIGURES", ["0", "1", "2", "3", "4", "5", "6", "7"])]
def tf : List He.Defn := [("law", none)]
end RL
namespace RL
open PySem PySem.Spec PyProof.Rows L2
def lo0 : List PySem.Str := ["_wall", "RoamError", "BadMany", "BadWay", "BadOrder", "BadPace", "BadLot", "BadLook", "BadAnswer", "BadStory", "BadBeat", "BadCount", "BadHands", "BadWish", "BadTalk", "BadLost", "BadWorld", "BadSaying", "TooMany", "BadText", "BadName", "Taken", "Full", "Unfit", "Wrong", "Right", "Late", "BadDeed", "Broken", "Missing"]
def lo1 : List PySem.Str := ["NoPlace", "NoNumber", "NoHand", "NoThing", "NoLook", "NoWish", "NothingLeft", "MOST_PLACES", "is_number", "is_between", "is_lot", "is_filled_lot", "rising_ways", "fars_from", "way_text", "Board", "FIGURES", "figures_text", "read_figures", "lot_text", "read_lot", "MOST_NEAR", "are_parts", "is_look", "look_text", "look_of_words", "read_look", "_law_box", "_law_pick", "_law_from"]
def lo2 : List PySem.Str := ["_law_mixed", "_law_same", "_law_flags", "_law_word", "_law_field", "_law_tried", "_law_refused", "_law_lot", "_law_look", "_law_lot_text", "_law_look_text", "_law_read_lot", "_law_read_look"]
def loose : List PySem.Str := lo0 ++ lo1 ++ lo2
def wOf (w : PySem.World) (b : Bool) : PySem.World := { w with params := { w.params with followText := fun s => match decide (s = "special-get-raises") with
  | true => b
  | false => w.params.followText s } }
theorem wOf_eq (w : PySem.World) : wOf w (w.params.followText "special-get-raises") = w := by
  obtain ⟨d, p⟩ := w
  have e : (fun s => match decide (s = "special-get-raises") with
    | true => p.followText "special-get-raises"
    | false => p.followText s) = p.followText := by
    funext s
    by_cases h : s = "special-get-raises"
    · rw [decide_eq_true h, h]
    · rw [decide_eq_false h]
  unfold wOf
  show (⟨d, { p with followText := _ }⟩ : PySem.World) = ⟨d, p⟩
  rw [e]
def asL : List PySem.Addr := [3, 2, 849, 848, 382, 381, 39, 38, 59, 78, 97, 116, 135, 154, 173, 192, 211, 230, 249, 268, 287, 306, 325, 344, 363, 401, 420, 439, 458, 477, 496, 515, 534, 553, 573, 593, 612, 631, 650, 669, 688, 707, 854, 36, 35, 29, 379, 378, 717, 716, 724, 723, 729, 728, 736, 735, 743, 742, 750, 749, 757, 756, 771, 770, 766, 765, 778, 777, 792, 791, 820, 819, 834, 833, 859, 858, 864, 863, 871, 870, 878, 877, 883, 882, 890, 889, 895, 894, 900, 899, 905, 904, 912, 911, 919, 918, 926, 925, 933, 932, 938, 937, 945, 944, 950, 949, 957, 956, 964, 963, 971, 970, 976, 975, 981, 980, 986, 985, 991, 990, 996, 995, 1001, 1000, 1006, 1005]
abbrev hkL : PySem.W.Hook := RLX.hookL asL fa fn tf exF
def obL (s : PySem.W.SharedT) : He.AlD × Bool := RLX.obsL asL fa fn tf exF (HandSHeadRun.getT s)
theorem obL_eq (s : PySem.W.SharedT) : obL s = hkL.obs s.abs := by
  have e : HandSHeadRun.getT s = s.abs.heap.get? := funext (HandSHeadRun.getT_eq s)
  unfold obL
  rw [e] <;> rfl
theorem opt3 {α β γ δ ε : Type} {x : Option α} {f : α → β} {g : α → γ} {o : α → δ × ε} {a : β} {b : γ} {c : δ} {d : ε} (h1 : x.map (fun s => (f s, g s)) = some (a, b)) (h2 : x.map (fun s => (o s).1) = some c) (h3 : x.map (fun s => (o s).2) = some d) : x.map (fun s => (f s, g s, o s)) = some (a, b, c, d) := by
  cases x with
  | none => cases h1
  | some s =>
    obtain ⟨e1, e2⟩ := Prod.mk.inj (Option.some.inj h1)
    exact congrArg some (Prod.ext e1 (Prod.ext e2 (Prod.ext (Option.some.inj h2) (Option.some.inj h3))))
noncomputable abbrev endS (w : World) (os : OsState) : Option PySem.W.SharedT := HandSHeadRun.endF (HandSHeadRun.stepQ (HandSHeadRun.denQ HandSHeadRun.tabQ) R.prog w) 14000 R.prog w os
theorem run1at (w : World) (os : OsState) : (endS (wOf w true) os).map (fun s => HandSHeadRun.looksF R.prog (PySem.W.boot_heap (wOf w true).params) s.abs) = some true := by
  kernel_rfl
theorem run1af (w : World) (os : OsState) : (endS (wOf w false) os).map (fun s => HandSHeadRun.looksF R.prog (PySem.W.boot_heap (wOf w false).params) s.abs) = some true := by
  kernel_rfl
theorem run1a (w : World) (os : OsState) (b : Bool) : (endS (wOf w b) os).map (fun s => HandSHeadRun.looksF R.prog (PySem.W.boot_heap (wOf w b).params) s.abs) = some true := match b with
  | true => run1at w os
  | false => run1af w os
theorem run1bt (w : World) (os : OsState) : (endS (wOf w true) os).map (fun s => HandSHeadRun.seenQ (PySem.W.view R.prog [78]) loose (PySem.importedModules R.prog.main.body) (fun s => PySem.W.xlAt (PySem.W.view R.prog [78]) [] s && PySem.W.recOk R.toRowW.records s) s.abs) = some (PySem.W.openGood (PySem.W.view R.prog [78]) loose) := by
  kernel_rfl
theorem run1bf (w : World) (os : OsState) : (endS (wOf w false) os).map (fun s => HandSHeadRun.seenQ (PySem.W.view R.prog [78]) loose (PySem.importedModules R.prog.main.body) (fun s => PySem.W.xlAt (PySem.W.view R.prog [78]) [] s && PySem.W.recOk R.toRowW.records s) s.abs) = some (PySem.W.openGood (PySem.W.view R.prog [78]) loose) := by
  kernel_rfl
theorem run1b (w : World) (os : OsState) (b : Bool) : (endS (wOf w b) os).map (fun s => HandSHeadRun.seenQ (PySem.W.view R.prog [78]) loose (PySem.importedModules R.prog.main.body) (fun s => PySem.W.xlAt (PySem.W.view R.prog [78]) [] s && PySem.W.recOk R.toRowW.records s) s.abs) = some (PySem.W.openGood (PySem.W.view R.prog [78]) loose) := match b with
  | true => run1bt w os
  | false => run1bf w os
theorem opt11 {α β γ : Type} {x : Option α} {f : α → β} {g : α → γ} {a : β} {b : γ} (h1 : x.map f = some a) (h2 : x.map g = some b) : x.map (fun s => (f s, g s)) = some (a, b) := by
  cases x with
  | none => cases h1
  | some s => exact congrArg some (Prod.ext (Option.some.inj h1) (Option.some.inj h2))
theorem run1 (w : World) (os : OsState) (b : Bool) : (endS (wOf w b) os).map (fun s => (HandSHeadRun.looksF R.prog (PySem.W.boot_heap (wOf w b).params) s.abs, HandSHeadRun.seenQ (PySem.W.view R.prog [78]) loose (PySem.importedModules R.prog.main.body) (fun s => PySem.W.xlAt (PySem.W.view R.prog [78]) [] s && PySem.W.recOk R.toRowW.records s) s.abs)) = some (true, PySem.W.openGood (PySem.W.view R.prog [78]) loose) := opt11 (run1a w os b) (run1b w os b)
abbrev frE (s : PySem.W.SharedT) : PySem.W.Frag := He.frT (HandSHeadRun.getT s) asL
theorem run2ft (w : World) (os : OsState) : (endS (wOf w true) os).map (fun s => fa.all fun f => f.ok (frE s)) = some true := by
  kernel_rfl
theorem run2ff (w : World) (os : OsState) : (endS (wOf w false) os).map (fun s => fa.all fun f => f.ok (frE s)) = some true := by
  kernel_rfl
theorem run2f (w : World) (os : OsState) (b : Bool) : (endS (wOf w b) os).map (fun s => fa.all fun f => f.ok (frE s)) = some true := match b with
  | true => run2ft w os
  | false => run2ff w os
theorem run2gt (w : World) (os : OsState) : (endS (wOf w true) os).map (fun s => (fn.take 30).all fun d => d.ok (frE s)) = some true := by
  kernel_rfl
theorem run2gf (w : World) (os : OsState) : (endS (wOf w false) os).map (fun s => (fn.take 30).all fun d => d.ok (frE s)) = some true := by
  kernel_rfl
theorem run2g (w : World) (os : OsState) (b : Bool) : (endS (wOf w b) os).map (fun s => (fn.take 30).all fun d => d.ok (frE s)) = some true := match b with
  | true => run2gt w os
  | false => run2gf w os
theorem run2ht (w : World) (os : OsState) : (endS (wOf w true) os).map (fun s => ((fn.drop 30).take 30).all fun d => d.ok (frE s)) = some true := by
  kernel_rfl
theorem run2hf (w : World) (os : OsState) : (endS (wOf w false) os).map (fun s => ((fn.drop 30).take 30).all fun d => d.ok (frE s)) = some true := by
  kernel_rfl
theorem run2h (w : World) (os : OsState) (b : Bool) : (endS (wOf w b) os).map (fun s => ((fn.drop 30).take 30).all fun d => d.ok (frE s)) = some true := match b with
  | true => run2ht w os
  | false => run2hf w os
theorem run2it (w : World) (os : OsState) : (endS (wOf w true) os).map (fun s => ((fn.drop 30).drop 30).all fun d => d.ok (frE s)) = some true := by
  kernel_rfl
theorem run2if (w : World) (os : OsState) : (endS (wOf w false) os).map (fun s => ((fn.drop 30).drop 30).all fun d => d.ok (frE s)) = some true := by
  kernel_rfl
theorem run2i (w : World) (os : OsState) (b : Bool) : (endS (wOf w b) os).map (fun s => ((fn.drop 30).drop 30).all fun d => d.ok (frE s)) = some true := match b with
  | true => run2it w os
  | false => run2if w os
theorem run2bt (w : World) (os : OsState) : (endS (wOf w true) os).map (fun s => (fn.take 44).map fun d => He.fnW (frE s) d.at_) = some ((fn.take 44).map He.DefD.val) := by
  kernel_rfl
theorem run2bf (w : World) (os : OsState) : (endS (wOf w false) os).map (fun s => (fn.take 44).map fun d => He.fnW (frE s) d.at_) = some ((fn.take 44).map He.DefD.val) := by
  kernel_rfl
theorem run2b (w : World) (os : OsState) (b : Bool) : (endS (wOf w b) os).map (fun s => (fn.take 44).map fun d => He.fnW (frE s) d.at_) = some ((fn.take 44).map He.DefD.val) := match b with
  | true => run2bt w os
  | false => run2bf w os
theorem run2ct (w : World) (os : OsState) : (endS (wOf w true) os).map (fun s => (fn.drop 44).map fun d => He.fnW (frE s) d.at_) = some ((fn.drop 44).map He.DefD.val) := by
  kernel_rfl
theorem run2cf (w : World) (os : OsState) : (endS (wOf w false) os).map (fun s => (fn.drop 44).map fun d => He.fnW (frE s) d.at_) = some ((fn.drop 44).map He.DefD.val) := by
  kernel_rfl
theorem run2c (w : World) (os : OsState) (b : Bool) : (endS (wOf w b) os).map (fun s => (fn.drop 44).map fun d => He.fnW (frE s) d.at_) = some ((fn.drop 44).map He.DefD.val) := match b with
  | true => run2ct w os
  | false => run2cf w os
theorem opt22 {α : Type} {x : Option α} {o : α → He.AlD} {K : α → PySem.W.Frag} {f1 : List He.Fa} {fl : List He.DefD} (ho : ∀ s, o s = He.obsD f1 fl (K s)) (hf : x.map (fun s => f1.all fun f => f.ok (K s)) = some true) (hg : x.map (fun s => (fl.take 30).all fun d => d.ok (K s)) = some true) (hh : x.map (fun s => ((fl.drop 30).take 30).all fun d => d.ok (K s)) = some true) (hi : x.map (fun s => ((fl.drop 30).drop 30).all fun d => d.ok (K s)) = some true)
    (h2 : x.map (fun s => (fl.take 44).map fun d => He.fnW (K s) d.at_) = some ((fl.take 44).map He.DefD.val)) (h3 : x.map (fun s => (fl.drop 44).map fun d => He.fnW (K s) d.at_) = some ((fl.drop 44).map He.DefD.val)) : x.map o = some (He.valD fl) := by
  cases x with
  | none => cases hf
  | some s =>
    have hf : (f1.all fun f => f.ok (K s)) = true := Option.some.inj hf
    have hg : ((fl.take 30).all fun d => d.ok (K s)) = true := Option.some.inj hg
    have hh : (((fl.drop 30).take 30).all fun d => d.ok (K s)) = true := Option.some.inj hh
    have hi : (((fl.drop 30).drop 30).all fun d => d.ok (K s)) = true := Option.some.inj hi
    have h2 : ((fl.take 44).map fun d => He.fnW (K s) d.at_) = (fl.take 44).map He.DefD.val := Option.some.inj h2
    have h3 : ((fl.drop 44).map fun d => He.fnW (K s) d.at_) = (fl.drop 44).map He.DefD.val := Option.some.inj h3
    refine congrArg some ((ho s).trans (Prod.ext ?_ ?_))
    · show ((f1.all fun f => f.ok (K s)) && fl.all fun d => d.ok (K s)) = true
      rw [hf, ← List.take_append_drop 30 fl, List.all_append, hg, ← List.take_append_drop 30 (fl.drop 30), List.all_append, hh, hi]
      rfl
    · show (fl.map fun d => He.fnW (K s) d.at_) = fl.map He.DefD.val
      rw [← List.take_append_drop 44 fl, List.map_append, h2, h3, ← List.map_append]
theorem run2 (w : World) (os : OsState) (b : Bool) : (endS (wOf w b) os).map (fun s => (obL s).1) = some (He.valD fn) := opt22 (K := frE) (fun _ => rfl) (run2f w os b) (run2g w os b) (run2h w os b) (run2i w os b) (run2b w os b) (run2c w os b)
theorem run3t (w : World) (os : OsState) : (endS (wOf w true) os).map (fun s => (obL s).2) = some true := by
  kernel_rfl
theorem run3f (w : World) (os : OsState) : (endS (wOf w false) os).map (fun s => (obL s).2) = some true := by
  kernel_rfl
theorem run3 (w : World) (os : OsState) (b : Bool) : (endS (wOf w b) os).map (fun s => (obL s).2) = some true := match b with
  | true => run3t w os
  | false => run3f w os
theorem run4t (w : World) (os : OsState) : (endS (wOf w true) os).map (fun s => tsD.map fun t => He.dicW (He.frT (HandSHeadRun.getT s) asL) (t.1 (He.frT (HandSHeadRun.getT s) asL))) = some (tsD.map fun t => some (He.keysIn (wOf w true).params t.2)) := by
  kernel_rfl
theorem run4f (w : World) (os : OsState) : (endS (wOf w false) os).map (fun s => tsD.map fun t => He.dicW (He.frT (HandSHeadRun.getT s) asL) (t.1 (He.frT (HandSHeadRun.getT s) asL))) = some (tsD.map fun t => some (He.keysIn (wOf w false).params t.2)) := by
  kernel_rfl
theorem run4 (w : World) (os : OsState) (b : Bool) : (endS (wOf w b) os).map (fun s => tsD.map fun t => He.dicW (He.frT (HandSHeadRun.getT s) asL) (t.1 (He.frT (HandSHeadRun.getT s) asL))) = some (tsD.map fun t => some (He.keysIn (wOf w b).params t.2)) := match b with
  | true => run4t w os
  | false => run4f w os
theorem opt4 {α β γ δ ε : Type} {x : Option α} {f : α → β} {g : α → γ} {o : α → δ} {q : α → ε} {a : β} {b : γ} {c : δ} {d : ε} (h1 : x.map (fun s => (f s, g s, o s)) = some (a, b, c)) (h2 : x.map q = some d) : x.map (fun s => (f s, g s, (o s, q s))) = some (a, b, (c, d)) := by
  cases x with
  | none => cases h1
  | some s =>
    obtain ⟨e1, e2⟩ := Prod.mk.inj (Option.some.inj h1)
    obtain ⟨e3, e4⟩ := Prod.mk.inj e2
    exact congrArg some (Prod.ext e1 (Prod.ext e3 (Prod.ext e4 (Option.some.inj h2))))
abbrev hkD : PySem.W.Hook := RLX.hookLT asL fa fn tf exF tsD
def obD (s : PySem.W.SharedT) : RLX.AlLT := RLX.obsLT asL fa fn tf exF tsD (HandSHeadRun.getT s)
theorem obD_eq (s : PySem.W.SharedT) : obD s = hkD.obs s.abs := by
  have e : HandSHeadRun.getT s = s.abs.heap.get? := funext (HandSHeadRun.getT_eq s)
  unfold obD
  rw [e] <;> rfl
theorem runB (w : World) (b : Bool) : HandSHeadRun.RunEq R (PySem.W.view R.prog [78]) hkD obD 14000 loose (wOf w b) := fun os => opt4 (opt3 (run1 w os b) (run2 w os b) (run3 w os b)) (run4 w os b)
theorem run (w : World) : HandSHeadRun.RunEq R (PySem.W.view R.prog [78]) hkD obD 14000 loose w := by
  have h := runB w (w.params.followText "special-get-raises")
  rw [wOf_eq] at h
  exact h
end RL
namespace RL
open PySem PySem.Spec PyProof.Rows L2
/-- what the top has left, by names -/
structure Tx (K : PySem.W.Frag) (mg : Str → Option Value) : Prop where
  sa : He.SaysD fa fn K
  hg : ∀ x, (He.Fa.glo x).ok K = true → mg x = some (.ref (He.ga K x))
  hf : ∀ x, (He.Fa.free x).ok K = true → mg x = none
  hi : ∀ x i, (He.Fa.int x i).ok K = true → ∃ t, mg x = some (.int i t)
  hx : exF K = true
/-- the class -/
abbrev cB (K : PySem.W.Frag) : Addr := He.ga K "Board"
abbrev mB (K : PySem.W.Frag) (m : Str) : Addr := He.ma K (He.ga K "Board") m
abbrev mC (K : PySem.W.Frag) (C m : Str) : Addr := He.ma K (He.ga K C) m
section
variable {K : PySem.W.Frag} {mg : Str → Option Value}
theorem Tx.glo_is_number (T : Tx K mg) : mg "is_number" = some (.ref (He.ga K "is_number")) := T.hg _ (T.sa.fact 0)
theorem Tx.glo_is_between (T : Tx K mg) : mg "is_between" = some (.ref (He.ga K "is_between")) := T.hg _ (T.sa.fact 1)
theorem Tx.glo_is_lot (T : Tx K mg) : mg "is_lot" = some (.ref (He.ga K "is_lot")) := T.hg _ (T.sa.fact 2)
theorem Tx.glo_is_filled_lot (T : Tx K mg) : mg "is_filled_lot" = some (.ref (He.ga K "is_filled_lot")) := T.hg _ (T.sa.fact 3)
theorem Tx.glo_rising_ways (T : Tx K mg) : mg "rising_ways" = some (.ref (He.ga K "rising_ways")) := T.hg _ (T.sa.fact 4)
theorem Tx.glo_fars_from (T : Tx K mg) : mg "fars_from" = some (.ref (He.ga K "fars_from")) := T.hg _ (T.sa.fact 5)
theorem Tx.glo_way_text (T : Tx K mg) : mg "way_text" = some (.ref (He.ga K "way_text")) := T.hg _ (T.sa.fact 6)
theorem Tx.glo_figures_text (T : Tx K mg) : mg "figures_text" = some (.ref (He.ga K "figures_text")) := T.hg _ (T.sa.fact 7)
theorem Tx.glo_read_figures (T : Tx K mg) : mg "read_figures" = some (.ref (He.ga K "read_figures")) := T.hg _ (T.sa.fact 8)
theorem Tx.glo_lot_text (T : Tx K mg) : mg "lot_text" = some (.ref (He.ga K "lot_text")) := T.hg _ (T.sa.fact 9)
theorem Tx.glo_read_lot (T : Tx K mg) : mg "read_lot" = some (.ref (He.ga K "read_lot")) := T.hg _ (T.sa.fact 10)
theorem Tx.glo_are_parts (T : Tx K mg) : mg "are_parts" = some (.ref (He.ga K "are_parts")) := T.hg _ (T.sa.fact 11)
theorem Tx.glo_is_look (T : Tx K mg) : mg "is_look" = some (.ref (He.ga K "is_look")) := T.hg _ (T.sa.fact 12)
theorem Tx.glo_look_text (T : Tx K mg) : mg "look_text" = some (.ref (He.ga K "look_text")) := T.hg _ (T.sa.fact 13)
theorem Tx.glo_look_of_words (T : Tx K mg) : mg "look_of_words" = some (.ref (He.ga K "look_of_words")) := T.hg _ (T.sa.fact 14)
theorem Tx.glo_read_look (T : Tx K mg) : mg "read_look" = some (.ref (He.ga K "read_look")) := T.hg _ (T.sa.fact 15)
theorem Tx.glo_law_box (T : Tx K mg) : mg "_law_box" = some (.ref (He.ga K "_law_box")) := T.hg _ (T.sa.fact 16)
theorem Tx.glo_law_pick (T : Tx K mg) : mg "_law_pick" = some (.ref (He.ga K "_law_pick")) := T.hg _ (T.sa.fact 17)
theorem Tx.glo_law_from (T : Tx K mg) : mg "_law_from" = some (.ref (He.ga K "_law_from")) := T.hg _ (T.sa.fact 18)
theorem Tx.glo_law_mixed (T : Tx K mg) : mg "_law_mixed" = some (.ref (He.ga K "_law_mixed")) := T.hg _ (T.sa.fact 19)
theorem Tx.glo_law_same (T : Tx K mg) : mg "_law_same" = some (.ref (He.ga K "_law_same")) := T.hg _ (T.sa.fact 20)
theorem Tx.glo_law_flags (T : Tx K mg) : mg "_law_flags" = some (.ref (He.ga K "_law_flags")) := T.hg _ (T.sa.fact 21)
theorem Tx.glo_law_word (T : Tx K mg) : mg "_law_word" = some (.ref (He.ga K "_law_word")) := T.hg _ (T.sa.fact 22)
theorem Tx.glo_law_field (T : Tx K mg) : mg "_law_field" = some (.ref (He.ga K "_law_field")) := T.hg _ (T.sa.fact 23)
theorem Tx.glo_law_tried (T : Tx K mg) : mg "_law_tried" = some (.ref (He.ga K "_law_tried")) := T.hg _ (T.sa.fact 24)
theorem Tx.glo_law_refused (T : Tx K mg) : mg "_law_refused" = some (.ref (He.ga K "_law_refused")) := T.hg _ (T.sa.fact 25)
theorem Tx.glo_law_lot (T : Tx K mg) : mg "_law_lot" = some (.ref (He.ga K "_law_lot")) := T.hg _ (T.sa.fact 26)
theorem Tx.glo_law_look (T : Tx K mg) : mg "_law_look" = some (.ref (He.ga K "_law_look")) := T.hg _ (T.sa.fact 27)
theorem Tx.glo_law_lot_text (T : Tx K mg) : mg "_law_lot_text" = some (.ref (He.ga K "_law_lot_text")) := T.hg _ (T.sa.fact 28)
theorem Tx.glo_law_look_text (T : Tx K mg) : mg "_law_look_text" = some (.ref (He.ga K "_law_look_text")) := T.hg _ (T.sa.fact 29)
theorem Tx.glo_law_read_lot (T : Tx K mg) : mg "_law_read_lot" = some (.ref (He.ga K "_law_read_lot")) := T.hg _ (T.sa.fact 30)
theorem Tx.glo_law_read_look (T : Tx K mg) : mg "_law_read_look" = some (.ref (He.ga K "_law_read_look")) := T.hg _ (T.sa.fact 31)
theorem Tx.glo_law (T : Tx K mg) : mg "law" = some (.ref (He.ga K "law")) := T.hg _ (T.sa.fact 32)
theorem Tx.glo_Board (T : Tx K mg) : mg "Board" = some (.ref (He.ga K "Board")) := T.hg _ (T.sa.fact 33)
theorem Tx.free_all (T : Tx K mg) : mg "all" = none := T.hf _ (T.sa.fact 34)
theorem Tx.free_any (T : Tx K mg) : mg "any" = none := T.hf _ (T.sa.fact 35)
theorem Tx.free_bool (T : Tx K mg) : mg "bool" = none := T.hf _ (T.sa.fact 36)
theorem Tx.free_enumerate (T : Tx K mg) : mg "enumerate" = none := T.hf _ (T.sa.fact 37)
theorem Tx.free_int (T : Tx K mg) : mg "int" = none := T.hf _ (T.sa.fact 38)
theorem Tx.free_isinstance (T : Tx K mg) : mg "isinstance" = none := T.hf _ (T.sa.fact 39)
theorem Tx.free_len (T : Tx K mg) : mg "len" = none := T.hf _ (T.sa.fact 40)
theorem Tx.free_list (T : Tx K mg) : mg "list" = none := T.hf _ (T.sa.fact 41)
theorem Tx.free_max (T : Tx K mg) : mg "max" = none := T.hf _ (T.sa.fact 42)
theorem Tx.free_range (T : Tx K mg) : mg "range" = none := T.hf _ (T.sa.fact 43)
theorem Tx.free_set (T : Tx K mg) : mg "set" = none := T.hf _ (T.sa.fact 44)
theorem Tx.free_sorted (T : Tx K mg) : mg "sorted" = none := T.hf _ (T.sa.fact 45)
theorem Tx.free_str (T : Tx K mg) : mg "str" = none := T.hf _ (T.sa.fact 46)
theorem Tx.free_tuple (T : Tx K mg) : mg "tuple" = none := T.hf _ (T.sa.fact 47)
theorem Tx.free_zip (T : Tx K mg) : mg "zip" = none := T.hf _ (T.sa.fact 48)
theorem Tx.glob_MOST_PLACES (T : Tx K mg) : ∃ t, mg "MOST_PLACES" = some (.int 8 t) := T.hi _ _ (T.sa.fact 49)
theorem Tx.glob_MOST_NEAR (T : Tx K mg) : ∃ t, mg "MOST_NEAR" = some (.int 7 t) := T.hi _ _ (T.sa.fact 50)
theorem Tx.glo_RoamError (T : Tx K mg) : mg "RoamError" = some (.ref (He.ga K "RoamError")) := T.hg _ (T.sa.fact 51)
theorem Tx.glo_BadMany (T : Tx K mg) : mg "BadMany" = some (.ref (He.ga K "BadMany")) := T.hg _ (T.sa.fact 52)
theorem Tx.glo_BadWay (T : Tx K mg) : mg "BadWay" = some (.ref (He.ga K "BadWay")) := T.hg _ (T.sa.fact 53)
theorem Tx.glo_BadOrder (T : Tx K mg) : mg "BadOrder" = some (.ref (He.ga K "BadOrder")) := T.hg _ (T.sa.fact 54)
theorem Tx.glo_BadPace (T : Tx K mg) : mg "BadPace" = some (.ref (He.ga K "BadPace")) := T.hg _ (T.sa.fact 55)
theorem Tx.glo_BadLot (T : Tx K mg) : mg "BadLot" = some (.ref (He.ga K "BadLot")) := T.hg _ (T.sa.fact 56)
theorem Tx.glo_BadLook (T : Tx K mg) : mg "BadLook" = some (.ref (He.ga K "BadLook")) := T.hg _ (T.sa.fact 57)
theorem Tx.glo_BadAnswer (T : Tx K mg) : mg "BadAnswer" = some (.ref (He.ga K "BadAnswer")) := T.hg _ (T.sa.fact 58)
theorem Tx.glo_BadStory (T : Tx K mg) : mg "BadStory" = some (.ref (He.ga K "BadStory")) := T.hg _ (T.sa.fact 59)
theorem Tx.glo_BadBeat (T : Tx K mg) : mg "BadBeat" = some (.ref (He.ga K "BadBeat")) := T.hg _ (T.sa.fact 60)
theorem Tx.glo_BadCount (T : Tx K mg) : mg "BadCount" = some (.ref (He.ga K "BadCount")) := T.hg _ (T.sa.fact 61)
theorem Tx.glo_BadHands (T : Tx K mg) : mg "BadHands" = some (.ref (He.ga K "BadHands")) := T.hg _ (T.sa.fact 62)
theorem Tx.glo_BadWish (T : Tx K mg) : mg "BadWish" = some (.ref (He.ga K "BadWish")) := T.hg _ (T.sa.fact 63)
theorem Tx.glo_BadTalk (T : Tx K mg) : mg "BadTalk" = some (.ref (He.ga K "BadTalk")) := T.hg _ (T.sa.fact 64)
theorem Tx.glo_BadLost (T : Tx K mg) : mg "BadLost" = some (.ref (He.ga K "BadLost")) := T.hg _ (T.sa.fact 65)
theorem Tx.glo_BadWorld (T : Tx K mg) : mg "BadWorld" = some (.ref (He.ga K "BadWorld")) := T.hg _ (T.sa.fact 66)
theorem Tx.glo_BadSaying (T : Tx K mg) : mg "BadSaying" = some (.ref (He.ga K "BadSaying")) := T.hg _ (T.sa.fact 67)
theorem Tx.glo_TooMany (T : Tx K mg) : mg "TooMany" = some (.ref (He.ga K "TooMany")) := T.hg _ (T.sa.fact 68)
theorem Tx.glo_BadText (T : Tx K mg) : mg "BadText" = some (.ref (He.ga K "BadText")) := T.hg _ (T.sa.fact 69)
theorem Tx.glo_BadName (T : Tx K mg) : mg "BadName" = some (.ref (He.ga K "BadName")) := T.hg _ (T.sa.fact 70)
theorem Tx.glo_Taken (T : Tx K mg) : mg "Taken" = some (.ref (He.ga K "Taken")) := T.hg _ (T.sa.fact 71)
theorem Tx.glo_Full (T : Tx K mg) : mg "Full" = some (.ref (He.ga K "Full")) := T.hg _ (T.sa.fact 72)
theorem Tx.glo_Unfit (T : Tx K mg) : mg "Unfit" = some (.ref (He.ga K "Unfit")) := T.hg _ (T.sa.fact 73)
theorem Tx.glo_Wrong (T : Tx K mg) : mg "Wrong" = some (.ref (He.ga K "Wrong")) := T.hg _ (T.sa.fact 74)
theorem Tx.glo_Right (T : Tx K mg) : mg "Right" = some (.ref (He.ga K "Right")) := T.hg _ (T.sa.fact 75)
theorem Tx.glo_Late (T : Tx K mg) : mg "Late" = some (.ref (He.ga K "Late")) := T.hg _ (T.sa.fact 76)
theorem Tx.glo_BadDeed (T : Tx K mg) : mg "BadDeed" = some (.ref (He.ga K "BadDeed")) := T.hg _ (T.sa.fact 77)
theorem Tx.glo_Broken (T : Tx K mg) : mg "Broken" = some (.ref (He.ga K "Broken")) := T.hg _ (T.sa.fact 78)
theorem Tx.glo_Missing (T : Tx K mg) : mg "Missing" = some (.ref (He.ga K "Missing")) := T.hg _ (T.sa.fact 79)
theorem Tx.glo_NoPlace (T : Tx K mg) : mg "NoPlace" = some (.ref (He.ga K "NoPlace")) := T.hg _ (T.sa.fact 80)
theorem Tx.glo_NoNumber (T : Tx K mg) : mg "NoNumber" = some (.ref (He.ga K "NoNumber")) := T.hg _ (T.sa.fact 81)
theorem Tx.glo_NoHand (T : Tx K mg) : mg "NoHand" = some (.ref (He.ga K "NoHand")) := T.hg _ (T.sa.fact 82)
theorem Tx.glo_NoThing (T : Tx K mg) : mg "NoThing" = some (.ref (He.ga K "NoThing")) := T.hg _ (T.sa.fact 83)
theorem Tx.glo_NoLook (T : Tx K mg) : mg "NoLook" = some (.ref (He.ga K "NoLook")) := T.hg _ (T.sa.fact 84)
theorem Tx.glo_NoWish (T : Tx K mg) : mg "NoWish" = some (.ref (He.ga K "NoWish")) := T.hg _ (T.sa.fact 85)
theorem Tx.glo_NothingLeft (T : Tx K mg) : mg "NothingLeft" = some (.ref (He.ga K "NothingLeft")) := T.hg _ (T.sa.fact 86)
theorem Tx.glo_FIGURES (T : Tx K mg) : mg "FIGURES" = some (.ref (He.ga K "FIGURES")) := T.hg _ (T.sa.fact 87)
theorem Tx.free_ValueError (T : Tx K mg) : mg "ValueError" = none := T.hf _ (T.sa.fact 88)
theorem Tx.free_LookupError (T : Tx K mg) : mg "LookupError" = none := T.hf _ (T.sa.fact 89)
theorem Tx.free_IndexError (T : Tx K mg) : mg "IndexError" = none := T.hf _ (T.sa.fact 90)
theorem Tx.cl (T : Tx K mg) : Cls K (cB K) := He.cls_ok (T.sa.fact 91)
theorem Tx.mkB (T : Tx K mg) : Mk K (cB K) (mB K "__init__") := He.mkr_ok (T.sa.fact 92)
theorem Tx.n_many (T : Tx K mg) : NoAttr K (cB K) "many" := He.noat_ok (T.sa.fact 93)
theorem Tx.n_pairs (T : Tx K mg) : NoAttr K (cB K) "pairs" := He.noat_ok (T.sa.fact 94)
theorem Tx.n_leads (T : Tx K mg) : NoAttr K (cB K) "leads" := He.noat_ok (T.sa.fact 95)
theorem Tx.n_fars (T : Tx K mg) : NoAttr K (cB K) "fars" := He.noat_ok (T.sa.fact 96)
theorem Tx.m_ways (T : Tx K mg) : Meth K (cB K) "ways" (mB K "ways") := He.meth_ok (T.sa.fact 97)
theorem Tx.m_far (T : Tx K mg) : Meth K (cB K) "far" (mB K "far") := He.meth_ok (T.sa.fact 98)
theorem Tx.m_check_place (T : Tx K mg) : Meth K (cB K) "check_place" (mB K "check_place") := He.meth_ok (T.sa.fact 99)
theorem Tx.m_len (T : Tx K mg) : Meth K (cB K) "__len__" (mB K "__len__") := He.meth_ok (T.sa.fact 100)
theorem Tx.d_RoamError_init (T : Tx K mg) : ∃ fd, FnP K "__init__" "RoamError.__init__" s_RoamError_init [V.str "RoamError"] (mC K "RoamError" "__init__") fd := T.sa.def_ 0 (d := _root_.RL.d_RoamError_init) rfl
theorem Tx.d_BadText_init (T : Tx K mg) : ∃ fd, FnP K "__init__" "BadText.__init__" s_BadText_init [] (mC K "BadText" "__init__") fd := T.sa.def_ 1 (d := _root_.RL.d_BadText_init) rfl
theorem Tx.d_is_number (T : Tx K mg) : ∃ fd, FnP K "is_number" "is_number" s_is_number [] (He.ga K "is_number") fd := T.sa.def_ 2 (d := _root_.RL.d_is_number) rfl
theorem Tx.d_is_between (T : Tx K mg) : ∃ fd, FnP K "is_between" "is_between" s_is_between [] (He.ga K "is_between") fd := T.sa.def_ 3 (d := _root_.RL.d_is_between) rfl
theorem Tx.d_is_lot (T : Tx K mg) : ∃ fd, FnP K "is_lot" "is_lot" s_is_lot [] (He.ga K "is_lot") fd := T.sa.def_ 4 (d := _root_.RL.d_is_lot) rfl
theorem Tx.d_is_filled_lot (T : Tx K mg) : ∃ fd, FnP K "is_filled_lot" "is_filled_lot" s_is_filled_lot [] (He.ga K "is_filled_lot") fd := T.sa.def_ 5 (d := _root_.RL.d_is_filled_lot) rfl
theorem Tx.d_rising_ways (T : Tx K mg) : ∃ fd, FnP K "rising_ways" "rising_ways" s_rising_ways [] (He.ga K "rising_ways") fd := T.sa.def_ 6 (d := _root_.RL.d_rising_ways) rfl
theorem Tx.d_fars_from (T : Tx K mg) : ∃ fd, FnP K "fars_from" "fars_from" s_fars_from [] (He.ga K "fars_from") fd := T.sa.def_ 7 (d := _root_.RL.d_fars_from) rfl
theorem Tx.d_way_text (T : Tx K mg) : ∃ fd, FnP K "way_text" "way_text" s_way_text [] (He.ga K "way_text") fd := T.sa.def_ 8 (d := _root_.RL.d_way_text) rfl
theorem Tx.d_Board_init (T : Tx K mg) : ∃ fd, FnP K "__init__" "Board.__init__" s_Board_init [V.ref (He.dflAt ("Board", some "__init__") 0 K)] (mB K "__init__") fd := T.sa.def_ 9 (d := _root_.RL.d_Board_init) rfl
theorem Tx.d_Board_ways (T : Tx K mg) : ∃ fd, FnP K "ways" "Board.ways" s_Board_ways [] (mB K "ways") fd := T.sa.def_ 10 (d := _root_.RL.d_Board_ways) rfl
theorem Tx.d_Board_far (T : Tx K mg) : ∃ fd, FnP K "far" "Board.far" s_Board_far [] (mB K "far") fd := T.sa.def_ 11 (d := _root_.RL.d_Board_far) rfl
theorem Tx.d_Board_check_place (T : Tx K mg) : ∃ fd, FnP K "check_place" "Board.check_place" s_Board_check_place [] (mB K "check_place") fd := T.sa.def_ 12 (d := _root_.RL.d_Board_check_place) rfl
theorem Tx.d_Board_len (T : Tx K mg) : ∃ fd, FnP K "__len__" "Board.__len__" s_Board_len [] (mB K "__len__") fd := T.sa.def_ 13 (d := _root_.RL.d_Board_len) rfl
theorem Tx.d_figures_text (T : Tx K mg) : ∃ fd, FnP K "figures_text" "figures_text" s_figures_text [] (He.ga K "figures_text") fd := T.sa.def_ 14 (d := _root_.RL.d_figures_text) rfl
theorem Tx.d_read_figures (T : Tx K mg) : ∃ fd, FnP K "read_figures" "read_figures" s_read_figures [] (He.ga K "read_figures") fd := T.sa.def_ 15 (d := _root_.RL.d_read_figures) rfl
theorem Tx.d_lot_text (T : Tx K mg) : ∃ fd, FnP K "lot_text" "lot_text" s_lot_text [] (He.ga K "lot_text") fd := T.sa.def_ 16 (d := _root_.RL.d_lot_text) rfl
theorem Tx.d_read_lot (T : Tx K mg) : ∃ fd, FnP K "read_lot" "read_lot" s_read_lot [] (He.ga K "read_lot") fd := T.sa.def_ 17 (d := _root_.RL.d_read_lot) rfl
theorem Tx.d_are_parts (T : Tx K mg) : ∃ fd, FnP K "are_parts" "are_parts" s_are_parts [] (He.ga K "are_parts") fd := T.sa.def_ 18 (d := _root_.RL.d_are_parts) rfl
theorem Tx.d_is_look (T : Tx K mg) : ∃ fd, FnP K "is_look" "is_look" s_is_look [] (He.ga K "is_look") fd := T.sa.def_ 19 (d := _root_.RL.d_is_look) rfl
theorem Tx.d_look_text (T : Tx K mg) : ∃ fd, FnP K "look_text" "look_text" s_look_text [] (He.ga K "look_text") fd := T.sa.def_ 20 (d := _root_.RL.d_look_text) rfl
theorem Tx.d_look_of_words (T : Tx K mg) : ∃ fd, FnP K "look_of_words" "look_of_words" s_look_of_words [] (He.ga K "look_of_words") fd := T.sa.def_ 21 (d := _root_.RL.d_look_of_words) rfl
theorem Tx.d_read_look (T : Tx K mg) : ∃ fd, FnP K "read_look" "read_look" s_read_look [] (He.ga K "read_look") fd := T.sa.def_ 22 (d := _root_.RL.d_read_look) rfl
theorem Tx.d__law_box (T : Tx K mg) : ∃ fd, FnP K "_law_box" "_law_box" s__law_box [] (He.ga K "_law_box") fd := T.sa.def_ 23 (d := _root_.RL.d__law_box) rfl
theorem Tx.d__law_pick (T : Tx K mg) : ∃ fd, FnP K "_law_pick" "_law_pick" s__law_pick [] (He.ga K "_law_pick") fd := T.sa.def_ 24 (d := _root_.RL.d__law_pick) rfl
theorem Tx.d__law_from (T : Tx K mg) : ∃ fd, FnP K "_law_from" "_law_from" s__law_from [] (He.ga K "_law_from") fd := T.sa.def_ 25 (d := _root_.RL.d__law_from) rfl
theorem Tx.d__law_mixed (T : Tx K mg) : ∃ fd, FnP K "_law_mixed" "_law_mixed" s__law_mixed [] (He.ga K "_law_mixed") fd := T.sa.def_ 26 (d := _root_.RL.d__law_mixed) rfl
theorem Tx.d__law_same (T : Tx K mg) : ∃ fd, FnP K "_law_same" "_law_same" s__law_same [] (He.ga K "_law_same") fd := T.sa.def_ 27 (d := _root_.RL.d__law_same) rfl
theorem Tx.d__law_flags (T : Tx K mg) : ∃ fd, FnP K "_law_flags" "_law_flags" s__law_flags [] (He.ga K "_law_flags") fd := T.sa.def_ 28 (d := _root_.RL.d__law_flags) rfl
theorem Tx.d__law_word (T : Tx K mg) : ∃ fd, FnP K "_law_word" "_law_word" s__law_word [] (He.ga K "_law_word") fd := T.sa.def_ 29 (d := _root_.RL.d__law_word) rfl
theorem Tx.d__law_field (T : Tx K mg) : ∃ fd, FnP K "_law_field" "_law_field" s__law_field [] (He.ga K "_law_field") fd := T.sa.def_ 30 (d := _root_.RL.d__law_field) rfl
theorem Tx.d__law_tried (T : Tx K mg) : ∃ fd, FnP K "_law_tried" "_law_tried" s__law_tried [] (He.ga K "_law_tried") fd := T.sa.def_ 31 (d := _root_.RL.d__law_tried) rfl
theorem Tx.d__law_refused (T : Tx K mg) : ∃ fd, FnP K "_law_refused" "_law_refused" s__law_refused [] (He.ga K "_law_refused") fd := T.sa.def_ 32 (d := _root_.RL.d__law_refused) rfl
theorem Tx.d__law_lot (T : Tx K mg) : ∃ fd, FnP K "_law_lot" "_law_lot" s__law_lot [] (He.ga K "_law_lot") fd := T.sa.def_ 33 (d := _root_.RL.d__law_lot) rfl
theorem Tx.d__law_look (T : Tx K mg) : ∃ fd, FnP K "_law_look" "_law_look" s__law_look [] (He.ga K "_law_look") fd := T.sa.def_ 34 (d := _root_.RL.d__law_look) rfl
theorem Tx.d__law_lot_text (T : Tx K mg) : ∃ fd, FnP K "_law_lot_text" "_law_lot_text" s__law_lot_text [] (He.ga K "_law_lot_text") fd := T.sa.def_ 35 (d := _root_.RL.d__law_lot_text) rfl
theorem Tx.d__law_look_text (T : Tx K mg) : ∃ fd, FnP K "_law_look_text" "_law_look_text" s__law_look_text [] (He.ga K "_law_look_text") fd := T.sa.def_ 36 (d := _root_.RL.d__law_look_text) rfl
theorem Tx.d__law_read_lot (T : Tx K mg) : ∃ fd, FnP K "_law_read_lot" "_law_read_lot" s__law_read_lot [] (He.ga K "_law_read_lot") fd := T.sa.def_ 37 (d := _root_.RL.d__law_read_lot) rfl
theorem Tx.d__law_read_look (T : Tx K mg) : ∃ fd, FnP K "_law_read_look" "_law_read_look" s__law_read_look [] (He.ga K "_law_read_look") fd := T.sa.def_ 38 (d := _root_.RL.d__law_read_look) rfl
theorem Tx.d_law (T : Tx K mg) : ∃ fd, FnP K "law" "law" s_law [] (He.ga K "law") fd := T.sa.def_ 39 (d := _root_.RL.d_law) rfl
theorem Tx.dfl (T : Tx K mg) (H : Hp) : SqT K H (He.dflAt ("Board", some "__init__") 0 K) [] := RLX.dfl_ok (He.ba (He.ba T.hx).2).1 H
theorem Tx.vals_FIGURES (T : Tx K mg) : He.valsB K (He.ga K "FIGURES") [("0", .int 0), ("1", .int 1), ("2", .int 2), ("3", .int 3), ("4", .int 4), ("5", .int 5), ("6", .int 6), ("7", .int 7)] = true := (He.ba (He.ba T.hx).2).2
theorem Tx.root_RoamError (T : Tx K mg) : RLX.RootOk K "RoamError" := RLX.rootB_ok (List.all_eq_true.mp (He.ba (He.ba T.hx).1).1 _ (by decide +kernel))
theorem Tx.x_BadText (T : Tx K mg) : RLX.XnOk K xn_BadText := RLX.xnB_ok (List.all_eq_true.mp (He.ba (He.ba T.hx).1).2 _ (by simp))
end
/-- a def keeps its promise -/
structure Has (P : Program) (w : World) (K : PySem.W.Frag) (mg : Str → Option Value) (base : Heap) (f : Addr) (k : Nat) (ps : List Str) (sp : Sp) : Prop where
  ex : ∃ fd, FnOk P w K mg base CX0 k f fd ps sp ∧ Binds K fd ps []
  kp : PySem.W.keepIn K (.ref f) = true
/-- .. a def that may raise -/
structure HasX (P : Program) (w : World) (K : PySem.W.Frag) (mg : Str → Option Value) (base : Heap) (f : Addr) (k : Nat) (ps : List Str) (sp : Sp) : Prop where
  ex : ∃ fd, FnOk P w K mg base (L2N.CX P w) k f fd ps sp ∧ Binds K fd ps []
  kp : PySem.W.keepIn K (.ref f) = true
end RL
/-! the program's exceptions: their own __init__ -/
namespace RL
open PySem PySem.Spec PyProof.Rows L2
section
variable {P : Program} {w : World} {K : PySem.W.Frag} {mg : Str → Option Value} {base : Heap}
/-- the root's __init__: the word is laid -/
def spRoot (K : PySem.W.Frag) (newId : String) (tail : List Value) : Sp := fun vs H Q _ => ∃ (a C : Addr) (z : Str), vs = [.ref a, .str z] ∧ RLX.XcC K newId tail C ∧ PySem.W.findIn K (.ref C) "word" = some none ∧ H a = some (exo a C none) ∧
  ∀ dx, H dx = none → dx ≠ a → Q .non (upd (upd H dx (exd dx [("word", .str z)])) a (exo a C (some dx)))
theorem sc_RoamError_init : FnScope ["self", "word"] ["self", "word"] (defScope s_RoamError_init) := ⟨rfl, rfl, rfl, by decide +kernel, rfl, by decide +kernel, by decide +kernel⟩
theorem ok_RoamError_init (T : Tx K mg) : Has P w K mg base (mC K "RoamError" "__init__") 1 ["self", "word"] (spRoot K "ValueError.__new__" [.type "ValueError", .type "Exception", .type "BaseException", .type "object"]) := by
  obtain ⟨fd, F⟩ := T.d_RoamError_init
  have hb : Binds K fd ["self", "word"] [] := by
    obtain ⟨ds, e, b⟩ := F.binds1 (ps := ["self", "word"]) 2 1 (List.cons_ne_nil _ _) rfl (fun T0 kV doc pm an cdv ct us its l1 l2 => match us, its, l1, l2 with
      | [_, _], [_], _, _ => ⟨_, rfl, rfl⟩)
    cases e
    exact b
  refine ⟨⟨fd, F.ok sc_RoamError_init (fun vs H Q E h => ?_) (fun cdv A outer s H vs Q E hr h => ?_), hb⟩, F.kp⟩
  · obtain ⟨a, C, z, rfl, _⟩ := h
    rfl
  · obtain ⟨a, C, z, rfl, X, hno, ha, h⟩ := h
    refine ⟨_, PSs.nox (pss_cons (ps_expr (RLX.pe_base (T := "ValueError") RLX.exB_V (by decide +kernel) RLX.typ_V (by decide +kernel) rfl T.free_ValueError (by decide) (by decide) RLX.init_V (by decide +kernel) (pa_cons (pv 0) (pa_cons (pv 1) pa_nil)))) (pss_one (RLX.ps_put RLX.exB_V (pv 0) (pv 1)))), ?_⟩
    refine ⟨_, rfl, _, rfl, a, C, [.str z], rfl, (show 1 ≤ 1000 by decide), X, ha, ?_⟩
    exact ⟨_, rfl, _, rfl, a, C, rfl, X, hno, .inl ⟨ha, h⟩⟩
/-- an exception is made with the fields fs -/
def Mkx (a C : Addr) (fs : List (Str × V)) (H : Hp) (Q : VK) : Prop := ∀ (dx : Addr) (H' : Hp), H dx = none → dx ≠ a → H' a = some (exo a C (some dx)) → H' dx = some (exd dx fs) → (∀ b, b ≠ a → b ≠ dx → H' b = H b) → Q .non H'
def spX1 (K : PySem.W.Frag) (n f : Str) (newId : String) (tail : List Value) : Sp := fun vs H Q _ => ∃ (a C : Addr) (v : V), vs = [.ref a, v] ∧ RLX.XcC K newId tail C ∧ PySem.W.findIn K (.ref C) "word" = some none ∧ PySem.W.findIn K (.ref C) f = some none ∧ H a = some (exo a C none) ∧ Mkx a C [(f, v), ("word", .str n)] H Q
def spX0 (K : PySem.W.Frag) (n : Str) (newId : String) (tail : List Value) : Sp := fun vs H Q _ => ∃ (a C : Addr), vs = [.ref a] ∧ RLX.XcC K newId tail C ∧ PySem.W.findIn K (.ref C) "word" = some none ∧ H a = some (exo a C none) ∧ Mkx a C [("word", .str n)] H Q
theorem sc_BadText_init : FnScope ["self", "at"] ["self", "at"] (defScope s_BadText_init) := ⟨rfl, rfl, rfl, by decide +kernel, rfl, by decide +kernel, by decide +kernel⟩
theorem ok_BadText_init (T : Tx K mg) : Has P w K mg base (mC K "BadText" "__init__") 2 ["self", "at"] (spX1 K "BadText" "at" "ValueError.__new__" [.type "ValueError", .type "Exception", .type "BaseException", .type "object"]) := by
  obtain ⟨⟨fd_r, F_r, b_r⟩, kp_r⟩ := ok_RoamError_init (P := P) (w := w) (base := base) T
  obtain ⟨fd, F⟩ := T.d_BadText_init
  refine ⟨⟨fd, F.ok sc_BadText_init (fun vs H Q E h => ?_) (fun cdv A outer s H vs Q E hr h => ?_), F.bindsN fun _ _ _ _ _ _ us hl => match us, hl with | [_, _], _ => rfl⟩, F.kp⟩
  · obtain ⟨a, C, v, rfl, _⟩ := h
    rfl
  · obtain ⟨a, C, v, rfl, X, hno, hnf, ha, h⟩ := h
    have Ro := T.root_RoamError
    refine ⟨_, PSs.nox (pss_cons (ps_expr (RLX.pe_own (x := "RoamError") rfl T.glo_RoamError Ro.ga Ro.rd Ro.fn Ro.kp F_r (hr.mono (by decide)) b_r .nil pass0 (pa_cons (pv 0) (pa_cons pe_str pa_nil)))) (pss_one (RLX.ps_put RLX.exB_V (pv 0) (pv 1)))), ?_⟩
    refine ⟨_, rfl, a, C, "BadText", rfl, X, hno, ha, fun dx hd nd => ?_⟩
    have hd1 : (upd (upd H dx (exd dx [("word", .str "BadText")])) a (exo a C (some dx))) dx = some (exd dx [("word", .str "BadText")]) := by rw [upd_ne nd, upd_same]
    refine ⟨_, rfl, _, rfl, a, C, rfl, X, hnf, .inr ⟨dx, _, upd_same, hd1, by decide, ?_⟩⟩
    refine h dx _ hd nd (by rw [upd_ne (Ne.symm nd), upd_same]) upd_same fun b b1 b2 => ?_
    rw [upd_ne b2, upd_ne b1, upd_ne b2]
/-- what is wished of a new exception, from what its maker leaves -/
theorem mk_rest {K : PySem.W.Frag} {H : Hp} {C a : Addr} {fs : List (Str × V)} {Q : XK} (ha : H a = none) (h : ∀ d H', H d = none → H' d = some (.xd fs) → Same H H' → Q (.ref C) (some d) H') :
    Mkx a C fs (upd H a (exo a C none)) (fun v H2 => v = .non ∧ ∃ (d : Addr) (fs : List (Str × V)), H2 a = some (exo a C (some d)) ∧ H2 d = some (exd d fs) ∧ H d = none ∧ Q (.ref C) (some d) (upd (del H2 a) d (.xd fs))) := by
  intro dx H' hd nd h1 h2 h3
  have hd' : H dx = none := by rw [upd_ne nd] at hd; exact hd
  refine ⟨rfl, dx, fs, h1, h2, hd', h dx _ hd' upd_same fun b o hb => ?_⟩
  have nb : b ≠ a := ne_of_none hb ha
  have nb2 : b ≠ dx := ne_of_none hb hd'
  rw [upd_ne nb2, del_ne nb, h3 b nb nb2, upd_ne nb]
  exact hb
theorem rmk_BadText (T : Tx K mg) {H : Hp} {v : V} {Q : XK} (h : ∀ d H', H d = none → H' d = some (.xd [("at", v), ("word", .str "BadText")]) → Same H H' → Q (.ref (He.ga K "BadText")) (some d) H') : RLX.rMk (He.ga K "BadText") (spX1 K "BadText" "at" "ValueError.__new__" [.type "ValueError", .type "Exception", .type "BaseException", .type "object"]) [v] H Q :=
  ⟨(show 1 ≤ 1000 by decide), fun a ha => ⟨a, He.ga K "BadText", v, rfl, T.x_BadText.xc, T.x_BadText.no _ (by decide), T.x_BadText.no _ (by decide), upd_same, mk_rest (K := K) ha h⟩⟩
end
end RL
/-! Rules that this program wants besides: len of an own object, sorted and set of a tuple, a tuple's index and multiple, enumerate of a tuple. -/
namespace RL
open PySem PySem.Spec PyProof.Rows L2
section
variable {X : Cx}
/-- set(t), t a tuple of ints -/
def rSetT (w : World) (K : PySem.W.Frag) : List V → Hp → VK → Prop := fun vs H Q => ∃ (a : Addr) (ns : List Int), vs = [.ref a] ∧ SqT K H a (ns.map V.int) ∧ ns.length ≤ 1000 ∧
  ∀ (p : Addr) (c : Nat), H p = none → c ≤ ns.length → Q (.ref p) (upd H p (SetO w p (fun j => decide (j ∈ ns)) c))
theorem cr_setT (hc : X.calm = true) : CallR X (.type "set") (rSetT X.w X.K) := by
  intro pins s σ H vs us Q I r h
  obtain ⟨a, ns, rfl, hs, hz, q⟩ := h
  obtain ⟨its, rv, ht, _⟩ := I.tuple hs
  rw [Vals.ref1 r]
  have hi : IntsAre its.toArray.toList ns := by simpa using rv.ints
  refine call_set_tupI ns (I.ok.hd hc) ht hi (Nat.lt_of_le_of_lt (Nat.succ_le_succ hz) (by decide)) fun h' tk c R hcl hk => ?_
  have fr : H s.heap.objs.size = none := I.hok.fresh (Nat.le_refl _)
  exact ⟨.ref _, _, I.laid hk (Nat.le_refl _) (setO_new R), rfl, q _ c fr hcl⟩
/-- sorted(t), t a tuple of ints, fewer than 64 -/
def rSortT (K : PySem.W.Frag) : List V → Hp → VK → Prop := fun vs H Q => ∃ (a : Addr) (ns : List Int), vs = [.ref a] ∧ SqT K H a (ns.map V.int) ∧ ns.length < 64 ∧
  ∀ (ms : List Int) (p : Addr), ms.Perm ns → ms.Pairwise (· ≤ ·) → H p = none → Q (.ref p) (upd H p (.lst (ms.map V.int)))
theorem cr_sortTup : CallR X (.builtin "sorted") (rSortT X.K) := by
  intro pins s σ H vs us Q I r h
  obtain ⟨a, ns, rfl, hs, h64, q⟩ := h
  obtain ⟨its, rv, ⟨o, ho, hcl, nn, hd⟩, _⟩ := I.tuple hs
  rw [Vals.ref1 r]
  have hi := rv.ints
  have hle : its.length = ns.length := hi.length
  refine Calls.call_function_entry kind_sorted plain_sorted entry_sorted (args_sorted1 _) ?_
  unfold Builtin.«sorted»
  refine wpAny_bind (m := checkCount "sorted" 1 1 _) (wpAny_pure ?_)
  refine wpAny_bind (wpAny_collect_seq a (.inr rfl) ho hcl hd (fun h1 k1 => ?_) (by rw [List.size_toArray, hle, sizeLine_eq]; omega))
  refine wpAny_bind (wpAny_newList ?_ (by rw [sizeLine_eq]; simp; omega))
  have at1 : (h1.push (seqObj "list" its.toArray 0)).get? h1.objs.size = some (seqObj "list" its.toArray 0) := Heap.get?_push_size _ rfl
  refine wpAny_bind (wpAny_holding (wpAny_call_entry slot_list_sort ⟨_, at1, rfl⟩ entry_list_sort (list_sort_tree at1 hi (by omega) fun out ms a1 a2 a3 => ⟨_, rfl, ?_⟩) (args_list_sort _)))
  refine wpAny_pure ⟨_, rfl, ?_⟩
  have I1 : Inv X pins σ H { s with heap := h1 } := I.kept (t' := s.toks) k1
  obtain ⟨ep, he⟩ := PyProof.Rows.sortedHeap_at (vs := its) (out := out) at1
  have hlen : (ms.map V.int).length ≤ sizeLine := by rw [List.length_map, a2.length_eq, sizeLine_eq]; omega
  refine ⟨.ref h1.objs.size, upd H h1.objs.size (.lst (ms.map V.int)), I1.laid (t' := s.toks) (fun b ob e => ?_) (Nat.le_refl _) ⟨hlen, out.toList, ep, vals_of_ints a1, by simpa using he⟩, rfl, q ms _ a2 a3 (I1.hok.fresh (Nat.le_refl _))⟩
  rw [PyProof.Rows.sortedHeap_old (Nat.ne_of_lt (Heap.lt_size e)) (by rw [Heap.size_push]; exact Nat.lt_succ_of_lt (Heap.lt_size e))]
  exact Heap.get?_push_of_some _ e
/-- t.index(k), ints: the first place -/
theorem flat_ints (ys : List Int) : (ys.map V.int).all flatV = true := by
  rw [List.all_map]
  exact List.all_eq_true.mpr fun _ _ => rfl
def rTupIx (K : PySem.W.Frag) : V → List V → Hp → VK → Prop := fun x xs H Q => ∃ (p : Addr) (ys : List Int) (z : Int) (j : Nat), x = .ref p ∧ xs = [.int z] ∧ SqT K H p (ys.map V.int) ∧ ys[j]? = some z ∧ (∀ m : Nat, m < j → ys[m]? ≠ some z) ∧ Q (.int (j : Nat)) H
theorem mt_tupIx : MtR X "tuple.index" (rTupIx X.K) := by
  intro pins s σ H x xs v us Q I rx rs h
  obtain ⟨p, ys, z, j, rfl, rfl, hq, hy, hno, q⟩ := h
  cases rx
  obtain ⟨u, rfl, t, rfl⟩ := vals1 rs
  obtain ⟨its, r, ⟨⟨cls, dd, dt, sl⟩, ho, hc, n, hd⟩, hz⟩ := I.tuple hq
  cases (show cls = _ from hc)
  cases (show dt = _ from hd)
  have hl : its.length = ys.length := by rw [← r.length, List.length_map]
  have each : ∀ (m : Nat) (hm : m < its.toArray.size), ∃ y t', ys[m]? = some y ∧ its.toArray[m] = Value.int y t' := fun m hm => by
    have hm2 : m < ys.length := by rw [← hl]; simpa using hm
    obtain ⟨wv, hw, t', hw'⟩ := r.get (i := m) (x := .int ys[m]) (by simp [hm2])
    refine ⟨ys[m], t', List.getElem?_eq_getElem hm2, ?_⟩
    have e := (List.getElem?_eq_some_iff.mp hw).2
    rw [← hw', ← e]
    simp
  have hj : j < its.toArray.size := by
    rw [List.size_toArray, hl]
    exact (List.getElem?_eq_some_iff.mp hy).1
  refine call_meets PySem.F.slot_tuple_index ⟨_, ho, rfl⟩ PySem.F.entry_tuple_index (PySem.F.args_tuple_index_2 _ _) (TI.tuple_indexAt p its.toArray n dd sl (.int z t) (eqU (.int z)) j hj ?_ ?_)
    ⟨ho, fun wv hw => mem_eqAt (x := .int z) ⟨t, rfl⟩ rfl r (flat_ints ys) wv (by simpa using hw), ⟨.int (j : Nat), H, I.tok _, ⟨_, rfl⟩, q⟩⟩
  · obtain ⟨y, t', h1, h2⟩ := each j hj
    rw [hy] at h1
    cases h1
    rw [h2]
    show decide (z = z) = true
    simp
  · intro m hm hmj
    obtain ⟨y, t', h1, h2⟩ := each m hm
    rw [h2]
    have e : y ≠ z := fun e => hno m hmj (e ▸ h1)
    show decide (y = z) = false
    simp [e]
end
end RL
namespace RL
open PySem PySem.Spec PyProof.Rows L2
open AutoSeq1 (wpAny_loadPart')
/-- t * 1 is t -/
theorem tuple_mul1 (l : Addr) (items : Array Value) (n : Nat) (dd : Option Addr) (sl : Array (Option Value)) (u : Tok) :
    Meets (Builtin.«tuple.__mul__» ⟨[.ref l, .int 1 u], []⟩) (fun _ R s => s.heap.get? l = some { cls := .type "tuple", dict := dd, data := .seq items n, slots := sl } ∧ R (.ok (.ret (.ref l))) s) :=
  .of_wp fun prog w A R s h => by
    obtain ⟨hp, g, d, tk, os⟩ := s
    obtain ⟨hl, h⟩ := h
    have f1 := AutoSeq1.idx_int
    have c1 : (items.isEmpty || (1 : Int) == 1) = true := by simp
    wp_walk using wpAny_loadPart' hl
    exact ⟨_, rfl, h⟩
set_option maxHeartbeats 1000000 in
theorem meets_enum_tup {v : Value} {o : Obj} {H : Heap → Prop} (B : Begins v o H) :
    Meets (Builtin.«enumerate.__new__» ⟨[.type "enumerate", v], []⟩) (fun _ R s => H s.heap ∧
      R (.ok (.ret (.ref (s.heap.push o).objs.size))) { s with heap := (s.heap.push o).push { cls := .type "enumerate", data := .fields #[.none, .bool false, .ref s.heap.objs.size, rawInt 0, .none, .none] } }) :=
  .of_wp fun P0 w0 A R s hh => by
    obtain ⟨hp, g, d, tk, os⟩ := s
    have hsub := sub_enumerate
    have draw : ∀ {A1 : Around} {E1 : Value → Shared → Prop} {Q1 : Value → Shared → Prop}, Q1 (.ref hp.objs.size) ⟨hp.push o, g, d, tk, os⟩ → wpAny (model P0 w0) A1 (pyIter v) Q1 E1 ⟨hp, g, d, tk, os⟩ :=
      fun z => B.iter P0 w0 _ _ ⟨hp, g, d, tk, os⟩ _ hh.1 z
    have fin := hh.2
    wp_walk using draw
    refine wpAny_stack_any fun st => wpAny_pure ?_
    split
    · rename_i c _ _ _ _ _
      cases (c == Value.type "enumerate")
      all_goals
        wp_walk using draw
        exact ⟨_, rfl, fin⟩
    · wp_walk using draw
      exact ⟨_, rfl, fin⟩
theorem call_enum_tup {prog : Program} {w : World} {A : Around} {E : Value → Shared → Prop} {s : Shared} {t : Addr} {items : Array Value} {Q : Value → Shared → Prop} (ht : s.heap.IsTuple t items)
    (h : ∀ h', IsEnum h' (s.heap.objs.size + 1) s.heap.objs.size 0 .none → h'.IsTupleIter s.heap.objs.size t 0 → (∀ b o, s.heap.get? b = some o → h'.get? b = some o) → Q (.ref (s.heap.objs.size + 1)) { s with heap := h' }) :
    wpAny (model prog w) A (call (.type "enumerate") [.ref t]) Q E s := by
  refine callType_new F.called_enumerate (by decide) (F.typeCall_enumerate_1 _) (F.newCall_enumerate_1 _) (fun ob => F.args_object_init_2 ob _) F.entry_enumerate_new (meets_enum_tup (begins_tuple t items)) ⟨ht, ?_⟩
  generalize ho1 : ({ cls := .type "tuple_iterator", data := .fields #[.ref t, .int 0 0] } : Obj) = o1
  have fr1 : o1.isFreed = false := by rw [← ho1]; rfl
  generalize ho2 : ({ cls := .type "enumerate", data := .fields #[.none, .bool false, .ref s.heap.objs.size, rawInt 0, .none, .none] } : Obj) = o2
  have z1 : (s.heap.push o1).objs.size = s.heap.objs.size + 1 := Heap.size_push ..
  have g2 : ((s.heap.push o1).push o2).get? (s.heap.objs.size + 1) = some o2 := by
    rw [← z1]
    exact Heap.get?_push_size _ (by rw [← ho2]; rfl)
  have g1 : ((s.heap.push o1).push o2).get? s.heap.objs.size = some o1 := Heap.get?_push_of_some _ (Heap.get?_push_size _ fr1)
  show _ ∧ _
  rw [z1]
  refine ⟨⟨o2, g2, by rw [← ho2]⟩, h _ (by rw [← ho2] at g2 ⊢; exact g2) ⟨o1, g1, by rw [← ho1], by rw [← ho1]; rfl⟩ fun b o e => Heap.get?_push_of_some _ (Heap.get?_push_of_some _ e)⟩
/-- a tuple at a, its items in new pairs with their numbers -/
def Itu (K : PySem.W.Frag) (a : Addr) : It :=
  ⟨fun i H => ∃ (xs : List V) (x : V), SqT K H a xs ∧ xs[i]? = some x, fun i H v H' => ∃ T x, v = .ref T ∧ H T = none ∧ H' = upd H T (.tup [.int (i : Nat), x]) ∧ ∀ xs, SqT K H a xs → xs[i]? = some x, fun i H => ∃ xs : List V, SqT K H a xs ∧ xs.length = i⟩
theorem turn_enumT {P : Program} {w : World} {K : PySem.W.Frag} {elts : List Expr} {kk : Nat} {tpos : Pos} (a e it : Addr) (hne : e ≠ it) (hai : a ≠ it) (hea : e ≠ a) :
    Turn P w K (.Tuple elts kk tpos) (Itu K a) [e, it] e (fun i h => (∃ old, IsEnum h e it ((i : Nat) : Int) old) ∧ h.IsTupleIter it a i) where
  mem := by simp
  obj := fun i h st b hb => by
    obtain ⟨⟨old, he⟩, ⟨o, ho, hc, hd⟩⟩ := st
    have z : b = e ∨ b = it := by simpa using hb
    rcases z with z | z
    · rw [z]
      exact ⟨_, he, fun v q => nomatch q⟩
    · rw [z]
      exact ⟨o, ho, fun v q => by rw [hd] at q; cases q⟩
  keep := fun i h h' st k => ⟨st.1.imp fun old he => k e (by simp) _ he, st.2.at fun o q => k it (by simp) o q⟩
  item := by
    intro X hP hw hK hc i pins s σ H E I hf st hg
    subst hP hw hK
    obtain ⟨⟨old, he⟩, hit⟩ := st
    obtain ⟨xs, x, hq, hx⟩ := hg
    obtain ⟨its, rv, ht, hz⟩ := I.tuple hq
    obtain ⟨u, hu, ru⟩ := rv.get hx
    have hi : i < its.toArray.size := by
      rw [List.size_toArray]
      exact (List.getElem?_eq_some_iff.mp hu).1
    have el : e < s.heap.objs.size := Heap.lt_size he
    have il : it < s.heap.objs.size := by
      obtain ⟨_, q, _⟩ := hit
      exact Heap.lt_size q
    refine wpAny_pyNext_enum_itemD (Draws.tuple (A := X.A.in1) (show X.A.in1.handled = none from I.ok.hd hc) it a hai its.toArray) he ⟨hit, ht⟩ hi hne (by simp [hne, hea]) fun y h' tk py ho st' hT hsz hk => ?_
    have ey : y = u := by
      have q : its[i]? = some y := by simpa using py
      rw [hu] at q
      exact (Option.some.inj q).symm
    subst ey
    refine ⟨_, rfl, wpAny_letOwnedTupleGo_enum (s := { s with heap := h', toks := tk + 1 }) ho fun h'' he' sb => ?_⟩
    have hT2 : h''.get? s.heap.objs.size = some { cls := .type "tuple", data := .seq #[.int i tk, y] } := (sb.2 _ (Nat.ne_of_gt el)).trans hT
    have new : ObjOk X.prog X.w (upd H s.heap.objs.size (.tup [.int (i : Nat), x])) h'' s.heap.objs.size (.tup [.int (i : Nat), x]) :=
      ⟨by show 2 ≤ sizeLine; decide, [.int i tk, y], .cons ⟨_, rfl⟩ (.cons ru .nil), ⟨_, hT2, rfl, _, rfl⟩⟩
    have I1 : Inv X pins σ (upd H s.heap.objs.size (.tup [.int (i : Nat), x])) { s with heap := h'', toks := tk + 1 } :=
      I.turnedNew (ch := [e, it]) (fun b ob hb q => (sb.2 b (fun z => hb (by simp [z]))).trans (hk b ob (fun z => hb (by simp [z])) (fun z => hb (by simp [z])) q)) hf (Nat.le_refl _) new
    refine ⟨.ref s.heap.objs.size, _, I1, rfl, ⟨_, x, rfl, I.hok.fresh (Nat.le_refl _), rfl, fun ys hy => by rw [I.tuple_inj hy hq]; exact hx⟩, ⟨⟨y, by simpa using he'⟩, st'.1.at fun o q => (sb.2 it (Ne.symm hne)).trans q⟩, fun b hb => ?_⟩
    have lt : b < s.heap.objs.size := by
      have z : b = e ∨ b = it := by simpa using hb
      rcases z with z | z
      · rw [z]; exact el
      · rw [z]; exact il
    rw [upd_ne (Nat.ne_of_lt lt)]
    exact (hf b hb).1
  done := by
    intro X hP hw hK hc i pins s σ H E I hf st hg
    subst hP hw hK
    obtain ⟨⟨old, he⟩, hit⟩ := st
    obtain ⟨xs, hq, hx⟩ := hg
    obtain ⟨its, rv, ht, hz⟩ := I.tuple hq
    obtain ⟨f0, f1, f2, f3, f4, f5⟩ := hf it (by simp)
    have hl : its.toArray.size = i := by
      rw [List.size_toArray, ← rv.length]
      exact hx
    exact wpAny_pyNext_enum_endD (Draws.tuple (A := X.A.in1) (show X.A.in1.handled = none from I.ok.hd hc) it a hai its.toArray) he (by rw [hl]; exact ⟨hit, ht⟩) fun h' eb => ⟨rfl, I.turned (t' := s.toks) (fun b o hb q => eb b o hb q) f0 f1 f3 f4 f5⟩
  self := fun A i s Q E st h => wpAny_pyIter_enum st.1.choose_spec h
def iEnumT (K : PySem.W.Frag) (ta : TA) : TI := fun σ H R => ta σ H fun vs H1 => ∃ a xs, vs = [.ref a] ∧ SqT K H1 a xs ∧ R (Itu K a) H1
theorem pi_enumT {X : Cx} {e : Expr} {ta : TA} {p pos tpos : Pos} {elts : List Expr} {kk : Nat} (hg : Gl X "enumerate") (hm : X.mg "enumerate" = none) (ha : PA X [e] ta) (hs : starEach [e] X.env = [(false, eval e X.env)] := by rfl) :
    PI X (.Tuple elts kk tpos) (.Call (.Name "enumerate" p) [e] [] pos) (iEnumT X.K ta) := by
  refine ⟨fun pins s σ H R I h => ?_⟩
  refine Call_ (ld_blt I hg hm boot_enumerate (PyProof.Rows.callWith_type1 (thn (ha.run pos pins s σ H _ I h) fun us s1 ⟨vs, H1, I1, r1, q1⟩ => ?_) hs rfl))
  obtain ⟨a, xs, ex, hq, q⟩ := q1
  subst ex
  rw [Vals.ref1 r1]
  obtain ⟨its, rv, ht, hz⟩ := I1.tuple hq
  have al : a < s1.heap.objs.size := by
    obtain ⟨o, ho, _⟩ := ht
    exact Heap.lt_size ho
  refine call_enum_tup ht fun h' he hit hk => wpAny_pyIter_enum he ?_
  have I2 : Inv X pins σ H1 { s1 with heap := h' } := I1.kept (t' := s1.toks) hk
  refine ⟨s1.heap.objs.size + 1, [s1.heap.objs.size + 1, s1.heap.objs.size], _, _, H1, rfl, I2, turn_enumT a (s1.heap.objs.size + 1) s1.heap.objs.size (Nat.succ_ne_self _) (Nat.ne_of_lt al) (Nat.ne_of_gt (Nat.lt_succ_of_lt al)), ⟨⟨.none, he⟩, hit⟩, fun b hb => ?_, q⟩
  have hle : s1.heap.objs.size ≤ b := by
    have z : b = s1.heap.objs.size + 1 ∨ b = s1.heap.objs.size := by simpa using hb
    rcases z with z | z
    · rw [z]; exact Nat.le_succ _
    · rw [z]; exact Nat.le_refl _
  exact I1.fpOk hle (I1.hok.fresh hle)
theorem walk_enumT {K : PySem.W.Frag} {a : Addr} {xs : List V} : Walk (Itu K a) xs.length (fun H => SqT K H a xs) (YPair (fun i => some (.int (i : Nat))) (fun i => xs[i]?)) := by
  refine ⟨fun i H hi q => ⟨xs, xs[i], q, by simp [hi]⟩, fun H q => ⟨xs, q, rfl⟩, fun i H v H' hi q y => ?_⟩
  obtain ⟨T, x, e1, e2, e3, e4⟩ := y
  exact ⟨T, _, x, e1, e2, e3, rfl, e4 xs q⟩
section
variable {X : Cx}
/-- t * k, 1 ≤ k -/
def rRepT1 (K : PySem.W.Frag) : R2 := fun x y H Q => ∃ (l : Addr) (k : Int) (xs : List V), x = .ref l ∧ y = .int k ∧ SqT K H l xs ∧ xs ≠ [] ∧ 1 ≤ k ∧ k ≤ 1000 ∧ xs.length ≤ 1000 ∧ (k = 1 → Q (.ref l) H) ∧ ∀ p, H p = none → Q (.ref p) (upd H p (.tup (List.replicate k.toNat xs).flatten))
theorem op_repT1 : OpR X (binaryOp .Mult) (rRepT1 X.K) := by
  intro pins s σ H x y v u Q I rx ry h
  obtain ⟨l, k, xs, hx, hy, hT, hne, h1, h2, hz, q1, q⟩ := h
  by_cases hk : k = 1
  · subst hk hx hy
    cases rx
    obtain ⟨t, rfl⟩ := ry
    obtain ⟨its, r, ⟨⟨cls, dd, data, sl⟩, ho, hc, n, hd⟩, hs⟩ := I.tuple hT
    cases (show cls = _ from hc)
    cases (show data = _ from hd)
    refine wpAny_binaryOp_repeat_ref (T := "tuple") (U := "int") (by decide) ⟨_, ho, rfl⟩ (fun s' => typeIs_int s' 1 t) noFill_tuple_mul F.fills_int_mul F.slot_int_rmul repeat_tuple F.slot_int_index.lookup
      (call_meets F.slot_int_rmul (typeIs_int s 1 t) F.entry_int_rmul (F.args_int_rmul_2 _ _) (int_rmul_tuple 1 t l its.toArray n dd sl)
        ⟨ho, rfl, ⟨_, ho, rfl⟩, call_meets F.slot_tuple_mul ⟨_, ho, rfl⟩ F.entry_tuple_mul (F.args_tuple_mul_2 _ _) (tuple_mul1 l its.toArray n dd sl t) ⟨ho, ?_⟩⟩)
    exact ⟨.ref l, H, I, rfl, q1 rfl⟩
  · exact op_repT pins s σ H x y v u Q I rx ry ⟨l, k, xs, hx, hy, hT, hne, by omega, h2, hz, q⟩
/-- len(o), o of a class with its own __len__ -/
def rLenOwn (C : Addr) (sp : Sp) : List V → Hp → VK → Prop := fun vs H Q => ∃ (a dx : Addr) (fs : List (Str × V)), vs = [.ref a] ∧ H a = some (.ins C dx fs) ∧ sp [.ref a] H (fun v H' => ∃ n : Int, v = .int n ∧ 0 ≤ n ∧ n < 2 ^ 63 ∧ Q (.int n) H') (fun _ _ _ => False)
theorem call_lenOwn {C f : Addr} {fd : FuncData} {ps : List Str} {sp : Sp} {k : Nat} (hm : Meth X.K C "__len__" f) (F : FnOk X.prog X.w X.K X.mg X.base CX0 k f fd ps sp) (hb : Binds X.K fd ps []) (hr : Room (k + 1) X.A) : CallR X (.builtin "len") (rLenOwn C sp) := by
  intro pins s σ H vs us Q I r h
  obtain ⟨a, dx, fs, rfl, ha, q⟩ := h
  rw [Vals.ref1 r]
  obtain ⟨mA, O, _⟩ := ins_get I.hok ha
  obtain ⟨od, J, _⟩ := O.look
  refine Calls.call_function_entry kind_len plain_len entry_len (args_len1 _) ?_
  unfold Builtin.«len»
  refine wpAny_bind (m := oneArg "len" _) (wpAny_pure ?_)
  have ty : PySem.W.typeIn X.K (.ref f) = some (.type "function") := beq_iff_eq.mp hm.fn
  refine wpAny_bind (m := callSpecial? (.ref a) (Str.ofString "__len__")) (PySem.W.special_fn I.kIn J hm.at_ ty ?_)
  refine wpAny_call (codeAny_mono (F.run X.A.in1 X.stack s H ⟨[.ref a], []⟩ [.ref a] [.ref a] _ _ hr.in1 I.env0.in1 (hb s [.ref a] I.kIn (F.len _ _ _ _ q)) (.cons rfl .nil) q) fun rr s1 hq => ?_)
  cases rr with
  | error e => exact hq.elim
  | ok fl =>
    cases fl with
    | ret u =>
      obtain ⟨v, H1, I1, rv, n, e, n0, n1, qq⟩ := I.after hq
      subst e
      obtain ⟨t, rfl⟩ := rv
      refine wpAny_bind (wpAny_holding (wpAny_pure ?_))
      refine wpAny_bind (wpAny_letGo ?_)
      show wpAny _ _ (if n < 0 then _ else _) _ _ _
      rw [if_neg (by omega)]
      show wpAny _ _ (if n ≥ 2 ^ 63 then _ else _) _ _ _
      rw [if_neg (by omega)]
      exact wpAny_bind (wpAny_mkInt (wpAny_pure ⟨_, rfl, .int n, H1, I1.tok _, ⟨_, rfl⟩, qq⟩))
    | next => exact hq.elim
    | brk => exact hq.elim
    | cont => exact hq.elim
end
end RL
/-! A set comprehension with two clauses whose items are ints. -/
namespace RL
open PySem PySem.Spec PyProof.Rows L2
section
variable {prog : Program} {w : World} {A : Around} {R : Result → Shared → Prop} {s : Shared} {el ta ia tb ib : Expr} {fa fb : List Expr} {sc : Scope} {pos : Pos} {it acc : Value} {env : Env}
/-- the expression -/
abbrev sc2E (el ta ia : Expr) (fa : List Expr) (tb ib : Expr) (fb : List Expr) (sc : Scope) (pos : Pos) : Expr := .SetComp el [⟨ta, ia, fa, 0⟩, ⟨tb, ib, fb, 0⟩] sc pos
/-- the tests of a clause -/
abbrev testsOf (fs : List Expr) (env : Env) : Sem Bool := forIn fs true fun c r => if r = true then do let ok ← isTrue c env (eval c env); pure (ForInStep.yield ok) else pure (ForInStep.yield r)
theorem turn2o : compTurn (sc2E el ta ia fa tb ib fb sc pos) 0 it acc env = (do
      standAt ia.pos
      match ← pyNext it with
      | none => pure (.done .next)
      | some v =>
        letOwnedTupleGo ta it v
        assign ta env v
        let ok ← testsOf fa env
        if ok then
          let x ← eval ib env
          standAt ib.pos
          let x ← foldedSetIterable ib env x
          let _ ← runOwn (.compStart (sc2E el ta ia fa tb ib fb sc pos) 1 (← holding [x] (pyIter x)) acc env) env
        again (.compLoop (sc2E el ta ia fa tb ib fb sc pos) 0 it acc env)) := by rfl
theorem turn2i : compTurn (sc2E el ta ia fa tb ib fb sc pos) 1 it acc env = (do
      standAt ib.pos
      match ← pyNext it with
      | none => pure (.done .next)
      | some v =>
        letOwnedTupleGo tb it v
        assign tb env v
        let ok ← testsOf fb env
        if ok then
          (do let v ← eval el env; standAt el.pos; let _ ← call (.builtin "set.add") [acc, v])
        again (.compLoop (sc2E el ta ia fa tb ib fb sc pos) 1 it acc env)) := by rfl
/-- what is noted where it raises -/
abbrev Nt (prog : Program) (w : World) (A : Around) (env : Env) (R : Result → Shared → Prop) : Value → Shared → Prop := notedBy (model prog w) A env fun e s' => R (.error e) s'
theorem loop2o (hs : ∀ x, foldedSetIterable ib env x = pure x) (J : Nat → Shared → Prop)
    (turn : ∀ n s, J n s → wpAny (model prog w) A (pyNext it) (fun r s1 => match r with
      | none => R (.ok .next) s1
      | some v => wpAny (model prog w) A (letOwnedTupleGo ta it v) (fun _ s2 => wpAny (model prog w) A (assign ta env v) (fun _ s3 => wpAny (model prog w) A (testsOf fa env) (fun ok s4 =>
            if ok = true then wpAny (model prog w) A (eval ib env) (fun x s5 => wpAny (model prog w) A (pyIter x) (fun jt s6 =>
              codeAny (model prog w) A (.compStart (sc2E el ta ia fa tb ib fb sc pos) 1 jt acc env) (fun r s' => match r with
                | .ok _ => ∃ m, m < n ∧ J m s'
                | .error _ => False) s6) (Nt prog w A env R) s5) (Nt prog w A env R) s4
            else ∃ m, m < n ∧ J m s4) (Nt prog w A env R) s3) (Nt prog w A env R) s2) (Nt prog w A env R) s1) (Nt prog w A env R) s)
    (n : Nat) (h : J n s) : codeAny (model prog w) A (.compLoop (sc2E el ta ia fa tb ib fb sc pos) 0 it acc env) R s := by
  refine codeAny_loop rfl J (fun n s hJ => ?_) n h
  show wpAny _ A ((compTurn (sc2E el ta ia fa tb ib fb sc pos) 0 it acc env).onRaise (fun x => do noteFrame x env; theTreesLotGoes x)) _ _ s
  refine wpAny_noted ?_
  rw [turn2o]
  refine wpAny_bind (wpAny_standAt (wpAny_bind (wpAny_mono (turn n s hJ) (fun r s1 h1 => ?_) fun _ _ z => z)))
  cases r with
  | none => exact wpAny_pure h1
  | some v =>
    refine wpAny_bind (wpAny_mono h1 (fun _ s2 h2 => wpAny_bind (wpAny_mono h2 (fun _ s3 h3 => wpAny_bind (wpAny_mono h3 (fun ok s4 h4 => ?_) fun _ _ z => z)) fun _ _ z => z)) fun _ _ z => z)
    cases ok with
    | false => exact wpAny_pure ⟨rfl, h4⟩
    | true =>
      refine wpAny_bind (wpAny_mono h4 (fun x s5 h5 => ?_) fun _ _ z => z)
      refine wpAny_bind (wpAny_standAt (wpAny_bind (wpAny_of_eq (hs x) (wpAny_bind (wpAny_holding (wpAny_mono h5 (fun jt s6 h6 => ?_) fun _ _ z => z))))))
      refine wpAny_bind (wpAny_runOwn ?_)
      rw [Around.mark_none]
      refine codeAny_mono h6 fun r s' hr => ?_
      cases r with
      | ok f =>
        first
          | exact wpAny_pure ⟨rfl, hr⟩
          | exact wpAny_bind (wpAny_pure (wpAny_pure ⟨rfl, hr⟩))
      | error e => exact hr.elim
theorem loop2i (J : Nat → Shared → Prop)
    (turn : ∀ n s, J n s → wpAny (model prog w) A (pyNext it) (fun r s1 => match r with
      | none => R (.ok .next) s1
      | some v => wpAny (model prog w) A (letOwnedTupleGo tb it v) (fun _ s2 => wpAny (model prog w) A (assign tb env v) (fun _ s3 => wpAny (model prog w) A (testsOf fb env) (fun ok s4 =>
            if ok = true then wpAny (model prog w) A (eval el env) (fun x s5 => wpAny (model prog w) A (call (.builtin "set.add") [acc, x]) (fun _ s6 => ∃ m, m < n ∧ J m s6) (Nt prog w A env R) s5) (Nt prog w A env R) s4
            else ∃ m, m < n ∧ J m s4) (Nt prog w A env R) s3) (Nt prog w A env R) s2) (Nt prog w A env R) s1) (Nt prog w A env R) s)
    (n : Nat) (h : J n s) : codeAny (model prog w) A (.compLoop (sc2E el ta ia fa tb ib fb sc pos) 1 it acc env) R s := by
  refine codeAny_loop rfl J (fun n s hJ => ?_) n h
  show wpAny _ A ((compTurn (sc2E el ta ia fa tb ib fb sc pos) 1 it acc env).onRaise (fun x => do noteFrame x env; theTreesLotGoes x)) _ _ s
  refine wpAny_noted ?_
  rw [turn2i]
  refine wpAny_bind (wpAny_standAt (wpAny_bind (wpAny_mono (turn n s hJ) (fun r s1 h1 => ?_) fun _ _ z => z)))
  cases r with
  | none => exact wpAny_pure h1
  | some v =>
    refine wpAny_bind (wpAny_mono h1 (fun _ s2 h2 => wpAny_bind (wpAny_mono h2 (fun _ s3 h3 => wpAny_bind (wpAny_mono h3 (fun ok s4 h4 => ?_) fun _ _ z => z)) fun _ _ z => z)) fun _ _ z => z)
    cases ok with
    | false => exact wpAny_pure ⟨rfl, h4⟩
    | true => exact wpAny_bind (wpAny_bind (wpAny_mono h4 (fun x s5 h5 => wpAny_bind (wpAny_standAt (wpAny_bind (wpAny_mono h5 (fun _ s6 h6 => wpAny_pure (wpAny_pure ⟨rfl, h6⟩)) fun _ _ z => z)))) fun _ _ z => z))
theorem start2 {k : Nat} (hk : k = 0 ∨ k = 1) (h0 : codeAny (model prog w) A (.compLoop (sc2E el ta ia fa tb ib fb sc pos) k it acc env) R s)
    (h : wpAny (model prog w) A (pyIter it) (fun jt s' => codeAny (model prog w) A (.compLoop (sc2E el ta ia fa tb ib fb sc pos) k jt acc env) R s') (Nt prog w A env R) s) :
    codeAny (model prog w) A (.compStart (sc2E el ta ia fa tb ib fb sc pos) k it acc env) R s := by
  refine codeAny_of_tree ?_
  show wpAny _ _ ((compStart (sc2E el ta ia fa tb ib fb sc pos) k it acc env).onRaise (fun x => do noteFrame x env; standAt theWindowsPlace)) _ _ s
  refine wpAny_notedAt ?_
  rcases hk with e | e
  all_goals
    subst e
    unfold compStart
    show wpAny _ _ (ask >>= _) _ _ s
    refine wpAny_bind (wpAny_askSetting (wpAny_ite ?_))
    split
    · first
        | exact wpAny_bind (wpAny_pure (wpAny_pure (And.intro rfl h0)))
        | exact wpAny_pure (And.intro rfl h0)
    · refine wpAny_bind (wpAny_rule ?_)
      first
        | (show wpAny _ _ (standAt ia.pos >>= _) _ _ s; exact wpAny_bind (wpAny_standAt (wpAny_bind (wpAny_mono h (fun jt s' h' => wpAny_pure (And.intro rfl h')) fun _ _ z => z))))
        | (show wpAny _ _ (standAt ib.pos >>= _) _ _ s; exact wpAny_bind (wpAny_standAt (wpAny_bind (wpAny_mono h (fun jt s' h' => wpAny_pure (And.intro rfl h')) fun _ _ z => z))))
end
end RL
namespace RL
open PySem PySem.Spec PyProof.Rows L2
section
variable {X : Cx}
theorem newSet_at {prog : Program} {w : World} {A : Around} {E : Value → Shared → Prop} {s : Shared} {Q : Value → Shared → Prop}
    (h : Q (.ref s.heap.objs.size) { s with heap := s.heap.push { cls := .type "set", dict := none, data := .set #[] 0 (.fresh 0 0 (!w.params.followText "set-order")) } }) : wpAny (model prog w) A (newSet (.type "set")) Q E s := PpSet.newSet_ok h
theorem addI {pins : List (Addr × Obj)} {σ : L2.St} {H : Hp} {s : Shared} {E : Value → Shared → Prop} {D : Addr} {S : Int → Bool} {n : Nat} {y : Int} {v : Value} {Q : Value → Shared → Prop} (I : L2.Inv X pins σ H s) (hD : H D = some (SetO X.w D S n)) (room : n + 1 < scanBound) (r : RelV (.int y) v)
    (h : ∀ s', L2.Inv X pins σ (upd H D (SetO X.w D (fun j => S j || decide (j = y)) (if S y = true then n else n + 1))) s' → Q .none s') : wpAny (model X.prog X.w) X.A (call (.builtin "set.add") [.ref D, v]) Q E s := by
  obtain ⟨tk, rfl⟩ := r
  have R := setO_get I hD
  refine setR_add R room fun h1 sb new => ?_
  have ex : ∃ u, h1.get? D = some u := by
    have ⟨o, _, _, _, ho, _⟩ := new
    exact ⟨o, ho⟩
  exact h _ (I.write (e := D) (t' := s.toks + 1) (by rw [hD]; trivial) (.inl rfl) (fun b u hb hu => (sb.2 b hb).trans hu) ex (setO_new new))
/-- the reading: D the new set, its members told by S -/
def tSc2 (w : World) (wa : TI) (ga : TG) (fa : TT) (wb : TI) (gb : TG) (fb : TT) (te : TE) (vs vb : List Nat) : TE := fun σ H Q => wa σ H fun J H1 => ∀ D, H1 D = none → ∃ W : Nat → Nat → Hp → Prop, (∃ m, W 0 m (upd H1 D (SetO w D (fun _ => false) 0))) ∧ ∀ i m H, W i m H →
  (J.stop i H ∧ Q (.ref D) H) ∨ (J.go i H ∧ ∃ Nx : Hp → Prop, (∀ H', Nx H' → ∃ m', m' < m ∧ W (i + 1) m' H') ∧ ∀ x H', J.yld i H x H' → ga x (wipe σ vs) H' fun σ2 H2 => wipe σ2 vs = wipe σ vs ∧ fa σ2 H2 fun b H3 =>
    if b = true then wb σ2 H3 fun J1 H4 => ∃ W1 : Nat → Nat → Hp → Prop, (∃ m, W1 0 m H4) ∧ ∀ j k H, W1 j k H →
      (J1.stop j H ∧ Nx H) ∨ (J1.go j H ∧ ∃ Ny : Hp → Prop, (∀ H', Ny H' → ∃ k', k' < k ∧ W1 (j + 1) k' H') ∧ ∀ x H', J1.yld j H x H' → gb x (wipe σ2 vb) H' fun σ3 H5 => wipe σ3 vb = wipe σ2 vb ∧ fb σ3 H5 fun b H6 =>
        if b = true then te σ3 H6 fun y H7 => ∃ (c : Int) (S : Int → Bool) (n : Nat), y = .int c ∧ H7 D = some (SetO w D S n) ∧ n + 1 < scanBound ∧ Ny (upd H7 D (SetO w D (fun j => S j || decide (j = c)) (if S c = true then n else n + 1))) else Ny H6)
    else Nx H3)
theorem pe_sc2 {el ta ia tb ib : Expr} {ea eb : List Expr} {sc : Scope} {own : List (Str × Nat)} {vs1 : List Nat} {pos : Pos} {wa wb : TI} {ga gb : TG} {fa fb : TT} {te : TE} (hc : X.calm = true) (hN : X.N.Nodup) (hi : PI X ta ia wa) (ok : BlkOk X.N X.env.scope sc own) (hv : ∀ i ∈ vs1, i ∈ own.map (·.2))
    (hg : ∀ (s : Shared) (H : Hp) (C : Addr) (cl : List (Str × Addr)) (fp : List Addr), PG (X.blk s H sc (compEnvC sc cl C X.env) fp) ta ga) (ht : ∀ (s : Shared) (H : Hp) (C : Addr) (cl : List (Str × Addr)) (fp : List Addr), PTs (X.blk s H sc (compEnvC sc cl C X.env) fp) ea fa)
    (hi1 : ∀ (s : Shared) (H : Hp) (C : Addr) (cl : List (Str × Addr)) (fp : List Addr), PI (X.blk s H sc (compEnvC sc cl C X.env) fp) tb ib wb)
    (hg1 : ∀ (s : Shared) (H : Hp) (C : Addr) (cl : List (Str × Addr)) (fp : List Addr), PG (X.blk s H sc (compEnvC sc cl C X.env) fp) tb gb) (ht1 : ∀ (s : Shared) (H : Hp) (C : Addr) (cl : List (Str × Addr)) (fp : List Addr), PTs (X.blk s H sc (compEnvC sc cl C X.env) fp) eb fb)
    (he : ∀ (s : Shared) (H : Hp) (C : Addr) (cl : List (Str × Addr)) (fp : List Addr), PE (X.blk s H sc (compEnvC sc cl C X.env) fp) el te) (hs : ∀ x, foldedSetIterable ia X.env x = pure x := by intro _; rfl) (hs1 : ∀ env x, foldedSetIterable ib env x = pure x := by intro _ _; rfl) :
    PE X (sc2E el ta ia ea tb ib eb sc pos) (tSc2 X.w wa ga fa wb gb fb te (own.map (·.2)) vs1) := by
  refine ⟨fun pins s σ H Q I h => ?_⟩
  rw [PpSet.eval_SetComp]
  have cells : ∀ y ∈ sc.names, y.2 = .free → ∃ c, X.env.cells.lookup y.1 = some c := fun y hy e => (ok.free y hy e).elim (fun k => I.ok.has _ (.inl k)) fun k => I.ok.has _ (.inr k)
  refine wpAny_comprehension_free (use := none) rfl hs (closure_ok cells) ok.kind (fun y hy e => by rw [ok.uniq y hy, e]) (thn (hi.run pins s σ H _ I h) fun xv s1 hx => thn hx fun itv s2 h2 => ?_)
  obtain ⟨it, fp, tn, J, H2, e, I2, T, st2, f2, q⟩ := h2
  subst e
  refine newSet_at (newEnv_comp ?_)
  generalize hD : s2.heap.objs.size = D
  obtain ⟨W, ⟨m0, w0⟩, turn⟩ := q D (I2.hok.fresh (Nat.le_of_eq hD))
  generalize ho : ({ cls := .type "set", dict := none, data := .set #[] 0 (.fresh 0 0 (!X.w.params.followText "set-order")) } : Obj) = oS
  generalize hs3 : ({ s2 with heap := s2.heap.push oS } : Shared) = s3
  have hp3 : s3.heap = s2.heap.push oS := by rw [← hs3]
  have I3 : L2.Inv X pins σ (upd H2 D (SetO X.w D (fun _ => false) 0)) s3 := by
    rw [← hs3]
    refine I2.laid (t' := s2.toks) (fun b o e => Heap.get?_push_of_some _ e) (Nat.le_of_eq hD) ?_
    have g : (s2.heap.push oS).get? D = some oS := by
      rw [← hD]
      exact Heap.get?_push_size _ (by rw [← ho]; rfl)
    rw [← ho] at g ⊢
    exact setO_new (by simpa using setR_new_at (ns := []) g)
  have small : ∀ b ∈ fp, b < s2.heap.objs.size := fun b hb => (T.obj _ _ st2 b hb).elim fun o e => Heap.lt_size e.1
  have f3 : ∀ b ∈ fp, FpOk X pins (upd H2 D (SetO X.w D (fun _ => false) 0)) b ∧ b < s3.heap.objs.size := fun b hb => by
    refine ⟨⟨?_, (f2 b hb).2⟩, by rw [hp3, Heap.size_push]; exact Nat.lt_succ_of_lt (small b hb)⟩
    rw [upd_ne (by rw [← hD]; exact Nat.ne_of_lt (small b hb))]
    exact (f2 b hb).1
  have st3 : tn 0 s3.heap := T.keep _ _ _ st2 fun b _ o e => by rw [hp3]; exact Heap.get?_push_of_some _ e
  have I4 := block_start I3 ok hN f3
  generalize hcs : cellsFrom (s3.heap.objs.size + 1) sc.names (cloFrom X.env.cells sc.names []) = cs at I4
  have pg := hg s3 (upd H2 D (SetO X.w D (fun _ => false) 0)) s3.heap.objs.size cs fp
  have pt := ht s3 (upd H2 D (SetO X.w D (fun _ => false) 0)) s3.heap.objs.size cs fp
  have pe := he s3 (upd H2 D (SetO X.w D (fun _ => false) 0)) s3.heap.objs.size cs fp
  have qi := hi1 s3 (upd H2 D (SetO X.w D (fun _ => false) 0)) s3.heap.objs.size cs fp
  have qg := hg1 s3 (upd H2 D (SetO X.w D (fun _ => false) 0)) s3.heap.objs.size cs fp
  have qt := ht1 s3 (upd H2 D (SetO X.w D (fun _ => false) 0)) s3.heap.objs.size cs fp
  show codeAny _ _ (.compStart (sc2E el ta ia ea tb ib eb sc pos) 0 (.ref it) (.ref D) (compEnvC sc cs s3.heap.objs.size X.env)) (compPost (model X.prog X.w) X.A X.xe none (EP X pins σ Q) (.ref D) s3.heap.objs.size) { s3 with heap := pushCells (s3.heap.push { cls := .type "dict", data := .dict #[] }) sc.names }
  have nfp : ∀ b ∈ fp, (upd H2 D (SetO X.w D (fun _ => false) 0)) b = none := fun b hb => (f3 b hb).1.1
  generalize hce : compEnvC sc cs s3.heap.objs.size X.env = ce at I4 pg pt pe qi qg qt ⊢
  have cL : ce.locals = s3.heap.objs.size := by subst hce; rfl
  generalize hH3 : upd H2 D (SetO X.w D (fun _ => false) 0) = H3 at I3 I4 pg pt pe qi qg qt w0 nfp f3
  generalize hs4 : ({ s3 with heap := pushCells (s3.heap.push { cls := .type "dict", data := .dict #[] }) sc.names } : Shared) = s4 at I4 ⊢
  have st4 : tn 0 s4.heap := T.keep _ _ _ st3 fun b _ o e => by rw [← hs4]; exact pushCells_keeps _ _ _ _ (Heap.get?_push_of_some _ e)
  generalize hv0 : wipe σ (own.map (·.2)) = σ0 at I4 turn
  have len0 : σ0.length = σ.length := by rw [← hv0, wipe_length]
  have stat : ∀ {τ : L2.St} {H' : Hp} {s' : Shared}, L2.Inv (X.blk s3 H3 sc ce fp) [] τ H' s' → (∀ b ∈ fp, H' b = none) → ∀ b ∈ fp, FpOk (X.blk s3 H3 sc ce fp) [] H' b := fun {τ H' s'} I' hn b hb =>
    ⟨hn b hb, (I'.ok.exf b hb).1, I'.ok.exfs b hb, .inl hb, fun x c e => (I'.ok.exf b hb).2 x c e, fun p hp => absurd (show p ∈ ([] : List (Addr × Obj)) ++ [] from hp) (by simp)⟩
  -- between the turns of the first clause
  let Jo : Nat → Shared → Prop := fun n s' => ∃ i H', L2.Inv (X.blk s3 H3 sc ce fp) [] σ0 H' s' ∧ tn i s'.heap ∧ (∀ b ∈ fp, H' b = none) ∧ W i n H'
  have main : codeAny (model X.prog X.w) X.A (.compLoop (sc2E el ta ia ea tb ib eb sc pos) 0 (.ref it) (.ref D) ce) (compPost (model X.prog X.w) X.A X.xe none (EP X pins σ Q) (.ref D) s3.heap.objs.size) s4 := by
    refine loop2o (hs1 ce) Jo ?_ m0 ⟨0, H3, I4, st4, nfp, w0⟩
    rintro n s5 ⟨i, H5, I5, st5, n5, w5⟩
    rcases turn i n H5 w5 with ⟨stop, qq⟩ | ⟨go, Nx, hNx, step⟩
    · refine thnF (T.done (X.blk s3 H3 sc ce fp) rfl rfl rfl hc i [] s5 _ H5 (fun _ _ => False) I5 (stat I5 n5) st5 stop) fun r s6 ⟨hr, I6⟩ => ?_
      subst hr
      have I7 : L2.Inv X pins σ H5 s6 := I3.call' (ch := fp) I6.os I6.base I6.hok I6.bare fun b hb => ⟨(f3 b hb).1.2.2.2.1, (f3 b hb).1.2.1, (f3 b hb).1.2.2.2.2.1, (f3 b hb).1.2.2.2.2.2⟩
      have nC : H5 s3.heap.objs.size = none := by
        rw [← cL]
        exact I6.free
      obtain ⟨m, hn, _⟩ := I6.loc
      have hn : s6.heap.Ns ce.locals m := hn
      rw [cL] at hn
      refine ⟨m, hn, fun h'' sb => ?_⟩
      obtain ⟨g0, g1, g2, g3, g4, g5⟩ := I3.fpOk (Nat.le_refl _) nC
      exact ⟨.ref D, H5, I7.turned (t' := s6.toks) (fun b o hb e => (sb.2 b hb).trans e) g0 g1 g3 g4 g5, rfl, qq⟩
    · refine thnF (T.item (X.blk s3 H3 sc ce fp) rfl rfl rfl hc i [] s5 _ H5 (fun _ _ => False) I5 (stat I5 n5) st5 go) fun r s6 ⟨u, hr, h6⟩ => ?_
      subst hr
      refine thnF h6 fun _ s7 ⟨x, H7, I7, r7, y7, st7, n7⟩ => ?_
      have I7p := I7.pinned (stat I7 n7) (T.obj _ _ st7)
      refine thnF (pg.run _ s7 _ H7 x u _ I7p r7 (step x H7 y7)) fun _ s8 ⟨σ8, H8, I8, hw8, q8⟩ => ?_
      refine thnF (pt.run _ s8 σ8 H8 _ I8 q8) fun b s9 ⟨H9, I9, q9⟩ => ?_
      have back : ∀ {τ : L2.St} {s' : Shared} {H' : Hp}, L2.Inv (X.blk s3 H3 sc ce fp) ([] ++ pinsAt fp s7.heap) τ H' s' → σ0.length = τ.length → (∀ (j : Nat) v, σ0[j]? = some (some v) → τ[j]? = some (some v)) → Nx H' → ∃ m, m < n ∧ Jo m s' := fun {τ s' H'} I' hl hk nx => by
        obtain ⟨m1, hm, w1⟩ := hNx H' nx
        have pin : ∀ b ∈ fp, ∀ o, s7.heap.get? b = some o → s'.heap.get? b = some o ∧ H' b = none := fun b hb o e =>
          let z := I'.pin (b, o) (List.mem_append_right _ (List.mem_append_right _ (mem_pinsAt hb e)))
          ⟨z.1, z.2.1⟩
        refine ⟨m1, hm, i + 1, H', (I'.unpinned (pins := [])).weak hl hk, T.keep _ _ _ st7 fun b hb o e => (pin b hb o e).1, fun b hb => ?_, w1⟩
        obtain ⟨o, e, _⟩ := T.obj _ _ st7 b hb
        exact (pin b hb o e).2
      have l8 : σ0.length = σ8.length := by rw [← hw8, wipe_length]
      have k8 : ∀ (j : Nat) v, σ0[j]? = some (some v) → σ8[j]? = some (some v) ∧ (wipe σ8 vs1)[j]? = some (some v) := fun j v e => by
        rw [← hw8] at e
        obtain ⟨e1, e2⟩ := wipe_some e
        refine ⟨e1, ?_⟩
        rw [wipe_out fun z => e2 (hv j z)]
        exact e1
      cases b with
      | false =>
        simp only [Bool.false_eq_true, if_false] at q9 ⊢
        exact back I9 l8 (fun j v e => (k8 j v e).1) q9
      | true =>
        simp only [if_true] at q9 ⊢
        refine thnF (qi.run _ s9 σ8 H9 _ I9 q9) fun xv s10 hx => thnF hx fun itv s11 h11 => ?_
        obtain ⟨jt, fq, tq, J1, H11, e1, I11, T1, st11, f11, W1, ⟨m1, w1⟩, turn1⟩ := h11
        subst e1
        have stat1 : ∀ {H' : Hp}, (∀ b ∈ fq, H' b = none) → ∀ b ∈ fq, FpOk (X.blk s3 H3 sc ce fp) ([] ++ pinsAt fp s7.heap) H' b := fun hn b hb => ⟨hn b hb, (f11 b hb).2⟩
        let Ji : Nat → Shared → Prop := fun k s' => ∃ j H', L2.Inv (X.blk s3 H3 sc ce fp) ([] ++ pinsAt fp s7.heap) (wipe σ8 vs1) H' s' ∧ tq j s'.heap ∧ (∀ b ∈ fq, H' b = none) ∧ W1 j k H'
        have inner : codeAny (model X.prog X.w) X.A (.compLoop (sc2E el ta ia ea tb ib eb sc pos) 1 (.ref jt) (.ref D) ce) (fun r s' => match r with
              | .ok _ => ∃ m, m < n ∧ Jo m s'
              | .error _ => False) s11 := by
          refine loop2i Ji ?_ m1 ⟨0, H11, I11.weak (wipe_length _ _) (fun j v e => (wipe_some e).1), st11, fun b hb => (f11 b hb).1, w1⟩
          rintro k s12 ⟨j, H12, I12, st12, n12, w12⟩
          rcases turn1 j k H12 w12 with ⟨stop1, nx1⟩ | ⟨go1, Ny, hNy, step1⟩
          · refine thnF (T1.done (X.blk s3 H3 sc ce fp) rfl rfl rfl hc j _ s12 (wipe σ8 vs1) H12 (fun _ _ => False) I12 (stat1 n12) st12 stop1) fun r s13 ⟨hr, I13⟩ => ?_
            subst hr
            exact back I13 (l8.trans (wipe_length σ8 vs1).symm) (fun j v e => (k8 j v e).2) nx1
          · refine thnF (T1.item (X.blk s3 H3 sc ce fp) rfl rfl rfl hc j _ s12 (wipe σ8 vs1) H12 (fun _ _ => False) I12 (stat1 n12) st12 go1) fun r s13 ⟨u1, hr, h13⟩ => ?_
            subst hr
            refine thnF h13 fun _ s14 ⟨x1, H14, I14, r14, y14, st14, n14⟩ => ?_
            have I14p := I14.pinned (stat1 n14) (T1.obj _ _ st14)
            refine thnF (qg.run _ s14 (wipe σ8 vs1) H14 x1 u1 _ I14p r14 (step1 x1 H14 y14)) fun _ s15 ⟨σ15, H15, I15, hw15, q15⟩ => ?_
            refine thnF (qt.run _ s15 σ15 H15 _ I15 q15) fun b1 s16 ⟨H16, I16, q16⟩ => ?_
            have back1 : ∀ {s' : Shared} {H' : Hp}, L2.Inv (X.blk s3 H3 sc ce fp) (([] ++ pinsAt fp s7.heap) ++ pinsAt fq s14.heap) σ15 H' s' → Ny H' → ∃ m, m < k ∧ Ji m s' := fun {s' H'} I' nx => by
              obtain ⟨m2, hm, w2⟩ := hNy H' nx
              have pin : ∀ b ∈ fq, ∀ o, s14.heap.get? b = some o → s'.heap.get? b = some o ∧ H' b = none := fun b hb o e =>
                let z := I'.pin (b, o) (List.mem_append_right _ (List.mem_append_right _ (mem_pinsAt hb e)))
                ⟨z.1, z.2.1⟩
              refine ⟨m2, hm, j + 1, H', I'.unpinned.weak (by rw [← hw15, wipe_length]) (fun j v e => by rw [← hw15] at e; exact (wipe_some e).1), T1.keep _ _ _ st14 fun b hb o e => (pin b hb o e).1, fun b hb => ?_, w2⟩
              obtain ⟨o, e, _⟩ := T1.obj _ _ st14 b hb
              exact (pin b hb o e).2
            cases b1 with
            | false =>
              simp only [Bool.false_eq_true, if_false] at q16 ⊢
              exact back1 I16 q16
            | true =>
              simp only [if_true] at q16 ⊢
              refine thnF (pe.run _ s16 σ15 H16 _ I16 q16) fun z s17 ⟨yv, H17, I17, r17, c, S, nn, ey, hD17, hz17, nx⟩ => ?_
              subst ey
              exact addI (X := X.blk s3 H3 sc ce fp) I17 hD17 hz17 r17 fun s18 I18 => back1 I18 nx
        exact start2 (.inr rfl) inner (T1.self X.A 0 _ _ _ st11 inner)
  exact start2 (.inl rfl) main (T.self X.A 0 _ _ _ st4 main)
end
end RL
/-! The same rules with the written part by its name, for use within a comprehension. -/
namespace RL
open PySem PySem.Spec PyProof.Rows L2
section
variable {X : Cx} {K : PySem.W.Frag}
theorem ixL (h : X.K = K := by rfl) : IxR X (rIxL K) := h ▸ ix_list
theorem ixS (h : X.K = K := by rfl) : IxR X (rIx K) := h ▸ ix_seq
theorem ixT (h : X.K = K := by rfl) : IxR X (rIxT K) := h ▸ ix_tup
theorem inSq (h : X.K = K := by rfl) : OpR X (compareOp .In) (rIn K false) := h ▸ op_in_seq
theorem neD (hu : X.A.units + 64 < cLine) (h : X.K = K := by rfl) : OpR X (compareOp .NotEq) (rNeD K) := h ▸ op_neD hu
theorem eqD (hu : X.A.units + 64 < cLine) (h : X.K = K := by rfl) : OpR X (compareOp .Eq) (rEqD K) := h ▸ op_eqD hu
def rLenK (K : PySem.W.Frag) : List V → Hp → VK → Prop := fun xs H Q => ∃ p ys, xs = [.ref p] ∧ (SqL K H p ys ∨ SqT K H p ys) ∧ Q (.int ys.length) H
theorem lenK (h : X.K = K := by rfl) : CallR X (.builtin "len") (rLenK K) := h ▸ call_len_seq
def rListK (K : PySem.W.Frag) : List V → Hp → VK → Prop := fun xs H Q => ∃ p ys, xs = [.ref p] ∧ (SqL K H p ys ∨ SqT K H p ys) ∧ ∀ l, H l = none → Q (.ref l) (upd H l (.lst ys))
theorem listK (h : X.K = K := by rfl) : CallR X (.type "list") (rListK K) := h ▸ call_list_of
def rTupK (K : PySem.W.Frag) : List V → Hp → VK → Prop := fun xs H Q => ∃ p ys, xs = [.ref p] ∧ ((SqL K H p ys ∧ ∀ l, H l = none → Q (.ref l) (upd H l (.tup ys))) ∨ (SqT K H p ys ∧ Q (.ref p) H))
theorem tupK (h : X.K = K := by rfl) : CallR X (.type "tuple") (rTupK K) := h ▸ call_tuple_of
theorem isiK (h : X.K = K := by rfl) : CallR X (.builtin "isinstance") (rIsi K) := h ▸ call_isi
theorem anyK (hc : X.calm = true := by rfl) (h : X.K = K := by rfl) : CallR X (.builtin "any") (rAny K) := h ▸ cr_any hc
theorem allK (hc : X.calm = true := by rfl) (h : X.K = K := by rfl) : CallR X (.builtin "all") (rAll K) := h ▸ cr_all hc
theorem slL (h : X.K = K := by rfl) : SlR X (rSlL K) := h ▸ sl_list
theorem sortTK (h : X.K = K := by rfl) : CallR X (.builtin "sorted") (rSortT K) := h ▸ cr_sortTup
theorem sortLK (h : X.K = K := by rfl) : CallR X (.builtin "sorted") (rSorted K) := h ▸ cr_sorted
theorem setTK {w : World} (hc : X.calm = true := by rfl) (hw : X.w = w := by rfl) (h : X.K = K := by rfl) : CallR X (.type "set") (rSetT w K) := hw ▸ h ▸ cr_setT hc
theorem sortS {w : World} (hc : X.calm = true := by rfl) (hw : X.w = w := by rfl) : CallR X (.builtin "sorted") (rSortedSet w) := hw ▸ cr_sortedSet hc
theorem tupIxK (h : X.K = K := by rfl) : MtR X "tuple.index" (rTupIx K) := h ▸ mt_tupIx
theorem repTK (h : X.K = K := by rfl) : OpR X (binaryOp .Mult) (rRepT1 K) := h ▸ op_repT1
theorem fldK {e : Expr} {ta : TE} {f : Str} {pos : Pos} (he : PE X e ta) (hb : attributeBase e f X.env (eval e X.env) = eval e X.env) (h : X.K = K := by rfl) : PE X (.Attribute e f pos) (tFld K ta f) := h ▸ pe_fld he hb
theorem piEnum {e : Expr} {ta : TA} {p pos tpos : Pos} {elts : List Expr} {kk : Nat} (hg : Gl X "enumerate") (hm : X.mg "enumerate" = none) (ha : PA X [e] ta) (hs : starEach [e] X.env = [(false, eval e X.env)] := by rfl) (h : X.K = K := by rfl) :
    PI X (.Tuple elts kk tpos) (.Call (.Name "enumerate" p) [e] [] pos) (iEnum K ta) := h ▸ pi_enum hg hm ha hs
theorem piEnumT {e : Expr} {ta : TA} {p pos tpos : Pos} {elts : List Expr} {kk : Nat} (hg : Gl X "enumerate") (hm : X.mg "enumerate" = none) (ha : PA X [e] ta) (hs : starEach [e] X.env = [(false, eval e X.env)] := by rfl) (h : X.K = K := by rfl) :
    PI X (.Tuple elts kk tpos) (.Call (.Name "enumerate" p) [e] [] pos) (iEnumT K ta) := h ▸ pi_enumT hg hm ha hs
theorem piL {tg l : Expr} {tl : TE} (hl : PE X l tl) (h : X.K = K := by rfl) : PI X tg l (iList K tl) := h ▸ pi_list hl
theorem piT {tg l : Expr} {tl : TE} (hl : PE X l tl) (h : X.K = K := by rfl) : PI X tg l (iTup K tl) := h ▸ pi_tup hl
theorem pgT {es : List Expr} {k : Nat} {t : TGs} {n : Nat} {pos : Pos} (hc : X.calm = true) (ht : PGs X es t) (hn : (assignEach es X.env).length = n := by rfl) (hst : (assignEach es X.env).findIdx? (·.1) = none := by rfl) (h : X.K = K := by rfl) : PG X (.Tuple es k pos) (gTup K n t) := h ▸ pg_tup hc ht hn hst
theorem bmK {T id : String} {name : Str} {r : V → List V → Hp → VK → Prop} {o e : Expr} {es : List Expr} {to : TE} {t : TA} {apos cpos : Pos} (pa : PlainAttrs T) (slot : Slot T name id) (hty : typeOf (.builtin id) = pure (.type "method_descriptor")) (hm : MtR X id r) (ho : PE X o to) (ha : PA X (e :: es) t)
    (hbase : attributeBase o name X.env (eval o X.env) = eval o X.env := by rfl)
    (hfew : ((backTo cpos (starEach (e :: es) X.env)).all (fun x => !x.1) && (backToKw cpos (keywordEach [] X.env)).all (fun x => x.1.isSome) && decide ((e :: es).length + ([] : List Keyword).length + (if ([] : List Keyword).isEmpty then 0 else 1) < 30)) = true := by rfl)
    (hline : (apos.endLine == cpos.line) = true := by rfl) (hs : starEach (e :: es) X.env = (false, eval e X.env) :: starEach es X.env := by rfl) (hplain : (backTo cpos (starEach es X.env)).any (·.1) = false := by rfl) (h : X.K = K := by rfl) :
    PE X (.Call (.Attribute o name apos) (e :: es) [] cpos) (tBM K T r to t) := h ▸ pe_bm pa slot hty hm ho ha hbase hfew hline hs hplain
end
end RL
/-! Sets of tuples of ints: set(), add, in. -/
namespace RL
open PySem PySem.Spec PyProof.Rows L2
section
variable {P : Program} {w : World} {A : Around} {E : Value → Shared → Prop} {s : Shared} {a : Addr} {L : List (Addr × List Int)} {es : Array (Int × Value)} {ep : Nat} {t : SetTable}
/-- the probe's stand at its c-th step -/
abbrev stAt (P : Program) (w : World) (t : SetTable) (k : List Int) (c : Nat) : SetTable.Probe := nth t.mask (runAt t.mask (SetTable.bits (thash P w k) % (t.mask + 1)) (SetTable.bits (thash P w k))) c
theorem stAt_dummy (k : List Int) (c : Nat) : (stAt P w t k c).dummy = none := by
  have key : ∀ (n : Nat) (p : SetTable.Probe), p.dummy = none → (nth t.mask p n).dummy = none := by
    intro n
    induction n with
    | zero => exact fun _ z => z
    | succ n ih =>
      intro p z
      refine ih (adv t.mask p) ?_
      unfold adv
      split <;> exact z
  exact key c _ rfl
theorem find_from (R : SetTR P w s.heap a L es ep t) {x : Addr} {k : List Int} (hx : IsT P w s.heap k x) (hu : A.units < cLine) {M : Nat} (hMf : M < 10 * SetTable.turns t.mask)
    (hM : way t.mask (thash P w k) M ∉ t.place.toList) (hMb : ∀ c, c < M → way t.mask (thash P w k) c ∈ t.place.toList) {Q : SetFound → Shared → Prop}
    (yes : ∀ i, k ∈ L.map (·.2) → Q (.there (some i)) s) (no : k ∉ L.map (·.2) → Q (.free (way t.mask (thash P w k) M) false) s) :
    ∀ (f c : Nat) (st : Option SetTable.Probe), st.getD (t.probeStart (thash P w k)) = stAt P w t k c → c ≤ M → M - c < f →
      (∀ (i : Nat) p, L[i]? = some p → p.2 = k → ∃ d, c ≤ d ∧ d < M ∧ t.place.toList[i]? = some (way t.mask (thash P w k) d)) →
      wpAny (model P w) A (setSearchFrom a (.ref x) (thash P w k) false f st) Q E s
  | 0, c, st, _, _, hf, _ => absurd hf (Nat.not_lt_zero _)
  | f + 1, c, st, hst, hcM, hf, ahead => by
    obtain ⟨o, ho, hex, hd⟩ := R.ob
    rw [setSearchFrom_succ]
    refine wpAny_bind (wpAny_setState_of ho hd R.fits ?_)
    dsimp only
    refine wp_if_neg R.gw ?_
    try refine wpAny_bind (wpAny_pure ?_)
    have sh : ∀ q, nth t.mask (stAt P w t k c) q = stAt P w t k (c + q) := fun q => (nth_add t.mask c _ q).symm
    have jj : ∀ q, (nth t.mask (stAt P w t k c) q).j = way t.mask (thash P w k) (c + q) := fun q => congrArg SetTable.Probe.j (sh q)
    have cM : c + (M - c) = M := by omega
    have spec := go_spec t R.tab.ris R.tab.dm (fun i => (es[i]?.map (·.1)).getD 0) (thash P w k) (10 * SetTable.turns t.mask) (M - c) _ (stAt_dummy k c) (by omega)
      (fun q hq => by rw [jj]; exact hMb (c + q) (by omega)) (by rw [jj, cM]; exact hM)
    have hashAt : ∀ (i : Nat) p, L[i]? = some p → (fun i => (es[i]?.map (·.1)).getD 0) i = thash P w p.2 := fun i p hp => by
      show (es[i]?.map (·.1)).getD 0 = _
      rw [R.entry hp]
      rfl
    rcases spec with ⟨q, i, hq, hi, hh, free, pr⟩ | ⟨free, pr⟩
    · have pr1 : t.probe (fun i => (es[i]?.map (·.1)).getD 0) (thash P w k) (st.getD (t.probeStart (thash P w k))) = some (.candidate (way t.mask (thash P w k) (c + q)) i (stAt P w t k (c + (q + 1)))) := by
        rw [hst, ← jj, ← sh]
        exact pr
      rw [pr1]
      dsimp only
      rw [jj] at hi
      have il : i < L.length := by
        have l1 : i < t.place.toList.length := (List.getElem?_eq_some_iff.mp hi).1
        have l2 := R.tab.sz
        rw [List.length_map] at l2
        rw [Array.length_toList] at l1
        omega
      obtain ⟨p, hp⟩ : ∃ p, L[i]? = some p := ⟨_, List.getElem?_eq_getElem il⟩
      have mp : p ∈ L := List.mem_of_getElem? hp
      have live : t.slot (way t.mask (thash P w k) (c + q)) = .live i := slot_live R.tab.ris hi
      have rest : wpAny (model P w) A (searchRest a (.ref x) (thash P w k) false f es t (way t.mask (thash P w k) (c + q)) i (stAt P w t k (c + (q + 1)))) Q E s := by
        unfold searchRest
        rw [R.entry hp]
        dsimp only
        refine wpAny_bind (wpAny_holding (wpAny_eqBool_tuple hu (R.tup p mp) hx ?_))
        refine wpAny_bind (wpAny_setState_of ho hd R.fits ?_)
        dsimp only
        refine wp_if_neg (by simp) ?_
        try refine wpAny_bind (wpAny_pure ?_)
        rw [sameMem]
        dsimp only
        simp only [if_true, live, R.entry hp]
        refine wpAny_bind (wpAny_isSame_ref_self (wpAny_bind (wpAny_pure ?_)))
        simp only [if_true]
        by_cases e : p.2 = k
        · refine wp_if_pos (by simp [e]) ?_
          exact wpAny_pure (yes i (List.mem_map.mpr ⟨p, mp, e⟩))
        · refine wp_if_neg (by simp [e]) ?_
          refine find_from R hx hu hMf hM hMb yes no f (c + (q + 1)) _ rfl (by omega) (by omega) fun i0 p0 h0 k0 => ?_
          obtain ⟨d, d1, d2, d3⟩ := ahead i0 p0 h0 k0
          refine ⟨d, ?_, d2, d3⟩
          have ne : d ≠ c + q := fun z => by
            rw [z] at d3
            have l0 := slot_live R.tab.ris d3
            rw [live] at l0
            injection l0 with l0
            rw [← l0, hp] at h0
            exact e ((congrArg Prod.snd (Option.some.inj h0)).trans k0)
          have ge : ¬ d < c + q := fun z => by
            refine free (d - c) i0 (by omega) (by rw [jj, show c + (d - c) = d by omega]; exact d3) ?_
            exact (hashAt i0 p0 h0).trans (congrArg (thash P w) k0)
          omega
      by_cases led : t.led = true
      · refine wp_if_neg (by simp [led]) ?_
        try refine wpAny_bind (wpAny_pure ?_)
        exact rest
      · refine wp_if_pos (by simp [led]) ?_
        refine wpAny_bind (seen_tup hx (fun y hy => ?_) ?_)
        · obtain ⟨e, he, ee⟩ := List.mem_map.mp hy
          have e1 : e ∈ es ∧ e.1 = thash P w k := by simpa using he
          have e2 : e ∈ es.toList := by simpa using e1.1
          rw [R.rows] at e2
          obtain ⟨p2, hp2, e3⟩ := List.mem_map.mp e2
          exact ⟨p2.2, p2.1, by rw [← ee, ← e3], R.tup p2 hp2⟩
        · refine wp_if_neg (by decide) ?_
          try refine wpAny_bind (wpAny_pure ?_)
          exact rest
    · have pr1 : t.probe (fun i => (es[i]?.map (·.1)).getD 0) (thash P w k) (st.getD (t.probeStart (thash P w k))) = some (.empty (way t.mask (thash P w k) M) none) := by
        have e2 : way t.mask (thash P w k) M = (nth t.mask (stAt P w t k c) (M - c)).j := by rw [jj, cM]
        rw [hst, e2]
        exact pr
      rw [pr1]
      dsimp only
      refine wpAny_pure (no fun hm => ?_)
      obtain ⟨p0, h0, k0⟩ := List.mem_map.mp hm
      obtain ⟨i0, hi0, e0⟩ := List.getElem_of_mem h0
      have h00 : L[i0]? = some p0 := by rw [List.getElem?_eq_getElem hi0, e0]
      obtain ⟨d, d1, d2, d3⟩ := ahead i0 p0 h00 k0
      refine free (d - c) i0 (by omega) (by rw [jj, show c + (d - c) = d by omega]; exact d3) ?_
      exact (hashAt i0 p0 h00).trans (congrArg (thash P w) k0)
theorem find_at (R : SetTR P w s.heap a L es ep t) {x : Addr} {k : List Int} (hx : IsT P w s.heap k x) (hu : A.units < cLine) {Q : Option Nat → Shared → Prop} (h : ∀ r : Option Nat, r.isSome = decide (k ∈ L.map (·.2)) → Q r s) :
    wpAny (model P w) A (setFind a (.ref x) (thash P w k)) Q E s := by
  have room := R.room
  obtain ⟨M, hMf, hM, hMb⟩ := R.tab.first (by rw [List.length_map]; omega) (thash P w k)
  have big : M < 100000 := by
    have : 10 * SetTable.turns t.mask ≤ 1420 := by
      unfold SetTable.turns
      rcases R.tab.mok with e | e | e <;> omega
    omega
  obtain ⟨o, ho, hex, hd⟩ := R.ob
  unfold setFind setFindIn
  refine wpAny_bind (wpAny_setState_of ho hd R.fits ?_)
  dsimp only
  have bs : byScan (.ref x) es = false := by rfl
  rw [bs]
  simp only [Bool.false_eq_true, if_false]
  unfold setSearch
  refine wpAny_bind (find_from R hx hu hMf hM hMb (fun i hm => wpAny_pure (h _ (by simp [hm]))) (fun hm => wpAny_pure (h _ (by simp [hm]))) 100000 0 none rfl (Nat.zero_le _) (by omega) fun i p hp hk => ?_)
  have hi : (L.map fun p => thash P w p.2)[i]? = some (thash P w k) := by
    rw [List.getElem?_map, hp, ← hk]
    rfl
  have il : i < t.place.toList.length := by
    have h1 : i < L.length := (List.getElem?_eq_some_iff.mp hp).1
    have h2 := R.tab.sz
    rw [List.length_map] at h2
    rw [Array.length_toList]
    omega
  have hj := List.getElem?_eq_getElem il
  obtain ⟨c, hc, e⟩ := R.tab.before hM hi hj
  exact ⟨c, Nat.zero_le _, hc, by rw [hj, e]⟩
end
section
variable {X : Cx} {K : PySem.W.Frag} {P : Program} {w : World}
/-- the set's tuples stand -/
def TupsAt (K : PySem.W.Frag) (H : Hp) (L : List (Addr × List Int)) : Prop := ∀ p ∈ L, SqT K H p.1 (p.2.map V.int)
theorem setTR_of {pins : List (Addr × Obj)} {σ : L2.St} {H : Hp} {s : Shared} {a : Addr} {L : List (Addr × List Int)} (I : L2.Inv X pins σ H s) (ha : H a = some (SetTO X.prog X.w a L)) (ht : TupsAt X.K H L) : ∃ es ep t, SetTR X.prog X.w s.heap a L es ep t :=
  SetT0.full (I.hok a _ ha).1 fun p hp => I.isT (ht p hp)
/-- set() that is to hold tuples -/
def rSet0T (P : Program) (w : World) : List V → Hp → VK → Prop := fun xs H Q => xs = [] ∧ ∀ p, H p = none → Q (.ref p) (upd H p (SetTO P w p []))
theorem set0T (hP : X.prog = P := by rfl) (hw : X.w = w := by rfl) : CallR X (.type "set") (rSet0T P w) := by
  subst hP hw
  intro pins s σ H xs us Q I r h
  obtain ⟨rfl, q⟩ := h
  cases r
  refine setR_new fun _ => ?_
  exact ⟨.ref _, _, I.laid (t' := s.toks) (fun b u e => Heap.get?_push_of_some _ e) (Nat.le_refl _) (setTO_new (setTR_fresh (Heap.get?_push_size _ rfl)).t0), rfl, q _ (I.hok.fresh (Nat.le_refl _))⟩
/-- t in seen -/
def rInT (K : PySem.W.Frag) (P : Program) (w : World) : R2 := fun x y H Q => ∃ (b a : Addr) (k : List Int) (L : List (Addr × List Int)), x = .ref b ∧ y = .ref a ∧ SqT K H b (k.map V.int) ∧ H a = some (SetTO P w a L) ∧ TupsAt K H L ∧ Q (.bl (decide (k ∈ L.map (·.2)))) H
theorem inT (hu : X.A.units + 64 < cLine) (hK : X.K = K := by rfl) (hP : X.prog = P := by rfl) (hw : X.w = w := by rfl) : OpR X (compareOp .In) (rInT K P w) := by
  subst hK hP hw
  intro pins s σ H x y v u Q I rx ry h
  obtain ⟨b, a, k, L, rfl, rfl, hb, ha, ht, q⟩ := h
  cases rx
  cases ry
  obtain ⟨es, ep, t, R⟩ := setTR_of I ha ht
  have hx := I.isT hb
  obtain ⟨o, ho, hex, hd⟩ := R.ob
  have ty : s.TypeIs (.ref a) "set" := ⟨o, ho, hex.1⟩
  show wpAny _ _ (do return Value.bool (← contains (.ref a) (.ref b))) _ _ s
  refine wpAny_bind ?_
  unfold contains
  try with_reducible refine wpAny_holding ?_
  refine wpAny_bind (wpAny_specialOf ty F.slot_set_contains.lookup ?_)
  show wpAny _ _ (if (some (Value.builtin "set.__contains__") == some Value.none) = true then _ else _) _ _ s
  rw [if_neg (by rw [beq_builtin_none]; exact Bool.false_ne_true)]
  refine wpAny_bind (wpAny_callSpecialUnlessNone?_slot (name := Str.ofString "__contains__") ty F.slot_set_contains
    (wpAny_call_entry F.slot_set_contains ty entry_set_contains ?_ (F.args_set_contains_2 _ _)))
  unfold Builtin.«frozenset.__contains__» Builtin.Frozenset.oneOther
  simp only [List.isEmpty_nil, bind_assoc]
  unfold Builtin.Frozenset.addrOf Builtin.Frozenset.withSetAsKey setContains
  refine wpAny_bind (wpAny_pure ?_)
  try dsimp only
  refine wpAny_bind (wpAny_pure ?_)
  try dsimp only
  refine wpAny_bind (wpAny_tryCatch ?_)
  refine wpAny_holding ?_
  have hu2 : X.A.in1.units < cLine := by
    show X.A.units + 1 < cLine
    omega
  refine wpAny_bind (wpAny_pyHash_tuple (by simpa using hu2) hx ?_)
  refine wpAny_bind (find_at (s := { s with toks := s.toks + (k.length + 1) }) R hx (by simpa using hu2) fun r hr => ?_)
  refine wpAny_pure ?_
  show wpAny _ _ (ret (Value.bool r.isSome)) _ _ _
  rw [hr]
  exact wpAny_pure ⟨_, rfl, wpAny_truthy_bool (wpAny_pure ⟨.bl _, H, I.tok _, rfl, q⟩)⟩
/-- seen.add(t) -/
def rAddT (K : PySem.W.Frag) (P : Program) (w : World) : V → List V → Hp → VK → Prop := fun x xs H Q => ∃ (a b : Addr) (k : List Int) (L : List (Addr × List Int)), x = .ref a ∧ xs = [.ref b] ∧ SqT K H b (k.map V.int) ∧ H a = some (SetTO P w a L) ∧ TupsAt K H L ∧ L.length < 63 ∧ k ∉ L.map (·.2) ∧
  ∀ L', L'.Perm ((b, k) :: L) → Q .non (upd H a (SetTO P w a L'))
def tAddT (K : PySem.W.Frag) (P : Program) (w : World) (to : TE) (t : TA) : TE := fun σ H Q => to σ H fun x H1 => (∃ a L, x = V.ref a ∧ H1 a = some (SetTO P w a L)) ∧ t σ H1 fun xs H2 => rAddT K P w x xs H2 Q
theorem addT (hu : X.A.units + 64 < cLine) (hK : X.K = K) (hP : X.prog = P) (hw : X.w = w) : MtR X "set.add" (rAddT K P w) := by
  subst hK hP hw
  intro pins s σ H x xs v us Q I rx rxs h
  obtain ⟨a, b, k, L, rfl, rfl, hb, ha, ht, few, nin, q⟩ := h
  cases rx
  rw [Vals.ref1 rxs]
  obtain ⟨es, ep, t, R⟩ := setTR_of I ha ht
  have hx := I.isT hb
  obtain ⟨o, ho, hex, hd⟩ := R.ob
  have ty : s.TypeIs (.ref a) "set" := ⟨o, ho, hex.1⟩
  refine wpAny_call_entry F.slot_set_add ty F.entry_set_add ?_ (F.args_set_add_2 _ _)
  unfold Builtin.«set.add» Builtin.Frozenset.oneOther
  simp only [List.isEmpty_nil, bind_assoc]
  unfold Builtin.Frozenset.addrOf setAdd
  refine wpAny_bind (wpAny_pure ?_)
  try dsimp only
  refine wpAny_bind (wpAny_pure ?_)
  try dsimp only
  have hu2 : X.A.in1.units < cLine := by
    show X.A.units + 1 < cLine
    omega
  refine wpAny_bind (wpAny_holding (wpAny_bind (wpAny_pyHash_tuple hu2 hx ?_)))
  refine add_at (s := { s with toks := s.toks + (k.length + 1) }) R hx hu2 (by omega) fun fl h1 L' es' ep' t' sb R' _ c2 => ?_
  show wpAny _ _ (ret Value.none) _ _ _
  have ex : ∃ u, h1.get? a = some u := by
    obtain ⟨o', ho', _⟩ := R'.ob
    exact ⟨o', ho'⟩
  refine wpAny_pure ⟨_, rfl, ?_⟩
  exact ⟨.non, _, I.write (e := a) (t' := s.toks + (k.length + 1)) (by rw [ha]; trivial) (.inl rfl) (fun c u hc hu => (sb.2 c hc).trans hu) ex (setTO_new R'.t0), rfl, q L' (c2 nin)⟩
theorem pe_addT {o e : Expr} {es : List Expr} {to : TE} {t : TA} {apos cpos : Pos} (hu : X.A.units + 64 < cLine) (ho : PE X o to) (ha : PA X (e :: es) t)
    (hbase : attributeBase o "add" X.env (eval o X.env) = eval o X.env := by rfl)
    (hfew : ((backTo cpos (starEach (e :: es) X.env)).all (fun x => !x.1) && (backToKw cpos (keywordEach [] X.env)).all (fun x => x.1.isSome) && decide ((e :: es).length + ([] : List Keyword).length + (if ([] : List Keyword).isEmpty then 0 else 1) < 30)) = true := by rfl)
    (hline : (apos.endLine == cpos.line) = true := by rfl) (hs : starEach (e :: es) X.env = (false, eval e X.env) :: starEach es X.env := by rfl) (hplain : (backTo cpos (starEach es X.env)).any (·.1) = false := by rfl) (hK : X.K = K := by rfl) (hP : X.prog = P := by rfl) (hw : X.w = w := by rfl) :
    PE X (.Call (.Attribute o "add" apos) (e :: es) [] cpos) (tAddT K P w to t) := by
  refine ⟨fun pins s σ H Q I h => ?_⟩
  refine wpAny_Call_method_late hbase hfew hline rfl (thn (ho.run pins s σ H _ I h) fun v s1 ⟨x, H1, I1, r1, ty, q1⟩ => ?_)
  obtain ⟨a, L, rfl, hka⟩ := ty
  cases r1
  subst hP hw
  obtain ⟨es1, ep1, t1, ⟨ob, hob, hex, hd⟩, _⟩ := SetT0.ex (I1.hok a _ hka).1
  refine ⟨"set", "set.add", F.plainAttrs_set, F.slot_set_add, F.type_set_add, ⟨ob, hob, hex.1⟩, fun b z => by injection z with z; subst z; exact ⟨ob, hob, hex.2.1⟩, ?_⟩
  have hA := ha.run cpos pins s1 σ H1 _ I1 q1
  rw [hs] at hA ⊢
  refine Calls.callWith_builtin (by show (false || (backTo cpos (starEach es X.env)).any (·.1)) = false; rw [hplain]; rfl) (Calls.evalArgs_plain ?_)
  exact thn hA fun us s2 ⟨vs, H2, I2, r2, q2⟩ => addT hu hK rfl rfl pins s2 σ H2 (.ref a) vs (.ref a) us Q I2 rfl r2 q2
theorem sortSetT (hc : X.calm = true := by rfl) (hK : X.K = K := by rfl) (hP : X.prog = P := by rfl) (hw : X.w = w := by rfl) : CallR X (.builtin "sorted") (rSortedT K P w) := by
  subst hK hP hw
  exact cr_sortedT hc
end
end RL
/-! A tuple whose object is known to have no dict of its own: made by tuple(list), asked for index. -/
namespace RL
open PySem PySem.Spec PyProof.Rows L2
section
variable {X : Cx} {K : PySem.W.Frag}
def rTupFz (K : PySem.W.Frag) : List V → Hp → VK → Prop := fun xs H Q => ∃ p ys, xs = [.ref p] ∧ SqL K H p ys ∧ ∀ (l : Addr) (o : Obj), H l = none → o.dict = none → Q (.ref l) (upd H l (.frz o (.tup ys)))
theorem tupFz (h : X.K = K := by rfl) : CallR X (.type "tuple") (rTupFz K) := by
  subst h
  intro pins s σ H xs us Q I r h
  obtain ⟨p, ys, rfl, hq, q⟩ := h
  rw [Vals.ref1 r]
  obtain ⟨its, rv, pl, hz⟩ := I.list hq
  have hlen := rv.length
  refine call_tuple_list pl.isList (fun h1 kp => ?_) (by rw [List.size_toArray]; omega)
  have I1 : L2.Inv X pins σ H { s with heap := h1 } := I.kept (t' := s.toks) kp
  have fr : H h1.objs.size = none := I1.hok.fresh (Nat.le_refl _)
  refine ⟨.ref h1.objs.size, upd H h1.objs.size (.frz { cls := .type "tuple", data := .seq its.toArray } (.tup ys)), I1.laid (t' := s.toks) (fun b o e => Heap.get?_push_of_some _ e) (Nat.le_refl _) ?_, rfl, q _ _ fr rfl⟩
  exact ⟨Heap.get?_push_size _ rfl, hz, its, rv, IsTup.new _ _⟩
def tTupIx (K : PySem.W.Frag) (to : TE) (t : TA) : TE := fun σ H Q => to σ H fun x H1 => (∃ a o xs, x = V.ref a ∧ H1 a = some (.frz o (.tup xs)) ∧ o.dict = none) ∧ t σ H1 fun xs H2 => rTupIx K x xs H2 Q
theorem pe_tupIx {o e : Expr} {es : List Expr} {to : TE} {t : TA} {apos cpos : Pos} (ho : PE X o to) (ha : PA X (e :: es) t)
    (hbase : attributeBase o "index" X.env (eval o X.env) = eval o X.env := by rfl)
    (hfew : ((backTo cpos (starEach (e :: es) X.env)).all (fun x => !x.1) && (backToKw cpos (keywordEach [] X.env)).all (fun x => x.1.isSome) && decide ((e :: es).length + ([] : List Keyword).length + (if ([] : List Keyword).isEmpty then 0 else 1) < 30)) = true := by rfl)
    (hline : (apos.endLine == cpos.line) = true := by rfl) (hs : starEach (e :: es) X.env = (false, eval e X.env) :: starEach es X.env := by rfl) (hplain : (backTo cpos (starEach es X.env)).any (·.1) = false := by rfl) (hK : X.K = K := by rfl) :
    PE X (.Call (.Attribute o "index" apos) (e :: es) [] cpos) (tTupIx K to t) := by
  subst hK
  refine ⟨fun pins s σ H Q I h => ?_⟩
  refine wpAny_Call_method_late hbase hfew hline rfl (thn (ho.run pins s σ H _ I h) fun v s1 ⟨x, H1, I1, r1, ty, q1⟩ => ?_)
  obtain ⟨a, ob, ys, rfl, hka, nd⟩ := ty
  cases r1
  obtain ⟨hob, _, its, rv, ⟨o2, ho2, hc2, _⟩⟩ := (show ObjOk X.prog X.w H1 s1.heap a (.frz ob (.tup ys)) from I1.hok a _ hka)
  refine ⟨"tuple", "tuple.index", F.plainAttrs_tuple, F.slot_tuple_index, F.type_tuple_index, ⟨o2, ho2, hc2⟩, fun b z => by injection z with z; subst z; exact ⟨ob, hob, nd⟩, ?_⟩
  have hA := ha.run cpos pins s1 σ H1 _ I1 q1
  rw [hs] at hA ⊢
  refine Calls.callWith_builtin (by show (false || (backTo cpos (starEach es X.env)).any (·.1)) = false; rw [hplain]; rfl) (Calls.evalArgs_plain ?_)
  exact thn hA fun us s2 ⟨vs, H2, I2, r2, q2⟩ => mt_tupIx pins s2 σ H2 (.ref a) vs (.ref a) us Q I2 rfl r2 q2
end
end RL
/-! what the law tells of an exception: its word, its field -/
namespace RL
open PySem PySem.Spec PyProof.Rows L2
section
variable {P : Program} {w : World} {K : PySem.W.Frag} {mg : Str → Option Value} {base : Heap}
theorem isXK {X : Cx} {a D dd : Addr} (E : RLX.ExA X a D dd) (C : ExcC K D) (h : X.K = K := by rfl) : CallR X (.builtin "isinstance") (RLX.rIsX K D a dd) := by
  subst h
  exact RLX.call_isX E C
theorem isXTK {X : Cx} {a D dd : Addr} (E : RLX.ExA X a D dd) (C : ExcC K D) (h : X.K = K := by rfl) : CallR X (.builtin "isinstance") (RLX.rIsXT K D a dd) := by
  subst h
  exact RLX.call_isXT E C
def fldN : List Str := ["word", "at", "name", "number", "most", "many", "beat", "count", "place", "hand"]
/-- an exception of the name n with the fields fs at dd -/
structure Exn (K : PySem.W.Frag) (n : Str) (D dd : Addr) (fs : List (Str × V)) (H : Hp) : Prop where
  at_ : D = He.ga K n
  ec : ExcC K D
  nw : PySem.W.findIn K (.ref D) "word" = some none
  no : ∀ f ∈ fldN, PySem.W.findIn K (.ref D) f = some none
  kit : ∀ m ∈ RLX.allX, PySem.W.kitOne K (.ref D) (.ref (He.ga K m)) = some (decide (m = n))
  flds : H dd = some (.xd fs)
theorem Exn.same {n : Str} {D dd : Addr} {fs : List (Str × V)} {H H' : Hp} (E : Exn K n D dd fs H) (s : Same H H') : Exn K n D dd fs H' := ⟨E.at_, E.ec, E.nw, E.no, E.kit, s _ _ E.flds⟩
def spFlags (K : PySem.W.Frag) : RLX.SpX := fun a D dd vs H Q => ∃ (n : Str) (fs : List (Str × V)), vs = [.ref a] ∧ Exn K n D dd fs H ∧ ∀ H' l, H l = none → H' l = some (.lst ((RLX.allX.map fun m => decide (m = n)).map V.bl)) → Same H H' → Q (.ref l) H'
theorem flag3 {n x y z : Str} {a l D dd : Addr} {fs : List (Str × V)} {H H1 : Hp} {Dn : Ends} {bs : List Bool} (En : Exn K n D dd fs H) (s : Same H H1) (hl : H1 l = some (.lst (bs.map V.bl))) (lb : bs.length ≤ 40) (mx : x ∈ RLX.allX) (my : y ∈ RLX.allX) (mz : z ∈ RLX.allX)
    (k : ∀ l' H2, H l' = none → H2 l' = some (.lst ((bs ++ [decide (x = n), decide (y = n), decide (z = n)]).map V.bl)) → Same H H2 → Dn.nx [some (.ref a), some (.ref l')] H2) :
    tAsg (tOp rCat (tVar 1) (tLst (tCons (tCB (RLX.rIsX K D a dd) (tCons (tVar 0) (tCons (tC (V.ref (He.ga K x))) tNil))) (tCons (tCB (RLX.rIsX K D a dd) (tCons (tVar 0) (tCons (tC (V.ref (He.ga K y))) tNil))) (tCons (tCB (RLX.rIsX K D a dd) (tCons (tVar 0) (tCons (tC (V.ref (He.ga K z))) tNil))) tNil))))) (gName 1) Dn [some (.ref a), some (.ref l)] H1 := by
  have E1 := En.same s
  refine ⟨_, rfl, ⟨_, rfl, _, _, _, rfl, E1.kit x mx, E1.flds, ⟨_, rfl, _, _, _, rfl, E1.kit y my, E1.flds, ⟨_, rfl, _, _, _, rfl, E1.kit z mz, E1.flds, (by show 3 ≤ sizeLine; decide), fun p np => ?_⟩⟩⟩⟩
  have s2 : Same H1 (upd H1 p (.lst [V.bl (decide (x = n)), .bl (decide (y = n)), .bl (decide (z = n))])) := fun b o hb => by
    rw [upd_ne (ne_of_none hb np)]
    exact hb
  refine ⟨l, p, bs.map V.bl, _, rfl, rfl, s2 _ _ hl, upd_same, ?_, fun q nq => ?_⟩
  · have e := List.length_map (f := V.bl) (as := bs)
    simp only [List.length_cons, List.length_nil, e, sizeLine_eq]
    omega
  · refine k q _ ((s.trans s2).free nq) (by rw [upd_same]; simp) fun b o hb => ?_
    have hb2 := (s.trans s2) _ _ hb
    rw [upd_ne (ne_of_none hb2 nq)]
    exact hb2
theorem flag1 {n x : Str} {a l D dd : Addr} {fs : List (Str × V)} {H H1 : Hp} {Dn : Ends} {bs : List Bool} (En : Exn K n D dd fs H) (s : Same H H1) (hl : H1 l = some (.lst (bs.map V.bl))) (lb : bs.length ≤ 40) (mx : x ∈ RLX.allX)
    (k : ∀ l' H2, H l' = none → H2 l' = some (.lst ((bs ++ [decide (x = n)]).map V.bl)) → Same H H2 → Dn.nx [some (.ref a), some (.ref l')] H2) :
    tAsg (tOp rCat (tVar 1) (tLst (tCons (tCB (RLX.rIsX K D a dd) (tCons (tVar 0) (tCons (tC (V.ref (He.ga K x))) tNil))) tNil))) (gName 1) Dn [some (.ref a), some (.ref l)] H1 := by
  have E1 := En.same s
  refine ⟨_, rfl, ⟨_, rfl, _, _, _, rfl, E1.kit x mx, E1.flds, (by show 1 ≤ sizeLine; decide), fun p np => ?_⟩⟩
  have s2 : Same H1 (upd H1 p (.lst [V.bl (decide (x = n))])) := fun b o hb => by
    rw [upd_ne (ne_of_none hb np)]
    exact hb
  refine ⟨l, p, bs.map V.bl, _, rfl, rfl, s2 _ _ hl, upd_same, ?_, fun q nq => ?_⟩
  · have e := List.length_map (f := V.bl) (as := bs)
    simp only [List.length_cons, List.length_nil, e, sizeLine_eq]
    omega
  · refine k q _ ((s.trans s2).free nq) (by rw [upd_same]; simp) fun b o hb => ?_
    have hb2 := (s.trans s2) _ _ hb
    rw [upd_ne (ne_of_none hb2 nq)]
    exact hb2
theorem sc__law_flags : FnScope ["_law_e", "_law_flags_here"] ["_law_e"] (defScope s__law_flags) := ⟨rfl, rfl, rfl, by decide +kernel, rfl, by decide +kernel, by decide +kernel⟩
theorem okx_flags (T : Tx K mg) : ∃ fd, RLX.FnX P w K mg base 1 (He.ga K "_law_flags") fd ["_law_e"] (spFlags K) ∧ Binds K fd ["_law_e"] [] := by
  obtain ⟨fd, F⟩ := T.d__law_flags
  refine ⟨fd, RLX.fnX_of F sc__law_flags (fun a D dd vs H Q h => ?_) (fun X a D dd H vs Q hX EX hr h => ?_), F.bindsN fun _ _ _ _ _ _ us hl => match us, hl with | [_], _ => rfl⟩
  · obtain ⟨n, fs, rfl, _⟩ := h
    rfl
  · obtain ⟨n, fs, rfl, En, h⟩ := h
    obtain ⟨cdv, A, outer, s, p, rfl⟩ := hX
    have EC := En.ec
    refine ⟨_, (pss_cons (ps_set (i := 1) sc__law_flags.nd rfl (Or.inl rfl) (pe_lst (pa_cons (pe_callB (isXK (K := K) EX EC) (by rfl) T.free_isinstance (by decide +kernel) (pa_cons (pv 0) (pa_cons (pe_glob (v := .ref (He.ga K "BadMany")) rfl T.glo_BadMany rfl) pa_nil))) (pa_cons (pe_callB (isXK (K := K) EX EC) (by rfl) T.free_isinstance (by decide +kernel) (pa_cons (pv 0) (pa_cons (pe_glob (v := .ref (He.ga K "BadWay")) rfl T.glo_BadWay rfl) pa_nil))) (pa_cons (pe_callB (isXK (K := K) EX EC) (by rfl) T.free_isinstance (by decide +kernel) (pa_cons (pv 0) (pa_cons (pe_glob (v := .ref (He.ga K "BadOrder")) rfl T.glo_BadOrder rfl) pa_nil))) pa_nil)))))
      (pss_cons (ps_set (i := 1) sc__law_flags.nd rfl (Or.inl rfl) (pe_op op_cat (pv 1) (pe_lst (pa_cons (pe_callB (isXK (K := K) EX EC) (by rfl) T.free_isinstance (by decide +kernel) (pa_cons (pv 0) (pa_cons (pe_glob (v := .ref (He.ga K "BadPace")) rfl T.glo_BadPace rfl) pa_nil))) (pa_cons (pe_callB (isXK (K := K) EX EC) (by rfl) T.free_isinstance (by decide +kernel) (pa_cons (pv 0) (pa_cons (pe_glob (v := .ref (He.ga K "BadLot")) rfl T.glo_BadLot rfl) pa_nil))) (pa_cons (pe_callB (isXK (K := K) EX EC) (by rfl) T.free_isinstance (by decide +kernel) (pa_cons (pv 0) (pa_cons (pe_glob (v := .ref (He.ga K "BadLook")) rfl T.glo_BadLook rfl) pa_nil))) pa_nil))))))
      (pss_cons (ps_set (i := 1) sc__law_flags.nd rfl (Or.inl rfl) (pe_op op_cat (pv 1) (pe_lst (pa_cons (pe_callB (isXK (K := K) EX EC) (by rfl) T.free_isinstance (by decide +kernel) (pa_cons (pv 0) (pa_cons (pe_glob (v := .ref (He.ga K "BadAnswer")) rfl T.glo_BadAnswer rfl) pa_nil))) (pa_cons (pe_callB (isXK (K := K) EX EC) (by rfl) T.free_isinstance (by decide +kernel) (pa_cons (pv 0) (pa_cons (pe_glob (v := .ref (He.ga K "BadStory")) rfl T.glo_BadStory rfl) pa_nil))) (pa_cons (pe_callB (isXK (K := K) EX EC) (by rfl) T.free_isinstance (by decide +kernel) (pa_cons (pv 0) (pa_cons (pe_glob (v := .ref (He.ga K "BadBeat")) rfl T.glo_BadBeat rfl) pa_nil))) pa_nil))))))
      (pss_cons (ps_set (i := 1) sc__law_flags.nd rfl (Or.inl rfl) (pe_op op_cat (pv 1) (pe_lst (pa_cons (pe_callB (isXK (K := K) EX EC) (by rfl) T.free_isinstance (by decide +kernel) (pa_cons (pv 0) (pa_cons (pe_glob (v := .ref (He.ga K "BadCount")) rfl T.glo_BadCount rfl) pa_nil))) (pa_cons (pe_callB (isXK (K := K) EX EC) (by rfl) T.free_isinstance (by decide +kernel) (pa_cons (pv 0) (pa_cons (pe_glob (v := .ref (He.ga K "BadHands")) rfl T.glo_BadHands rfl) pa_nil))) (pa_cons (pe_callB (isXK (K := K) EX EC) (by rfl) T.free_isinstance (by decide +kernel) (pa_cons (pv 0) (pa_cons (pe_glob (v := .ref (He.ga K "BadWish")) rfl T.glo_BadWish rfl) pa_nil))) pa_nil))))))
      (pss_cons (ps_set (i := 1) sc__law_flags.nd rfl (Or.inl rfl) (pe_op op_cat (pv 1) (pe_lst (pa_cons (pe_callB (isXK (K := K) EX EC) (by rfl) T.free_isinstance (by decide +kernel) (pa_cons (pv 0) (pa_cons (pe_glob (v := .ref (He.ga K "BadTalk")) rfl T.glo_BadTalk rfl) pa_nil))) (pa_cons (pe_callB (isXK (K := K) EX EC) (by rfl) T.free_isinstance (by decide +kernel) (pa_cons (pv 0) (pa_cons (pe_glob (v := .ref (He.ga K "BadLost")) rfl T.glo_BadLost rfl) pa_nil))) (pa_cons (pe_callB (isXK (K := K) EX EC) (by rfl) T.free_isinstance (by decide +kernel) (pa_cons (pv 0) (pa_cons (pe_glob (v := .ref (He.ga K "BadWorld")) rfl T.glo_BadWorld rfl) pa_nil))) pa_nil))))))
      (pss_cons (ps_set (i := 1) sc__law_flags.nd rfl (Or.inl rfl) (pe_op op_cat (pv 1) (pe_lst (pa_cons (pe_callB (isXK (K := K) EX EC) (by rfl) T.free_isinstance (by decide +kernel) (pa_cons (pv 0) (pa_cons (pe_glob (v := .ref (He.ga K "BadSaying")) rfl T.glo_BadSaying rfl) pa_nil))) (pa_cons (pe_callB (isXK (K := K) EX EC) (by rfl) T.free_isinstance (by decide +kernel) (pa_cons (pv 0) (pa_cons (pe_glob (v := .ref (He.ga K "TooMany")) rfl T.glo_TooMany rfl) pa_nil))) (pa_cons (pe_callB (isXK (K := K) EX EC) (by rfl) T.free_isinstance (by decide +kernel) (pa_cons (pv 0) (pa_cons (pe_glob (v := .ref (He.ga K "BadText")) rfl T.glo_BadText rfl) pa_nil))) pa_nil))))))
      (pss_cons (ps_set (i := 1) sc__law_flags.nd rfl (Or.inl rfl) (pe_op op_cat (pv 1) (pe_lst (pa_cons (pe_callB (isXK (K := K) EX EC) (by rfl) T.free_isinstance (by decide +kernel) (pa_cons (pv 0) (pa_cons (pe_glob (v := .ref (He.ga K "BadName")) rfl T.glo_BadName rfl) pa_nil))) (pa_cons (pe_callB (isXK (K := K) EX EC) (by rfl) T.free_isinstance (by decide +kernel) (pa_cons (pv 0) (pa_cons (pe_glob (v := .ref (He.ga K "Taken")) rfl T.glo_Taken rfl) pa_nil))) (pa_cons (pe_callB (isXK (K := K) EX EC) (by rfl) T.free_isinstance (by decide +kernel) (pa_cons (pv 0) (pa_cons (pe_glob (v := .ref (He.ga K "Full")) rfl T.glo_Full rfl) pa_nil))) pa_nil))))))
      (pss_cons (ps_set (i := 1) sc__law_flags.nd rfl (Or.inl rfl) (pe_op op_cat (pv 1) (pe_lst (pa_cons (pe_callB (isXK (K := K) EX EC) (by rfl) T.free_isinstance (by decide +kernel) (pa_cons (pv 0) (pa_cons (pe_glob (v := .ref (He.ga K "Unfit")) rfl T.glo_Unfit rfl) pa_nil))) (pa_cons (pe_callB (isXK (K := K) EX EC) (by rfl) T.free_isinstance (by decide +kernel) (pa_cons (pv 0) (pa_cons (pe_glob (v := .ref (He.ga K "Wrong")) rfl T.glo_Wrong rfl) pa_nil))) (pa_cons (pe_callB (isXK (K := K) EX EC) (by rfl) T.free_isinstance (by decide +kernel) (pa_cons (pv 0) (pa_cons (pe_glob (v := .ref (He.ga K "Right")) rfl T.glo_Right rfl) pa_nil))) pa_nil))))))
      (pss_cons (ps_set (i := 1) sc__law_flags.nd rfl (Or.inl rfl) (pe_op op_cat (pv 1) (pe_lst (pa_cons (pe_callB (isXK (K := K) EX EC) (by rfl) T.free_isinstance (by decide +kernel) (pa_cons (pv 0) (pa_cons (pe_glob (v := .ref (He.ga K "Late")) rfl T.glo_Late rfl) pa_nil))) (pa_cons (pe_callB (isXK (K := K) EX EC) (by rfl) T.free_isinstance (by decide +kernel) (pa_cons (pv 0) (pa_cons (pe_glob (v := .ref (He.ga K "BadDeed")) rfl T.glo_BadDeed rfl) pa_nil))) (pa_cons (pe_callB (isXK (K := K) EX EC) (by rfl) T.free_isinstance (by decide +kernel) (pa_cons (pv 0) (pa_cons (pe_glob (v := .ref (He.ga K "Broken")) rfl T.glo_Broken rfl) pa_nil))) pa_nil))))))
      (pss_cons (ps_set (i := 1) sc__law_flags.nd rfl (Or.inl rfl) (pe_op op_cat (pv 1) (pe_lst (pa_cons (pe_callB (isXK (K := K) EX EC) (by rfl) T.free_isinstance (by decide +kernel) (pa_cons (pv 0) (pa_cons (pe_glob (v := .ref (He.ga K "NoPlace")) rfl T.glo_NoPlace rfl) pa_nil))) (pa_cons (pe_callB (isXK (K := K) EX EC) (by rfl) T.free_isinstance (by decide +kernel) (pa_cons (pv 0) (pa_cons (pe_glob (v := .ref (He.ga K "NoNumber")) rfl T.glo_NoNumber rfl) pa_nil))) (pa_cons (pe_callB (isXK (K := K) EX EC) (by rfl) T.free_isinstance (by decide +kernel) (pa_cons (pv 0) (pa_cons (pe_glob (v := .ref (He.ga K "NoHand")) rfl T.glo_NoHand rfl) pa_nil))) pa_nil))))))
      (pss_cons (ps_set (i := 1) sc__law_flags.nd rfl (Or.inl rfl) (pe_op op_cat (pv 1) (pe_lst (pa_cons (pe_callB (isXK (K := K) EX EC) (by rfl) T.free_isinstance (by decide +kernel) (pa_cons (pv 0) (pa_cons (pe_glob (v := .ref (He.ga K "NoThing")) rfl T.glo_NoThing rfl) pa_nil))) (pa_cons (pe_callB (isXK (K := K) EX EC) (by rfl) T.free_isinstance (by decide +kernel) (pa_cons (pv 0) (pa_cons (pe_glob (v := .ref (He.ga K "NoLook")) rfl T.glo_NoLook rfl) pa_nil))) (pa_cons (pe_callB (isXK (K := K) EX EC) (by rfl) T.free_isinstance (by decide +kernel) (pa_cons (pv 0) (pa_cons (pe_glob (v := .ref (He.ga K "NoWish")) rfl T.glo_NoWish rfl) pa_nil))) pa_nil))))))
      (pss_cons (ps_set (i := 1) sc__law_flags.nd rfl (Or.inl rfl) (pe_op op_cat (pv 1) (pe_lst (pa_cons (pe_callB (isXK (K := K) EX EC) (by rfl) T.free_isinstance (by decide +kernel) (pa_cons (pv 0) (pa_cons (pe_glob (v := .ref (He.ga K "NothingLeft")) rfl T.glo_NothingLeft rfl) pa_nil))) pa_nil))))
      (pss_one (ps_ret (pv 1))))))))))))))), ?_⟩
    refine ⟨_, rfl, _, _, _, rfl, En.kit "BadMany" (by decide), En.flds, ⟨_, rfl, _, _, _, rfl, En.kit "BadWay" (by decide), En.flds, ⟨_, rfl, _, _, _, rfl, En.kit "BadOrder" (by decide), En.flds, (by show 3 ≤ sizeLine; decide), fun l0 n0 => ?_⟩⟩⟩
    have s0 : Same H (upd H l0 (.lst [V.bl (decide ("BadMany" = n)), .bl (decide ("BadWay" = n)), .bl (decide ("BadOrder" = n))])) := fun b o hb => by
      rw [upd_ne (ne_of_none hb n0)]
      exact hb
    have h0 : (upd H l0 (.lst [V.bl (decide ("BadMany" = n)), .bl (decide ("BadWay" = n)), .bl (decide ("BadOrder" = n))])) l0 = some (.lst ([decide (("BadMany" : Str) = n), decide (("BadWay" : Str) = n), decide (("BadOrder" : Str) = n)].map V.bl)) := upd_same
    refine flag3 (x := "BadPace") (y := "BadLot") (z := "BadLook") En s0 h0 (by simp) (by decide) (by decide) (by decide) fun l1 H1 n1 h1 s1 => ?_
    refine flag3 (x := "BadAnswer") (y := "BadStory") (z := "BadBeat") En s1 h1 (by simp) (by decide) (by decide) (by decide) fun l2 H2 n2 h2 s2 => ?_
    refine flag3 (x := "BadCount") (y := "BadHands") (z := "BadWish") En s2 h2 (by simp) (by decide) (by decide) (by decide) fun l3 H3 n3 h3 s3 => ?_
    refine flag3 (x := "BadTalk") (y := "BadLost") (z := "BadWorld") En s3 h3 (by simp) (by decide) (by decide) (by decide) fun l4 H4 n4 h4 s4 => ?_
    refine flag3 (x := "BadSaying") (y := "TooMany") (z := "BadText") En s4 h4 (by simp) (by decide) (by decide) (by decide) fun l5 H5 n5 h5 s5 => ?_
    refine flag3 (x := "BadName") (y := "Taken") (z := "Full") En s5 h5 (by simp) (by decide) (by decide) (by decide) fun l6 H6 n6 h6 s6 => ?_
    refine flag3 (x := "Unfit") (y := "Wrong") (z := "Right") En s6 h6 (by simp) (by decide) (by decide) (by decide) fun l7 H7 n7 h7 s7 => ?_
    refine flag3 (x := "Late") (y := "BadDeed") (z := "Broken") En s7 h7 (by simp) (by decide) (by decide) (by decide) fun l8 H8 n8 h8 s8 => ?_
    refine flag3 (x := "NoPlace") (y := "NoNumber") (z := "NoHand") En s8 h8 (by simp) (by decide) (by decide) (by decide) fun l9 H9 n9 h9 s9 => ?_
    refine flag3 (x := "NoThing") (y := "NoLook") (z := "NoWish") En s9 h9 (by simp) (by decide) (by decide) (by decide) fun l10 H10 n10 h10 s10 => ?_
    refine flag1 (x := "NothingLeft") En s10 h10 (by simp) (by decide) fun l11 H11 n11 h11 s11 => ?_
    refine ⟨_, rfl, h H11 l11 n11 ?_ s11⟩
    rw [h11]
    rfl
theorem words_split : Txt.split ((("BadMany BadWay BadOrder BadPace BadLot BadLook BadAnswer BadStory BadBeat BadCount BadHands BadWish" : Str) ++ (" BadTalk BadLost BadWorld BadSaying TooMany BadText BadName Taken Full Unfit Wrong" : Str)) ++ (" Right Late BadDeed Broken NoPlace NoNumber NoHand NoThing NoLook NoWish NothingLeft" : Str)) " " = RLX.allX := by decide +kernel
theorem sel_one : ∀ n ∈ RLX.allX, RLH.sel RLX.allX (RLX.allX.map fun m => decide (m = n)) = [n] := by decide +kernel
theorem join_one : ∀ n ∈ RLX.allX, Txt.join "+" [n] = n ∧ n.length ≤ 100 := by decide +kernel
/-- the word -/
def spWord (K : PySem.W.Frag) : RLX.SpX := fun a D dd vs H Q => ∃ (n : Str) (fs : List (Str × V)), vs = [.ref a] ∧ n ∈ RLX.allX ∧ fs.lookup ("word" : Str) = some (V.str n) ∧ Exn K n D dd fs H ∧ ∀ H', Same H H' → Q (.str n) H'
theorem sc__law_word : FnScope ["_law_e", "_law_words", "_law_found", "_law_word_here", "_law_here"] ["_law_e"] (defScope s__law_word) := ⟨rfl, rfl, rfl, by decide +kernel, rfl, by decide +kernel, by decide +kernel⟩
theorem okx_word (T : Tx K mg) : ∃ fd, RLX.FnX P w K mg base 2 (He.ga K "_law_word") fd ["_law_e"] (spWord K) ∧ Binds K fd ["_law_e"] [] := by
  obtain ⟨fd_f, F_f, b_f⟩ := okx_flags (P := P) (w := w) (base := base) T
  obtain ⟨fd, F⟩ := T.d__law_word
  refine ⟨fd, RLX.fnX_of F sc__law_word (fun a D dd vs H Q h => ?_) (fun X a D dd H vs Q hX EX hr h => ?_), F.bindsN fun _ _ _ _ _ _ us hl => match us, hl with | [_], _ => rfl⟩
  · obtain ⟨n, fs, rfl, _⟩ := h
    rfl
  · obtain ⟨n, fs, rfl, hn, hw, En, h⟩ := h
    obtain ⟨cdv, A, outer, s, p, rfl⟩ := hX
    have EC := En.ec
    have hrf : L2H.RoomH 1 _ := hr
    have kf : PySem.W.keepIn K (.ref (He.ga K "_law_flags")) = true := by
      obtain ⟨fd', F'⟩ := T.d__law_flags
      exact F'.kp
    refine ⟨_, (pss_cons (ps_set (i := 1) sc__law_word.nd rfl (Or.inl rfl) pe_str)
      (pss_cons (ps_set (i := 1) sc__law_word.nd rfl (Or.inl rfl) (pe_op op_add_str (pv 1) pe_str))
      (pss_cons (ps_set (i := 1) sc__law_word.nd rfl (Or.inl rfl) (pe_op op_add_str (pv 1) pe_str))
      (pss_cons (ps_set (i := 2) sc__law_word.nd rfl (Or.inl rfl) (pe_join pe_str (RLH.pe_lczH (xn := "_law_word_here") (yn := "_law_here") (i := 3) (j := 4) EX.hotC sc__law_word.nd (by decide) rfl rfl rfl T.free_zip (pa_cons (pe_split (pv 1) pe_str) (pa_cons (RLX.pe_callX F_f hrf EX rfl T.glo_law_flags kf b_f (pa_cons (pv 0) pa_nil)) pa_nil)) (blkOk_by (by kernel_rfl)) (Or.inl (by kernel_rfl)) (Or.inl (by kernel_rfl)) (by kernel_rfl) (by kernel_rfl) (by decide) (by decide) (by decide) (by decide))))
      (pss_one (ps_ret (pe_ifExp (pt_cmpR op_eq (RLX.pe_fldX EX EC En.nw (pv 0)) (pv 2) (nomark _)) (pv 2) (pe_op op_add_str (pv 2) pe_str)))))))), ?_⟩
    refine ⟨_, rfl, _, _, rfl, rfl, by decide +kernel, ⟨_, rfl, _, _, rfl, rfl, by decide +kernel, ?_⟩⟩
    refine ⟨⟨_, rfl⟩, ⟨_, rfl, ⟨_, rfl⟩, _, _, rfl, rfl, by decide +kernel, by decide +kernel, fun q nq => ?_⟩⟩
    rw [words_split]
    have s1 : Same H (upd H q (.lst (RLX.allX.map V.str))) := fun b o hb => by
      rw [upd_ne (ne_of_none hb nq)]
      exact hb
    have hq1 : (upd H q (.lst (RLX.allX.map V.str))) q = some (.lst (RLX.allX.map V.str)) := upd_same
    generalize upd H q (.lst (RLX.allX.map V.str)) = H1 at s1 hq1
    refine ⟨_, rfl, n, fs, rfl, En.same s1, fun H2 l nl hl s2 => ?_⟩
    refine ⟨q, l, RLX.allX, _, rfl, SqL.of (s2 _ _ hq1), SqL.of hl, by rw [List.length_map], fun Dl nD => ?_⟩
    rw [sel_one n hn]
    have s3 : Same H2 (upd H2 Dl (.lst ([n].map V.str))) := fun b o hb => by
      rw [upd_ne (ne_of_none hb nD)]
      exact hb
    have j1 := join_one n hn
    have j2 := j1.2
    have plus : ("+" : Str).length = 1 := by decide +kernel
    refine ⟨_, _, [n], rfl, rfl, .inl (SqL.of upd_same), by simp; omega, ?_⟩
    rw [j1.1]
    have E3 := En.same ((s1.trans s2).trans s3)
    refine ⟨_, rfl, fs, .str n, rfl, E3.flds, hw, _, rfl, rfl, _, rfl, ?_⟩
    rw [decide_eq_true rfl]
    exact iteT ⟨_, rfl, h _ ((s1.trans s2).trans s3)⟩
/-- the field -/
def fldOf (n : Str) : Option Str :=
  if n ∈ (["BadWay", "BadStory", "BadHands", "BadTalk", "BadText", "Unfit", "Broken"] : List Str) then some ("at" : Str) else if n ∈ (["BadName", "Taken", "NoThing", "NoWish"] : List Str) then some ("name" : Str) else if n ∈ (["Wrong", "Right", "NoNumber", "NoLook"] : List Str) then some ("number" : Str) else if n ∈ (["BadWish", "TooMany"] : List Str) then some ("most" : Str)
  else if n = "BadMany" then some ("many" : Str) else if n = "BadBeat" then some ("beat" : Str) else if n = "BadCount" then some ("count" : Str) else if n = "NoPlace" then some ("place" : Str) else if n = "NoHand" then some ("hand" : Str) else none
def spField (K : PySem.W.Frag) : RLX.SpX := fun a D dd vs H Q => ∃ (n : Str) (fs : List (Str × V)) (v : V), vs = [.ref a] ∧ Exn K n D dd fs H ∧ (match fldOf n with | some f => fs.lookup f = some v | none => v = .non) ∧ ∀ H', Same H H' → Q v H'
theorem sn {H H1 : Hp} {t : Addr} {o : HO} (s : Same H H1) (nt : H1 t = none) : Same H (upd H1 t o) := fun b u hb => by
  have hb' := s _ _ hb
  rw [upd_ne (ne_of_none hb' nt)]
  exact hb'
theorem kaT {n : Str} {D dd : Addr} {fs : List (Str × V)} {H : Hp} (En : Exn K n D dd fs H) (ms : List Str) (hms : ∀ m ∈ ms, m ∈ RLX.allX) : PySem.W.kitAny K (.ref D) ((ms.map (He.ga K)).map Value.ref) = some (decide (n ∈ ms)) := by
  have ka := RLX.kitAny_of (K := K) (n := n) (ms := ms) fun m hm => by
    have := En.kit m (hms m hm)
    rw [En.at_] at this
    exact this
  rw [En.at_]
  exact ka
theorem sc__law_field : FnScope ["_law_e"] ["_law_e"] (defScope s__law_field) := ⟨rfl, rfl, rfl, by decide +kernel, rfl, by decide +kernel, by decide +kernel⟩
theorem okx_field (T : Tx K mg) : ∃ fd, RLX.FnX P w K mg base 1 (He.ga K "_law_field") fd ["_law_e"] (spField K) ∧ Binds K fd ["_law_e"] [] := by
  obtain ⟨fd, F⟩ := T.d__law_field
  refine ⟨fd, RLX.fnX_of F sc__law_field (fun a D dd vs H Q h => ?_) (fun X a D dd H vs Q hX EX hr h => ?_), F.bindsN fun _ _ _ _ _ _ us hl => match us, hl with | [_], _ => rfl⟩
  · obtain ⟨n, fs, v, rfl, _⟩ := h
    rfl
  · obtain ⟨n, fs, v, rfl, En, hv, h⟩ := h
    obtain ⟨cdv, A, outer, s, p, rfl⟩ := hX
    have EC := En.ec
    refine ⟨_, (pss_cons (ps_if (pt_val (pe_callB (isXTK (K := K) EX EC) (by rfl) T.free_isinstance (by decide +kernel) (pa_cons (pv 0) (pa_cons (pe_tup (pa_cons (pe_glob (v := .ref (He.ga K "BadWay")) rfl T.glo_BadWay rfl) (pa_cons (pe_glob (v := .ref (He.ga K "BadStory")) rfl T.glo_BadStory rfl) (pa_cons (pe_glob (v := .ref (He.ga K "BadHands")) rfl T.glo_BadHands rfl) (pa_cons (pe_glob (v := .ref (He.ga K "BadTalk")) rfl T.glo_BadTalk rfl) (pa_cons (pe_glob (v := .ref (He.ga K "BadText")) rfl T.glo_BadText rfl) (pa_cons (pe_glob (v := .ref (He.ga K "Unfit")) rfl T.glo_Unfit rfl) (pa_cons (pe_glob (v := .ref (He.ga K "Broken")) rfl T.glo_Broken rfl) pa_nil)))))))) pa_nil)))) (pss_one (ps_ret (RLX.pe_fldX EX EC (En.no "at" (by decide)) (pv 0)))) pss_nil)
      (pss_cons (ps_if (pt_val (pe_callB (isXTK (K := K) EX EC) (by rfl) T.free_isinstance (by decide +kernel) (pa_cons (pv 0) (pa_cons (pe_tup (pa_cons (pe_glob (v := .ref (He.ga K "BadName")) rfl T.glo_BadName rfl) (pa_cons (pe_glob (v := .ref (He.ga K "Taken")) rfl T.glo_Taken rfl) (pa_cons (pe_glob (v := .ref (He.ga K "NoThing")) rfl T.glo_NoThing rfl) (pa_cons (pe_glob (v := .ref (He.ga K "NoWish")) rfl T.glo_NoWish rfl) pa_nil))))) pa_nil)))) (pss_one (ps_ret (RLX.pe_fldX EX EC (En.no "name" (by decide)) (pv 0)))) pss_nil)
      (pss_cons (ps_if (pt_val (pe_callB (isXTK (K := K) EX EC) (by rfl) T.free_isinstance (by decide +kernel) (pa_cons (pv 0) (pa_cons (pe_tup (pa_cons (pe_glob (v := .ref (He.ga K "Wrong")) rfl T.glo_Wrong rfl) (pa_cons (pe_glob (v := .ref (He.ga K "Right")) rfl T.glo_Right rfl) (pa_cons (pe_glob (v := .ref (He.ga K "NoNumber")) rfl T.glo_NoNumber rfl) (pa_cons (pe_glob (v := .ref (He.ga K "NoLook")) rfl T.glo_NoLook rfl) pa_nil))))) pa_nil)))) (pss_one (ps_ret (RLX.pe_fldX EX EC (En.no "number" (by decide)) (pv 0)))) pss_nil)
      (pss_cons (ps_if (pt_val (pe_callB (isXTK (K := K) EX EC) (by rfl) T.free_isinstance (by decide +kernel) (pa_cons (pv 0) (pa_cons (pe_tup (pa_cons (pe_glob (v := .ref (He.ga K "BadWish")) rfl T.glo_BadWish rfl) (pa_cons (pe_glob (v := .ref (He.ga K "TooMany")) rfl T.glo_TooMany rfl) pa_nil))) pa_nil)))) (pss_one (ps_ret (RLX.pe_fldX EX EC (En.no "most" (by decide)) (pv 0)))) pss_nil)
      (pss_cons (ps_if (pt_val (pe_callB (isXK (K := K) EX EC) (by rfl) T.free_isinstance (by decide +kernel) (pa_cons (pv 0) (pa_cons (pe_glob (v := .ref (He.ga K "BadMany")) rfl T.glo_BadMany rfl) pa_nil)))) (pss_one (ps_ret (RLX.pe_fldX EX EC (En.no "many" (by decide)) (pv 0)))) pss_nil)
      (pss_cons (ps_if (pt_val (pe_callB (isXK (K := K) EX EC) (by rfl) T.free_isinstance (by decide +kernel) (pa_cons (pv 0) (pa_cons (pe_glob (v := .ref (He.ga K "BadBeat")) rfl T.glo_BadBeat rfl) pa_nil)))) (pss_one (ps_ret (RLX.pe_fldX EX EC (En.no "beat" (by decide)) (pv 0)))) pss_nil)
      (pss_cons (ps_if (pt_val (pe_callB (isXK (K := K) EX EC) (by rfl) T.free_isinstance (by decide +kernel) (pa_cons (pv 0) (pa_cons (pe_glob (v := .ref (He.ga K "BadCount")) rfl T.glo_BadCount rfl) pa_nil)))) (pss_one (ps_ret (RLX.pe_fldX EX EC (En.no "count" (by decide)) (pv 0)))) pss_nil)
      (pss_cons (ps_if (pt_val (pe_callB (isXK (K := K) EX EC) (by rfl) T.free_isinstance (by decide +kernel) (pa_cons (pv 0) (pa_cons (pe_glob (v := .ref (He.ga K "NoPlace")) rfl T.glo_NoPlace rfl) pa_nil)))) (pss_one (ps_ret (RLX.pe_fldX EX EC (En.no "place" (by decide)) (pv 0)))) pss_nil)
      (pss_one (ps_ret (pe_ifExp (pt_val (pe_callB (isXK (K := K) EX EC) (by rfl) T.free_isinstance (by decide +kernel) (pa_cons (pv 0) (pa_cons (pe_glob (v := .ref (He.ga K "NoHand")) rfl T.glo_NoHand rfl) pa_nil)))) (RLX.pe_fldX EX EC (En.no "hand" (by decide)) (pv 0)) pe_non))))))))))), ?_⟩
    refine ⟨_, rfl, (by show 7 ≤ sizeLine; decide), fun t1 n1 => ?_⟩
    refine ⟨t1, _, _, fs, rfl, upd_same, kaT En ["BadWay", "BadStory", "BadHands", "BadTalk", "BadText", "Unfit", "Broken"] (by decide), (En.same (sn (Same.refl H) n1)).flds, _, rfl, ?_⟩
    by_cases m1 : n ∈ (["BadWay", "BadStory", "BadHands", "BadTalk", "BadText", "Unfit", "Broken"] : List Str)
    · rw [decide_eq_true m1]
      have e : fldOf n = some ("at" : Str) := by
        unfold fldOf
        rw [if_pos m1]
      rw [e] at hv
      exact iteT ⟨_, rfl, fs, v, rfl, (En.same (sn (Same.refl H) n1)).flds, hv, h _ (sn (Same.refl H) n1)⟩
    rw [decide_eq_false m1]
    refine iteF ?_
    refine ⟨_, rfl, (by show 4 ≤ sizeLine; decide), fun t2 n2 => ?_⟩
    refine ⟨t2, _, _, fs, rfl, upd_same, kaT En ["BadName", "Taken", "NoThing", "NoWish"] (by decide), (En.same (sn (sn (Same.refl H) n1) n2)).flds, _, rfl, ?_⟩
    by_cases m2 : n ∈ (["BadName", "Taken", "NoThing", "NoWish"] : List Str)
    · rw [decide_eq_true m2]
      have e : fldOf n = some ("name" : Str) := by
        unfold fldOf
        rw [if_neg m1, if_pos m2]
      rw [e] at hv
      exact iteT ⟨_, rfl, fs, v, rfl, (En.same (sn (sn (Same.refl H) n1) n2)).flds, hv, h _ (sn (sn (Same.refl H) n1) n2)⟩
    rw [decide_eq_false m2]
    refine iteF ?_
    refine ⟨_, rfl, (by show 4 ≤ sizeLine; decide), fun t3 n3 => ?_⟩
    refine ⟨t3, _, _, fs, rfl, upd_same, kaT En ["Wrong", "Right", "NoNumber", "NoLook"] (by decide), (En.same (sn (sn (sn (Same.refl H) n1) n2) n3)).flds, _, rfl, ?_⟩
    by_cases m3 : n ∈ (["Wrong", "Right", "NoNumber", "NoLook"] : List Str)
    · rw [decide_eq_true m3]
      have e : fldOf n = some ("number" : Str) := by
        unfold fldOf
        rw [if_neg m1, if_neg m2, if_pos m3]
      rw [e] at hv
      exact iteT ⟨_, rfl, fs, v, rfl, (En.same (sn (sn (sn (Same.refl H) n1) n2) n3)).flds, hv, h _ (sn (sn (sn (Same.refl H) n1) n2) n3)⟩
    rw [decide_eq_false m3]
    refine iteF ?_
    refine ⟨_, rfl, (by show 2 ≤ sizeLine; decide), fun t4 n4 => ?_⟩
    refine ⟨t4, _, _, fs, rfl, upd_same, kaT En ["BadWish", "TooMany"] (by decide), (En.same (sn (sn (sn (sn (Same.refl H) n1) n2) n3) n4)).flds, _, rfl, ?_⟩
    by_cases m4 : n ∈ (["BadWish", "TooMany"] : List Str)
    · rw [decide_eq_true m4]
      have e : fldOf n = some ("most" : Str) := by
        unfold fldOf
        rw [if_neg m1, if_neg m2, if_neg m3, if_pos m4]
      rw [e] at hv
      exact iteT ⟨_, rfl, fs, v, rfl, (En.same (sn (sn (sn (sn (Same.refl H) n1) n2) n3) n4)).flds, hv, h _ (sn (sn (sn (sn (Same.refl H) n1) n2) n3) n4)⟩
    rw [decide_eq_false m4]
    refine iteF ?_
    refine ⟨_, rfl, _, _, _, rfl, En.kit "BadMany" (by decide), (En.same (sn (sn (sn (sn (Same.refl H) n1) n2) n3) n4)).flds, _, rfl, ?_⟩
    by_cases m5 : n = "BadMany"
    · rw [decide_eq_true m5.symm]
      have e : fldOf n = some ("many" : Str) := by
        unfold fldOf
        rw [if_neg m1, if_neg m2, if_neg m3, if_neg m4, if_pos m5]
      rw [e] at hv
      exact iteT ⟨_, rfl, fs, v, rfl, (En.same (sn (sn (sn (sn (Same.refl H) n1) n2) n3) n4)).flds, hv, h _ (sn (sn (sn (sn (Same.refl H) n1) n2) n3) n4)⟩
    rw [decide_eq_false (fun z => m5 z.symm)]
    refine iteF ?_
    refine ⟨_, rfl, _, _, _, rfl, En.kit "BadBeat" (by decide), (En.same (sn (sn (sn (sn (Same.refl H) n1) n2) n3) n4)).flds, _, rfl, ?_⟩
    by_cases m6 : n = "BadBeat"
    · rw [decide_eq_true m6.symm]
      have e : fldOf n = some ("beat" : Str) := by
        unfold fldOf
        rw [if_neg m1, if_neg m2, if_neg m3, if_neg m4, if_neg m5, if_pos m6]
      rw [e] at hv
      exact iteT ⟨_, rfl, fs, v, rfl, (En.same (sn (sn (sn (sn (Same.refl H) n1) n2) n3) n4)).flds, hv, h _ (sn (sn (sn (sn (Same.refl H) n1) n2) n3) n4)⟩
    rw [decide_eq_false (fun z => m6 z.symm)]
    refine iteF ?_
    refine ⟨_, rfl, _, _, _, rfl, En.kit "BadCount" (by decide), (En.same (sn (sn (sn (sn (Same.refl H) n1) n2) n3) n4)).flds, _, rfl, ?_⟩
    by_cases m7 : n = "BadCount"
    · rw [decide_eq_true m7.symm]
      have e : fldOf n = some ("count" : Str) := by
        unfold fldOf
        rw [if_neg m1, if_neg m2, if_neg m3, if_neg m4, if_neg m5, if_neg m6, if_pos m7]
      rw [e] at hv
      exact iteT ⟨_, rfl, fs, v, rfl, (En.same (sn (sn (sn (sn (Same.refl H) n1) n2) n3) n4)).flds, hv, h _ (sn (sn (sn (sn (Same.refl H) n1) n2) n3) n4)⟩
    rw [decide_eq_false (fun z => m7 z.symm)]
    refine iteF ?_
    refine ⟨_, rfl, _, _, _, rfl, En.kit "NoPlace" (by decide), (En.same (sn (sn (sn (sn (Same.refl H) n1) n2) n3) n4)).flds, _, rfl, ?_⟩
    by_cases m8 : n = "NoPlace"
    · rw [decide_eq_true m8.symm]
      have e : fldOf n = some ("place" : Str) := by
        unfold fldOf
        rw [if_neg m1, if_neg m2, if_neg m3, if_neg m4, if_neg m5, if_neg m6, if_neg m7, if_pos m8]
      rw [e] at hv
      exact iteT ⟨_, rfl, fs, v, rfl, (En.same (sn (sn (sn (sn (Same.refl H) n1) n2) n3) n4)).flds, hv, h _ (sn (sn (sn (sn (Same.refl H) n1) n2) n3) n4)⟩
    rw [decide_eq_false (fun z => m8 z.symm)]
    refine iteF ?_
    refine ⟨_, rfl, _, _, _, rfl, En.kit "NoHand" (by decide), (En.same (sn (sn (sn (sn (Same.refl H) n1) n2) n3) n4)).flds, _, rfl, ?_⟩
    by_cases m9 : n = "NoHand"
    · rw [decide_eq_true m9.symm]
      have e : fldOf n = some ("hand" : Str) := by
        unfold fldOf
        rw [if_neg m1, if_neg m2, if_neg m3, if_neg m4, if_neg m5, if_neg m6, if_neg m7, if_neg m8, if_pos m9]
      rw [e] at hv
      exact iteT ⟨_, rfl, fs, v, rfl, (En.same (sn (sn (sn (sn (Same.refl H) n1) n2) n3) n4)).flds, hv, h _ (sn (sn (sn (sn (Same.refl H) n1) n2) n3) n4)⟩
    rw [decide_eq_false (fun z => m9 z.symm)]
    have e : fldOf n = none := by
      unfold fldOf
      rw [if_neg m1, if_neg m2, if_neg m3, if_neg m4, if_neg m5, if_neg m6, if_neg m7, if_neg m8, if_neg m9]
    rw [e] at hv
    have ev : v = .non := hv
    subst ev
    exact iteF (h _ (sn (sn (sn (sn (Same.refl H) n1) n2) n3) n4))
end
end RL
/-! zip of two things, each a list or a tuple. -/
namespace RL
open PySem PySem.Spec PyProof.Rows L2
/-- what is drawn from: true a tuple, false a list -/
def hIt : Bool → Heap → Addr → Addr → Nat → Prop
  | true, h, i, l, k => h.IsTupleIter i l k
  | false, h, i, l, k => h.IsListIter i l k
def hSq : Bool → Heap → Addr → Array Value → Prop
  | true, h, l, xs => h.IsTuple l xs
  | false, h, l, xs => h.IsList l xs
theorem hIt.but {u : Bool} {h g : Heap} {c i l : Addr} {k : Nat} (x : hIt u h i l k) (e : Heap.ExtBut c h g) (n : i ≠ c) : hIt u g i l k := by
  cases u with
  | true => exact Heap.IsTupleIter.extBut x e n
  | false => exact Heap.IsListIter.extBut x e n
theorem hSq.but {u : Bool} {h g : Heap} {c l : Addr} {xs : Array Value} (x : hSq u h l xs) (e : Heap.ExtBut c h g) (n : l ≠ c) : hSq u g l xs := by
  cases u with
  | true => exact Heap.IsTuple.extBut x e n
  | false => exact Heap.IsList.extBut x e n
theorem hIt.to {u : Bool} {h g : Heap} {i l : Addr} {k : Nat} (x : hIt u h i l k) (e : ∀ o, h.get? i = some o → g.get? i = some o) : hIt u g i l k := by
  cases u with
  | true => exact Heap.IsTupleIter.at x e
  | false => exact Heap.IsListIter.at x e
theorem hIt.obj {u : Bool} {h : Heap} {i l : Addr} {k : Nat} (x : hIt u h i l k) : ∃ o, h.get? i = some o ∧ ∀ v, o.data ≠ .cell v := by
  cases u with
  | true =>
    obtain ⟨o, e, _, d⟩ := x
    exact ⟨o, e, fun v q => by rw [d] at q; cases q⟩
  | false =>
    obtain ⟨o, e, _, d⟩ := x
    exact ⟨o, e, fun v q => by rw [d] at q; cases q⟩
theorem hIt.small {u : Bool} {h : Heap} {i l : Addr} {k : Nat} (x : hIt u h i l k) : i < h.objs.size := by
  obtain ⟨o, e, _⟩ := x.obj
  exact Heap.lt_size e
section
variable {prog : Program} {w : World} {A : Around} {E : Value → Shared → Prop} {s : Shared}
theorem half_item {u : Bool} {it l : Addr} {k : Nat} {xs : Array Value} {x : Value} {Q : Value → Shared → Prop} (a1 : hIt u s.heap it l k) (a2 : hSq u s.heap l xs) (hx : xs[k]? = some x)
    (hq : ∀ g, hIt u g it l (k + 1) → Heap.SameBut it s.heap g → Q x { s with heap := g }) : wpAny (model prog w) A (Builtin.SmallTypes.nextOf (.ref it)) Q E s := by
  cases u with
  | true => exact RZ.nextOf_tuple_item a1 a2 hx hq
  | false => exact wpAny_nextOf_list_item a1 a2 hx hq
theorem half_end {u : Bool} {it l : Addr} {k : Nat} {xs : Array Value} {Q : Value → Shared → Prop} (hh : A.handled = none) (a1 : hIt u s.heap it l k) (a2 : hSq u s.heap l xs) (hx : xs[k]? = none)
    (he : ∀ g e, Heap.ExtBut it s.heap g → (∃ o, g.get? e = some o ∧ o.cls = .type "StopIteration") → E (.ref e) { s with heap := g }) : wpAny (model prog w) A (Builtin.SmallTypes.nextOf (.ref it)) Q E s := by
  cases u with
  | true => exact RZ.nextOf_tuple_end hh a1 a2 hx he
  | false => exact wpAny_nextOf_list_end hh a1 a2 hx he
theorem zh_item {q ti to m1 m2 d1 d2 : Addr} {u1 u2 : Bool} {n1 n2 : Nat} {vs1 vs2 : Array Value} {x y a b : Value} {Q : Value → Shared → Prop} (D : ZipApart q ti to m1 m2 d1 d2)
    (zz : IsZip s.heap q ti to .none) (pi : IsPair s.heap ti (.ref m1) (.ref m2)) (po : IsPair s.heap to a b)
    (w1 : hIt u1 s.heap m1 d1 n1) (w2 : hIt u2 s.heap m2 d2 n2) (s1 : hSq u1 s.heap d1 vs1) (s2 : hSq u2 s.heap d2 vs2) (hx : vs1[n1]? = some x) (hy : vs2[n2]? = some y)
    (hq : ∀ g, IsZip g q ti to (rawInt s.heap.objs.size) → IsPair g to x y → hIt u1 g m1 d1 (n1 + 1) → hIt u2 g m2 d2 (n2 + 1) → IsPair g s.heap.objs.size x y → g.objs.size = s.heap.objs.size + 1 →
      (∀ c o, c ≠ q → c ≠ to → c ≠ m1 → c ≠ m2 → s.heap.get? c = some o → g.get? c = some o) → Q (.ref s.heap.objs.size) { s with heap := g }) :
    wpAny (model prog w) A (Builtin.«zip.__next__» ⟨[.ref q], []⟩) (fun f s' => ∃ v, f = .done (.ret v) ∧ Q v s') E s := by
  show wpAny _ _ (field (.ref q) 2 >>= _) _ _ _
  refine wpAny_bind (wpAny_field zz rfl (x := .bool false) rfl ?_)
  show wpAny _ _ (field (.ref q) 3 >>= _) _ _ _
  refine wpAny_bind (wpAny_field zz rfl (x := .ref ti) rfl (wpAny_bind (wpAny_seqItems pi rfl ?_)))
  show wpAny _ _ (Builtin.SmallTypes.ownedTupleIsFree (.ref q) >>= _) _ _ _
  refine wpAny_bind ?_; unfold Builtin.SmallTypes.ownedTupleIsFree
  refine wpAny_bind (wpAny_field zz rfl (x := .none) rfl (wpAny_pure ?_))
  simp only [if_true]
  refine wpAny_bind (wpAny_rule (wpAny_bind (wpAny_field zz rfl (x := .ref to) rfl (wpAny_bind (wpAny_setField_rec zz (by simp) fun g1 zz1 b1 => ?_)))))
  replace zz1 : IsZip g1 q ti to .ellipsis := zz1
  refine wpAny_bind ?_
  simp only [List.zipIdx_nil, List.zipIdx_cons, List.forIn_nil, List.forIn_cons]
  refine wpAny_bind (wpAny_bind (wpAny_onRaise ?_))
  show wpAny _ _ (Builtin.SmallTypes.nextOf (.ref m1) >>= _) _ _ _
  refine wpAny_bind (half_item (w1.but b1.extBut D.i1z) (s1.but b1.extBut D.l1z) hx fun g2 v1 b2 => wpAny_pure ?_)
  have po2 : IsPair g2 to a b := b2.extBut _ _ D.TOi1 (b1.extBut _ _ D.TOz po)
  refine wpAny_bind (wpAny_seqItems po2 rfl (wpAny_bind (wpAny_updateSeq_pair po2 fun g3 po3 b3 => ?_)))
  replace po3 : IsPair g3 to x b := po3
  refine wpAny_bind (wpAny_letGo (wpAny_pure (wpAny_bind (wpAny_bind (wpAny_onRaise ?_)))))
  show wpAny _ _ (Builtin.SmallTypes.nextOf (.ref m2) >>= _) _ _ _
  refine wpAny_bind (half_item (((w2.but b1.extBut D.i2z).but b2.extBut D.i12.symm).but b3.extBut D.TOi2.symm) (((s2.but b1.extBut D.l2z).but b2.extBut D.l2i1).but b3.extBut D.l2TO) hy fun g4 v2 b4 => wpAny_pure ?_)
  have po4 : IsPair g4 to x b := b4.extBut _ _ D.TOi2 po3
  refine wpAny_bind (wpAny_seqItems po4 rfl (wpAny_bind (wpAny_updateSeq_pair po4 fun g5 po5 b5 => ?_)))
  replace po5 : IsPair g5 to x y := po5
  refine wpAny_bind (wpAny_letGo (wpAny_pure (wpAny_pure (wpAny_bind (wpAny_seqItems po5 rfl (wpAny_bind (wpAny_newTuple ?_)))))))
  have sz : g5.objs.size = s.heap.objs.size := by rw [b5.1, b4.1, b3.1, b2.1, b1.1]
  have zz5 : IsZip g5 q ti to .ellipsis := b5.extBut _ _ D.TOz.symm (b4.extBut _ _ D.i2z.symm (b3.extBut _ _ D.TOz.symm (b2.extBut _ _ D.i1z.symm zz1)))
  have old5 : ∀ c o, c ≠ q → c ≠ to → c ≠ m1 → c ≠ m2 → s.heap.get? c = some o → g5.get? c = some o := fun c o c1 c2 c3 c4 e => b5.extBut _ _ c2 (b4.extBut _ _ c4 (b3.extBut _ _ c2 (b2.extBut _ _ c3 (b1.extBut _ _ c1 e))))
  have v15 : hIt u1 g5 m1 d1 (n1 + 1) := ((v1.but b3.extBut D.TOi1.symm).but b4.extBut D.i12).but b5.extBut D.TOi1.symm
  have v25 : hIt u2 g5 m2 d2 (n2 + 1) := v2.but b5.extBut D.TOi2.symm
  have ql : q < g5.objs.size := Heap.lt_size zz5
  show wpAny _ _ (Builtin.SmallTypes.ownedTupleHandOut (.ref q) (.ref g5.objs.size) >>= _) _ _ _
  refine wpAny_bind ?_; unfold Builtin.SmallTypes.ownedTupleHandOut
  have zz6 : IsZip (g5.push { cls := .type "tuple", data := .seq #[x, y] }) q ti to .ellipsis := Heap.get?_push_of_some _ zz5
  refine wpAny_bind (wpAny_setField_rec zz6 (by simp) fun g7 zz7 b7 => ?_)
  replace zz7 : IsZip g7 q ti to (rawInt g5.objs.size) := zz7
  refine wpAny_setField_rec zz7 (by simp) fun g8 zz8 b8 => ?_
  replace zz8 : IsZip g8 q ti to (rawInt g5.objs.size) := zz8
  have up : ∀ c o, c ≠ q → g5.get? c = some o → g8.get? c = some o := fun c o c1 e => b8.extBut _ _ c1 (b7.extBut _ _ c1 (Heap.get?_push_of_some _ e))
  have t8 : IsPair g8 g5.objs.size x y := b8.extBut _ _ (Nat.ne_of_gt ql) (b7.extBut _ _ (Nat.ne_of_gt ql) (Heap.get?_push_size _ rfl))
  have sz8 : g8.objs.size = g5.objs.size + 1 := by rw [b8.1, b7.1, Heap.size_push]
  rw [sz] at zz8 t8 sz8
  refine wpAny_pure ⟨_, rfl, ?_⟩
  show Q (.ref g5.objs.size) _
  rw [sz]
  exact hq g8 zz8 (up _ _ D.TOz po5) (v15.to fun o e => up _ o D.i1z e) (v25.to fun o e => up _ o D.i2z e) t8 sz8 fun c o c1 c2 c3 c4 e => up c o c1 (old5 c o c1 c2 c3 c4 e)
theorem zh_end {q ti to m1 m2 d1 d2 : Addr} {u1 u2 : Bool} {n1 n2 : Nat} {vs1 vs2 : Array Value} {a b : Value} {Q : Fin → Shared → Prop} (hh : A.handled = none) (D : ZipApart q ti to m1 m2 d1 d2)
    (zz : IsZip s.heap q ti to .none) (pi : IsPair s.heap ti (.ref m1) (.ref m2)) (po : IsPair s.heap to a b)
    (w1 : hIt u1 s.heap m1 d1 n1) (w2 : hIt u2 s.heap m2 d2 n2) (s1 : hSq u1 s.heap d1 vs1) (s2 : hSq u2 s.heap d2 vs2) (he : vs1[n1]? = none ∨ vs2[n2]? = none)
    (hE : ∀ g e, (∀ c o, c ≠ q → c ≠ to → c ≠ m1 → c ≠ m2 → s.heap.get? c = some o → g.get? c = some o) → (∃ o, g.get? e = some o ∧ o.cls = .type "StopIteration") → E (.ref e) { s with heap := g }) :
    wpAny (model prog w) A (Builtin.«zip.__next__» ⟨[.ref q], []⟩) Q E s := by
  show wpAny _ _ (field (.ref q) 2 >>= _) _ _ _
  refine wpAny_bind (wpAny_field zz rfl (x := .bool false) rfl ?_)
  show wpAny _ _ (field (.ref q) 3 >>= _) _ _ _
  refine wpAny_bind (wpAny_field zz rfl (x := .ref ti) rfl (wpAny_bind (wpAny_seqItems pi rfl ?_)))
  show wpAny _ _ (Builtin.SmallTypes.ownedTupleIsFree (.ref q) >>= _) _ _ _
  refine wpAny_bind ?_; unfold Builtin.SmallTypes.ownedTupleIsFree
  refine wpAny_bind (wpAny_field zz rfl (x := .none) rfl (wpAny_pure ?_))
  simp only [if_true]
  refine wpAny_bind (wpAny_rule (wpAny_bind (wpAny_field zz rfl (x := .ref to) rfl (wpAny_bind (wpAny_setField_rec zz (by simp) fun g1 zz1 b1 => ?_)))))
  replace zz1 : IsZip g1 q ti to .ellipsis := zz1
  refine wpAny_bind ?_
  simp only [List.zipIdx_nil, List.zipIdx_cons, List.forIn_nil, List.forIn_cons]
  refine wpAny_bind (wpAny_bind (wpAny_onRaise ?_))
  show wpAny _ _ (Builtin.SmallTypes.nextOf (.ref m1) >>= _) _ _ _
  cases hx : vs1[n1]? with
  | none =>
    refine wpAny_bind (half_end hh (w1.but b1.extBut D.i1z) (s1.but b1.extBut D.l1z) hx fun g2 e b2 ⟨oe, hoe, hce⟩ => ?_)
    have zz2 : IsZip g2 q ti to .ellipsis := b2 _ _ D.i1z.symm zz1
    have ne : e ≠ q := fun x => by
      subst x
      rw [zz2] at hoe
      cases hoe
      simp at hce
    exact wpAny_setField_rec zz2 (by simp) fun g3 _ b3 => hE g3 e (fun c o c1 _ c3 _ x => b3.extBut _ _ c1 (b2 _ _ c3 (b1.extBut _ _ c1 x))) ⟨oe, b3.extBut _ _ ne hoe, hce⟩
  | some x =>
    have hy : vs2[n2]? = none := he.elim (fun z => by rw [hx] at z; cases z) id
    refine wpAny_bind (half_item (w1.but b1.extBut D.i1z) (s1.but b1.extBut D.l1z) hx fun g2 v1 b2 => wpAny_pure ?_)
    have po2 : IsPair g2 to a b := b2.extBut _ _ D.TOi1 (b1.extBut _ _ D.TOz po)
    refine wpAny_bind (wpAny_seqItems po2 rfl (wpAny_bind (wpAny_updateSeq_pair po2 fun g3 po3 b3 => ?_)))
    refine wpAny_bind (wpAny_letGo (wpAny_pure (wpAny_bind (wpAny_bind (wpAny_onRaise ?_)))))
    show wpAny _ _ (Builtin.SmallTypes.nextOf (.ref m2) >>= _) _ _ _
    refine wpAny_bind (half_end hh (((w2.but b1.extBut D.i2z).but b2.extBut D.i12.symm).but b3.extBut D.TOi2.symm) (((s2.but b1.extBut D.l2z).but b2.extBut D.l2i1).but b3.extBut D.l2TO) hy fun g4 e b4 ⟨oe, hoe, hce⟩ => ?_)
    have zz4 : IsZip g4 q ti to .ellipsis := b4 _ _ D.i2z.symm (b3.extBut _ _ D.TOz.symm (b2.extBut _ _ D.i1z.symm zz1))
    have ne : e ≠ q := fun x => by
      subst x
      rw [zz4] at hoe
      cases hoe
      simp at hce
    exact wpAny_setField_rec zz4 (by simp) fun g5 _ b5 => hE g5 e (fun c o c1 c2 c3 c4 x => b5.extBut _ _ c1 (b4 _ _ c4 (b3.extBut _ _ c2 (b2.extBut _ _ c3 (b1.extBut _ _ c1 x))))) ⟨oe, b5.extBut _ _ ne hoe, hce⟩
theorem zh_next_item {q ti to m1 m2 d1 d2 : Addr} {u1 u2 : Bool} {n1 n2 : Nat} {vs1 vs2 : Array Value} {x y a b : Value} {Q : Option Value → Shared → Prop} (D : ZipApart q ti to m1 m2 d1 d2)
    (zz : IsZip s.heap q ti to .none) (pi : IsPair s.heap ti (.ref m1) (.ref m2)) (po : IsPair s.heap to a b)
    (w1 : hIt u1 s.heap m1 d1 n1) (w2 : hIt u2 s.heap m2 d2 n2) (s1 : hSq u1 s.heap d1 vs1) (s2 : hSq u2 s.heap d2 vs2) (hx : vs1[n1]? = some x) (hy : vs2[n2]? = some y)
    (hq : ∀ g, IsZip g q ti to (rawInt s.heap.objs.size) → IsPair g to x y → hIt u1 g m1 d1 (n1 + 1) → hIt u2 g m2 d2 (n2 + 1) → IsPair g s.heap.objs.size x y → g.objs.size = s.heap.objs.size + 1 →
      (∀ c o, c ≠ q → c ≠ to → c ≠ m1 → c ≠ m2 → s.heap.get? c = some o → g.get? c = some o) → Q (some (.ref s.heap.objs.size)) { s with heap := g }) :
    wpAny (model prog w) A (pyNext (.ref q)) Q E s := by
  have ty : s.TypeIs (.ref q) "zip" := ⟨_, zz, rfl⟩
  unfold pyNext
  exact wpAny_bind (wpAny_attempt (wpAny_callSpecial?_slot (name := Str.ofString "__next__") ty F.slot_zip_next (wpAny_call_entry F.slot_zip_next ty F.entry_zip_next
    (zh_item D zz pi po w1 w2 s1 s2 hx hy fun g a1 a2 a3 a4 a5 a6 a7 => wpAny_pure (hq g a1 a2 a3 a4 a5 a6 a7)) (F.args_zip_next_1 _))))
theorem zh_next_end {q ti to m1 m2 d1 d2 : Addr} {u1 u2 : Bool} {n1 n2 : Nat} {vs1 vs2 : Array Value} {a b : Value} {Q : Option Value → Shared → Prop} (hh : A.handled = none) (D : ZipApart q ti to m1 m2 d1 d2)
    (zz : IsZip s.heap q ti to .none) (pi : IsPair s.heap ti (.ref m1) (.ref m2)) (po : IsPair s.heap to a b)
    (w1 : hIt u1 s.heap m1 d1 n1) (w2 : hIt u2 s.heap m2 d2 n2) (s1 : hSq u1 s.heap d1 vs1) (s2 : hSq u2 s.heap d2 vs2) (he : vs1[n1]? = none ∨ vs2[n2]? = none)
    (hq : ∀ g, (∀ c o, c ≠ q → c ≠ to → c ≠ m1 → c ≠ m2 → s.heap.get? c = some o → g.get? c = some o) → Q none { s with heap := g }) : wpAny (model prog w) A (pyNext (.ref q)) Q E s := by
  have ty : s.TypeIs (.ref q) "zip" := ⟨_, zz, rfl⟩
  unfold pyNext
  refine wpAny_bind (wpAny_attempt (wpAny_callSpecial?_slot (name := Str.ofString "__next__") ty F.slot_zip_next (wpAny_call_entry F.slot_zip_next ty F.entry_zip_next
    (zh_end hh D zz pi po w1 w2 s1 s2 he fun g e hk ⟨o, ho, hc⟩ => ?_) (F.args_zip_next_1 _))))
  exact wpAny_bind (wpAny_isInstance (T := "StopIteration") (b := true) ⟨o, ho, hc⟩ isSubtype_stop (wpAny_pure (hq _ hk)))
end
/-- the iterator of either -/
def itO : Bool → Addr → Obj
  | true, l => { cls := .type "tuple_iterator", data := .fields #[.ref l, .int 0 0] }
  | false, l => { cls := .type "list_iterator", data := .fields #[.ref l, .int 0 0] }
theorem itO_free (u : Bool) (l : Addr) : (itO u l).isFreed = false := by cases u <;> rfl
theorem itO_is {u : Bool} {h : Heap} {i l : Addr} (e : h.get? i = some (itO u l)) : hIt u h i l 0 := by
  cases u with
  | true => exact ⟨_, e, rfl, rfl⟩
  | false => exact ⟨_, e, rfl, rfl⟩
theorem half_iter {prog : Program} {w : World} {A : Around} {E : Value → Shared → Prop} {s : Shared} {u : Bool} {l : Addr} {xs : Array Value} {Q : Value → Shared → Prop} (h : hSq u s.heap l xs) (q : Q (.ref s.heap.objs.size) { s with heap := s.heap.push (itO u l) }) :
    wpAny (model prog w) A (pyIter (.ref l)) Q E s := by
  cases u with
  | true => exact wpAny_pyIter_tuple h q
  | false => exact wpAny_pyIter_list h q
theorem hSq.push {u : Bool} {h : Heap} {l : Addr} {xs : Array Value} (x : hSq u h l xs) (o : Obj) : hSq u (h.push o) l xs := by
  cases u with
  | true => exact Heap.IsTuple.push x o
  | false => exact Heap.IsList.push x o
abbrev zg1 (h : Heap) (u1 : Bool) (d1 : Addr) : Heap := h.push (itO u1 d1)
abbrev zg2 (h : Heap) (u1 u2 : Bool) (d1 d2 : Addr) : Heap := (zg1 h u1 d1).push (itO u2 d2)
abbrev zg3 (h : Heap) (u1 u2 : Bool) (d1 d2 : Addr) : Heap := (zg2 h u1 u2 d1 d2).push { cls := .type "tuple", data := .seq #[.ref h.objs.size, .ref (zg1 h u1 d1).objs.size] }
abbrev zg4 (h : Heap) (u1 u2 : Bool) (d1 d2 : Addr) : Heap := (zg3 h u1 u2 d1 d2).push { cls := .type "tuple", data := .seq #[.none, .none] }
abbrev zg5 (h : Heap) (u1 u2 : Bool) (d1 d2 : Addr) : Heap := (zg4 h u1 u2 d1 d2).push { cls := .type "zip", data := .fields #[.none, .bool false, .bool false, .ref (zg2 h u1 u2 d1 d2).objs.size, .ref (zg3 h u1 u2 d1 d2).objs.size] }
theorem zh_made (u1 u2 : Bool) (d1 d2 : Addr) (vs1 vs2 : Array Value) :
    Meets (Builtin.«zip.__new__» ⟨[.type "zip", .ref d1, .ref d2], []⟩) (fun _ R s => hSq u1 s.heap d1 vs1 ∧ hSq u2 s.heap d2 vs2 ∧ R (.ok (.ret (.ref (zg4 s.heap u1 u2 d1 d2).objs.size))) { s with heap := zg5 s.heap u1 u2 d1 d2 }) :=
  .of_wp fun prog w A R s h => by
    obtain ⟨hp, g, d, tk, os⟩ := s
    obtain ⟨k1, k2, h⟩ := h
    have sub := sub_zip
    have K1 : hSq u1 (Shared.heap ⟨hp, g, d, tk, os⟩) d1 vs1 := k1
    have K2 : hSq u2 (Shared.heap ⟨hp.push (itO u1 d1), g, d, tk, os⟩) d2 vs2 := k2.push _
    wp_walk using half_iter K1, half_iter K2
    exact ⟨_, rfl, h⟩
theorem zh_call {prog : Program} {w : World} {A : Around} {E : Value → Shared → Prop} {s : Shared} {u1 u2 : Bool} {d1 d2 : Addr} {vs1 vs2 : Array Value} {Q : Value → Shared → Prop} (s1 : hSq u1 s.heap d1 vs1) (s2 : hSq u2 s.heap d2 vs2)
    (h : ∀ g, IsZip g (s.heap.objs.size + 4) (s.heap.objs.size + 2) (s.heap.objs.size + 3) .none → IsPair g (s.heap.objs.size + 2) (.ref s.heap.objs.size) (.ref (s.heap.objs.size + 1)) → IsPair g (s.heap.objs.size + 3) .none .none → hIt u1 g s.heap.objs.size d1 0 → hIt u2 g (s.heap.objs.size + 1) d2 0 →
      (∀ c o, s.heap.get? c = some o → g.get? c = some o) → Q (.ref (s.heap.objs.size + 4)) { s with heap := g }) :
    wpAny (model prog w) A (call (.type "zip") [.ref d1, .ref d2]) Q E s := by
  refine callType_new F.called_zip (by decide) (F.typeCall_zip_2 _ _) (F.newCall_zip_2 _ _) (fun ob => F.args_object_init_3 ob _ _) F.entry_zip_new (zh_made u1 u2 d1 d2 vs1 vs2) ⟨s1, s2, ?_⟩
  have e1 : (zg1 s.heap u1 d1).objs.size = s.heap.objs.size + 1 := Heap.size_push ..
  have e2 : (zg2 s.heap u1 u2 d1 d2).objs.size = s.heap.objs.size + 2 := by rw [Heap.size_push, e1]
  have e3 : (zg3 s.heap u1 u2 d1 d2).objs.size = s.heap.objs.size + 3 := by rw [Heap.size_push, e2]
  have e4 : (zg4 s.heap u1 u2 d1 d2).objs.size = s.heap.objs.size + 4 := by rw [Heap.size_push, e3]
  have f5 : (zg5 s.heap u1 u2 d1 d2).get? (zg4 s.heap u1 u2 d1 d2).objs.size = some _ := Heap.get?_push_size _ rfl
  have f4 : (zg5 s.heap u1 u2 d1 d2).get? (zg3 s.heap u1 u2 d1 d2).objs.size = some _ := Heap.get?_push_of_some _ (Heap.get?_push_size _ rfl)
  have f3 : (zg5 s.heap u1 u2 d1 d2).get? (zg2 s.heap u1 u2 d1 d2).objs.size = some _ := Heap.get?_push_of_some _ (Heap.get?_push_of_some _ (Heap.get?_push_size _ rfl))
  have f2 : (zg5 s.heap u1 u2 d1 d2).get? (zg1 s.heap u1 d1).objs.size = some _ := Heap.get?_push_of_some _ (Heap.get?_push_of_some _ (Heap.get?_push_of_some _ (Heap.get?_push_size _ (itO_free u2 d2))))
  have f1 : (zg5 s.heap u1 u2 d1 d2).get? s.heap.objs.size = some _ := Heap.get?_push_of_some _ (Heap.get?_push_of_some _ (Heap.get?_push_of_some _ (Heap.get?_push_of_some _ (Heap.get?_push_size _ (itO_free u1 d1)))))
  show _ ∧ _
  rw [e2, e3, e4] at f5
  rw [e1, e2] at f3
  rw [e3] at f4
  rw [e1] at f2
  rw [e4]
  exact ⟨⟨_, f5, rfl⟩, h _ f5 f3 f4 (itO_is f1) (itO_is f2) fun c o x => Heap.get?_push_of_some _ (Heap.get?_push_of_some _ (Heap.get?_push_of_some _ (Heap.get?_push_of_some _ (Heap.get?_push_of_some _ x))))⟩
/-- a list or a tuple as it stands -/
def SqH (u : Bool) (K : PySem.W.Frag) (H : Hp) (a : Addr) (xs : List V) : Prop := match u with
  | true => SqT K H a xs
  | false => SqL K H a xs
def Itzh (u1 u2 : Bool) (K : PySem.W.Frag) (a b : Addr) : It :=
  ⟨fun i H => ∃ (xs ys : List V) (x y : V), SqH u1 K H a xs ∧ SqH u2 K H b ys ∧ xs[i]? = some x ∧ ys[i]? = some y,
    fun i H v H' => ∃ T x y, v = .ref T ∧ H T = none ∧ H' = upd H T (.tup [x, y]) ∧ (∀ xs, SqH u1 K H a xs → xs[i]? = some x) ∧ ∀ ys, SqH u2 K H b ys → ys[i]? = some y,
    fun i H => ∃ xs ys : List V, SqH u1 K H a xs ∧ SqH u2 K H b ys ∧ (xs.length ≤ i ∨ ys.length ≤ i)⟩
theorem inv_half {X : Cx} {pins : List (Addr × Obj)} {σ : L2.St} {H : Hp} {s : Shared} {u : Bool} {a : Addr} {xs : List V} (I : L2.Inv X pins σ H s) (h : SqH u X.K H a xs) : ∃ its, Vals xs its ∧ hSq u s.heap a its.toArray ∧ a < s.heap.objs.size := by
  cases u with
  | true =>
    obtain ⟨its, rv, p, _⟩ := I.tuple h
    refine ⟨its, rv, p, ?_⟩
    obtain ⟨o, ho, _⟩ := id p
    exact Heap.lt_size ho
  | false =>
    obtain ⟨its, rv, p, _⟩ := I.list h
    exact ⟨its, rv, p.isList, p.lt⟩
theorem inv_half_inj {X : Cx} {pins : List (Addr × Obj)} {σ : L2.St} {H : Hp} {s : Shared} {u : Bool} {a : Addr} {xs ys : List V} (I : L2.Inv X pins σ H s) (h : SqH u X.K H a xs) (g : SqH u X.K H a ys) : xs = ys := by
  cases u with
  | true => exact I.tuple_inj h g
  | false => exact I.list_inj h g
theorem turn_zh {P : Program} {w : World} {K : PySem.W.Frag} {elts : List Expr} {kk : Nat} {tpos : Pos} {u1 u2 : Bool} {a b q ti to m1 m2 : Addr} (D : ZipApart q ti to m1 m2 a b) :
    Turn P w K (.Tuple elts kk tpos) (Itzh u1 u2 K a b) [q, ti, to, m1, m2] q (fun i h => IsZip h q ti to .none ∧ IsPair h ti (.ref m1) (.ref m2) ∧ (∃ x y, IsPair h to x y) ∧ hIt u1 h m1 a i ∧ hIt u2 h m2 b i) where
  mem := by simp
  obj := fun i h st c hc => by
    obtain ⟨zz, pi, ⟨x, y, po⟩, w1, w2⟩ := st
    have e : c = q ∨ c = ti ∨ c = to ∨ c = m1 ∨ c = m2 := by simpa using hc
    rcases e with z | z | z | z | z
    · rw [z]; exact ⟨_, zz, fun v e => nomatch e⟩
    · rw [z]; exact ⟨_, pi, fun v e => nomatch e⟩
    · rw [z]; exact ⟨_, po, fun v e => nomatch e⟩
    · rw [z]; exact w1.obj
    · rw [z]; exact w2.obj
  keep := fun i h h' st k => by
    obtain ⟨zz, pi, ⟨x, y, po⟩, w1, w2⟩ := st
    exact ⟨k q (by simp) _ zz, k ti (by simp) _ pi, ⟨x, y, k to (by simp) _ po⟩, w1.to fun o e => k m1 (by simp) o e, w2.to fun o e => k m2 (by simp) o e⟩
  item := by
    intro X hP hw hK hc i pins s σ H E I hf st hg
    subst hP hw hK
    obtain ⟨zz, pi, ⟨x0, y0, po⟩, w1, w2⟩ := st
    obtain ⟨xs, ys, x, y, hqx, hqy, hx, hy⟩ := hg
    obtain ⟨its, rv, p, _⟩ := inv_half I hqx
    obtain ⟨its2, rv2, p2, _⟩ := inv_half I hqy
    obtain ⟨v, hv, ru⟩ := rv.get hx
    obtain ⟨v2, hv2, ru2⟩ := rv2.get hy
    have ql : q < s.heap.objs.size := Heap.lt_size zz
    refine zh_next_item D zz pi po w1 w2 p p2 (x := v) (y := v2) (by simpa using hv) (by simpa using hv2) fun g z1 po1 w11 w21 hT hsz hk => ?_
    refine ⟨_, rfl, wpAny_letOwnedTupleGo_zip (s := { s with heap := g }) z1 fun g2 z2 sb => ?_⟩
    have hT2 : g2.get? s.heap.objs.size = some { cls := .type "tuple", data := .seq #[v, v2] } := (sb.2 _ (Nat.ne_of_gt ql)).trans hT
    have new : ObjOk X.prog X.w (upd H s.heap.objs.size (.tup [x, y])) g2 s.heap.objs.size (.tup [x, y]) := ⟨by show 2 ≤ sizeLine; decide, [v, v2], .cons ru (.cons ru2 .nil), ⟨_, hT2, rfl, _, rfl⟩⟩
    have I1 : Inv X pins σ (upd H s.heap.objs.size (.tup [x, y])) { s with heap := g2 } := I.turnedNew (t' := s.toks) (ch := [q, ti, to, m1, m2])
      (fun c o hb e => (sb.2 c (fun z => hb (by simp [z]))).trans (hk c o (fun z => hb (by simp [z])) (fun z => hb (by simp [z])) (fun z => hb (by simp [z])) (fun z => hb (by simp [z])) e)) hf (Nat.le_refl _) new
    refine ⟨.ref s.heap.objs.size, _, I1, rfl, ⟨_, x, y, rfl, I.hok.fresh (Nat.le_refl _), rfl, fun l hl => by rw [inv_half_inj I hl hqx]; exact hx, fun l hl => by rw [inv_half_inj I hl hqy]; exact hy⟩, ⟨z2, ?_, ⟨v, v2, ?_⟩, ?_, ?_⟩, fun c hcm => ?_⟩
    · exact (sb.2 _ D.TIz).trans (hk _ _ D.TIz D.TITO D.TIi1 D.TIi2 pi)
    · exact (sb.2 _ D.TOz).trans po1
    · exact w11.to fun o e => (sb.2 _ D.i1z).trans e
    · exact w21.to fun o e => (sb.2 _ D.i2z).trans e
    · have lt : c < s.heap.objs.size := by
        have e : c = q ∨ c = ti ∨ c = to ∨ c = m1 ∨ c = m2 := by simpa using hcm
        rcases e with z | z | z | z | z
        · rw [z]; exact ql
        · rw [z]; exact Heap.lt_size pi
        · rw [z]; exact Heap.lt_size po
        · rw [z]; exact w1.small
        · rw [z]; exact w2.small
      rw [upd_ne (Nat.ne_of_lt lt)]
      exact (hf c hcm).1
  done := by
    intro X hP hw hK hc i pins s σ H E I hf st hg
    subst hP hw hK
    obtain ⟨zz, pi, ⟨x0, y0, po⟩, w1, w2⟩ := st
    obtain ⟨xs, ys, hqx, hqy, hend⟩ := hg
    obtain ⟨its, rv, p, _⟩ := inv_half I hqx
    obtain ⟨its2, rv2, p2, _⟩ := inv_half I hqy
    have l1 := rv.length
    have l2 := rv2.length
    have he : its.toArray[i]? = none ∨ its2.toArray[i]? = none := hend.imp (fun z => by simp; omega) fun z => by simp; omega
    exact zh_next_end (I.ok.hd hc) D zz pi po w1 w2 p p2 he fun g hk => ⟨rfl, I.turnedL (t' := s.toks) (ch := [q, ti, to, m1, m2]) (fun c o hb e =>
      hk c o (fun z => hb (by simp [z])) (fun z => hb (by simp [z])) (fun z => hb (by simp [z])) (fun z => hb (by simp [z])) e) hf⟩
  self := fun A i s Q E st h => wpAny_pyIter_zip st.1 h
section
variable {X : Cx} {K : PySem.W.Frag}
def iZh (u1 u2 : Bool) (K : PySem.W.Frag) (ta : TA) : TI := fun σ H R => ta σ H fun vs H1 => ∃ a b xs ys, vs = [.ref a, .ref b] ∧ SqH u1 K H1 a xs ∧ SqH u2 K H1 b ys ∧ R (Itzh u1 u2 K a b) H1
theorem pi_zh (u1 u2 : Bool) {e e2 : Expr} {ta : TA} {p pos tpos : Pos} {elts : List Expr} {kk : Nat} (hg : Gl X "zip") (hm : X.mg "zip" = none) (ha : PA X [e, e2] ta)
    (hs : starEach [e, e2] X.env = (false, eval e X.env) :: starEach [e2] X.env := by rfl) (hpl : (backTo pos (starEach [e2] X.env)).any (·.1) = false := by rfl) (hK : X.K = K := by rfl) :
    PI X (.Tuple elts kk tpos) (.Call (.Name "zip" p) [e, e2] [] pos) (iZh u1 u2 K ta) := by
  subst hK
  refine ⟨fun pins s σ H R I h => ?_⟩
  refine Call_ (ld_blt I hg hm PyProof.Rows.boot_zip (PyProof.Rows.callWith_type1 (thn (ha.run pos pins s σ H _ I h) fun us s1 ⟨vs, H1, I1, r1, q1⟩ => ?_) hs hpl))
  obtain ⟨a, b, xs, ys, rfl, hqx, hqy, q⟩ := q1
  cases r1 with
  | cons r rr =>
    cases rr with
    | cons r' rr =>
      cases rr
      cases r
      cases r'
      have new5 : ∀ c, c ∈ [s1.heap.objs.size + 4, s1.heap.objs.size + 2, s1.heap.objs.size + 3, s1.heap.objs.size, s1.heap.objs.size + 1] → FpOk X pins H1 c := fun c hcm => by
        have le : s1.heap.objs.size ≤ c := by
          simp only [List.mem_cons, List.not_mem_nil, or_false] at hcm
          rcases hcm with z | z | z | z | z <;> rw [z] <;> first | exact Nat.le_refl _ | exact Nat.le_add_right _ _
        exact I1.fpOk le (I1.hok.fresh le)
      obtain ⟨its, rv, p1, lt1⟩ := inv_half I1 hqx
      obtain ⟨its2, rv2, p2, lt2⟩ := inv_half I1 hqy
      refine zh_call p1 p2 fun g zz pi po w1 w2 hk => wpAny_pyIter_zip zz ?_
      have I2 : Inv X pins σ H1 { s1 with heap := g } := I1.kept (t' := s1.toks) hk
      exact ⟨s1.heap.objs.size + 4, [s1.heap.objs.size + 4, s1.heap.objs.size + 2, s1.heap.objs.size + 3, s1.heap.objs.size, s1.heap.objs.size + 1], _, _, H1, rfl, I2, turn_zh (PySem.W.ktu_apart s1.heap.objs.size a b lt1 lt2), ⟨zz, pi, ⟨_, _, po⟩, w1, w2⟩, new5, q⟩
theorem walk_zh {u1 u2 : Bool} {a b : Addr} {xs ys : List V} {n : Nat} (hn : n = min xs.length ys.length) : Walk (Itzh u1 u2 K a b) n (fun H => SqH u1 K H a xs ∧ SqH u2 K H b ys) (YPair (fun i => xs[i]?) (fun i => ys[i]?)) := by
  subst hn
  refine ⟨fun i H hi q => ⟨xs, ys, xs[i]'(by omega), ys[i]'(by omega), q.1, q.2, List.getElem?_eq_getElem _, List.getElem?_eq_getElem _⟩, fun H q => ⟨xs, ys, q.1, q.2, by omega⟩, fun i H v H' hi q y => ?_⟩
  obtain ⟨T, x, z, h1, h2, h3, h4, h5⟩ := y
  exact ⟨T, x, z, h1, h2, h3, h4 xs q.1, h5 ys q.2⟩
/-- t[::-1], t a tuple -/
def tRevT (K : PySem.W.Frag) (te : TE) : TE := fun σ H Q => te σ H fun x H1 => ∃ a xs, x = .ref a ∧ SqT K H1 a xs ∧ ∀ p, H1 p = none → Q (.ref p) (upd H1 p (.tup xs.reverse))
end
end RL
/-! set(l) of a list of ints; xs[::-1]. -/
namespace RL
open PySem PySem.Spec PyProof.Rows L2
abbrev nSet (w : World) : Obj := { cls := .type "set", dict := none, data := .set #[] 0 (.fresh 0 0 (!w.params.followText "set-order")) }
set_option maxHeartbeats 3200000 in
theorem set_of_list {P : Program} {w : World} {A : Around} {E : Value → Shared → Prop} {s : Shared} {l : Addr} {items : Array Value} (ms : List Int) {Q : Value → Shared → Prop} (hh : A.handled = none) (hl : s.heap.IsList l items) (im : IntsAre items.toList ms) (hb : ms.length + 1 < scanBound)
    (h : ∀ (g : Heap) (tk c : Nat), SetR w g s.heap.objs.size (fun j => decide (j ∈ ms)) c → c ≤ ms.length → (∀ b o, s.heap.get? b = some o → g.get? b = some o) → Q (.ref s.heap.objs.size) { s with heap := g, toks := tk }) :
    wpAny (model P w) A (call (.type "set") [.ref l]) Q E s := by
  have isz : items.size = ms.length := by
    have z := IntsAre.length im
    rwa [Array.length_toList] at z
  obtain ⟨cc, tl, mro⟩ := F.called_set.mro
  have made := F.called_set.made
  have sub := F.called_set.sub
  refine wpAny_call (codeAny_of_tree ?_)
  show wpAny _ _ (callAny (.type "set") _) _ _ _
  refine wpAny_pure ⟨Code.quiet_builtin _ (by decide +kernel), codeAny_builtin F.entry_type_call ?_⟩
  rw [Around.under_plain (weight_type_call_type "set" [.ref l] []) rfl]
  have q1 := F.called_set.notType
  have q2 := F.called_set.canCreate
  have q3 := F.typeCall_set_1 (.ref l)
  repeat (any_goals (first | assumption | wp_step))
  refine codeAny_mono (code_set_led1 (.ref l) (E := E) (Q₁ := fun ob s1 => ob = .ref s.heap.objs.size ∧ s1 = { s with heap := s.heap.push (nSet w) }) ⟨rfl, rfl⟩) fun r s1 hr => ?_
  cases r with
  | error e => exact hr
  | ok fl =>
    cases fl with
    | ret ob =>
      obtain ⟨rfl, rfl⟩ := hr
      have nS : (s.heap.push (nSet w)).get? s.heap.objs.size = some (nSet w) := Heap.get?_push_size _ rfl
      have ty : Shared.TypeIs { s with heap := s.heap.push (nSet w) } (.ref s.heap.objs.size) "set" := ⟨_, nS, rfl⟩
      have li := F.called_set.init.lookup
      have bi := F.called_set.init.bind (.ref s.heap.objs.size)
      repeat (any_goals (first | assumption | wp_step))
      refine codeAny_mono (codeAny_call_builtin (R := wants (fun r s2 => r = .none ∧ ∃ g tk c, s2 = { s with heap := g, toks := tk } ∧ SetR w g s.heap.objs.size (fun j => decide (j ∈ ms)) c ∧ c ≤ ms.length ∧ (∀ b o, s.heap.get? b = some o → g.get? b = some o)) E) F.called_set.init.plain F.entry_set_init (check_set_init_1 ty ?_)) fun r2 s2 hr2 => ?_
      · have l1 : (s.heap.push (nSet w)).IsList l items := hl.push _
        have lty : Shared.TypeIs { s with heap := s.heap.push (nSet w) } (.ref l) "list" := l1.typeIs
        obtain ⟨ol, hol, hcl, el, hdl⟩ := id hl
        obtain ⟨oc, od, odt, os⟩ := ol
        simp only at hcl hdl
        subst hcl; subst hdl
        have hol' : (s.heap.push (nSet w)).get? l = some { cls := .type "list", dict := od, data := .seq items el, slots := os } := Heap.get?_push_of_some _ hol
        have b1 := F.sub_list_set
        have b2 := F.sub_list_frozenset
        have nd : (Value.type "list" == Value.type "dict") = false := by decide
        unfold Builtin.«set.__init__» noKeywords Builtin.Frozenset.updateFrom
        generalize hPI : pyIter = PI
        wp_walk
        subst hPI
        refine wpAny_pyIter_list l1 (wpAny_bind (wpAny_runValue ?_))
        have lS : l < s.heap.objs.size := Heap.lt_size hol
        have hh3 : A.in1.in1.in1.handled = none := by simp [hh]
        have neI : l ≠ (s.heap.push (nSet w)).objs.size := by rw [Heap.size_push]; exact Nat.ne_of_lt (Nat.lt_succ_of_lt lS)
        have nf : s.heap.objs.size ∉ [(s.heap.push (nSet w)).objs.size, l] := by
          rw [Heap.size_push]
          simp only [List.mem_cons, List.mem_singleton, List.not_mem_nil, or_false, not_or]
          exact ⟨Nat.ne_of_lt (Nat.lt_succ_self _), Nat.ne_of_gt lS⟩
        have val : ∀ (i : Nat) (v : Value), items[i]? = some v → ∃ k t, ms[i]? = some k ∧ v = .int k t := fun i v hv => by
          have hi : i < ms.length := by rw [← isz]; exact (Array.getElem?_eq_some_iff.mp hv).1
          obtain ⟨t, e⟩ := PyProof.Rows.IntsAre.int_at im i v (by rw [Array.getElem?_toList]; exact hv)
          refine ⟨ms[i], t, List.getElem?_eq_getElem hi, ?_⟩
          rw [e, List.getD_eq_getElem?_getD, List.getElem?_eq_getElem hi] <;> rfl
        refine set_update_ints ((Walks.list hh3 _ l neI items).toS) s.heap.objs.size nf ms isz hb val (items.size - 0) 0 _ (by omega) (Nat.zero_le _) ⟨⟨_, Heap.get?_push_size _ rfl, rfl, rfl⟩, (l1.push _)⟩ ?hS0 ?hR
        case hS0 => exact ⟨0, Nat.le_refl 0, setR_new_at (Heap.get?_push_of_some _ nS)⟩
        case hR =>
          rintro ⟨g, g2, d2, tk2, os2⟩ c2 hm hc2 hS2
          have eg : g2 = s.gens := hm.gens
          have ed : d2 = s.drawn := hm.drawn
          have eo : os2 = s.os := hm.os
          subst eg; subst ed; subst eo
          show wpAny _ _ _ _ _ _
          refine wpAny_pure ?_
          show wpAny _ _ (ret Value.none) _ _ _
          rw [isz] at hc2
          refine wpAny_pure ⟨rfl, g, tk2, c2, rfl, hS2, hc2, fun b o e => ?_⟩
          have h0 : b < s.heap.objs.size := Heap.lt_size e
          refine hm.heap b o ?_ (Heap.get?_push_of_some _ (Heap.get?_push_of_some _ e))
          rw [Heap.size_push]
          simp only [List.mem_cons, List.mem_singleton, List.not_mem_nil, or_false, not_or]
          exact ⟨Nat.ne_of_lt h0, Nat.ne_of_lt (Nat.lt_succ_of_lt h0)⟩
      · cases r2 with
        | error e => exact hr2
        | ok f2 =>
          cases f2 with
          | ret r =>
            obtain ⟨rfl, g, tk, c2, rfl, hS2, hc2, hk2⟩ := hr2
            repeat (any_goals (first | assumption | wp_step))
            exact h _ _ _ hS2 hc2 hk2
          | _ => exact hr2.elim
    | _ => exact hr.elim
section
variable {X : Cx} {K : PySem.W.Frag}
def rSetL (w : World) (K : PySem.W.Frag) : List V → Hp → VK → Prop := fun vs H Q => ∃ (a : Addr) (ns : List Int), vs = [.ref a] ∧ SqL K H a (ns.map V.int) ∧ ns.length ≤ 4000 ∧
  ∀ (p : Addr) (c : Nat), H p = none → c ≤ ns.length → (∀ m : List Int, (∀ k ∈ ns, k ∈ m) → c ≤ m.length) → Q (.ref p) (upd H p (SetO w p (fun j => decide (j ∈ ns)) c))
theorem setLK {w : World} (hc : X.calm = true := by rfl) (hw : X.w = w := by rfl) (hK : X.K = K := by rfl) : CallR X (.type "set") (rSetL w K) := by
  subst hw hK
  intro pins s σ H vs us Q I r h
  obtain ⟨a, ns, rfl, hs, hz, q⟩ := h
  obtain ⟨its, rv, ht, _⟩ := I.list hs
  rw [Vals.ref1 r]
  have hi : IntsAre its.toArray.toList ns := by simpa using rv.ints
  refine set_of_list ns (I.ok.hd hc) ht.isList hi (Nat.lt_of_le_of_lt (Nat.succ_le_succ hz) (by decide)) fun h' tk c R hcl hk => ?_
  refine ⟨.ref _, _, I.laid hk (Nat.le_refl _) (setO_new R), rfl, q _ c (I.hok.fresh (Nat.le_refl _)) hcl fun m hm => ?_⟩
  obtain ⟨o, es, ep, t, _, _, _, _, nd, mem, _, _, sz, _⟩ := R
  have le : (es.toList.map keyOf).length ≤ m.length := nd.length_le_of_subset fun k hk => hm k (of_decide_eq_true ((mem k).2 hk))
  rw [List.length_map, Array.length_toList, sz] at le
  exact le
theorem pe_revLK {e : Expr} {te : TE} {k : Nat} {p1 p2 p3 pos : Pos} (he : PE X e te) (hK : X.K = K := by rfl) : PE X (.Subscript e (.Slice none none (some (.UnaryOp .USub (.Constant (.int 1) k p1) p2)) p3) pos) (tRevL K te) := hK ▸ pe_revL he
end
end RL
/-! t[::-1], t a tuple. -/
namespace RL
open PySem PySem.Spec PyProof.Rows L2
theorem turned_pick (xs : Array Value) : ((List.range xs.size).filterMap fun (m : Nat) => xs[(((xs.size : Nat) : Int) - 1 + (m : Int) * (-1)).toNat]?).toArray = xs.toList.reverse.toArray := by
  congr 1
  have e : ∀ m ∈ List.range xs.size, xs[(((xs.size : Nat) : Int) - 1 + (m : Int) * (-1)).toNat]? = ((fun k => xs[k]?) ∘ fun k => xs.size - 1 - k) m := fun m hm => by
    have hm := List.mem_range.mp hm
    rw [show (((xs.size : Nat) : Int) - 1 + (m : Int) * (-1)).toNat = xs.size - 1 - m by omega]
    rfl
  have fc : ∀ (l : List Nat) (f g : Nat → Option Value), (∀ m ∈ l, f m = g m) → l.filterMap f = l.filterMap g := fun l f g h => by
    induction l with
    | nil => rfl
    | cons x l ih => rw [List.filterMap_cons, List.filterMap_cons, h x (by simp), ih fun m hm => h m (List.mem_cons_of_mem _ hm)]
  rw [fc _ _ _ e, ← List.filterMap_map, PySem.W.krv_range, List.filterMap_reverse, PySem.W.krv_all]
theorem turned_adjust (n : Nat) : Builtin.Slice.sliceAdjust none none (-1) (n : Int) = ((n : Int) - 1, -1) := by
  unfold Builtin.Slice.sliceAdjust
  simp
theorem turned_places (n : Nat) : Builtin.Slice.slicePlaces ((n : Int) - 1) (-1) (-1) = n := by
  unfold Builtin.Slice.slicePlaces
  have h1 : ¬ ((-1 : Int) > 0) := by decide
  simp only [h1, if_false, Int.neg_neg, Int.ediv_one]
  split <;> omega
section
variable {prog : Program} {w : World} {A : Around} {E : Value → Shared → Prop} {s : Shared}
theorem turned_applied {sl : Addr} {vl vu vs : Value} {n : Nat} {Q : Int × Int × Nat → Shared → Prop} (hs : s.heap.IsSliceOf sl vl vu vs) (pl : IsPart vl none) (pu : IsPart vu none) (ps : IsPart vs (some (-1)))
    (h : Q ((n : Int) - 1, -1, n) s) : wpAny (model prog w) A (Builtin.Slice.sliceApplied (.ref sl) (pure (n : Int))) Q E s := by
  obtain ⟨os, ho, hc, hd⟩ := id hs
  unfold Builtin.Slice.sliceApplied Builtin.Slice.sliceFields
  refine wpAny_bind (wpAny_bind (wpAny_field ho hd (x := vl) rfl (wpAny_bind (wpAny_field ho hd (x := vu) rfl (wpAny_bind (wpAny_field ho hd (x := vs) rfl (wpAny_pure ?_)))))))
  refine wpAny_bind (HT.slicePart_ ps ?_)
  show wpAny _ _ (if ((-1 : Int) == 0) = true then _ else _) _ _ s
  rw [if_neg (by decide)]
  refine wpAny_bind (HT.slicePart_ pl (wpAny_bind (HT.slicePart_ pu (wpAny_bind (wpAny_pure ?_)))))
  show wpAny _ _ (match Builtin.Slice.sliceAdjust none none (-1) (n : Int) with | (lo, hi) => pure (lo, (-1 : Int), Builtin.Slice.slicePlaces lo hi (-1))) _ _ s
  rw [turned_adjust]
  show wpAny _ _ (pure ((n : Int) - 1, (-1 : Int), Builtin.Slice.slicePlaces ((n : Int) - 1) (-1) (-1))) _ _ s
  rw [turned_places]
  exact wpAny_pure h
theorem turned_item {t sl : Addr} {items : Array Value} {vl vu vs : Value} {Q : Value → Shared → Prop} (ht : IsTup s.heap t items) (hs : s.heap.IsSliceOf sl vl vu vs) (pl : IsPart vl none) (pu : IsPart vu none) (ps : IsPart vs (some (-1)))
    (h : Q (.ref s.heap.objs.size) { s with heap := s.heap.push { cls := .type "tuple", data := .seq items.toList.reverse.toArray } }) (hz : items.size ≤ sizeLine) : wpAny (model prog w) A (getItem (.ref t) (.ref sl)) Q E s := by
  have fits : sizeOk (.seq items.toList.reverse.toArray) := by
    show items.toList.reverse.toArray.size ≤ sizeLine
    rw [List.size_toArray, List.length_reverse, Array.length_toList]
    exact hz
  obtain ⟨os, ho, hc, hd⟩ := id hs
  have ty : s.TypeIs (.ref sl) "slice" := ⟨os, ho, hc⟩
  unfold getItem
  try with_reducible refine wpAny_holding ?_
  first | refine wpAny_bind (wpAny_pure ?_) | skip
  refine wpAny_bind (wpAny_sequenceKey ht.typeIs (by decide) (wpAny_bind (wpAny_callSpecial?_slot (name := Str.ofString "__getitem__") ht.typeIs PyProof.Rows.slot_tuple_getitem (wpAny_call_entry PyProof.Rows.slot_tuple_getitem ht.typeIs PyProof.Rows.entry_tuple_getitem ?_ (PyProof.Rows.args_tuple_getitem _ _)))))
  show wpAny _ _ (Builtin.Tuple.tupleItemsOf (.ref t) >>= _) _ _ s
  refine wpAny_bind (tupleItemsOf_ ht (wpAny_bind (wpAny_typeOf ty ?_)))
  rw [if_pos (by decide)]
  refine wpAny_bind (turned_applied hs pl pu ps ?_)
  have no : ¬ ((((items.size : Nat) : Int) - 1 == 0 && (-1 : Int) == 1 && items.size == items.size) = true) := by simp
  show wpAny _ _ (if (((items.size : Nat) : Int) - 1 == 0 && (-1 : Int) == 1 && items.size == items.size) = true then _ else _) _ _ s
  rw [if_neg no, turned_pick]
  first
    | exact wpAny_bind (m := Builtin.Tuple.tupleExact _) (wpAny_newObj_type (wpAny_pure ⟨_, rfl, wpAny_pure h⟩) fits)
    | exact wpAny_bind (m := Builtin.Tuple.tupleExact _) (wpAny_newObj_type (wpAny_bind (wpAny_pure (wpAny_pure ⟨_, rfl, wpAny_pure h⟩))) fits)
    | exact wpAny_bind (wpAny_bind (m := Builtin.Tuple.tupleExact _) (wpAny_newObj_type (wpAny_pure (wpAny_pure ⟨_, rfl, wpAny_pure h⟩)) fits))
    | exact wpAny_bind (wpAny_bind (m := Builtin.Tuple.tupleExact _) (wpAny_newObj_type (wpAny_pure ⟨_, rfl, wpAny_pure h⟩) fits))
end
section
variable {X : Cx} {K : PySem.W.Frag}
theorem pe_revT {e : Expr} {te : TE} {k : Nat} {p1 p2 p3 pos : Pos} (he : PE X e te) (hK : X.K = K := by rfl) : PE X (.Subscript e (.Slice none none (some (.UnaryOp .USub (.Constant (.int 1) k p1) p2)) p3) pos) (tRevT K te) := by
  subst hK
  refine ⟨fun pins s σ H Q I h => Subscript_ (thn (he.run pins s σ H _ I h) fun v s1 ⟨x, H1, I1, r1, q1⟩ => ?_)⟩
  obtain ⟨a, xs, rfl, hx, q⟩ := q1
  cases r1
  have stp : PO X (some (.UnaryOp .USub (.Constant (.int 1) k p1) p2)) (tPart (tUn (rU fun i => .int (-i)) (tC (.int 1)))) := po_some (pe_un un_neg pe_int)
  refine wpAny_Slice (thn (po_none.run pins s1 σ H1 (fun o H2 => o = none ∧ H2 = H1) I1 ⟨rfl, rfl⟩) fun vl s2 ⟨l, H2, I2, pl, el, e2⟩ => ?_)
  subst el e2
  refine thn (po_none.run pins s2 σ H2 (fun o H3 => o = none ∧ H3 = H2) I2 ⟨rfl, rfl⟩) fun vu s3 ⟨u, H3, I3, pu, eu, e3⟩ => ?_
  subst eu e3
  refine thn (stp.run pins s3 σ H3 (fun o H4 => o = some (-1) ∧ H4 = H3) I3 ⟨1, rfl, -1, rfl, rfl, rfl⟩) fun vs s4 ⟨o, H4, I4, ps, eo, e4⟩ => ?_
  subst eo e4
  have I5 : Inv X pins σ H4 { s4 with heap := s4.heap.push { cls := .type "slice", data := .fields #[vl, vu, vs] } } := I4.kept (t' := s4.toks) fun b ob q => Heap.get?_push_of_some _ q
  obtain ⟨its, r, ht, hz⟩ := I5.tuple hx
  have len := r.length
  show wpAny (model X.prog X.w) X.A (subscriptTail e (.Slice none none (some (.UnaryOp .USub (.Constant (.int 1) k p1) p2)) p3) (.ref a) (.ref s4.heap.objs.size)) (EP X pins σ Q) X.xe { s4 with heap := s4.heap.push { cls := .type "slice", data := .fields #[vl, vu, vs] } }
  refine tail_any (ops := [.ref a, .ref s4.heap.objs.size]) ht.typeIs (PyProof.Rows.slot_tuple_getitem.lookup) ?_ (by with_unfolding_all rfl)
  refine turned_item ht (Heap.IsSliceOf.new _ vl vu vs) pl pu ps ?_ (by rw [List.size_toArray]; omega)
  refine ⟨.ref _, _, I5.laid (t' := s4.toks) (o := .tup xs.reverse) (fun b ob q => Heap.get?_push_of_some _ q) (Nat.le_refl _) ?_, rfl, q _ (I5.hok.fresh (Nat.le_refl _))⟩
  exact ⟨by rw [List.length_reverse]; exact hz, _, r.reverse, IsTup.new _ _⟩
theorem sumK (hc : X.calm = true := by rfl) (h : X.K = K := by rfl) : CallR X (.builtin "sum") (rSum K) := h ▸ cr_sum hc
theorem catA (h : X.K = K := by rfl) : OpR X (binaryOp .Add) (rCatA K) := h ▸ op_catA
theorem slTA (h : X.K = K := by rfl) : SlR X (rSlA K) := h ▸ sl_tupA
theorem same_new {H : Hp} {p : Addr} {o : HO} (h : H p = none) : Same H (upd H p o) := fun b u e => by
  rw [upd_ne (ne_of_none e h)]
  exact e
/-- t[lo:hi] of a tuple, whichever it is -/
def rSlS : V → Option Int → Option Int → Hp → VK → Prop := fun x lo hi H Q => ∃ a xs, x = .ref a ∧ H a = some (.tup xs) ∧ ∀ q H', H' q = some (.tup (cutV xs lo hi)) → Same H H' → Q (.ref q) H'
theorem slTS : SlR X rSlS := by
  intro pins s σ H x v vl vu lo hi sl Q I rx hs pl pu h
  obtain ⟨a, xs, rfl, ha, q⟩ := h
  refine sl_tupA pins s σ H (.ref a) v vl vu lo hi sl Q I rx hs pl pu ⟨a, xs, rfl, .inl (.inl ha), fun hw => q a H ?_ fun _ _ e => e, fun _ p hp => q p _ upd_same (same_new hp)⟩
  unfold cutV
  rw [hw.1, hw.2, List.drop_zero, Nat.sub_zero, List.take_length]
  exact ha
/-- t + u of two tuples, whichever it is -/
def rCatS : R2 := fun x y H Q => ∃ a b xs ys, x = .ref a ∧ y = .ref b ∧ H a = some (.tup xs) ∧ H b = some (.tup ys) ∧ xs.length + ys.length ≤ sizeLine ∧ ∀ q H', H' q = some (.tup (xs ++ ys)) → Same H H' → Q (.ref q) H'
theorem catS : OpR X (binaryOp .Add) rCatS := by
  intro pins s σ H x y v u Q I rx ry h
  obtain ⟨a, b, xs, ys, rfl, rfl, ha, hb, hz, q⟩ := h
  refine op_catA pins s σ H (.ref a) (.ref b) v u Q I rx ry ⟨a, b, xs, ys, rfl, rfl, .inl (.inl ha), .inl (.inl hb), hz, fun e => q b H ?_ fun _ _ e => e, fun _ e => q a H ?_ fun _ _ e => e, fun _ _ p hp => q p _ upd_same (same_new hp)⟩
  · rw [e]
    exact hb
  · rw [e, List.append_nil]
    exact ha
end
end RL
/-! what is asked is tried: told, or the word and the field of what is refused -/
namespace RL
open PySem PySem.Spec PyProof.Rows L2
section
variable {P : Program} {w : World} {K : PySem.W.Frag} {mg : Str → Option Value} {base : Heap}
/-- a(), within a try, the wish at the slots as they are -/
theorem pe_actAt {N : List Str} {qual a : Str} {scope : Scope} {g f : Addr} {cdv : Value} {A : Around} {outer : List Env} {s : Shared} {H : Hp} {tl : XK → Hp → VK → Prop} {kl i : Nat} {p1 p2 : Pos} {pn : List (Addr × Obj)} {xe : Value → Shared → Prop} {W : WX} (act : RLX.LamAct P w K mg base kl (frs outer) s H f tl)
    (tk : L2N.Takes ((cxOf CX0 P w K mg base N qual scope g cdv A outer s H E0).nox.tr pn xe) W) (hr : Room kl (A.deeper (envOfC qual scope s.heap.objs.size g cdv))) (hN : N[i]? = some a) (hv : Vis scope a) (hd : (a == ("__debug__" : Str)) = false := by decide) (hcd : (a == ("__classdict__" : Str)) = false := by decide) :
    PE ((cxOf CX0 P w K mg base N qual scope g cdv A outer s H E0).nox.tr pn xe) (.Call (.Name a p1) [] [] p2) (fun σZ HZ Q => σZ[i]? = some (some (.ref f)) ∧ ∃ E : XK, (∀ cls d H', E cls d H' → W cls d σZ H') ∧ tl E HZ Q) := by
  refine ⟨fun pins sZ σZ HZ Q IZ h => ?_⟩
  obtain ⟨hs, E, hW, ht⟩ := h
  refine wpAny_Call_Name_kw (thn ((pe_var (pos := p1) (i := i) hN hv hd hcd).run pins sZ σZ HZ (fun v H1 => v = .ref f ∧ H1 = HZ) IZ ⟨.ref f, hs, rfl, rfl⟩) fun u s1 ⟨v, H1, I1, r1, ev, eH⟩ => ?_)
  subst ev
  rw [eH] at I1
  obtain rfl : u = Value.ref f := r1
  have un : Un (frs outer) [] H HZ s.heap s1.heap := I1.base
  refine PySem.W.callWith_F0 (act.fn s1 HZ I1.hok un) (wpAny_call (codeAny_mono (act.run _ _ s1 HZ Q E hr I1.env0 un ht) fun r s' hq => ?_))
  cases r with
  | error e => exact tk e s' (L2N.XE.of_call I1 (fun cls d H' z => hW cls d H' z) hq)
  | ok fl =>
    cases fl with
    | ret u => exact I1.after hq
    | next => exact hq.elim
    | brk => exact hq.elim
    | cont => exact hq.elim
theorem pss_some {X : Cx} {sts : List Stmt} {α : Type} {t : α → TS} (h : ∀ x, PSs X sts (t x)) : PSs X sts (fun D σ H => ∃ x, t x D σ H) := ⟨fun pins s σ H D I ⟨x, q⟩ => (h x).run pins s σ H D I q⟩
theorem pss_if {X : Cx} {sts : List Stmt} {p : Prop} {t : TS} (h : p → PSs X sts t) : PSs X sts (fun D σ H => p ∧ t D σ H) := ⟨fun pins s σ H D I ⟨x, q⟩ => (h x).run pins s σ H D I q⟩
theorem exA_of {X : Cx} {a C dd : Addr} {oe : Obj} {cls : Value} {d : Option Addr} {pn : List (Addr × Obj)} (hz : L2N.Zn cls d oe) (hf : ∃ vs, oe.data = .fields vs) (e1 : cls = .ref C) (e2 : d = some dd) : RLX.ExA (X.suite a ((a, oe) :: pn)) a C dd := by
  subst e1 e2
  obtain ⟨vs, hd⟩ := hf
  exact ⟨⟨oe, vs, List.mem_cons_self, hz, hd⟩, rfl⟩
/-- an exception of the name n, as it is caught -/
def ExQ (K : PySem.W.Frag) (Q : V → V → Hp → Prop) : XK := fun cls d H' => ∃ (n : Str) (dd : Addr) (fs : List (Str × V)) (v : V), cls = .ref (He.ga K n) ∧ d = some dd ∧ n ∈ RLX.allX ∧ Exn K n (He.ga K n) dd fs H' ∧ PySem.W.exmAny K (.ref (He.ga K n)) (RLX.caught K) = some true ∧ fs.lookup ("word" : Str) = some (V.str n) ∧
  (match fldOf n with | some f => fs.lookup f = some v | none => v = .non) ∧ ∀ H2, Same H' H2 → Q (.str n) v H2
def ttTried (K : PySem.W.Frag) : RLX.TTL := fun tl H Q => ∀ (H1 : Hp) (E' : XK) (Q' : VK), Same H H1 → (∀ cls d H', ExQ K (fun x v H2 => ∀ t, H2 t = none → Q (.ref t) (upd H2 t (.tup [.non, x, v]))) cls d H' → E' cls d H') → (∀ v H', (∀ t, H' t = none → Q (.ref t) (upd H' t (.tup [v, .str "", .non]))) → Q' v H') → tl E' H1 Q'
theorem sc__law_tried : FnScope ["_law_ask", "_law_told", "_law_word_here", "_law_field_here", "_law_e"] ["_law_ask"] (defScope s__law_tried) := ⟨rfl, rfl, rfl, by decide +kernel, rfl, by decide +kernel, by decide +kernel⟩
theorem okl_tried (T : Tx K mg) {kl : Nat} : RLX.FnL P w K mg base (Nat.max 2 kl + 1) kl (He.ga K "_law_tried") (ttTried K) := by
  obtain ⟨fd_w, F_w, b_w⟩ := okx_word (P := P) (w := w) (base := base) T
  obtain ⟨fd_f, F_f, b_f⟩ := okx_field (P := P) (w := w) (base := base) T
  have kw : PySem.W.keepIn K (.ref (He.ga K "_law_word")) = true := by
    obtain ⟨_, F'⟩ := T.d__law_word
    exact F'.kp
  have kf : PySem.W.keepIn K (.ref (He.ga K "_law_field")) = true := by
    obtain ⟨_, F'⟩ := T.d__law_field
    exact F'.kp
  obtain ⟨fd, F⟩ := T.d__law_tried
  refine RLX.fnL_of F sc__law_tried (F.bindsN fun _ _ _ _ _ _ us hl => match us, hl with | [_], _ => rfl) fun cdv A outer s H f Q tl hr act h => ?_
  have hr2 : Room 2 (A.deeper (envOfC "_law_tried" (defScope s__law_tried) s.heap.objs.size (He.ga K "_law_tried") cdv)) := hr.mono (Nat.le_max_left _ _)
  have hrl : Room kl (A.deeper (envOfC "_law_tried" (defScope s__law_tried) s.heap.objs.size (He.ga K "_law_tried") cdv)) := hr.mono (Nat.le_max_right _ _)
  refine ⟨_, pss_cons (ps_asg (pe_tup (pa_cons pe_non (pa_cons pe_str (pa_cons pe_non pa_nil)))) (pgT (K := K) (n := 3) rfl (pgs_cons (pg_name (i := 1) sc__law_tried.nd rfl (Or.inl rfl)) (pgs_cons (pg_name (i := 2) sc__law_tried.nd rfl (Or.inl rfl)) (pgs_cons (pg_name (i := 3) sc__law_tried.nd rfl (Or.inl rfl)) pgs_nil)))))
    (pss_cons (RLX.ps_tryT (i := 4) (x1 := "RoamError") (x2 := "Missing") (x3 := "NothingLeft") (tb := fun W => tAsg (fun σZ HZ Q => σZ[0]? = some (some (.ref f)) ∧ ∃ E : XK, (∀ cls d H', E cls d H' → W cls d σZ H') ∧ tl E HZ Q) (gName 1))
      (ts := fun a cls d D σ H => ∃ C, ∃ dd, cls = .ref C ∧ d = some dd ∧ tSeq (tAsg (fun σ H Q => tCons (tVar 4) tNil σ H fun vs H1 => spWord K a C dd vs H1 Q) (gName 2)) (tAsg (fun σ H Q => tCons (tVar 4) tNil σ H fun vs H1 => spField K a C dd vs H1 Q) (gName 3)) D σ H)
      rfl rfl sc__law_tried.nd rfl rfl rfl T.glo_RoamError (by decide) rfl T.glo_Missing (by decide) rfl T.glo_NothingLeft (by decide)
      (fun W pn xe tk => pss_one (ps_set (i := 1) sc__law_tried.nd rfl (Or.inl rfl) (pe_actAt (i := 0) act tk hrl rfl (Or.inl rfl))))
      (fun a oe cls d pn hz hf => pss_some fun C => pss_some fun dd => pss_if fun e1 => pss_if fun e2 =>
        pss_cons (ps_set (i := 2) sc__law_tried.nd rfl (Or.inl rfl) (RLX.pe_callX F_w ⟨hr2.dp, hr2.un⟩ (exA_of hz hf e1 e2) rfl T.glo_law_word kw b_w (pa_cons (pv 4) pa_nil))) (pss_one (ps_set (i := 3) sc__law_tried.nd rfl (Or.inl rfl) (RLX.pe_callX F_f (L2H.RoomH.mono (k := 2) ⟨hr2.dp, hr2.un⟩ (by decide)) (exA_of hz hf e1 e2) rfl T.glo_law_field kf b_f (pa_cons (pv 4) pa_nil))))))
    (pss_one (ps_ret (pe_tup (pa_cons (pv 1) (pa_cons (pv 2) (pa_cons (pv 3) pa_nil))))))), ?_⟩
  refine ⟨(by show 3 ≤ sizeLine; decide), fun p np => ⟨p, _, rfl, SqT.of upd_same, rfl, _, _, rfl, _, _, rfl, _, _, rfl, rfl, ?_⟩⟩
  refine ⟨rfl, ExQ K (fun x v H2 => ∀ t, H2 t = none → Q (.ref t) (upd H2 t (.tup [.non, x, v]))), fun cls d H' hx => ?_, h _ _ _ (sn (Same.refl H) np) (fun _ _ _ z => z) fun v H' k => ?_⟩
  · obtain ⟨n, dd, fs, v, rfl, rfl, hn, En, hx, hw, hv, k⟩ := hx
    refine ⟨hx, fun a na => ⟨_, dd, rfl, rfl, ?_⟩⟩
    refine ⟨_, rfl, n, fs, rfl, hn, hw, En, fun H2 s2 => ⟨_, rfl, n, fs, v, rfl, En.same s2, hv, fun H3 s3 => ?_⟩⟩
    exact ⟨_, rfl, _, rfl, _, rfl, (by show 3 ≤ sizeLine; decide), fun t nt => k H3 (s2.trans s3) t nt⟩
  · exact ⟨_, rfl, _, rfl, _, rfl, (by show 3 ≤ sizeLine; decide), fun t nt => k t nt⟩
/-- .. its word and field alone -/
def ttRefused (K : PySem.W.Frag) : RLX.TTL := fun tl H Q => ∀ (H1 : Hp) (E' : XK) (Q' : VK), Same H H1 → (∀ cls d H', ExQ K (fun x v H2 => ∀ H3 t, H3 t = some (.tup [x, v]) → Same H2 H3 → Q (.ref t) H3) cls d H' → E' cls d H') → tl E' H1 Q'
theorem sc__law_refused : FnScope ["_law_ask"] ["_law_ask"] (defScope s__law_refused) := ⟨rfl, rfl, rfl, by decide +kernel, rfl, by decide +kernel, by decide +kernel⟩
theorem okl_refused (T : Tx K mg) {kl : Nat} : RLX.FnL P w K mg base (Nat.max 2 kl + 2) kl (He.ga K "_law_refused") (ttRefused K) := by
  have Ft := okl_tried (P := P) (w := w) (base := base) T (kl := kl)
  have kt : PySem.W.keepIn K (.ref (He.ga K "_law_tried")) = true := by
    obtain ⟨_, F'⟩ := T.d__law_tried
    exact F'.kp
  obtain ⟨fd, F⟩ := T.d__law_refused
  refine RLX.fnL_of F sc__law_refused (F.bindsN fun _ _ _ _ _ _ us hl => match us, hl with | [_], _ => rfl) fun cdv A outer s H f Q tl hr act h => ?_
  refine ⟨_, pss_one (ps_ret (pe_slice slTS (RLX.pe_handL (i := 0) act Ft (Nat.le_refl _) hr rfl T.glo_law_tried kt rfl (Or.inl rfl)) (po_some pe_int) po_none)), ?_⟩
  refine ⟨rfl, fun H1 E' Q' s1 hE hQ => h H1 E' Q' s1 fun cls d H' hx => hE cls d H' ?_⟩
  obtain ⟨n, dd, fs, v, e1, e2, hn, En, hx, hw, hv, k⟩ := hx
  refine ⟨n, dd, fs, v, e1, e2, hn, En, hx, hw, hv, fun H2 s2 t nt => ?_⟩
  exact ⟨1, rfl, t, _, rfl, upd_same, fun q H3 hq s3 => k H2 s2 H3 q hq ((sn (Same.refl H2) nt).trans s3)⟩
end
end RL
/-! Walks on a board, how far places are, lots: plain mathematics. -/
namespace RLM
/-- a walk of so many ways -/
inductive Wk (E : List (Nat × Nat)) : Nat → Nat → Nat → Prop where
  | z (a : Nat) : Wk E 0 a a
  | s {k a b c : Nat} (h : Wk E k a b) (e : (b, c) ∈ E) : Wk E (k + 1) a c
def Near (E : List (Nat × Nat)) (m : Int) (a b : Nat) : Prop := ∃ k : Nat, (k : Int) ≤ m ∧ Wk E k a b
/-- all ways lie on n places -/
def On (n : Nat) (E : List (Nat × Nat)) : Prop := ∀ p ∈ E, p.1 < n ∧ p.2 < n ∧ p.1 ≠ p.2
theorem Wk.lt {n : Nat} {E : List (Nat × Nat)} (h : On n E) {k a b : Nat} (w : Wk E k a b) (ha : a < n) : b < n := by
  induction w with
  | z a => exact ha
  | s w e ih => exact (h _ e).2.1
theorem Wk.left {E : List (Nat × Nat)} {k a b c : Nat} (e : (a, b) ∈ E) (w : Wk E k b c) : Wk E (k + 1) a c := by
  induction w with
  | z b => exact .s (.z a) e
  | s w e2 ih => exact .s (ih e) e2
theorem Wk.turn {E F : List (Nat × Nat)} (h : ∀ a b, (a, b) ∈ E → (b, a) ∈ F) {k a b : Nat} (w : Wk E k a b) : Wk F k b a := by
  induction w with
  | z a => exact .z a
  | s w e ih => exact ih.left (h _ _ e)
theorem Wk.map {E F : List (Nat × Nat)} (f : Nat → Nat) (h : ∀ a b, (a, b) ∈ E → (f a, f b) ∈ F) {k a b : Nat} (w : Wk E k a b) : Wk F k (f a) (f b) := by
  induction w with
  | z a => exact .z _
  | s w e ih => exact .s ih (h _ _ e)
theorem Wk.mono {E F : List (Nat × Nat)} (h : ∀ p, p ∈ E → p ∈ F) {k a b : Nat} (w : Wk E k a b) : Wk F k a b := by
  induction w with
  | z a => exact .z _
  | s w e ih => exact .s ih (h _ e)
theorem near_refl {E : List (Nat × Nat)} {m : Int} {a : Nat} (h : 0 ≤ m) : Near E m a a := ⟨0, h, .z a⟩
theorem near_mono {E : List (Nat × Nat)} {m m' : Int} {a b : Nat} (h : m ≤ m') (x : Near E m a b) : Near E m' a b := by
  obtain ⟨k, h1, h2⟩ := x
  exact ⟨k, Int.le_trans h1 h, h2⟩
theorem near_turn {E F : List (Nat × Nat)} (h : ∀ a b, (a, b) ∈ E ↔ (b, a) ∈ F) {m : Int} {a b : Nat} : Near E m a b ↔ Near F m b a := by
  constructor
  · rintro ⟨k, h1, h2⟩
    exact ⟨k, h1, h2.turn fun a b => (h a b).1⟩
  · rintro ⟨k, h1, h2⟩
    exact ⟨k, h1, h2.turn fun a b => (h b a).2⟩
/-! ### how far: breadth first -/
/-- the lists of how far while the places that are l far are looked at -/
structure Lev (n : Nat) (E : List (Nat × Nat)) (a l : Nat) (fs : List (Option Nat)) (edge : List Nat) : Prop where
  len : fs.length = n
  some_ : ∀ (b d : Nat), fs[b]? = some (some d) → d ≤ l ∧ Wk E d a b ∧ ∀ k, Wk E k a b → d ≤ k
  none_ : ∀ b : Nat, fs[b]? = some none → ∀ k, Wk E k a b → l < k
  edge_ : ∀ b, b ∈ edge ↔ fs[b]? = some (some l)
theorem lev_start {n : Nat} {E : List (Nat × Nat)} {a : Nat} (ha : a < n) : Lev n E a 0 ((List.replicate n none).set a (some 0)) [a] := by
  refine ⟨by simp, fun b d h => ?_, fun b h k w => ?_, fun b => ?_⟩
  · rw [List.getElem?_set] at h
    by_cases e : a = b
    · subst e
      simp [ha] at h
      subst h
      exact ⟨Nat.le_refl _, .z _, fun k _ => Nat.zero_le _⟩
    · rw [if_neg e, List.getElem?_replicate] at h
      split at h <;> simp at h
  · rw [List.getElem?_set] at h
    by_cases e : a = b
    · subst e
      simp [ha] at h
    · cases w with
      | z => exact absurd rfl e
      | s w e2 => omega
  · rw [List.getElem?_set]
    by_cases e : a = b
    · subst e
      simp [ha]
    · rw [if_neg e, List.getElem?_replicate]
      simp
      exact fun h => e h.symm
/-- within a level: done are the ends looked at -/
structure Mid (n : Nat) (E : List (Nat × Nat)) (l : Nat) (fs0 : List (Option Nat)) (edge done : List Nat) (fs : List (Option Nat)) (bey : List Nat) : Prop where
  len : fs.length = n
  old : ∀ (b d : Nat), fs0[b]? = some (some d) → fs[b]? = some (some d)
  new : ∀ (b d : Nat), fs[b]? = some (some d) → fs0[b]? = some (some d) ∨ (fs0[b]? = some none ∧ d = l + 1 ∧ b ∈ bey)
  bey_ : ∀ b : Nat, b ∈ bey → fs0[b]? = some none ∧ fs[b]? = some (some (l + 1)) ∧ ∃ c, c ∈ edge ∧ (c, b) ∈ E
  done_ : ∀ o : Nat, o ∈ done → ∃ d, fs[o]? = some (some d)
  cnt : fs.count none + bey.length = fs0.count none
theorem mid_start {n l : Nat} {E : List (Nat × Nat)} {fs0 : List (Option Nat)} {edge : List Nat} (h : fs0.length = n) : Mid n E l fs0 edge [] fs0 [] :=
  ⟨h, fun _ _ h => h, fun _ _ h => .inl h, fun _ h => (by cases h), fun _ h => (by cases h), by simp⟩
theorem count_set : ∀ (fs : List (Option Nat)) (o d : Nat), fs[o]? = some none → (fs.set o (some d)).count none + 1 = fs.count none
  | [], o, d, h => by simp at h
  | x :: r, 0, d, h => by
    simp at h
    subst h
    simp
  | x :: r, o + 1, d, h => by
    simp at h
    have ih := count_set r o d h
    rw [List.set_cons_succ, List.count_cons, List.count_cons]
    omega
theorem Mid.hit {n l : Nat} {E : List (Nat × Nat)} {fs0 fs : List (Option Nat)} {edge done bey : List Nat} {o d : Nat} (M : Mid n E l fs0 edge done fs bey) (h : fs[o]? = some (some d)) : Mid n E l fs0 edge (done ++ [o]) fs bey :=
  ⟨M.len, M.old, M.new, M.bey_, fun p hp => (List.mem_append.mp hp).elim (M.done_ p) (fun hq => ⟨d, by rw [List.mem_singleton.mp hq]; exact h⟩), M.cnt⟩
theorem Mid.put {n l : Nat} {E : List (Nat × Nat)} {fs0 fs : List (Option Nat)} {edge done bey : List Nat} {o c : Nat} (M : Mid n E l fs0 edge done fs bey) (h0 : fs0.length = n) (h : fs[o]? = some none) (hc : c ∈ edge) (he : (c, o) ∈ E) :
    Mid n E l fs0 edge (done ++ [o]) (fs.set o (some (l + 1))) (bey ++ [o]) := by
  have hl : o < fs.length := (List.getElem?_eq_some_iff.mp h).1
  have h00 : fs0[o]? = some none := by
    have h1 : o < fs0.length := by rw [h0, ← M.len]; exact hl
    rw [List.getElem?_eq_getElem h1]
    cases e : fs0[o] with
    | none => rfl
    | some d =>
      have q := M.old o d (by rw [List.getElem?_eq_getElem h1, e])
      rw [h] at q
      cases q
  refine ⟨by simp [M.len], fun b d hb => ?_, fun b d hb => ?_, fun b hb => ?_, fun p hp => ?_, ?_⟩
  · have q := M.old b d hb
    rw [List.getElem?_set]
    by_cases e : o = b
    · subst e
      rw [h] at q
      cases q
    · rw [if_neg e]
      exact q
  · rw [List.getElem?_set] at hb
    by_cases e : o = b
    · subst e
      simp [hl] at hb
      exact .inr ⟨h00, hb.symm, by simp⟩
    · rw [if_neg e] at hb
      rcases M.new b d hb with q | ⟨q1, q2, q3⟩
      · exact .inl q
      · exact .inr ⟨q1, q2, List.mem_append_left _ q3⟩
  · rcases List.mem_append.mp hb with hb | hb
    · obtain ⟨q1, q2, q3⟩ := M.bey_ b hb
      refine ⟨q1, ?_, q3⟩
      rw [List.getElem?_set]
      by_cases e : o = b
      · subst e
        simp [hl]
      · rw [if_neg e]
        exact q2
    · rw [List.mem_singleton.mp hb]
      exact ⟨h00, by simp [hl], c, hc, he⟩
  · rw [List.getElem?_set]
    by_cases e : o = p
    · subst e
      exact ⟨l + 1, by simp [hl]⟩
    · rw [if_neg e]
      rcases List.mem_append.mp hp with hp | hp
      · exact M.done_ p hp
      · exact absurd (List.mem_singleton.mp hp).symm e
  · have q := count_set fs o (l + 1) h
    have q2 := M.cnt
    rw [List.length_append]
    simp
    omega
/-- a level's end -/
theorem Mid.next {n l a : Nat} {E : List (Nat × Nat)} {fs0 fs : List (Option Nat)} {edge done bey : List Nat} (M : Mid n E l fs0 edge done fs bey) (L : Lev n E a l fs0 edge) (hE : On n E) (ha : a < n) (hd : ∀ c o, c ∈ edge → (c, o) ∈ E → o ∈ done) : Lev n E a (l + 1) fs bey := by
  have key : ∀ b, fs[b]? = some none → fs0[b]? = some none := fun b h => by
    have hl : b < fs.length := (List.getElem?_eq_some_iff.mp h).1
    have h1 : b < fs0.length := by rw [L.len, ← M.len]; exact hl
    rw [List.getElem?_eq_getElem h1]
    cases e : fs0[b] with
    | none => rfl
    | some d =>
      have q := M.old b d (by rw [List.getElem?_eq_getElem h1, e])
      rw [h] at q
      cases q
  refine ⟨M.len, fun b d h => ?_, fun b h k w => ?_, fun b => ⟨fun h => (M.bey_ b h).2.1, fun h => ?_⟩⟩
  · rcases M.new b d h with q | ⟨q1, q2, q3⟩
    · obtain ⟨r1, r2, r3⟩ := L.some_ b d q
      exact ⟨Nat.le_succ_of_le r1, r2, r3⟩
    · subst q2
      obtain ⟨_, _, c, hc, he⟩ := M.bey_ b q3
      have r := (L.some_ c l ((L.edge_ c).1 hc)).2.1
      exact ⟨Nat.le_refl _, .s r he, fun k w => L.none_ b q1 k w⟩
  · have h0 := key b h
    have q := L.none_ b h0 k w
    rcases Nat.lt_or_ge (l + 1) k with c | c
    · exact c
    · exfalso
      have e : k = l + 1 := by omega
      subst e
      cases w with
      | s w e =>
        rename_i c
        have hc : c < n := w.lt hE ha
        have hcl : c < fs0.length := by rw [L.len]; exact hc
        have hcs : fs0[c]? = some (some l) := by
          rw [List.getElem?_eq_getElem hcl]
          cases z : fs0[c] with
          | none =>
            have := L.none_ c (by rw [List.getElem?_eq_getElem hcl, z]) l w
            omega
          | some d =>
            have hz : fs0[c]? = some (some d) := by rw [List.getElem?_eq_getElem hcl, z]
            obtain ⟨r1, r2, r3⟩ := L.some_ c d hz
            have r4 := r3 l w
            have r5 : l + 1 ≤ d + 1 := by
              have := L.none_ b h0 (d + 1) (.s r2 e)
              omega
            have : d = l := by omega
            rw [this]
        obtain ⟨d, hd2⟩ := M.done_ b (hd c b ((L.edge_ c).2 hcs) e)
        rw [h] at hd2
        cases hd2
  · rcases M.new b (l + 1) h with q | ⟨_, _, q3⟩
    · have := (L.some_ b _ q).1
      omega
    · exact q3
/-- what a list of how far tells -/
def Fars (n : Nat) (E : List (Nat × Nat)) (a : Nat) (fs : List (Option Nat)) : Prop := fs.length = n ∧ ∀ (b : Nat) (d : Option Nat), fs[b]? = some d → (∀ m : Int, (∃ k : Nat, d = some k ∧ (k : Int) ≤ m) ↔ Near E m a b)
theorem Lev.fars {n l a : Nat} {E : List (Nat × Nat)} {fs : List (Option Nat)} (L : Lev n E a l fs []) (hE : On n E) (ha : a < n) : Fars n E a fs := by
  have all : ∀ k b, Wk E k a b → ∃ d, fs[b]? = some (some d) := by
    intro k
    induction k with
    | zero =>
      intro b w
      cases w
      have hl : a < fs.length := by rw [L.len]; exact ha
      cases z : fs[a] with
      | none =>
        have := L.none_ a (by rw [List.getElem?_eq_getElem hl, z]) 0 (.z a)
        omega
      | some d => exact ⟨d, by rw [List.getElem?_eq_getElem hl, z]⟩
    | succ k ih =>
      intro b w
      have hb : b < n := w.lt hE ha
      have hbl : b < fs.length := by rw [L.len]; exact hb
      cases w with
      | s w e =>
        rename_i c
        obtain ⟨d, hd⟩ := ih c w
        obtain ⟨r1, r2, r3⟩ := L.some_ c d hd
        have r4 : d ≠ l := fun z => by
          subst z
          have := (L.edge_ c).2 hd
          cases this
        cases z : fs[b] with
        | none =>
          have := L.none_ b (by rw [List.getElem?_eq_getElem hbl, z]) (d + 1) (.s r2 e)
          omega
        | some d2 => exact ⟨d2, by rw [List.getElem?_eq_getElem hbl, z]⟩
  refine ⟨L.len, fun b d h m => ⟨?_, ?_⟩⟩
  · rintro ⟨k, rfl, hk⟩
    exact ⟨k, hk, (L.some_ b k h).2.1⟩
  · rintro ⟨k, hk, w⟩
    obtain ⟨d2, hd2⟩ := all k b w
    rw [h] at hd2
    have e : d = some d2 := Option.some.inj hd2
    subst e
    have := (L.some_ b d2 h).2.2 k w
    exact ⟨d2, rfl, by omega⟩
/-! ### lots -/
open Classical in
noncomputable def lotP (n : Nat) (p : Nat → Prop) : List Nat := (List.range n).filter fun b => decide (p b)
open Classical in
theorem mem_lotP {n : Nat} {p : Nat → Prop} {b : Nat} : b ∈ lotP n p ↔ b < n ∧ p b := by
  unfold lotP
  rw [List.mem_filter, List.mem_range, decide_eq_true_iff]
open Classical in
theorem lotP_congr {n : Nat} {p q : Nat → Prop} (h : ∀ b, b < n → (p b ↔ q b)) : lotP n p = lotP n q := by
  unfold lotP
  refine List.filter_congr fun b hb => ?_
  rw [decide_eq_decide]
  exact h b (List.mem_range.mp hb)
theorem sorted_eq : ∀ {xs ys : List Nat}, xs.Pairwise (· < ·) → ys.Pairwise (· < ·) → (∀ b, b ∈ xs ↔ b ∈ ys) → xs = ys
  | [], [], _, _, _ => rfl
  | [], y :: ys, _, _, h => by
    have := (h y).2 (by simp)
    cases this
  | x :: xs, [], _, _, h => by
    have := (h x).1 (by simp)
    cases this
  | x :: xs, y :: ys, h1, h2, h => by
    rw [List.pairwise_cons] at h1 h2
    have exy : x = y := by
      rcases List.mem_cons.mp ((h x).1 (by simp)) with e | e
      · exact e
      · rcases List.mem_cons.mp ((h y).2 (by simp)) with e2 | e2
        · exact e2.symm
        · have a := h1.1 y e2
          have b := h2.1 x e
          omega
    subst exy
    congr 1
    refine sorted_eq h1.2 h2.2 fun b => ⟨fun hb => ?_, fun hb => ?_⟩
    · rcases List.mem_cons.mp ((h b).1 (List.mem_cons_of_mem _ hb)) with e | e
      · have := h1.1 b hb
        omega
      · exact e
    · rcases List.mem_cons.mp ((h b).2 (List.mem_cons_of_mem _ hb)) with e | e
      · have := h2.1 b hb
        omega
      · exact e
theorem range_sorted (n : Nat) : (List.range n).Pairwise (· < ·) := List.pairwise_lt_range
theorem lotP_sorted (n : Nat) (p : Nat → Prop) : (lotP n p).Pairwise (· < ·) := (range_sorted n).filter _
theorem lotP_of {n : Nat} {p : Nat → Prop} {xs : List Nat} (h : xs.Pairwise (· < ·)) (hm : ∀ b, b ∈ xs ↔ b < n ∧ p b) : xs = lotP n p :=
  sorted_eq h (lotP_sorted n p) fun b => (hm b).trans mem_lotP.symm
theorem lotP_len (n : Nat) (p : Nat → Prop) : (lotP n p).length ≤ n := by
  have := List.length_filter_le (fun b => @decide (p b) (Classical.propDecidable _)) (List.range n)
  rw [List.length_range] at this
  exact this
end RLM
/-! zip of three things, each a list or a tuple. -/
namespace RL
open PySem PySem.Spec PyProof.Rows L2
abbrev IsTrip (h : Heap) (T : Addr) (a b c : Value) : Prop := h.get? T = some { cls := .type "tuple", data := .seq #[a, b, c] }
/-- what must not be the same -/
structure ZA3 (q ti to m1 m2 m3 d1 d2 d3 : Addr) : Prop where
  tiq : ti ≠ q
  toq : to ≠ q
  m1q : m1 ≠ q
  m2q : m2 ≠ q
  m3q : m3 ≠ q
  tito : ti ≠ to
  tim1 : ti ≠ m1
  tim2 : ti ≠ m2
  tim3 : ti ≠ m3
  tom1 : to ≠ m1
  tom2 : to ≠ m2
  tom3 : to ≠ m3
  m12 : m1 ≠ m2
  m13 : m1 ≠ m3
  m23 : m2 ≠ m3
  d1q : d1 ≠ q
  d2q : d2 ≠ q
  d3q : d3 ≠ q
  d2m1 : d2 ≠ m1
  d2to : d2 ≠ to
  d3m1 : d3 ≠ m1
  d3m2 : d3 ≠ m2
  d3to : d3 ≠ to
theorem za3_new {n d1 d2 d3 : Nat} (h1 : d1 < n) (h2 : d2 < n) (h3 : d3 < n) : ZA3 (n + 5) (n + 3) (n + 4) n (n + 1) (n + 2) d1 d2 d3 := by
  constructor <;> exact (show @Ne Nat _ _ from by omega)
section
variable {prog : Program} {w : World} {A : Around} {E : Value → Shared → Prop} {s : Shared}
theorem upd_trip {T : Addr} {a b c x : Value} {k : Nat} {Q : Unit → Shared → Prop} (hT : IsTrip s.heap T a b c)
    (h : ∀ g, g.get? T = some { cls := .type "tuple", data := .seq ((#[a, b, c] : Array Value).setIfInBounds k x) } → Heap.SameBut T s.heap g → Q () { s with heap := g }) : wpAny (model prog w) A (updateSeq T (·.setIfInBounds k x)) Q E s := by
  refine wpAny_updateSeq hT rfl (h _ ?_ (Heap.SameBut.update ..))
  rw [Heap.get?_update_self _ hT rfl]
  simp [Obj.mapSeq]
theorem z3_item {q ti to m1 m2 m3 d1 d2 d3 : Addr} {u1 u2 u3 : Bool} {n1 n2 n3 : Nat} {vs1 vs2 vs3 : Array Value} {x y z a b c : Value} {Q : Value → Shared → Prop} (D : ZA3 q ti to m1 m2 m3 d1 d2 d3)
    (zz : IsZip s.heap q ti to .none) (pi : IsTrip s.heap ti (.ref m1) (.ref m2) (.ref m3)) (po : IsTrip s.heap to a b c)
    (w1 : hIt u1 s.heap m1 d1 n1) (w2 : hIt u2 s.heap m2 d2 n2) (w3 : hIt u3 s.heap m3 d3 n3) (s1 : hSq u1 s.heap d1 vs1) (s2 : hSq u2 s.heap d2 vs2) (s3 : hSq u3 s.heap d3 vs3) (hx : vs1[n1]? = some x) (hy : vs2[n2]? = some y) (hz : vs3[n3]? = some z)
    (hq : ∀ g, IsZip g q ti to (rawInt s.heap.objs.size) → IsTrip g to x y z → hIt u1 g m1 d1 (n1 + 1) → hIt u2 g m2 d2 (n2 + 1) → hIt u3 g m3 d3 (n3 + 1) → IsTrip g s.heap.objs.size x y z → g.objs.size = s.heap.objs.size + 1 →
      (∀ e o, e ≠ q → e ≠ to → e ≠ m1 → e ≠ m2 → e ≠ m3 → s.heap.get? e = some o → g.get? e = some o) → Q (.ref s.heap.objs.size) { s with heap := g }) :
    wpAny (model prog w) A (Builtin.«zip.__next__» ⟨[.ref q], []⟩) (fun f s' => ∃ v, f = .done (.ret v) ∧ Q v s') E s := by
  show wpAny _ _ (field (.ref q) 2 >>= _) _ _ _
  refine wpAny_bind (wpAny_field zz rfl (x := .bool false) rfl ?_)
  show wpAny _ _ (field (.ref q) 3 >>= _) _ _ _
  refine wpAny_bind (wpAny_field zz rfl (x := .ref ti) rfl (wpAny_bind (wpAny_seqItems pi rfl ?_)))
  show wpAny _ _ (Builtin.SmallTypes.ownedTupleIsFree (.ref q) >>= _) _ _ _
  refine wpAny_bind ?_; unfold Builtin.SmallTypes.ownedTupleIsFree
  refine wpAny_bind (wpAny_field zz rfl (x := .none) rfl (wpAny_pure ?_))
  simp only [if_true]
  refine wpAny_bind (wpAny_rule (wpAny_bind (wpAny_field zz rfl (x := .ref to) rfl (wpAny_bind (wpAny_setField_rec zz (by simp) fun g1 zz1 b1 => ?_)))))
  replace zz1 : IsZip g1 q ti to .ellipsis := zz1
  refine wpAny_bind ?_
  simp only [List.zipIdx_nil, List.zipIdx_cons, List.forIn_nil, List.forIn_cons]
  refine wpAny_bind (wpAny_bind (wpAny_onRaise ?_))
  show wpAny _ _ (Builtin.SmallTypes.nextOf (.ref m1) >>= _) _ _ _
  refine wpAny_bind (half_item (w1.but b1.extBut D.m1q) (s1.but b1.extBut D.d1q) hx fun g2 v1 b2 => wpAny_pure ?_)
  have po2 : IsTrip g2 to a b c := b2.extBut _ _ D.tom1 (b1.extBut _ _ D.toq po)
  refine wpAny_bind (wpAny_seqItems po2 rfl (wpAny_bind (upd_trip po2 fun g3 po3 b3 => ?_)))
  replace po3 : IsTrip g3 to x b c := po3
  refine wpAny_bind (wpAny_letGo (wpAny_pure (wpAny_bind (wpAny_bind (wpAny_onRaise ?_)))))
  show wpAny _ _ (Builtin.SmallTypes.nextOf (.ref m2) >>= _) _ _ _
  refine wpAny_bind (half_item (((w2.but b1.extBut D.m2q).but b2.extBut D.m12.symm).but b3.extBut D.tom2.symm) (((s2.but b1.extBut D.d2q).but b2.extBut D.d2m1).but b3.extBut D.d2to) hy fun g4 v2 b4 => wpAny_pure ?_)
  have po4 : IsTrip g4 to x b c := b4.extBut _ _ D.tom2 po3
  refine wpAny_bind (wpAny_seqItems po4 rfl (wpAny_bind (upd_trip po4 fun g5 po5 b5 => ?_)))
  replace po5 : IsTrip g5 to x y c := po5
  refine wpAny_bind (wpAny_letGo (wpAny_pure (wpAny_bind (wpAny_bind (wpAny_onRaise ?_)))))
  show wpAny _ _ (Builtin.SmallTypes.nextOf (.ref m3) >>= _) _ _ _
  refine wpAny_bind (half_item (((((w3.but b1.extBut D.m3q).but b2.extBut D.m13.symm).but b3.extBut D.tom3.symm).but b4.extBut D.m23.symm).but b5.extBut D.tom3.symm) (((((s3.but b1.extBut D.d3q).but b2.extBut D.d3m1).but b3.extBut D.d3to).but b4.extBut D.d3m2).but b5.extBut D.d3to) hz fun g6 v3 b6 => wpAny_pure ?_)
  have po6 : IsTrip g6 to x y c := b6.extBut _ _ D.tom3 po5
  refine wpAny_bind (wpAny_seqItems po6 rfl (wpAny_bind (upd_trip po6 fun g7 po7 b7 => ?_)))
  replace po7 : IsTrip g7 to x y z := po7
  refine wpAny_bind (wpAny_letGo (wpAny_pure (wpAny_pure (wpAny_bind (wpAny_seqItems po7 rfl (wpAny_bind (wpAny_newTuple ?_)))))))
  have sz : g7.objs.size = s.heap.objs.size := by rw [b7.1, b6.1, b5.1, b4.1, b3.1, b2.1, b1.1]
  have zz7 : IsZip g7 q ti to .ellipsis := b7.extBut _ _ D.toq.symm (b6.extBut _ _ D.m3q.symm (b5.extBut _ _ D.toq.symm (b4.extBut _ _ D.m2q.symm (b3.extBut _ _ D.toq.symm (b2.extBut _ _ D.m1q.symm zz1)))))
  have old7 : ∀ e o, e ≠ q → e ≠ to → e ≠ m1 → e ≠ m2 → e ≠ m3 → s.heap.get? e = some o → g7.get? e = some o := fun e o c1 c2 c3 c4 c5 f => b7.extBut _ _ c2 (b6.extBut _ _ c5 (b5.extBut _ _ c2 (b4.extBut _ _ c4 (b3.extBut _ _ c2 (b2.extBut _ _ c3 (b1.extBut _ _ c1 f))))))
  have v17 : hIt u1 g7 m1 d1 (n1 + 1) := ((((v1.but b3.extBut D.tom1.symm).but b4.extBut D.m12).but b5.extBut D.tom1.symm).but b6.extBut D.m13).but b7.extBut D.tom1.symm
  have v27 : hIt u2 g7 m2 d2 (n2 + 1) := ((v2.but b5.extBut D.tom2.symm).but b6.extBut D.m23).but b7.extBut D.tom2.symm
  have v37 : hIt u3 g7 m3 d3 (n3 + 1) := v3.but b7.extBut D.tom3.symm
  have ql : q < g7.objs.size := Heap.lt_size zz7
  show wpAny _ _ (Builtin.SmallTypes.ownedTupleHandOut (.ref q) (.ref g7.objs.size) >>= _) _ _ _
  refine wpAny_bind ?_; unfold Builtin.SmallTypes.ownedTupleHandOut
  have zz8 : IsZip (g7.push { cls := .type "tuple", data := .seq #[x, y, z] }) q ti to .ellipsis := Heap.get?_push_of_some _ zz7
  refine wpAny_bind (wpAny_setField_rec zz8 (by simp) fun g9 zz9 b9 => ?_)
  replace zz9 : IsZip g9 q ti to (rawInt g7.objs.size) := zz9
  refine wpAny_setField_rec zz9 (by simp) fun g10 zz10 b10 => ?_
  replace zz10 : IsZip g10 q ti to (rawInt g7.objs.size) := zz10
  have up : ∀ e o, e ≠ q → g7.get? e = some o → g10.get? e = some o := fun e o c1 f => b10.extBut _ _ c1 (b9.extBut _ _ c1 (Heap.get?_push_of_some _ f))
  have t10 : IsTrip g10 g7.objs.size x y z := b10.extBut _ _ (Nat.ne_of_gt ql) (b9.extBut _ _ (Nat.ne_of_gt ql) (Heap.get?_push_size _ rfl))
  have sz10 : g10.objs.size = g7.objs.size + 1 := by rw [b10.1, b9.1, Heap.size_push]
  rw [sz] at zz10 t10 sz10
  refine wpAny_pure ⟨_, rfl, ?_⟩
  show Q (.ref g7.objs.size) _
  rw [sz]
  exact hq g10 zz10 (up _ _ D.toq po7) (v17.to fun o e => up _ o D.m1q e) (v27.to fun o e => up _ o D.m2q e) (v37.to fun o e => up _ o D.m3q e) t10 sz10 fun e o c1 c2 c3 c4 c5 f => up e o c1 (old7 e o c1 c2 c3 c4 c5 f)
theorem z3_end {q ti to m1 m2 m3 d1 d2 d3 : Addr} {u1 u2 u3 : Bool} {n1 n2 n3 : Nat} {vs1 vs2 vs3 : Array Value} {a b c : Value} {Q : Fin → Shared → Prop} (hh : A.handled = none) (D : ZA3 q ti to m1 m2 m3 d1 d2 d3)
    (zz : IsZip s.heap q ti to .none) (pi : IsTrip s.heap ti (.ref m1) (.ref m2) (.ref m3)) (po : IsTrip s.heap to a b c)
    (w1 : hIt u1 s.heap m1 d1 n1) (w2 : hIt u2 s.heap m2 d2 n2) (w3 : hIt u3 s.heap m3 d3 n3) (s1 : hSq u1 s.heap d1 vs1) (s2 : hSq u2 s.heap d2 vs2) (s3 : hSq u3 s.heap d3 vs3) (he : vs1[n1]? = none ∨ vs2[n2]? = none ∨ vs3[n3]? = none)
    (hE : ∀ g e, (∀ f o, f ≠ q → f ≠ to → f ≠ m1 → f ≠ m2 → f ≠ m3 → s.heap.get? f = some o → g.get? f = some o) → (∃ o, g.get? e = some o ∧ o.cls = .type "StopIteration") → E (.ref e) { s with heap := g }) :
    wpAny (model prog w) A (Builtin.«zip.__next__» ⟨[.ref q], []⟩) Q E s := by
  show wpAny _ _ (field (.ref q) 2 >>= _) _ _ _
  refine wpAny_bind (wpAny_field zz rfl (x := .bool false) rfl ?_)
  show wpAny _ _ (field (.ref q) 3 >>= _) _ _ _
  refine wpAny_bind (wpAny_field zz rfl (x := .ref ti) rfl (wpAny_bind (wpAny_seqItems pi rfl ?_)))
  show wpAny _ _ (Builtin.SmallTypes.ownedTupleIsFree (.ref q) >>= _) _ _ _
  refine wpAny_bind ?_; unfold Builtin.SmallTypes.ownedTupleIsFree
  refine wpAny_bind (wpAny_field zz rfl (x := .none) rfl (wpAny_pure ?_))
  simp only [if_true]
  refine wpAny_bind (wpAny_rule (wpAny_bind (wpAny_field zz rfl (x := .ref to) rfl (wpAny_bind (wpAny_setField_rec zz (by simp) fun g1 zz1 b1 => ?_)))))
  replace zz1 : IsZip g1 q ti to .ellipsis := zz1
  refine wpAny_bind ?_
  simp only [List.zipIdx_nil, List.zipIdx_cons, List.forIn_nil, List.forIn_cons]
  refine wpAny_bind (wpAny_bind (wpAny_onRaise ?_))
  show wpAny _ _ (Builtin.SmallTypes.nextOf (.ref m1) >>= _) _ _ _
  cases hx : vs1[n1]? with
  | none =>
    refine wpAny_bind (half_end hh (w1.but b1.extBut D.m1q) (s1.but b1.extBut D.d1q) hx fun g2 e b2 ⟨oe, hoe, hce⟩ => ?_)
    have zz2 : IsZip g2 q ti to .ellipsis := b2 _ _ D.m1q.symm zz1
    have ne : e ≠ q := fun x => by
      subst x
      rw [zz2] at hoe
      cases hoe
      simp at hce
    exact wpAny_setField_rec zz2 (by simp) fun g3 _ b3 => hE g3 e (fun f o c1 _ c3 _ _ x => b3.extBut _ _ c1 (b2 _ _ c3 (b1.extBut _ _ c1 x))) ⟨oe, b3.extBut _ _ ne hoe, hce⟩
  | some x =>
    refine wpAny_bind (half_item (w1.but b1.extBut D.m1q) (s1.but b1.extBut D.d1q) hx fun g2 v1 b2 => wpAny_pure ?_)
    have po2 : IsTrip g2 to a b c := b2.extBut _ _ D.tom1 (b1.extBut _ _ D.toq po)
    refine wpAny_bind (wpAny_seqItems po2 rfl (wpAny_bind (upd_trip po2 fun g3 po3 b3 => ?_)))
    replace po3 : IsTrip g3 to x b c := po3
    refine wpAny_bind (wpAny_letGo (wpAny_pure (wpAny_bind (wpAny_bind (wpAny_onRaise ?_)))))
    show wpAny _ _ (Builtin.SmallTypes.nextOf (.ref m2) >>= _) _ _ _
    cases hy : vs2[n2]? with
    | none =>
      refine wpAny_bind (half_end hh (((w2.but b1.extBut D.m2q).but b2.extBut D.m12.symm).but b3.extBut D.tom2.symm) (((s2.but b1.extBut D.d2q).but b2.extBut D.d2m1).but b3.extBut D.d2to) hy fun g4 e b4 ⟨oe, hoe, hce⟩ => ?_)
      have zz4 : IsZip g4 q ti to .ellipsis := b4 _ _ D.m2q.symm (b3.extBut _ _ D.toq.symm (b2.extBut _ _ D.m1q.symm zz1))
      have ne : e ≠ q := fun x => by
        subst x
        rw [zz4] at hoe
        cases hoe
        simp at hce
      exact wpAny_setField_rec zz4 (by simp) fun g5 _ b5 => hE g5 e (fun f o c1 c2 c3 c4 _ x => b5.extBut _ _ c1 (b4 _ _ c4 (b3.extBut _ _ c2 (b2.extBut _ _ c3 (b1.extBut _ _ c1 x))))) ⟨oe, b5.extBut _ _ ne hoe, hce⟩
    | some y =>
      have hz : vs3[n3]? = none := by
        rcases he with h | h | h
        · rw [hx] at h; cases h
        · rw [hy] at h; cases h
        · exact h
      refine wpAny_bind (half_item (((w2.but b1.extBut D.m2q).but b2.extBut D.m12.symm).but b3.extBut D.tom2.symm) (((s2.but b1.extBut D.d2q).but b2.extBut D.d2m1).but b3.extBut D.d2to) hy fun g4 v2 b4 => wpAny_pure ?_)
      have po4 : IsTrip g4 to x b c := b4.extBut _ _ D.tom2 po3
      refine wpAny_bind (wpAny_seqItems po4 rfl (wpAny_bind (upd_trip po4 fun g5 po5 b5 => ?_)))
      refine wpAny_bind (wpAny_letGo (wpAny_pure (wpAny_bind (wpAny_bind (wpAny_onRaise ?_)))))
      show wpAny _ _ (Builtin.SmallTypes.nextOf (.ref m3) >>= _) _ _ _
      refine wpAny_bind (half_end hh (((((w3.but b1.extBut D.m3q).but b2.extBut D.m13.symm).but b3.extBut D.tom3.symm).but b4.extBut D.m23.symm).but b5.extBut D.tom3.symm) (((((s3.but b1.extBut D.d3q).but b2.extBut D.d3m1).but b3.extBut D.d3to).but b4.extBut D.d3m2).but b5.extBut D.d3to) hz fun g6 e b6 ⟨oe, hoe, hce⟩ => ?_)
      have zz6 : IsZip g6 q ti to .ellipsis := b6 _ _ D.m3q.symm (b5.extBut _ _ D.toq.symm (b4.extBut _ _ D.m2q.symm (b3.extBut _ _ D.toq.symm (b2.extBut _ _ D.m1q.symm zz1))))
      have ne : e ≠ q := fun x => by
        subst x
        rw [zz6] at hoe
        cases hoe
        simp at hce
      exact wpAny_setField_rec zz6 (by simp) fun g7 _ b7 => hE g7 e (fun f o c1 c2 c3 c4 c5 x => b7.extBut _ _ c1 (b6 _ _ c5 (b5.extBut _ _ c2 (b4.extBut _ _ c4 (b3.extBut _ _ c2 (b2.extBut _ _ c3 (b1.extBut _ _ c1 x))))))) ⟨oe, b7.extBut _ _ ne hoe, hce⟩
theorem z3_next_item {q ti to m1 m2 m3 d1 d2 d3 : Addr} {u1 u2 u3 : Bool} {n1 n2 n3 : Nat} {vs1 vs2 vs3 : Array Value} {x y z a b c : Value} {Q : Option Value → Shared → Prop} (D : ZA3 q ti to m1 m2 m3 d1 d2 d3)
    (zz : IsZip s.heap q ti to .none) (pi : IsTrip s.heap ti (.ref m1) (.ref m2) (.ref m3)) (po : IsTrip s.heap to a b c)
    (w1 : hIt u1 s.heap m1 d1 n1) (w2 : hIt u2 s.heap m2 d2 n2) (w3 : hIt u3 s.heap m3 d3 n3) (s1 : hSq u1 s.heap d1 vs1) (s2 : hSq u2 s.heap d2 vs2) (s3 : hSq u3 s.heap d3 vs3) (hx : vs1[n1]? = some x) (hy : vs2[n2]? = some y) (hz : vs3[n3]? = some z)
    (hq : ∀ g, IsZip g q ti to (rawInt s.heap.objs.size) → IsTrip g to x y z → hIt u1 g m1 d1 (n1 + 1) → hIt u2 g m2 d2 (n2 + 1) → hIt u3 g m3 d3 (n3 + 1) → IsTrip g s.heap.objs.size x y z → g.objs.size = s.heap.objs.size + 1 →
      (∀ e o, e ≠ q → e ≠ to → e ≠ m1 → e ≠ m2 → e ≠ m3 → s.heap.get? e = some o → g.get? e = some o) → Q (some (.ref s.heap.objs.size)) { s with heap := g }) :
    wpAny (model prog w) A (pyNext (.ref q)) Q E s := by
  have ty : s.TypeIs (.ref q) "zip" := ⟨_, zz, rfl⟩
  unfold pyNext
  exact wpAny_bind (wpAny_attempt (wpAny_callSpecial?_slot (name := Str.ofString "__next__") ty F.slot_zip_next (wpAny_call_entry F.slot_zip_next ty F.entry_zip_next
    (z3_item D zz pi po w1 w2 w3 s1 s2 s3 hx hy hz fun g a1 a2 a3 a4 a5 a6 a7 a8 => wpAny_pure (hq g a1 a2 a3 a4 a5 a6 a7 a8)) (F.args_zip_next_1 _))))
theorem z3_next_end {q ti to m1 m2 m3 d1 d2 d3 : Addr} {u1 u2 u3 : Bool} {n1 n2 n3 : Nat} {vs1 vs2 vs3 : Array Value} {a b c : Value} {Q : Option Value → Shared → Prop} (hh : A.handled = none) (D : ZA3 q ti to m1 m2 m3 d1 d2 d3)
    (zz : IsZip s.heap q ti to .none) (pi : IsTrip s.heap ti (.ref m1) (.ref m2) (.ref m3)) (po : IsTrip s.heap to a b c)
    (w1 : hIt u1 s.heap m1 d1 n1) (w2 : hIt u2 s.heap m2 d2 n2) (w3 : hIt u3 s.heap m3 d3 n3) (s1 : hSq u1 s.heap d1 vs1) (s2 : hSq u2 s.heap d2 vs2) (s3 : hSq u3 s.heap d3 vs3) (he : vs1[n1]? = none ∨ vs2[n2]? = none ∨ vs3[n3]? = none)
    (hq : ∀ g, (∀ f o, f ≠ q → f ≠ to → f ≠ m1 → f ≠ m2 → f ≠ m3 → s.heap.get? f = some o → g.get? f = some o) → Q none { s with heap := g }) : wpAny (model prog w) A (pyNext (.ref q)) Q E s := by
  have ty : s.TypeIs (.ref q) "zip" := ⟨_, zz, rfl⟩
  unfold pyNext
  refine wpAny_bind (wpAny_attempt (wpAny_callSpecial?_slot (name := Str.ofString "__next__") ty F.slot_zip_next (wpAny_call_entry F.slot_zip_next ty F.entry_zip_next
    (z3_end hh D zz pi po w1 w2 w3 s1 s2 s3 he fun g e hk ⟨o, ho, hc⟩ => ?_) (F.args_zip_next_1 _))))
  exact wpAny_bind (wpAny_isInstance (T := "StopIteration") (b := true) ⟨o, ho, hc⟩ isSubtype_stop (wpAny_pure (hq _ hk)))
end
theorem z3_type (a b c : Value) : checkTypeCall "zip" ⟨[a, b, c], []⟩ = pure () := by kernel_rfl
theorem z3_newc (a b c : Value) : checkBuiltinCall "zip.__new__" ⟨[.type "zip", a, b, c], []⟩ = pure () := by kernel_rfl
theorem z3_init (a b c d : Value) : argsOk "object.__init__" ⟨[a, b, c, d], []⟩ := by
  unfold argsOk; rw [signature?_of (id := "object.__init__") (n := ['_', '_', 't', 'i', 'n', 'i', '_', '_']) (o := ['t', 'c', 'e', 'j', 'b', 'o']) (by kernel_rfl) F.owner_object]; kernel_rfl
abbrev z31 (h : Heap) (u1 : Bool) (d1 : Addr) : Heap := h.push (itO u1 d1)
abbrev z32 (h : Heap) (u1 u2 : Bool) (d1 d2 : Addr) : Heap := (z31 h u1 d1).push (itO u2 d2)
abbrev z33 (h : Heap) (u1 u2 u3 : Bool) (d1 d2 d3 : Addr) : Heap := (z32 h u1 u2 d1 d2).push (itO u3 d3)
abbrev z34 (h : Heap) (u1 u2 u3 : Bool) (d1 d2 d3 : Addr) : Heap := (z33 h u1 u2 u3 d1 d2 d3).push { cls := .type "tuple", data := .seq #[.ref h.objs.size, .ref (z31 h u1 d1).objs.size, .ref (z32 h u1 u2 d1 d2).objs.size] }
abbrev z35 (h : Heap) (u1 u2 u3 : Bool) (d1 d2 d3 : Addr) : Heap := (z34 h u1 u2 u3 d1 d2 d3).push { cls := .type "tuple", data := .seq #[.none, .none, .none] }
abbrev z36 (h : Heap) (u1 u2 u3 : Bool) (d1 d2 d3 : Addr) : Heap := (z35 h u1 u2 u3 d1 d2 d3).push { cls := .type "zip", data := .fields #[.none, .bool false, .bool false, .ref (z33 h u1 u2 u3 d1 d2 d3).objs.size, .ref (z34 h u1 u2 u3 d1 d2 d3).objs.size] }
theorem z3_made (u1 u2 u3 : Bool) (d1 d2 d3 : Addr) (vs1 vs2 vs3 : Array Value) :
    Meets (Builtin.«zip.__new__» ⟨[.type "zip", .ref d1, .ref d2, .ref d3], []⟩) (fun _ R s => hSq u1 s.heap d1 vs1 ∧ hSq u2 s.heap d2 vs2 ∧ hSq u3 s.heap d3 vs3 ∧ R (.ok (.ret (.ref (z35 s.heap u1 u2 u3 d1 d2 d3).objs.size))) { s with heap := z36 s.heap u1 u2 u3 d1 d2 d3 }) :=
  .of_wp fun prog w A R s h => by
    obtain ⟨hp, g, d, tk, os⟩ := s
    obtain ⟨k1, k2, k3, h⟩ := h
    have sub := sub_zip
    have K1 : hSq u1 (Shared.heap ⟨hp, g, d, tk, os⟩) d1 vs1 := k1
    have K2 : hSq u2 (Shared.heap ⟨hp.push (itO u1 d1), g, d, tk, os⟩) d2 vs2 := k2.push _
    have K3 : hSq u3 (Shared.heap ⟨(hp.push (itO u1 d1)).push (itO u2 d2), g, d, tk, os⟩) d3 vs3 := (k3.push _).push _
    wp_walk using half_iter K1, half_iter K2, half_iter K3
    exact ⟨_, rfl, h⟩
theorem z3_call {prog : Program} {w : World} {A : Around} {E : Value → Shared → Prop} {s : Shared} {u1 u2 u3 : Bool} {d1 d2 d3 : Addr} {vs1 vs2 vs3 : Array Value} {Q : Value → Shared → Prop} (s1 : hSq u1 s.heap d1 vs1) (s2 : hSq u2 s.heap d2 vs2) (s3 : hSq u3 s.heap d3 vs3)
    (h : ∀ g, IsZip g (s.heap.objs.size + 5) (s.heap.objs.size + 3) (s.heap.objs.size + 4) .none → IsTrip g (s.heap.objs.size + 3) (.ref s.heap.objs.size) (.ref (s.heap.objs.size + 1)) (.ref (s.heap.objs.size + 2)) → IsTrip g (s.heap.objs.size + 4) .none .none .none → hIt u1 g s.heap.objs.size d1 0 → hIt u2 g (s.heap.objs.size + 1) d2 0 → hIt u3 g (s.heap.objs.size + 2) d3 0 →
      (∀ c o, s.heap.get? c = some o → g.get? c = some o) → Q (.ref (s.heap.objs.size + 5)) { s with heap := g }) :
    wpAny (model prog w) A (call (.type "zip") [.ref d1, .ref d2, .ref d3]) Q E s := by
  refine callType_new F.called_zip (by decide) (z3_type _ _ _) (z3_newc _ _ _) (fun ob => z3_init ob _ _ _) F.entry_zip_new (z3_made u1 u2 u3 d1 d2 d3 vs1 vs2 vs3) ⟨s1, s2, s3, ?_⟩
  have e1 : (z31 s.heap u1 d1).objs.size = s.heap.objs.size + 1 := Heap.size_push ..
  have e2 : (z32 s.heap u1 u2 d1 d2).objs.size = s.heap.objs.size + 2 := by rw [Heap.size_push, e1]
  have e3 : (z33 s.heap u1 u2 u3 d1 d2 d3).objs.size = s.heap.objs.size + 3 := by rw [Heap.size_push, e2]
  have e4 : (z34 s.heap u1 u2 u3 d1 d2 d3).objs.size = s.heap.objs.size + 4 := by rw [Heap.size_push, e3]
  have e5 : (z35 s.heap u1 u2 u3 d1 d2 d3).objs.size = s.heap.objs.size + 5 := by rw [Heap.size_push, e4]
  have f6 : (z36 s.heap u1 u2 u3 d1 d2 d3).get? (z35 s.heap u1 u2 u3 d1 d2 d3).objs.size = some _ := Heap.get?_push_size _ rfl
  have f5 : (z36 s.heap u1 u2 u3 d1 d2 d3).get? (z34 s.heap u1 u2 u3 d1 d2 d3).objs.size = some _ := Heap.get?_push_of_some _ (Heap.get?_push_size _ rfl)
  have f4 : (z36 s.heap u1 u2 u3 d1 d2 d3).get? (z33 s.heap u1 u2 u3 d1 d2 d3).objs.size = some _ := Heap.get?_push_of_some _ (Heap.get?_push_of_some _ (Heap.get?_push_size _ rfl))
  have f3 : (z36 s.heap u1 u2 u3 d1 d2 d3).get? (z32 s.heap u1 u2 d1 d2).objs.size = some _ := Heap.get?_push_of_some _ (Heap.get?_push_of_some _ (Heap.get?_push_of_some _ (Heap.get?_push_size _ (itO_free u3 d3))))
  have f2 : (z36 s.heap u1 u2 u3 d1 d2 d3).get? (z31 s.heap u1 d1).objs.size = some _ := Heap.get?_push_of_some _ (Heap.get?_push_of_some _ (Heap.get?_push_of_some _ (Heap.get?_push_of_some _ (Heap.get?_push_size _ (itO_free u2 d2)))))
  have f1 : (z36 s.heap u1 u2 u3 d1 d2 d3).get? s.heap.objs.size = some _ := Heap.get?_push_of_some _ (Heap.get?_push_of_some _ (Heap.get?_push_of_some _ (Heap.get?_push_of_some _ (Heap.get?_push_of_some _ (Heap.get?_push_size _ (itO_free u1 d1))))))
  show _ ∧ _
  rw [e3, e4, e5] at f6
  rw [e1, e2, e3] at f4
  rw [e4] at f5
  rw [e2] at f3
  rw [e1] at f2
  rw [e5]
  exact ⟨⟨_, f6, rfl⟩, h _ f6 f4 f5 (itO_is f1) (itO_is f2) (itO_is f3) fun c o x => Heap.get?_push_of_some _ (Heap.get?_push_of_some _ (Heap.get?_push_of_some _ (Heap.get?_push_of_some _ (Heap.get?_push_of_some _ (Heap.get?_push_of_some _ x)))))⟩
def Itz3 (u1 u2 u3 : Bool) (K : PySem.W.Frag) (a b c : Addr) : It :=
  ⟨fun i H => ∃ (xs ys zs : List V) (x y z : V), SqH u1 K H a xs ∧ SqH u2 K H b ys ∧ SqH u3 K H c zs ∧ xs[i]? = some x ∧ ys[i]? = some y ∧ zs[i]? = some z,
    fun i H v H' => ∃ T x y z, v = .ref T ∧ H T = none ∧ H' = upd H T (.tup [x, y, z]) ∧ (∀ xs, SqH u1 K H a xs → xs[i]? = some x) ∧ (∀ ys, SqH u2 K H b ys → ys[i]? = some y) ∧ ∀ zs, SqH u3 K H c zs → zs[i]? = some z,
    fun i H => ∃ xs ys zs : List V, SqH u1 K H a xs ∧ SqH u2 K H b ys ∧ SqH u3 K H c zs ∧ (xs.length ≤ i ∨ ys.length ≤ i ∨ zs.length ≤ i)⟩
theorem turn_z3 {P : Program} {w : World} {K : PySem.W.Frag} {elts : List Expr} {kk : Nat} {tpos : Pos} {u1 u2 u3 : Bool} {a b c q ti to m1 m2 m3 : Addr} (D : ZA3 q ti to m1 m2 m3 a b c) :
    Turn P w K (.Tuple elts kk tpos) (Itz3 u1 u2 u3 K a b c) [q, ti, to, m1, m2, m3] q (fun i h => IsZip h q ti to .none ∧ IsTrip h ti (.ref m1) (.ref m2) (.ref m3) ∧ (∃ x y z, IsTrip h to x y z) ∧ hIt u1 h m1 a i ∧ hIt u2 h m2 b i ∧ hIt u3 h m3 c i) where
  mem := by simp
  obj := fun i h st e he => by
    obtain ⟨zz, pi, ⟨x, y, z, po⟩, w1, w2, w3⟩ := st
    have e' : e = q ∨ e = ti ∨ e = to ∨ e = m1 ∨ e = m2 ∨ e = m3 := by simpa using he
    rcases e' with r | r | r | r | r | r
    · rw [r]; exact ⟨_, zz, fun v e => nomatch e⟩
    · rw [r]; exact ⟨_, pi, fun v e => nomatch e⟩
    · rw [r]; exact ⟨_, po, fun v e => nomatch e⟩
    · rw [r]; exact w1.obj
    · rw [r]; exact w2.obj
    · rw [r]; exact w3.obj
  keep := fun i h h' st k => by
    obtain ⟨zz, pi, ⟨x, y, z, po⟩, w1, w2, w3⟩ := st
    exact ⟨k q (by simp) _ zz, k ti (by simp) _ pi, ⟨x, y, z, k to (by simp) _ po⟩, w1.to fun o e => k m1 (by simp) o e, w2.to fun o e => k m2 (by simp) o e, w3.to fun o e => k m3 (by simp) o e⟩
  item := by
    intro X hP hw hK hc i pins s σ H E I hf st hg
    subst hP hw hK
    obtain ⟨zz, pi, ⟨x0, y0, z0, po⟩, w1, w2, w3⟩ := st
    obtain ⟨xs, ys, zs, x, y, z, hqx, hqy, hqz, hx, hy, hz⟩ := hg
    obtain ⟨its, rv, p, _⟩ := inv_half I hqx
    obtain ⟨its2, rv2, p2, _⟩ := inv_half I hqy
    obtain ⟨its3, rv3, p3, _⟩ := inv_half I hqz
    obtain ⟨v, hv, ru⟩ := rv.get hx
    obtain ⟨v2, hv2, ru2⟩ := rv2.get hy
    obtain ⟨v3, hv3, ru3⟩ := rv3.get hz
    have ql : q < s.heap.objs.size := Heap.lt_size zz
    refine z3_next_item D zz pi po w1 w2 w3 p p2 p3 (x := v) (y := v2) (z := v3) (by simpa using hv) (by simpa using hv2) (by simpa using hv3) fun g z1 po1 w11 w21 w31 hT hsz hk => ?_
    refine ⟨_, rfl, wpAny_letOwnedTupleGo_zip (s := { s with heap := g }) z1 fun g2 z2 sb => ?_⟩
    have hT2 : g2.get? s.heap.objs.size = some { cls := .type "tuple", data := .seq #[v, v2, v3] } := (sb.2 _ (Nat.ne_of_gt ql)).trans hT
    have new : ObjOk X.prog X.w (upd H s.heap.objs.size (.tup [x, y, z])) g2 s.heap.objs.size (.tup [x, y, z]) := ⟨by show 3 ≤ sizeLine; decide, [v, v2, v3], .cons ru (.cons ru2 (.cons ru3 .nil)), ⟨_, hT2, rfl, _, rfl⟩⟩
    have I1 : Inv X pins σ (upd H s.heap.objs.size (.tup [x, y, z])) { s with heap := g2 } := I.turnedNew (t' := s.toks) (ch := [q, ti, to, m1, m2, m3])
      (fun e o hb f => (sb.2 e (fun r => hb (by simp [r]))).trans (hk e o (fun r => hb (by simp [r])) (fun r => hb (by simp [r])) (fun r => hb (by simp [r])) (fun r => hb (by simp [r])) (fun r => hb (by simp [r])) f)) hf (Nat.le_refl _) new
    refine ⟨.ref s.heap.objs.size, _, I1, rfl, ⟨_, x, y, z, rfl, I.hok.fresh (Nat.le_refl _), rfl, fun l hl => by rw [inv_half_inj I hl hqx]; exact hx, fun l hl => by rw [inv_half_inj I hl hqy]; exact hy, fun l hl => by rw [inv_half_inj I hl hqz]; exact hz⟩, ⟨z2, ?_, ⟨v, v2, v3, ?_⟩, ?_, ?_, ?_⟩, fun e hem => ?_⟩
    · exact (sb.2 _ D.tiq).trans (hk _ _ D.tiq D.tito D.tim1 D.tim2 D.tim3 pi)
    · exact (sb.2 _ D.toq).trans po1
    · exact w11.to fun o e => (sb.2 _ D.m1q).trans e
    · exact w21.to fun o e => (sb.2 _ D.m2q).trans e
    · exact w31.to fun o e => (sb.2 _ D.m3q).trans e
    · have lt : e < s.heap.objs.size := by
        have e' : e = q ∨ e = ti ∨ e = to ∨ e = m1 ∨ e = m2 ∨ e = m3 := by simpa using hem
        rcases e' with r | r | r | r | r | r
        · rw [r]; exact ql
        · rw [r]; exact Heap.lt_size pi
        · rw [r]; exact Heap.lt_size po
        · rw [r]; exact w1.small
        · rw [r]; exact w2.small
        · rw [r]; exact w3.small
      rw [upd_ne (Nat.ne_of_lt lt)]
      exact (hf e hem).1
  done := by
    intro X hP hw hK hc i pins s σ H E I hf st hg
    subst hP hw hK
    obtain ⟨zz, pi, ⟨x0, y0, z0, po⟩, w1, w2, w3⟩ := st
    obtain ⟨xs, ys, zs, hqx, hqy, hqz, hend⟩ := hg
    obtain ⟨its, rv, p, _⟩ := inv_half I hqx
    obtain ⟨its2, rv2, p2, _⟩ := inv_half I hqy
    obtain ⟨its3, rv3, p3, _⟩ := inv_half I hqz
    have l1 := rv.length
    have l2 := rv2.length
    have l3 := rv3.length
    have he : its.toArray[i]? = none ∨ its2.toArray[i]? = none ∨ its3.toArray[i]? = none := hend.imp (fun z => by simp; omega) fun h => h.imp (fun z => by simp; omega) fun z => by simp; omega
    exact z3_next_end (I.ok.hd hc) D zz pi po w1 w2 w3 p p2 p3 he fun g hk => ⟨rfl, I.turnedL (t' := s.toks) (ch := [q, ti, to, m1, m2, m3]) (fun e o hb f =>
      hk e o (fun r => hb (by simp [r])) (fun r => hb (by simp [r])) (fun r => hb (by simp [r])) (fun r => hb (by simp [r])) (fun r => hb (by simp [r])) f) hf⟩
  self := fun A i s Q E st h => wpAny_pyIter_zip st.1 h
/-- a new triple of the i-th of each -/
def YTrip (xs ys zs : Nat → Option V) : Nat → Hp → V → Hp → Prop := fun i H v H' => ∃ T x y z, v = .ref T ∧ H T = none ∧ H' = upd H T (.tup [x, y, z]) ∧ xs i = some x ∧ ys i = some y ∧ zs i = some z
section
variable {X : Cx} {K : PySem.W.Frag}
def iZ3 (u1 u2 u3 : Bool) (K : PySem.W.Frag) (ta : TA) : TI := fun σ H R => ta σ H fun vs H1 => ∃ a b c xs ys zs, vs = [.ref a, .ref b, .ref c] ∧ SqH u1 K H1 a xs ∧ SqH u2 K H1 b ys ∧ SqH u3 K H1 c zs ∧ R (Itz3 u1 u2 u3 K a b c) H1
theorem pi_z3 (u1 u2 u3 : Bool) {e e2 e3 : Expr} {ta : TA} {p pos tpos : Pos} {elts : List Expr} {kk : Nat} (hg : Gl X "zip") (hm : X.mg "zip" = none) (ha : PA X [e, e2, e3] ta)
    (hs : starEach [e, e2, e3] X.env = (false, eval e X.env) :: starEach [e2, e3] X.env := by rfl) (hpl : (backTo pos (starEach [e2, e3] X.env)).any (·.1) = false := by rfl) (hK : X.K = K := by rfl) :
    PI X (.Tuple elts kk tpos) (.Call (.Name "zip" p) [e, e2, e3] [] pos) (iZ3 u1 u2 u3 K ta) := by
  subst hK
  refine ⟨fun pins s σ H R I h => ?_⟩
  refine Call_ (ld_blt I hg hm PyProof.Rows.boot_zip (PyProof.Rows.callWith_type1 (thn (ha.run pos pins s σ H _ I h) fun us s1 ⟨vs, H1, I1, r1, q1⟩ => ?_) hs hpl))
  obtain ⟨a, b, c, xs, ys, zs, rfl, hqx, hqy, hqz, q⟩ := q1
  cases r1 with
  | cons r rr =>
    cases rr with
    | cons r' rr =>
      cases rr with
      | cons r'' rr =>
        cases rr
        cases r
        cases r'
        cases r''
        have new6 : ∀ d, d ∈ [s1.heap.objs.size + 5, s1.heap.objs.size + 3, s1.heap.objs.size + 4, s1.heap.objs.size, s1.heap.objs.size + 1, s1.heap.objs.size + 2] → FpOk X pins H1 d := fun d hd => by
          have le : s1.heap.objs.size ≤ d := by
            simp only [List.mem_cons, List.not_mem_nil, or_false] at hd
            rcases hd with z | z | z | z | z | z <;> rw [z] <;> first | exact Nat.le_refl _ | exact Nat.le_add_right _ _
          exact I1.fpOk le (I1.hok.fresh le)
        obtain ⟨its, rv, p1, lt1⟩ := inv_half I1 hqx
        obtain ⟨its2, rv2, p2, lt2⟩ := inv_half I1 hqy
        obtain ⟨its3, rv3, p3, lt3⟩ := inv_half I1 hqz
        refine z3_call p1 p2 p3 fun g zz pi po w1 w2 w3 hk => wpAny_pyIter_zip zz ?_
        have I2 : Inv X pins σ H1 { s1 with heap := g } := I1.kept (t' := s1.toks) hk
        exact ⟨s1.heap.objs.size + 5, [s1.heap.objs.size + 5, s1.heap.objs.size + 3, s1.heap.objs.size + 4, s1.heap.objs.size, s1.heap.objs.size + 1, s1.heap.objs.size + 2], _, _, H1, rfl, I2, turn_z3 (za3_new lt1 lt2 lt3), ⟨zz, pi, ⟨_, _, _, po⟩, w1, w2, w3⟩, new6, q⟩
theorem walk_z3 {u1 u2 u3 : Bool} {a b c : Addr} {xs ys zs : List V} {n : Nat} (hn : n = min xs.length (min ys.length zs.length)) : Walk (Itz3 u1 u2 u3 K a b c) n (fun H => SqH u1 K H a xs ∧ SqH u2 K H b ys ∧ SqH u3 K H c zs) (YTrip (fun i => xs[i]?) (fun i => ys[i]?) (fun i => zs[i]?)) := by
  subst hn
  refine ⟨fun i H hi q => ⟨xs, ys, zs, xs[i]'(by omega), ys[i]'(by omega), zs[i]'(by omega), q.1, q.2.1, q.2.2, List.getElem?_eq_getElem _, List.getElem?_eq_getElem _, List.getElem?_eq_getElem _⟩, fun H q => ⟨xs, ys, zs, q.1, q.2.1, q.2.2, by omega⟩, fun i H v H' hi q y => ?_⟩
  obtain ⟨T, x, y, z, h1, h2, h3, h4, h5, h6⟩ := y
  exact ⟨T, x, y, z, h1, h2, h3, h4 xs q.1, h5 ys q.2.1, h6 zs q.2.2⟩
end
end RL
/-! (x, ..) * k of a tuple, whichever it is. -/
namespace RL
open PySem PySem.Spec PyProof.Rows L2
section
variable {X : Cx}
def rRepS : R2 := fun x y H Q => ∃ (l : Addr) (k : Int) (xs : List V), x = .ref l ∧ y = .int k ∧ H l = some (.tup xs) ∧ xs ≠ [] ∧ 1 ≤ k ∧ k ≤ 1000 ∧ xs.length ≤ 1000 ∧ ∀ q H', H' q = some (.tup (List.replicate k.toNat xs).flatten) → Same H H' → Q (.ref q) H'
theorem repTS : OpR X (binaryOp .Mult) rRepS := by
  intro pins s σ H x y v u Q I rx ry h
  obtain ⟨l, k, xs, rfl, rfl, hl, ne, k1, k2, lx, q⟩ := h
  refine op_repT1 pins s σ H (.ref l) (.int k) v u Q I rx ry ⟨l, k, xs, rfl, rfl, SqT.of hl, ne, k1, k2, lx, fun e => q l H ?_ fun _ _ e => e, fun p hp => q p _ upd_same (same_new hp)⟩
  subst e
  rw [hl]
  simp
end
end RL
/-! enumerate(zip(a, b)), each of both a list or a tuple. -/
namespace RL
open PySem PySem.Spec PyProof.Rows L2
/-- a zip, whatever became of the tuple that it told last -/
abbrev zObj (own : Value) (fl : Bool) (ti to : Addr) : Obj := { cls := .type "zip", dict := none, data := .fields #[own, .bool fl, .bool false, .ref ti, .ref to], slots := #[] }
def ZAny (h : Heap) (q ti to : Addr) : Prop := h.get? q = some (zObj .none false ti to) ∨ ∃ (T : Addr) (fl : Bool), h.get? q = some (zObj (rawInt T) fl ti to)
theorem ZAny.ex {h : Heap} {q ti to : Addr} (z : ZAny h q ti to) : ∃ own fl, h.get? q = some (zObj own fl ti to) := by
  rcases z with z | ⟨T, fl, z⟩
  · exact ⟨_, _, z⟩
  · exact ⟨_, _, z⟩
theorem ZAny.to {h g : Heap} {q ti to : Addr} (z : ZAny h q ti to) (e : ∀ o, h.get? q = some o → g.get? q = some o) : ZAny g q ti to := by
  rcases z with z | ⟨T, fl, z⟩
  · exact .inl (e _ z)
  · exact .inr ⟨T, fl, e _ z⟩
section
variable {prog : Program} {w : World} {A : Around} {E : Value → Shared → Prop} {s : Shared}
theorem alive_any {a : Addr} {Q : Option Obj → Shared → Prop} (h : Q (s.heap.get? a) s) : wpAny (model prog w) A (loadIfAlive a) Q E s := fun _ _ _ => h
theorem own_ask {q ti to : Addr} {Q : Bool → Shared → Prop} (z : ZAny s.heap q ti to) (free : Q true s) (held : ∀ g (T : Addr), g.get? q = some (zObj (rawInt T) true ti to) → Heap.SameBut q s.heap g → Q false { s with heap := g }) :
    wpAny (model prog w) A (Builtin.SmallTypes.ownedTupleIsFree (.ref q)) Q E s := by
  unfold Builtin.SmallTypes.ownedTupleIsFree
  rcases z with z | ⟨T, fl, z⟩
  · exact wpAny_bind (wpAny_field z rfl (x := .none) rfl (wpAny_pure free))
  · refine wpAny_bind (wpAny_field z rfl (x := rawInt T) rfl ?_)
    show wpAny _ _ (loadIfAlive ((T : Int).toNat) >>= _) _ _ s
    rw [Int.toNat_natCast]
    refine wpAny_bind (alive_any ?_)
    cases e : s.heap.get? T with
    | none => exact wpAny_pure free
    | some oT =>
      show wpAny _ _ (field (.ref q) 1 >>= _) _ _ s
      refine wpAny_bind (wpAny_field z rfl (x := .bool fl) rfl ?_)
      cases fl with
      | true => exact wpAny_pure (held s.heap T z (Heap.SameBut.refl _ _))
      | false => exact wpAny_bind (wpAny_setField_rec z (by simp) fun g z1 b1 => wpAny_pure (held g T z1 b1))
theorem zx_item {q ti to m1 m2 d1 d2 : Addr} {u1 u2 : Bool} {n1 n2 : Nat} {vs1 vs2 : Array Value} {x y a b : Value} {Q : Value → Shared → Prop} (D : ZipApart q ti to m1 m2 d1 d2)
    (zz : ZAny s.heap q ti to) (pi : IsPair s.heap ti (.ref m1) (.ref m2)) (po : IsPair s.heap to a b)
    (w1 : hIt u1 s.heap m1 d1 n1) (w2 : hIt u2 s.heap m2 d2 n2) (s1 : hSq u1 s.heap d1 vs1) (s2 : hSq u2 s.heap d2 vs2) (hx : vs1[n1]? = some x) (hy : vs2[n2]? = some y)
    (hq : ∀ g, ZAny g q ti to → (∃ a b, IsPair g to a b) → hIt u1 g m1 d1 (n1 + 1) → hIt u2 g m2 d2 (n2 + 1) → IsPair g s.heap.objs.size x y → g.objs.size = s.heap.objs.size + 1 →
      (∀ c o, c ≠ q → c ≠ to → c ≠ m1 → c ≠ m2 → s.heap.get? c = some o → g.get? c = some o) → Q (.ref s.heap.objs.size) { s with heap := g }) :
    wpAny (model prog w) A (Builtin.«zip.__next__» ⟨[.ref q], []⟩) (fun f s' => ∃ v, f = .done (.ret v) ∧ Q v s') E s := by
  obtain ⟨own, fl, z0⟩ := zz.ex
  show wpAny _ _ (field (.ref q) 2 >>= _) _ _ _
  refine wpAny_bind (wpAny_field z0 rfl (x := .bool false) rfl ?_)
  show wpAny _ _ (field (.ref q) 3 >>= _) _ _ _
  refine wpAny_bind (wpAny_field z0 rfl (x := .ref ti) rfl (wpAny_bind (wpAny_seqItems pi rfl ?_)))
  show wpAny _ _ (Builtin.SmallTypes.ownedTupleIsFree (.ref q) >>= _) _ _ _
  refine wpAny_bind (own_ask zz ?free fun g1 T z1 b1 => ?held)
  case free =>
    simp only [if_true]
    refine wpAny_bind (wpAny_rule (wpAny_bind (wpAny_field z0 rfl (x := .ref to) rfl (wpAny_bind (wpAny_setField_rec z0 (by simp) fun g1 zz1 b1 => ?_)))))
    replace zz1 : g1.get? q = some (zObj .ellipsis fl ti to) := zz1
    refine wpAny_bind ?_
    simp only [List.zipIdx_nil, List.zipIdx_cons, List.forIn_nil, List.forIn_cons]
    refine wpAny_bind (wpAny_bind (wpAny_onRaise ?_))
    show wpAny _ _ (Builtin.SmallTypes.nextOf (.ref m1) >>= _) _ _ _
    refine wpAny_bind (half_item (w1.but b1.extBut D.i1z) (s1.but b1.extBut D.l1z) hx fun g2 v1 b2 => wpAny_pure ?_)
    have po2 : IsPair g2 to a b := b2.extBut _ _ D.TOi1 (b1.extBut _ _ D.TOz po)
    refine wpAny_bind (wpAny_seqItems po2 rfl (wpAny_bind (wpAny_updateSeq_pair po2 fun g3 po3 b3 => ?_)))
    replace po3 : IsPair g3 to x b := po3
    refine wpAny_bind (wpAny_letGo (wpAny_pure (wpAny_bind (wpAny_bind (wpAny_onRaise ?_)))))
    show wpAny _ _ (Builtin.SmallTypes.nextOf (.ref m2) >>= _) _ _ _
    refine wpAny_bind (half_item (((w2.but b1.extBut D.i2z).but b2.extBut D.i12.symm).but b3.extBut D.TOi2.symm) (((s2.but b1.extBut D.l2z).but b2.extBut D.l2i1).but b3.extBut D.l2TO) hy fun g4 v2 b4 => wpAny_pure ?_)
    have po4 : IsPair g4 to x b := b4.extBut _ _ D.TOi2 po3
    refine wpAny_bind (wpAny_seqItems po4 rfl (wpAny_bind (wpAny_updateSeq_pair po4 fun g5 po5 b5 => ?_)))
    replace po5 : IsPair g5 to x y := po5
    refine wpAny_bind (wpAny_letGo (wpAny_pure (wpAny_pure (wpAny_bind (wpAny_seqItems po5 rfl (wpAny_bind (wpAny_newTuple ?_)))))))
    have sz : g5.objs.size = s.heap.objs.size := by rw [b5.1, b4.1, b3.1, b2.1, b1.1]
    have zz5 : g5.get? q = some (zObj .ellipsis fl ti to) := b5.extBut _ _ D.TOz.symm (b4.extBut _ _ D.i2z.symm (b3.extBut _ _ D.TOz.symm (b2.extBut _ _ D.i1z.symm zz1)))
    have old5 : ∀ c o, c ≠ q → c ≠ to → c ≠ m1 → c ≠ m2 → s.heap.get? c = some o → g5.get? c = some o := fun c o c1 c2 c3 c4 e => b5.extBut _ _ c2 (b4.extBut _ _ c4 (b3.extBut _ _ c2 (b2.extBut _ _ c3 (b1.extBut _ _ c1 e))))
    have v15 : hIt u1 g5 m1 d1 (n1 + 1) := ((v1.but b3.extBut D.TOi1.symm).but b4.extBut D.i12).but b5.extBut D.TOi1.symm
    have v25 : hIt u2 g5 m2 d2 (n2 + 1) := v2.but b5.extBut D.TOi2.symm
    have ql : q < g5.objs.size := Heap.lt_size zz5
    show wpAny _ _ (Builtin.SmallTypes.ownedTupleHandOut (.ref q) (.ref g5.objs.size) >>= _) _ _ _
    refine wpAny_bind ?_; unfold Builtin.SmallTypes.ownedTupleHandOut
    have zz6 : (g5.push { cls := .type "tuple", data := .seq #[x, y] }).get? q = some (zObj .ellipsis fl ti to) := Heap.get?_push_of_some _ zz5
    refine wpAny_bind (wpAny_setField_rec zz6 (by simp) fun g7 zz7 b7 => ?_)
    replace zz7 : g7.get? q = some (zObj (rawInt g5.objs.size) fl ti to) := zz7
    refine wpAny_setField_rec zz7 (by simp) fun g8 zz8 b8 => ?_
    replace zz8 : g8.get? q = some (zObj (rawInt g5.objs.size) false ti to) := zz8
    have up : ∀ c o, c ≠ q → g5.get? c = some o → g8.get? c = some o := fun c o c1 e => b8.extBut _ _ c1 (b7.extBut _ _ c1 (Heap.get?_push_of_some _ e))
    have t8 : IsPair g8 g5.objs.size x y := b8.extBut _ _ (Nat.ne_of_gt ql) (b7.extBut _ _ (Nat.ne_of_gt ql) (Heap.get?_push_size _ rfl))
    have sz8 : g8.objs.size = g5.objs.size + 1 := by rw [b8.1, b7.1, Heap.size_push]
    rw [sz] at zz8 t8 sz8
    refine wpAny_pure ⟨_, rfl, ?_⟩
    show Q (.ref g5.objs.size) _
    rw [sz]
    exact hq g8 (.inr ⟨_, _, zz8⟩) ⟨_, _, up _ _ D.TOz po5⟩ (v15.to fun o e => up _ o D.i1z e) (v25.to fun o e => up _ o D.i2z e) t8 sz8 fun c o c1 c2 c3 c4 e => up c o c1 (old5 c o c1 c2 c3 c4 e)
  case held =>
    simp only [Bool.false_eq_true, if_false]
    refine wpAny_bind ?_
    rw [← Array.forIn_toList]
    simp only [List.forIn_cons, List.forIn_nil]
    refine wpAny_bind (wpAny_bind (wpAny_holding ?_))
    show wpAny _ _ (Builtin.SmallTypes.nextOf (.ref m1) >>= _) _ _ _
    refine wpAny_bind (half_item (s := { s with heap := g1 }) (w1.but b1.extBut D.i1z) (s1.but b1.extBut D.l1z) hx fun g2 v1 b2 => wpAny_pure (wpAny_pure ?_))
    refine wpAny_bind (wpAny_bind (wpAny_holding ?_))
    show wpAny _ _ (Builtin.SmallTypes.nextOf (.ref m2) >>= _) _ _ _
    refine wpAny_bind (half_item (s := { s with heap := g2 }) ((w2.but b1.extBut D.i2z).but b2.extBut D.i12.symm) ((s2.but b1.extBut D.l2z).but b2.extBut D.l2i1) hy fun g3 v2 b3 => wpAny_pure (wpAny_pure (wpAny_pure ?_)))
    show wpAny _ _ (newTuple [x, y] >>= _) _ _ _
    refine wpAny_bind (wpAny_newTuple (wpAny_pure ⟨_, rfl, ?_⟩))
    have sz : g3.objs.size = s.heap.objs.size := by rw [b3.1, b2.1, b1.1]
    have z3 : g3.get? q = some (zObj (rawInt T) true ti to) := b3.extBut _ _ D.i2z.symm (b2.extBut _ _ D.i1z.symm z1)
    have old3 : ∀ c o, c ≠ q → c ≠ m1 → c ≠ m2 → s.heap.get? c = some o → g3.get? c = some o := fun c o c1 c3 c4 e => b3.extBut _ _ c4 (b2.extBut _ _ c3 (b1.extBut _ _ c1 e))
    have tp : IsPair (g3.push { cls := .type "tuple", data := .seq #[x, y] }) g3.objs.size x y := Heap.get?_push_size _ rfl
    have sz4 : (g3.push { cls := .type "tuple", data := .seq #[x, y] }).objs.size = g3.objs.size + 1 := Heap.size_push ..
    show Q (.ref g3.objs.size) _
    rw [sz] at tp sz4 ⊢
    refine hq _ (.inr ⟨T, true, Heap.get?_push_of_some _ z3⟩) ⟨a, b, Heap.get?_push_of_some _ (old3 _ _ D.TOz D.TOi1 D.TOi2 po)⟩ ((v1.but b3.extBut D.i12).to fun o e => Heap.get?_push_of_some _ e) (v2.to fun o e => Heap.get?_push_of_some _ e) tp sz4 fun c o c1 c2 c3 c4 e => Heap.get?_push_of_some _ (old3 c o c1 c3 c4 e)
theorem zx_end {q ti to m1 m2 d1 d2 : Addr} {u1 u2 : Bool} {n1 n2 : Nat} {vs1 vs2 : Array Value} {a b : Value} {Q : Fin → Shared → Prop} (hh : A.handled = none) (D : ZipApart q ti to m1 m2 d1 d2)
    (zz : ZAny s.heap q ti to) (pi : IsPair s.heap ti (.ref m1) (.ref m2)) (po : IsPair s.heap to a b)
    (w1 : hIt u1 s.heap m1 d1 n1) (w2 : hIt u2 s.heap m2 d2 n2) (s1 : hSq u1 s.heap d1 vs1) (s2 : hSq u2 s.heap d2 vs2) (he : vs1[n1]? = none ∨ vs2[n2]? = none)
    (hE : ∀ g e, (∀ c o, c ≠ q → c ≠ to → c ≠ m1 → c ≠ m2 → s.heap.get? c = some o → g.get? c = some o) → (∃ o, g.get? e = some o ∧ o.cls = .type "StopIteration") → E (.ref e) { s with heap := g }) :
    wpAny (model prog w) A (Builtin.«zip.__next__» ⟨[.ref q], []⟩) Q E s := by
  obtain ⟨own, fl, z0⟩ := zz.ex
  show wpAny _ _ (field (.ref q) 2 >>= _) _ _ _
  refine wpAny_bind (wpAny_field z0 rfl (x := .bool false) rfl ?_)
  show wpAny _ _ (field (.ref q) 3 >>= _) _ _ _
  refine wpAny_bind (wpAny_field z0 rfl (x := .ref ti) rfl (wpAny_bind (wpAny_seqItems pi rfl ?_)))
  show wpAny _ _ (Builtin.SmallTypes.ownedTupleIsFree (.ref q) >>= _) _ _ _
  refine wpAny_bind (own_ask zz ?free fun g1 T z1 b1 => ?held)
  case free =>
    simp only [if_true]
    refine wpAny_bind (wpAny_rule (wpAny_bind (wpAny_field z0 rfl (x := .ref to) rfl (wpAny_bind (wpAny_setField_rec z0 (by simp) fun g1 zz1 b1 => ?_)))))
    replace zz1 : g1.get? q = some (zObj .ellipsis fl ti to) := zz1
    refine wpAny_bind ?_
    simp only [List.zipIdx_nil, List.zipIdx_cons, List.forIn_nil, List.forIn_cons]
    refine wpAny_bind (wpAny_bind (wpAny_onRaise ?_))
    show wpAny _ _ (Builtin.SmallTypes.nextOf (.ref m1) >>= _) _ _ _
    cases hx : vs1[n1]? with
    | none =>
      refine wpAny_bind (half_end hh (w1.but b1.extBut D.i1z) (s1.but b1.extBut D.l1z) hx fun g2 e b2 ⟨oe, hoe, hce⟩ => ?_)
      have zz2 : g2.get? q = some (zObj .ellipsis fl ti to) := b2 _ _ D.i1z.symm zz1
      have ne : e ≠ q := fun x => by
        subst x
        rw [zz2] at hoe
        cases hoe
        simp at hce
      exact wpAny_setField_rec zz2 (by simp) fun g3 _ b3 => hE g3 e (fun c o c1 _ c3 _ x => b3.extBut _ _ c1 (b2 _ _ c3 (b1.extBut _ _ c1 x))) ⟨oe, b3.extBut _ _ ne hoe, hce⟩
    | some x =>
      have hy : vs2[n2]? = none := he.elim (fun z => by rw [hx] at z; cases z) id
      refine wpAny_bind (half_item (w1.but b1.extBut D.i1z) (s1.but b1.extBut D.l1z) hx fun g2 v1 b2 => wpAny_pure ?_)
      have po2 : IsPair g2 to a b := b2.extBut _ _ D.TOi1 (b1.extBut _ _ D.TOz po)
      refine wpAny_bind (wpAny_seqItems po2 rfl (wpAny_bind (wpAny_updateSeq_pair po2 fun g3 po3 b3 => ?_)))
      refine wpAny_bind (wpAny_letGo (wpAny_pure (wpAny_bind (wpAny_bind (wpAny_onRaise ?_)))))
      show wpAny _ _ (Builtin.SmallTypes.nextOf (.ref m2) >>= _) _ _ _
      refine wpAny_bind (half_end hh (((w2.but b1.extBut D.i2z).but b2.extBut D.i12.symm).but b3.extBut D.TOi2.symm) (((s2.but b1.extBut D.l2z).but b2.extBut D.l2i1).but b3.extBut D.l2TO) hy fun g4 e b4 ⟨oe, hoe, hce⟩ => ?_)
      have zz4 : g4.get? q = some (zObj .ellipsis fl ti to) := b4 _ _ D.i2z.symm (b3.extBut _ _ D.TOz.symm (b2.extBut _ _ D.i1z.symm zz1))
      have ne : e ≠ q := fun x => by
        subst x
        rw [zz4] at hoe
        cases hoe
        simp at hce
      exact wpAny_setField_rec zz4 (by simp) fun g5 _ b5 => hE g5 e (fun c o c1 c2 c3 c4 x => b5.extBut _ _ c1 (b4 _ _ c4 (b3.extBut _ _ c2 (b2.extBut _ _ c3 (b1.extBut _ _ c1 x))))) ⟨oe, b5.extBut _ _ ne hoe, hce⟩
  case held =>
    simp only [Bool.false_eq_true, if_false]
    refine wpAny_bind ?_
    rw [← Array.forIn_toList]
    simp only [List.forIn_cons, List.forIn_nil]
    refine wpAny_bind (wpAny_bind (wpAny_holding ?_))
    show wpAny _ _ (Builtin.SmallTypes.nextOf (.ref m1) >>= _) _ _ _
    cases hx : vs1[n1]? with
    | none => exact wpAny_bind (half_end (s := { s with heap := g1 }) hh (w1.but b1.extBut D.i1z) (s1.but b1.extBut D.l1z) hx fun g2 e b2 z => hE g2 e (fun c o c1 _ c3 _ x => b2 _ _ c3 (b1.extBut _ _ c1 x)) z)
    | some x =>
      have hy : vs2[n2]? = none := he.elim (fun z => by rw [hx] at z; cases z) id
      refine wpAny_bind (half_item (s := { s with heap := g1 }) (w1.but b1.extBut D.i1z) (s1.but b1.extBut D.l1z) hx fun g2 v1 b2 => wpAny_pure (wpAny_pure ?_))
      refine wpAny_bind (wpAny_bind (wpAny_holding ?_))
      show wpAny _ _ (Builtin.SmallTypes.nextOf (.ref m2) >>= _) _ _ _
      exact wpAny_bind (half_end (s := { s with heap := g2 }) hh ((w2.but b1.extBut D.i2z).but b2.extBut D.i12.symm) ((s2.but b1.extBut D.l2z).but b2.extBut D.l2i1) hy fun g3 e b3 z => hE g3 e (fun c o c1 _ c3 c4 x => b3 _ _ c4 (b2.extBut _ _ c3 (b1.extBut _ _ c1 x))) z)
/-- the next of an enumerate over such a zip -/
theorem ez_item {e q ti to m1 m2 d1 d2 : Addr} {u1 u2 : Bool} {i n1 n2 : Nat} {vs1 vs2 : Array Value} {x y a b old : Value} {Q : Value → Shared → Prop} (D : ZipApart q ti to m1 m2 d1 d2) (eq : e ≠ q) (eto : e ≠ to) (e1 : e ≠ m1) (e2 : e ≠ m2)
    (he : IsEnum s.heap e q ((i : Nat) : Int) old) (zz : ZAny s.heap q ti to) (pi : IsPair s.heap ti (.ref m1) (.ref m2)) (po : IsPair s.heap to a b)
    (w1 : hIt u1 s.heap m1 d1 n1) (w2 : hIt u2 s.heap m2 d2 n2) (s1 : hSq u1 s.heap d1 vs1) (s2 : hSq u2 s.heap d2 vs2) (hx : vs1[n1]? = some x) (hy : vs2[n2]? = some y)
    (hq : ∀ g, IsEnumOut g e q (((i : Nat) : Int) + 1) (.ref s.heap.objs.size) (s.heap.objs.size + 1) → ZAny g q ti to → (∃ a b, IsPair g to a b) → hIt u1 g m1 d1 (n1 + 1) → hIt u2 g m2 d2 (n2 + 1) → IsPair g s.heap.objs.size x y →
      IsPair g (s.heap.objs.size + 1) (.int i s.toks) (.ref s.heap.objs.size) →
      (∀ c o, c ≠ e → c ≠ q → c ≠ to → c ≠ m1 → c ≠ m2 → s.heap.get? c = some o → g.get? c = some o) → Q (.ref (s.heap.objs.size + 1)) { s with heap := g, toks := s.toks + 1 }) :
    wpAny (model prog w) A (Builtin.«enumerate.__next__» ⟨[.ref e], []⟩) (fun f s' => ∃ v, f = .done (.ret v) ∧ Q v s') E s := by
  obtain ⟨hp, gg, d, tk, os⟩ := s
  have ty : (⟨hp, gg, d, tk, os⟩ : Shared).TypeIs (.ref q) "zip" := by
    obtain ⟨own, fl, z0⟩ := zz.ex
    exact ⟨_, z0, rfl⟩
  have el : e < hp.objs.size := Heap.lt_size he
  show wpAny _ _ (field (.ref e) 2 >>= _) _ _ _
  refine wpAny_bind (wpAny_field he rfl (x := .ref q) rfl ?_)
  refine wpAny_bind ?_
  unfold Builtin.SmallTypes.nextOf
  refine wpAny_bind (wpAny_callSpecial?_slot (name := Str.ofString "__next__") ty F.slot_zip_next (wpAny_call_entry F.slot_zip_next ty F.entry_zip_next (zx_item D zz pi po w1 w2 s1 s2 hx hy fun g1 z1 po1 v1 v2 t1 sz1 k1 => wpAny_pure ?_) (F.args_zip_next_1 _)))
  have E1 : IsEnum g1 e q ((i : Nat) : Int) old := k1 _ _ eq eto e1 e2 he
  show wpAny _ _ (field (.ref e) 3 >>= _) _ _ ⟨g1, gg, d, tk, os⟩
  refine wpAny_bind (wpAny_field E1 rfl (x := rawInt ((i : Nat) : Int)) rfl ?_)
  show wpAny _ _ (field (.ref e) 4 >>= _) _ _ ⟨g1, gg, d, tk, os⟩
  refine wpAny_bind (wpAny_field E1 rfl (x := .none) rfl ?_)
  show wpAny _ _ (mkInt ((i : Nat) : Int) >>= _) _ _ ⟨g1, gg, d, tk, os⟩
  refine wpAny_bind (wpAny_mkInt ?_)
  show wpAny _ _ (setField (.ref e) 3 (rawInt (((i : Nat) : Int) + 1)) >>= _) _ _ ⟨g1, gg, d, tk + 1, os⟩
  refine wpAny_bind (wpAny_setField_rec E1 (by simp) fun g2 E2 b2 => ?_)
  replace E2 : IsEnum g2 e q (((i : Nat) : Int) + 1) old := E2
  replace b2 : Heap.SameBut e g1 g2 := b2
  show wpAny _ _ (setField (.ref e) 4 .none >>= _) _ _ ⟨g2, gg, d, tk + 1, os⟩
  refine wpAny_bind (wpAny_setField_rec E2 (by simp) fun g3 E3 b3 => ?_)
  replace E3 : IsEnum g3 e q (((i : Nat) : Int) + 1) old := E3
  replace b3 : Heap.SameBut e g2 g3 := b3
  show wpAny _ _ (newTuple [.int i tk, .ref hp.objs.size] >>= _) _ _ ⟨g3, gg, d, tk + 1, os⟩
  refine wpAny_bind (wpAny_newTuple ?_)
  have sz3 : g3.objs.size = hp.objs.size + 1 := by rw [b3.1, b2.1, sz1]
  have E4 : IsEnum (g3.push { cls := .type "tuple", data := .seq #[.int i tk, .ref hp.objs.size] }) e q (((i : Nat) : Int) + 1) old := Heap.get?_push_of_some _ E3
  have t4 : IsPair (g3.push { cls := .type "tuple", data := .seq #[.int i tk, .ref hp.objs.size] }) (hp.objs.size + 1) (.int i tk) (.ref hp.objs.size) := by
    rw [← sz3]
    exact Heap.get?_push_size _ rfl
  have up4 : ∀ c o, c ≠ e → g1.get? c = some o → (g3.push { cls := .type "tuple", data := .seq #[.int i tk, .ref hp.objs.size] }).get? c = some o := fun c o c1 x => Heap.get?_push_of_some _ (b3.extBut _ _ c1 (b2.extBut _ _ c1 x))
  generalize g3.push { cls := .type "tuple", data := .seq #[.int i tk, .ref hp.objs.size] } = g4 at E4 t4 up4
  show wpAny _ _ (Builtin.SmallTypes.ownedTupleIsFree (.ref e) >>= _) _ _ ⟨g4, gg, d, tk + 1, os⟩
  rw [sz3]
  refine wpAny_bind ?_
  unfold Builtin.SmallTypes.ownedTupleIsFree
  refine wpAny_bind (wpAny_field E4 rfl (x := .none) rfl (wpAny_pure ?_))
  simp only [if_true]
  refine wpAny_bind (wpAny_rule (wpAny_bind (wpAny_field E4 rfl (x := old) rfl (wpAny_bind (wpAny_setField_rec E4 (by simp) fun g5 E5 b5 => ?_)))))
  replace E5 : IsEnum g5 e q (((i : Nat) : Int) + 1) (.ref hp.objs.size) := E5
  replace b5 : Heap.SameBut e g4 g5 := b5
  show wpAny _ _ (Builtin.SmallTypes.ownedTupleHandOut (.ref e) (.ref (hp.objs.size + 1)) >>= _) _ _ ⟨g5, gg, d, tk + 1, os⟩
  refine wpAny_bind ?_
  unfold Builtin.SmallTypes.ownedTupleHandOut
  refine wpAny_bind (wpAny_setField_rec E5 (by simp) fun g6 E6 b6 => ?_)
  replace E6 : IsEnumOut g6 e q (((i : Nat) : Int) + 1) (.ref hp.objs.size) (hp.objs.size + 1) := E6
  replace b6 : Heap.SameBut e g5 g6 := b6
  refine wpAny_setField_rec E6 (by simp) fun g7 E7 b7 => ?_
  replace E7 : IsEnumOut g7 e q (((i : Nat) : Int) + 1) (.ref hp.objs.size) (hp.objs.size + 1) := E7
  replace b7 : Heap.SameBut e g6 g7 := b7
  have up7 : ∀ c o, c ≠ e → g4.get? c = some o → g7.get? c = some o := fun c o c1 x => b7.extBut _ _ c1 (b6.extBut _ _ c1 (b5.extBut _ _ c1 x))
  have up : ∀ c o, c ≠ e → g1.get? c = some o → g7.get? c = some o := fun c o c1 x => up7 c o c1 (up4 c o c1 x)
  refine wpAny_bind (wpAny_letGo (wpAny_pure ⟨_, rfl, hq g7 E7 (z1.to fun o x => up _ o eq.symm x) ?_ (v1.to fun o x => up _ o e1.symm x) (v2.to fun o x => up _ o e2.symm x) (up _ _ (Nat.ne_of_gt el) t1) (up7 _ _ (Nat.ne_of_gt (Nat.lt_succ_of_lt el)) t4) fun c o c0 c1 c2 c3 c4 x => up c o c0 (k1 c o c1 c2 c3 c4 x)⟩))
  obtain ⟨a', b', po1⟩ := po1
  exact ⟨a', b', up _ _ eto.symm po1⟩
theorem ez_end {e q ti to m1 m2 d1 d2 : Addr} {u1 u2 : Bool} {n1 n2 : Nat} {i : Int} {vs1 vs2 : Array Value} {a b old : Value} {Q : Option Value → Shared → Prop} (hh : A.handled = none) (D : ZipApart q ti to m1 m2 d1 d2)
    (he : IsEnum s.heap e q i old) (zz : ZAny s.heap q ti to) (pi : IsPair s.heap ti (.ref m1) (.ref m2)) (po : IsPair s.heap to a b)
    (w1 : hIt u1 s.heap m1 d1 n1) (w2 : hIt u2 s.heap m2 d2 n2) (s1 : hSq u1 s.heap d1 vs1) (s2 : hSq u2 s.heap d2 vs2) (hz : vs1[n1]? = none ∨ vs2[n2]? = none)
    (hq : ∀ g, (∀ c o, c ≠ q → c ≠ to → c ≠ m1 → c ≠ m2 → s.heap.get? c = some o → g.get? c = some o) → Q none { s with heap := g }) : wpAny (model prog w) A (pyNext (.ref e)) Q E s := by
  have te : s.TypeIs (.ref e) "enumerate" := ⟨_, he, rfl⟩
  have ty : s.TypeIs (.ref q) "zip" := by
    obtain ⟨own, fl, z0⟩ := zz.ex
    exact ⟨_, z0, rfl⟩
  unfold pyNext
  refine wpAny_bind (wpAny_attempt (wpAny_callSpecial?_slot (name := Str.ofString "__next__") te F.slot_enumerate_next (wpAny_call_entry F.slot_enumerate_next te F.entry_enumerate_next ?_ (F.args_enumerate_next_1 _))))
  show wpAny _ _ (field (.ref e) 2 >>= _) _ _ _
  refine wpAny_bind (wpAny_field he rfl (x := .ref q) rfl ?_)
  refine wpAny_bind ?_
  unfold Builtin.SmallTypes.nextOf
  refine wpAny_bind (wpAny_callSpecial?_slot (name := Str.ofString "__next__") ty F.slot_zip_next (wpAny_call_entry F.slot_zip_next ty F.entry_zip_next (zx_end hh D zz pi po w1 w2 s1 s2 hz fun g x hk ⟨o, ho, hc⟩ => ?_) (F.args_zip_next_1 _)))
  exact wpAny_bind (wpAny_isInstance (T := "StopIteration") (b := true) ⟨o, ho, hc⟩ isSubtype_stop (wpAny_pure (hq _ hk)))
set_option maxHeartbeats 1000000 in
theorem meets_enum_zip (q ti to : Addr) :
    Meets (Builtin.«enumerate.__new__» ⟨[.type "enumerate", .ref q], []⟩) (fun _ R s => IsZip s.heap q ti to .none ∧
      R (.ok (.ret (.ref s.heap.objs.size))) { s with heap := s.heap.push { cls := .type "enumerate", data := .fields #[.none, .bool false, .ref q, rawInt 0, .none, .none] } }) :=
  .of_wp fun P0 w0 A R s hh => by
    obtain ⟨hp, g, d, tk, os⟩ := s
    have hsub := sub_enumerate
    have draw : ∀ {A1 : Around} {E1 : Value → Shared → Prop} {Q1 : Value → Shared → Prop}, Q1 (.ref q) ⟨hp, g, d, tk, os⟩ → wpAny (model P0 w0) A1 (pyIter (.ref q)) Q1 E1 ⟨hp, g, d, tk, os⟩ :=
      fun z => wpAny_pyIter_zip hh.1 z
    have fin := hh.2
    wp_walk using draw
    refine wpAny_stack_any fun st => wpAny_pure ?_
    split
    · rename_i c _ _ _ _ _
      cases (c == Value.type "enumerate")
      all_goals
        wp_walk using draw
        exact ⟨_, rfl, fin⟩
    · wp_walk using draw
      exact ⟨_, rfl, fin⟩
theorem call_enum_zip {q ti to : Addr} {Q : Value → Shared → Prop} (hz : IsZip s.heap q ti to .none)
    (h : ∀ g, IsEnum g s.heap.objs.size q 0 .none → (∀ b o, s.heap.get? b = some o → g.get? b = some o) → Q (.ref s.heap.objs.size) { s with heap := g }) :
    wpAny (model prog w) A (call (.type "enumerate") [.ref q]) Q E s := by
  refine callType_new F.called_enumerate (by decide) (F.typeCall_enumerate_1 _) (F.newCall_enumerate_1 _) (fun ob => F.args_object_init_2 ob _) F.entry_enumerate_new (meets_enum_zip q ti to) ⟨hz, ?_⟩
  have g2 : (s.heap.push { cls := .type "enumerate", data := .fields #[.none, .bool false, .ref q, rawInt 0, .none, .none] }).get? s.heap.objs.size = some { cls := .type "enumerate", data := .fields #[.none, .bool false, .ref q, rawInt 0, .none, .none] } := Heap.get?_push_size _ rfl
  show _ ∧ _
  exact ⟨⟨_, g2, rfl⟩, h _ g2 fun b o e => Heap.get?_push_of_some _ e⟩
end
/-- pairs of both, in new pairs with their numbers -/
def Itez (u1 u2 : Bool) (K : PySem.W.Frag) (a b : Addr) : It :=
  ⟨fun i H => ∃ (xs ys : List V) (x y : V), SqH u1 K H a xs ∧ SqH u2 K H b ys ∧ xs[i]? = some x ∧ ys[i]? = some y,
    fun i H v H' => ∃ T U x y, v = .ref U ∧ H T = none ∧ H U = none ∧ T ≠ U ∧ H' = upd (upd H T (.tup [x, y])) U (.tup [.int (i : Nat), .ref T]) ∧ (∀ xs, SqH u1 K H a xs → xs[i]? = some x) ∧ ∀ ys, SqH u2 K H b ys → ys[i]? = some y,
    fun i H => ∃ xs ys : List V, SqH u1 K H a xs ∧ SqH u2 K H b ys ∧ (xs.length ≤ i ∨ ys.length ≤ i)⟩
theorem turn_ez {P : Program} {w : World} {K : PySem.W.Frag} {elts : List Expr} {kk : Nat} {tpos : Pos} {u1 u2 : Bool} {a b e q ti to m1 m2 : Addr} (D : ZipApart q ti to m1 m2 a b) (eq : e ≠ q) (eti : e ≠ ti) (eto : e ≠ to) (e1 : e ≠ m1) (e2 : e ≠ m2) :
    Turn P w K (.Tuple elts kk tpos) (Itez u1 u2 K a b) [e, q, ti, to, m1, m2] e (fun i h => (∃ old, IsEnum h e q ((i : Nat) : Int) old) ∧ ZAny h q ti to ∧ IsPair h ti (.ref m1) (.ref m2) ∧ (∃ x y, IsPair h to x y) ∧ hIt u1 h m1 a i ∧ hIt u2 h m2 b i) where
  mem := by simp
  obj := fun i h st c hc => by
    obtain ⟨⟨old, he⟩, zz, pi, ⟨x, y, po⟩, w1, w2⟩ := st
    obtain ⟨own, fl, z0⟩ := zz.ex
    have z : c = e ∨ c = q ∨ c = ti ∨ c = to ∨ c = m1 ∨ c = m2 := by simpa using hc
    rcases z with z | z | z | z | z | z
    · rw [z]; exact ⟨_, he, fun v e => nomatch e⟩
    · rw [z]; exact ⟨_, z0, fun v e => nomatch e⟩
    · rw [z]; exact ⟨_, pi, fun v e => nomatch e⟩
    · rw [z]; exact ⟨_, po, fun v e => nomatch e⟩
    · rw [z]; exact w1.obj
    · rw [z]; exact w2.obj
  keep := fun i h h' st k => by
    obtain ⟨⟨old, he⟩, zz, pi, ⟨x, y, po⟩, w1, w2⟩ := st
    exact ⟨⟨old, k e (by simp) _ he⟩, zz.to fun o z => k q (by simp) o z, k ti (by simp) _ pi, ⟨x, y, k to (by simp) _ po⟩, w1.to fun o e => k m1 (by simp) o e, w2.to fun o e => k m2 (by simp) o e⟩
  item := by
    intro X hP hw hK hc i pins s σ H E I hf st hg
    subst hP hw hK
    obtain ⟨⟨old, he⟩, zz, pi, ⟨x0, y0, po⟩, w1, w2⟩ := st
    obtain ⟨xs, ys, x, y, hqx, hqy, hx, hy⟩ := hg
    obtain ⟨its, rv, p, _⟩ := inv_half I hqx
    obtain ⟨its2, rv2, p2, _⟩ := inv_half I hqy
    obtain ⟨v, hv, ru⟩ := rv.get hx
    obtain ⟨v2, hv2, ru2⟩ := rv2.get hy
    have el : e < s.heap.objs.size := Heap.lt_size he
    have ql : q < s.heap.objs.size := by
      obtain ⟨own, fl, z0⟩ := zz.ex
      exact Heap.lt_size z0
    have te : s.TypeIs (.ref e) "enumerate" := ⟨_, he, rfl⟩
    have lt : ∀ c, c ∈ [e, q, ti, to, m1, m2] → c < s.heap.objs.size := fun c hcm => by
      have z : c = e ∨ c = q ∨ c = ti ∨ c = to ∨ c = m1 ∨ c = m2 := by simpa using hcm
      rcases z with z | z | z | z | z | z
      · rw [z]; exact el
      · rw [z]; exact ql
      · rw [z]; exact Heap.lt_size pi
      · rw [z]; exact Heap.lt_size po
      · rw [z]; exact w1.small
      · rw [z]; exact w2.small
    unfold pyNext
    refine wpAny_bind (wpAny_attempt (wpAny_callSpecial?_slot (name := Str.ofString "__next__") te F.slot_enumerate_next (wpAny_call_entry F.slot_enumerate_next te F.entry_enumerate_next
      (ez_item D eq eto e1 e2 he zz pi po w1 w2 p p2 (x := v) (y := v2) (by simpa using hv) (by simpa using hv2) fun g E1 z1 po1 v11 v21 t1 t2 hk => wpAny_pure ?_) (F.args_enumerate_next_1 _))))
    refine ⟨_, rfl, wpAny_letOwnedTupleGo_enum (s := { s with heap := g, toks := s.toks + 1 }) E1 fun g2 he2 sb => ?_⟩
    have nn : ∀ c, s.heap.objs.size ≤ c → c ∉ [e, q, ti, to, m1, m2] := fun c hc2 hm => absurd (lt c hm) (Nat.not_lt.mpr hc2)
    have ne1 : s.heap.objs.size ≠ e := Nat.ne_of_gt el
    have ne2 : s.heap.objs.size + 1 ≠ e := Nat.ne_of_gt (Nat.lt_succ_of_lt el)
    have T1 : g2.get? s.heap.objs.size = some { cls := .type "tuple", data := .seq #[v, v2] } := (sb.2 _ ne1).trans t1
    have T2 : g2.get? (s.heap.objs.size + 1) = some { cls := .type "tuple", data := .seq #[.int i s.toks, .ref s.heap.objs.size] } := (sb.2 _ ne2).trans t2
    have h1at : (s.heap.push { cls := .type "tuple", data := .seq #[v, v2] }).get? s.heap.objs.size = some { cls := .type "tuple", data := .seq #[v, v2] } := Heap.get?_push_size _ rfl
    have I1 : Inv X pins σ (upd H s.heap.objs.size (.tup [x, y])) { s with heap := s.heap.push { cls := .type "tuple", data := .seq #[v, v2] }, toks := s.toks } :=
      I.laid (t' := s.toks) (fun c o z => Heap.get?_push_of_some _ z) (Nat.le_refl _) ⟨by show 2 ≤ sizeLine; decide, [v, v2], .cons ru (.cons ru2 .nil), ⟨_, h1at, rfl, _, rfl⟩⟩
    have sz1 : (s.heap.push { cls := .type "tuple", data := .seq #[v, v2] }).objs.size = s.heap.objs.size + 1 := Heap.size_push ..
    have hf1 : ∀ c ∈ [e, q, ti, to, m1, m2], FpOk X pins (upd H s.heap.objs.size (.tup [x, y])) c := fun c hcm => by
      refine ⟨?_, (hf c hcm).2⟩
      rw [upd_ne (Nat.ne_of_lt (lt c hcm))]
      exact (hf c hcm).1
    have I2 : Inv X pins σ (upd (upd H s.heap.objs.size (.tup [x, y])) (s.heap.objs.size + 1) (.tup [.int (i : Nat), .ref s.heap.objs.size])) { s with heap := g2, toks := s.toks + 1 } := by
      refine I1.turnedNew (t' := s.toks + 1) (ch := [e, q, ti, to, m1, m2]) (fun c o hb z => ?_) hf1 (by show (s.heap.push _).objs.size ≤ _; rw [sz1]; exact Nat.le_refl _) ⟨by show 2 ≤ sizeLine; decide, [.int i s.toks, .ref s.heap.objs.size], .cons ⟨_, rfl⟩ (.cons rfl .nil), ⟨_, T2, rfl, _, rfl⟩⟩
      rcases Heap.get?_push_cases z with ⟨z1, z2⟩ | z
      · rw [z1, z2]
        exact T1
      · exact (sb.2 c (fun y => hb (by simp [y]))).trans (hk c o (fun y => hb (by simp [y])) (fun y => hb (by simp [y])) (fun y => hb (by simp [y])) (fun y => hb (by simp [y])) (fun y => hb (by simp [y])) z)
    refine ⟨.ref (s.heap.objs.size + 1), _, I2, rfl, ⟨_, _, x, y, rfl, I.hok.fresh (Nat.le_refl _), I.hok.fresh (Nat.le_succ _), Nat.ne_of_lt (Nat.lt_succ_self _), rfl, fun l hl => by rw [inv_half_inj I hl hqx]; exact hx, fun l hl => by rw [inv_half_inj I hl hqy]; exact hy⟩, ⟨⟨_, by simpa using he2⟩, z1.to fun o z => (sb.2 _ eq.symm).trans z, ?_, ?_, v11.to fun o z => (sb.2 _ e1.symm).trans z, v21.to fun o z => (sb.2 _ e2.symm).trans z⟩, fun c hcm => ?_⟩
    · exact (sb.2 _ eti.symm).trans (hk _ _ eti.symm D.TIz D.TITO D.TIi1 D.TIi2 pi)
    · obtain ⟨a', b', z⟩ := po1
      exact ⟨a', b', (sb.2 _ eto.symm).trans z⟩
    · rw [upd_ne (Nat.ne_of_lt (Nat.lt_succ_of_lt (lt c hcm))), upd_ne (Nat.ne_of_lt (lt c hcm))]
      exact (hf c hcm).1
  done := by
    intro X hP hw hK hc i pins s σ H E I hf st hg
    subst hP hw hK
    obtain ⟨⟨old, he⟩, zz, pi, ⟨x0, y0, po⟩, w1, w2⟩ := st
    obtain ⟨xs, ys, hqx, hqy, hend⟩ := hg
    obtain ⟨its, rv, p, _⟩ := inv_half I hqx
    obtain ⟨its2, rv2, p2, _⟩ := inv_half I hqy
    have l1 := rv.length
    have l2 := rv2.length
    have hz : its.toArray[i]? = none ∨ its2.toArray[i]? = none := hend.imp (fun z => by simp; omega) fun z => by simp; omega
    exact ez_end (I.ok.hd hc) D he zz pi po w1 w2 p p2 hz fun g hk => ⟨rfl, I.turnedL (t' := s.toks) (ch := [e, q, ti, to, m1, m2]) (fun c o hb z =>
      hk c o (fun y => hb (by simp [y])) (fun y => hb (by simp [y])) (fun y => hb (by simp [y])) (fun y => hb (by simp [y])) z) hf⟩
  self := fun A i s Q E st h => wpAny_pyIter_enum st.1.choose_spec h
section
variable {X : Cx} {K : PySem.W.Frag}
def iEz (u1 u2 : Bool) (K : PySem.W.Frag) (ta : TA) : TI := fun σ H R => ta σ H fun vs H1 => ∃ a b xs ys, vs = [.ref a, .ref b] ∧ SqH u1 K H1 a xs ∧ SqH u2 K H1 b ys ∧ R (Itez u1 u2 K a b) H1
theorem pi_ez (u1 u2 : Bool) {e e2 : Expr} {ta : TA} {p pos p2 pos2 tpos : Pos} {elts : List Expr} {kk : Nat} (hg : Gl X "enumerate") (hm : X.mg "enumerate" = none) (hgz : Gl X "zip") (hmz : X.mg "zip" = none) (ha : PA X [e, e2] ta)
    (hs : starEach [e, e2] X.env = (false, eval e X.env) :: starEach [e2] X.env := by rfl) (hpl : (backTo pos2 (starEach [e2] X.env)).any (·.1) = false := by rfl)
    (hso : starEach [.Call (.Name "zip" p2) [e, e2] [] pos2] X.env = [(false, eval (.Call (.Name "zip" p2) [e, e2] [] pos2) X.env)] := by rfl) (hK : X.K = K := by rfl) :
    PI X (.Tuple elts kk tpos) (.Call (.Name "enumerate" p) [.Call (.Name "zip" p2) [e, e2] [] pos2] [] pos) (iEz u1 u2 K ta) := by
  subst hK
  refine ⟨fun pins s σ H R I h => ?_⟩
  refine Call_ (ld_blt I hg hm boot_enumerate (PyProof.Rows.callWith_type1 ?_ hso rfl))
  rw [hso]
  show wpAny _ _ (spliced [(false, eval (.Call (.Name "zip" p2) [e, e2] [] pos2) X.env)]) _ _ s
  refine Calls.spliced_cons (Call_ (ld_blt I hgz hmz PyProof.Rows.boot_zip (PyProof.Rows.callWith_type1 (thn (ha.run pos2 pins s σ H _ I h) fun us s1 ⟨vs, H1, I1, r1, q1⟩ => ?_) hs hpl)))
  obtain ⟨a, b, xs, ys, rfl, hqx, hqy, q⟩ := q1
  cases r1 with
  | cons r rr =>
    cases rr with
    | cons r' rr =>
      cases rr
      cases r
      cases r'
      obtain ⟨its, rv, p1, lt1⟩ := inv_half I1 hqx
      obtain ⟨its2, rv2, p2', lt2⟩ := inv_half I1 hqy
      refine zh_call p1 p2' fun g zz pi po w1 w2 hk => Calls.spliced_nil ?_
      have I2 : Inv X pins σ H1 { s1 with heap := g } := I1.kept (t' := s1.toks) hk
      refine call_enum_zip (s := { s1 with heap := g }) zz fun g3 he hk3 => wpAny_pyIter_enum he ?_
      have I3 : Inv X pins σ H1 { s1 with heap := g3 } := I2.kept (t' := s1.toks) hk3
      have ge : s1.heap.objs.size + 4 < g.objs.size := Heap.lt_size zz
      have new6 : ∀ c, c ∈ [g.objs.size, s1.heap.objs.size + 4, s1.heap.objs.size + 2, s1.heap.objs.size + 3, s1.heap.objs.size, s1.heap.objs.size + 1] → FpOk X pins H1 c := fun c hcm => by
        have le : s1.heap.objs.size ≤ c := by
          simp only [List.mem_cons, List.not_mem_nil, or_false] at hcm
          rcases hcm with z | z | z | z | z | z <;> rw [z] <;> first | exact Nat.le_refl _ | exact Nat.le_add_right _ _ | exact Nat.le_of_lt (Nat.lt_of_le_of_lt (Nat.le_add_right _ _) ge)
        exact I1.fpOk le (I1.hok.fresh le)
      refine ⟨g.objs.size, [g.objs.size, s1.heap.objs.size + 4, s1.heap.objs.size + 2, s1.heap.objs.size + 3, s1.heap.objs.size, s1.heap.objs.size + 1], _, _, H1, rfl, I3, turn_ez (PySem.W.ktu_apart s1.heap.objs.size a b lt1 lt2) ?_ ?_ ?_ ?_ ?_, ⟨⟨_, he⟩, .inl (hk3 _ _ zz), hk3 _ _ pi, ⟨_, _, hk3 _ _ po⟩, w1.to fun o z => hk3 _ _ z, w2.to fun o z => hk3 _ _ z⟩, new6, q⟩
      all_goals refine Nat.ne_of_gt (Nat.lt_of_le_of_lt ?_ ge)
      · exact Nat.le_refl _
      · exact Nat.add_le_add_left (by decide) _
      · exact Nat.add_le_add_left (by decide) _
      · exact Nat.le_add_right _ _
      · exact Nat.add_le_add_left (by decide) _
def YEz (xs ys : Nat → Option V) : Nat → Hp → V → Hp → Prop := fun i H v H' => ∃ T U x y, v = .ref U ∧ H T = none ∧ H U = none ∧ T ≠ U ∧ H' = upd (upd H T (.tup [x, y])) U (.tup [.int (i : Nat), .ref T]) ∧ xs i = some x ∧ ys i = some y
theorem walk_ez {u1 u2 : Bool} {a b : Addr} {xs ys : List V} {n : Nat} (hn : n = min xs.length ys.length) : Walk (Itez u1 u2 K a b) n (fun H => SqH u1 K H a xs ∧ SqH u2 K H b ys) (YEz (fun i => xs[i]?) (fun i => ys[i]?)) := by
  subst hn
  refine ⟨fun i H hi q => ⟨xs, ys, xs[i]'(by omega), ys[i]'(by omega), q.1, q.2, List.getElem?_eq_getElem _, List.getElem?_eq_getElem _⟩, fun H q => ⟨xs, ys, q.1, q.2, by omega⟩, fun i H v H' hi q y => ?_⟩
  obtain ⟨T, U, x, z, h1, h2, h3, h4, h5, h6, h7⟩ := y
  exact ⟨T, U, x, z, h1, h2, h3, h4, h5, h6 xs q.1, h7 ys q.2⟩
end
end RL
/-! sorted pairs; repr by an own __repr__; f-strings -/
namespace RL
open PySem PySem.Spec PyProof.Rows L2
section
variable {X : Cx} {K : PySem.W.Frag}
theorem sortPK (h : X.K = K := by rfl) : CallR X (.builtin "sorted") (rSortedPO K) := h ▸ cr_sortedPO
/-- repr(x), x of an own class with its own __repr__ -/
def rReprOwn (C : Addr) (sp : Sp) : List V → Hp → VK → Prop := fun vs H Q => ∃ (a dx : Addr) (fs : List (Str × V)), vs = [.ref a] ∧ H a = some (.ins C dx fs) ∧ sp [.ref a] H (fun v H1 => ∃ t : Str, v = .str t ∧ Q (.str t) H1) E0
theorem call_reprOwn {C f : Addr} {fd : FuncData} {ps : List Str} {sp : Sp} {k : Nat} (hm : Meth X.K C "__repr__" f) (F : FnOk X.prog X.w X.K X.mg X.base CX0 k f fd ps sp) (hb : Binds X.K fd ps []) (hr : Room (k + 1) X.A) : CallR X (.builtin "repr") (rReprOwn C sp) := by
  intro pins s σ H vs us Q I r h
  obtain ⟨a, dx, fs, rfl, ha, q⟩ := h
  rw [Vals.ref1 r]
  obtain ⟨mA, O, _⟩ := ins_get I.hok ha
  obtain ⟨od, J, _⟩ := O.look
  obtain ⟨m, hF⟩ := I.fr
  refine PySem.W.repr_K ?_ hF I.ok.mod.kin J hm.at_ hm.fn ?_
  · have := hr.un
    show X.A.units + 1 < cLine
    omega
  refine wpAny_call (codeAny_mono (F.run X.A.in1 X.stack s H ⟨[.ref a], []⟩ [.ref a] [.ref a] _ _ hr.in1 I.env0.in1 (hb s [.ref a] I.kIn (F.len _ _ _ _ q)) (.cons rfl .nil) q) fun rr s1 hq => ?_)
  cases rr with
  | error e => exact hq.elim
  | ok fl =>
    cases fl with
    | ret u =>
      obtain ⟨v, H1, I1, rv, t, e, qq⟩ := I.after hq
      subst e
      obtain ⟨tk, rfl⟩ := rv
      exact ⟨.str t, H1, I1, ⟨_, rfl⟩, qq⟩
    | next => exact hq.elim
    | brk => exact hq.elim
    | cont => exact hq.elim
end
/-! ### lengths of texts -/
theorem len_app (x y : Str) : (x ++ y).length = x.length + y.length := by
  rw [TL.len_tl, TL.len_tl, TL.len_tl, TL.tl_append, List.length_append]
theorem app_empty (x : Str) : Str.empty ++ x = x := TL.ext_tl (by rw [TL.tl_append]; rfl)
theorem len_int : ∀ k < 100, (toString ((k : Nat) : Int) : Str).length ≤ 10 := by decide +kernel
end RL
/-! in, over nested data -/
namespace RL
open PySem PySem.Spec PyProof.Rows L2
theorem inDK {X : Cx} {K : PySem.W.Frag} (hu : X.A.units + 65 < cLine) (h : X.K = K := by rfl) : OpR X (compareOp .In) (rInD K) := h ▸ op_inD hu
theorem hr65 {k : Nat} {A : Around} (hr : Room k A) : A.units + 65 < cLine := by
  have := hr.un
  omega
end RL
/-! What stands in the heap: numbers, lots, boards, the law's box. -/
namespace RL
open PySem PySem.Spec PyProof.Rows L2 RLM
def vI (k : Nat) : V := .int (k : Nat)
def vO : Option Nat → V
  | none => .non
  | some k => .int (k : Nat)
/-- all but the list at c and dicts stay -/
def Kc (c : Addr) (H H' : Hp) : Prop := ∀ a o, a ≠ c → (∀ kvs, o ≠ .dK kvs) → H a = some o → H' a = some o
theorem Kc.refl (c : Addr) (H : Hp) : Kc c H H := fun _ _ _ _ h => h
theorem Kc.trans {c : Addr} {H H1 H2 : Hp} (a : Kc c H H1) (b : Kc c H1 H2) : Kc c H H2 := fun x o h1 h2 h => b x o h1 h2 (a x o h1 h2 h)
theorem kc_same {c : Addr} {H H' : Hp} (s : Same H H') : Kc c H H' := fun x o _ _ h => s x o h
theorem same_upd {H : Hp} {p : Addr} {o : HO} (h : H p = none) : Same H (upd H p o) := fun b u e => by
  rw [upd_ne (ne_of_none e h)]
  exact e
/-- an object that H does not know may change -/
theorem same_mut {H H' : Hp} {p : Addr} {o : HO} (s : Same H H') (h : H p = none) : Same H (upd H' p o) := fun b u e => by
  rw [upd_ne (ne_of_none e h)]
  exact s b u e
theorem Kc.upd {c : Addr} {H H' : Hp} {p : Addr} {o : HO} (s : Kc c H H') (h : H p = none) : Kc c H (L2.upd H' p o) := fun b u h1 h2 e => by
  rw [upd_ne (ne_of_none e h)]
  exact s b u h1 h2 e
theorem Kc.tup {c : Addr} {H H' : Hp} {a : Addr} {xs : List V} (k : Kc c H H') (hc : ∃ ys, H c = some (.lst ys)) (h : H a = some (.tup xs)) : H' a = some (.tup xs) := by
  refine k a _ (fun e => ?_) (fun kvs z => by cases z) h
  obtain ⟨ys, hc⟩ := hc
  rw [e, hc] at h
  cases h
/-- a list of pairs: where each stands, and what it is -/
structure PairsAt (c : Addr) (H : Hp) (l : Addr) (L : List (Addr × Nat × Nat)) : Prop where
  at_ : H l = some (.lst (L.map fun q => V.ref q.1))
  ne : l ≠ c
  tup : ∀ q ∈ L, H q.1 = some (.tup [vI q.2.1, vI q.2.2])
theorem PairsAt.keep {c : Addr} {H H' : Hp} {l : Addr} {L : List (Addr × Nat × Nat)} (k : Kc c H H') (hc : ∃ ys, H c = some (.lst ys)) (h : PairsAt c H l L) : PairsAt c H' l L :=
  ⟨k _ _ h.ne (fun _ z => by cases z) h.at_, h.ne, fun q hq => k.tup hc (h.tup q hq)⟩
theorem PairsAt.same {c : Addr} {H H' : Hp} {l : Addr} {L : List (Addr × Nat × Nat)} (k : Same H H') (h : PairsAt c H l L) : PairsAt c H' l L :=
  ⟨k _ _ h.at_, h.ne, fun q hq => k _ _ (h.tup q hq)⟩
/-- a board's attributes -/
def bf (n : Nat) (lp ll lf : Addr) : List (Str × V) := putF "fars" (.ref lf) (putF "leads" (.ref ll) (putF "pairs" (.ref lp) (putF "many" (.int (n : Nat)) [])))
structure BoardAt (K : PySem.W.Frag) (c : Addr) (H : Hp) (x : Addr) (n : Nat) (E : List (Nat × Nat)) : Prop where
  ex : ∃ (dx lp ll lf : Addr) (L : List (Addr × Nat × Nat)) (ls : List V) (F : List (Addr × List (Option Nat))), H x = some (.ins (cB K) dx (bf n lp ll lf)) ∧ PairsAt c H lp L ∧ L.map (·.2) = E ∧
    H ll = some (.lst ls) ∧ ll ≠ c ∧ ls.length = n ∧ H lf = some (.lst (F.map fun q => V.ref q.1)) ∧ lf ≠ c ∧ F.length = n ∧ ∀ (a : Nat) (q : Addr × List (Option Nat)), F[a]? = some q → H q.1 = some (.lst (q.2.map vO)) ∧ q.1 ≠ c ∧ Fars n E a q.2
  lo : 1 ≤ n
  hi : n ≤ 8
  on : On n E
  nd : E.Nodup
theorem BoardAt.keep {K : PySem.W.Frag} {c : Addr} {H H' : Hp} {x : Addr} {n : Nat} {E : List (Nat × Nat)} (k : Kc c H H') (hc : ∃ ys, H c = some (.lst ys)) (h : BoardAt K c H x n E) : BoardAt K c H' x n E := by
  obtain ⟨dx, lp, ll, lf, L, ls, F, h1, h2, h3, h4, h5, h6, h7, h8, h9, h10⟩ := h.ex
  refine ⟨⟨dx, lp, ll, lf, L, ls, F, ?_, h2.keep k hc, h3, k _ _ h5 (fun _ z => by cases z) h4, h5, h6, k _ _ h8 (fun _ z => by cases z) h7, h8, h9, fun a q e => ?_⟩, h.lo, h.hi, h.on, h.nd⟩
  · refine k _ _ (fun e => ?_) (fun _ z => by cases z) h1
    obtain ⟨ys, hc⟩ := hc
    rw [e, hc] at h1
    cases h1
  · obtain ⟨q1, q2, q3⟩ := h10 a q e
    exact ⟨k _ _ q2 (fun _ z => by cases z) q1, q2, q3⟩
theorem BoardAt.same {K : PySem.W.Frag} {c : Addr} {H H' : Hp} {x : Addr} {n : Nat} {E : List (Nat × Nat)} (k : Same H H') (h : BoardAt K c H x n E) : BoardAt K c H' x n E := by
  obtain ⟨dx, lp, ll, lf, L, ls, F, h1, h2, h3, h4, h5, h6, h7, h8, h9, h10⟩ := h.ex
  exact ⟨⟨dx, lp, ll, lf, L, ls, F, k _ _ h1, h2.same k, h3, k _ _ h4, h5, h6, k _ _ h7, h8, h9, fun a q e => ⟨k _ _ (h10 a q e).1, (h10 a q e).2⟩⟩, h.lo, h.hi, h.on, h.nd⟩
theorem BoardAt.obj {K : PySem.W.Frag} {c : Addr} {H : Hp} {x : Addr} {n : Nat} {E : List (Nat × Nat)} (h : BoardAt K c H x n E) : ∃ dx lp ll lf, H x = some (.ins (cB K) dx (bf n lp ll lf)) := by
  obtain ⟨dx, lp, ll, lf, L, ls, F, h1, _⟩ := h.ex
  exact ⟨dx, lp, ll, lf, h1⟩
theorem bf_eq (n : Nat) (lp ll lf : Addr) : bf n lp ll lf = ([("many", .int (n : Nat)), ("pairs", .ref lp), ("leads", .ref ll), ("fars", .ref lf)] : List (Str × V)) := by rfl
theorem bf_many (n : Nat) (lp ll lf : Addr) : (bf n lp ll lf).lookup ("many" : Str) = some (.int (n : Nat)) := by rfl
theorem bf_pairs (n : Nat) (lp ll lf : Addr) : (bf n lp ll lf).lookup ("pairs" : Str) = some (.ref lp) := by rfl
theorem bf_leads (n : Nat) (lp ll lf : Addr) : (bf n lp ll lf).lookup ("leads" : Str) = some (.ref ll) := by rfl
theorem bf_fars (n : Nat) (lp ll lf : Addr) : (bf n lp ll lf).lookup ("fars" : Str) = some (.ref lf) := by rfl
theorem bf_check (n : Nat) (lp ll lf : Addr) : (bf n lp ll lf).lookup ("check_place" : Str) = none := by rfl
theorem bf_within (n : Nat) (lp ll lf : Addr) : (bf n lp ll lf).lookup ("within" : Str) = none := by rfl
theorem bf_turned (n : Nat) (lp ll lf : Addr) : (bf n lp ll lf).lookup ("turned" : Str) = none := by rfl
theorem bf_renamed (n : Nat) (lp ll lf : Addr) : (bf n lp ll lf).lookup ("renamed" : Str) = none := by rfl
/-! ### the law's box -/
def boxK (c : Addr) (r s t : Int) : List (Key × V) := [(Sum.inr "cells", .ref c), (Sum.inr "rest", .int r), (Sum.inr "seed", .int s), (Sum.inr "turn", .int t)]
structure Box (b c : Addr) (H : Hp) : Prop where
  ex : ∃ (ns : List Int) (r s t : Int), H b = some (.dK (boxK c r s t)) ∧ H c = some (.lst (ns.map V.int)) ∧ 0 ≤ r ∧ 0 ≤ s ∧ s < 2147483629 ∧ ns.length ≤ 63
theorem Box.same {b c : Addr} {H H' : Hp} (k : Same H H') (h : Box b c H) : Box b c H' := by
  obtain ⟨ns, r, s, t, h1, h2, h3⟩ := h.ex
  exact ⟨ns, r, s, t, k _ _ h1, k _ _ h2, h3⟩
theorem Box.lst {b c : Addr} {H : Hp} (h : Box b c H) : ∃ ys, H c = some (.lst ys) := by
  obtain ⟨ns, r, s, t, h1, h2, h3⟩ := h.ex
  exact ⟨_, h2⟩
theorem bx_cells (c : Addr) (r s t : Int) : valV (boxK c r s t) (Sum.inr "cells" : Key) = some (.ref c) := by rfl
theorem bx_rest (c : Addr) (r s t : Int) : valV (boxK c r s t) (Sum.inr "rest" : Key) = some (.int r) := by rfl
theorem bx_seed (c : Addr) (r s t : Int) : valV (boxK c r s t) (Sum.inr "seed" : Key) = some (.int s) := by rfl
theorem bx_turn (c : Addr) (r s t : Int) : valV (boxK c r s t) (Sum.inr "turn" : Key) = some (.int t) := by rfl
theorem bx_rest_put (c : Addr) (r s t x : Int) : putK (boxK c r s t) (Sum.inr "rest" : Key) (.int x) = boxK c x s t := by rfl
theorem bx_seed_put (c : Addr) (r s t x : Int) : putK (boxK c r s t) (Sum.inr "seed" : Key) (.int x) = boxK c r x t := by rfl
theorem bx_turn_put (c : Addr) (r s t x : Int) : putK (boxK c r s t) (Sum.inr "turn" : Key) (.int x) = boxK c r s x := by rfl
theorem bg_cells {H : Hp} {b c : Addr} {r s t : Int} (hb : H b = some (.dK (boxK c r s t))) : DGet H b (.str "cells") (some (.ref c)) := DGet.k (k := Sum.inr "cells") hb
theorem bg_rest {H : Hp} {b c : Addr} {r s t : Int} (hb : H b = some (.dK (boxK c r s t))) : DGet H b (.str "rest") (some (.int r)) := DGet.k (k := Sum.inr "rest") hb
theorem bg_seed {H : Hp} {b c : Addr} {r s t : Int} (hb : H b = some (.dK (boxK c r s t))) : DGet H b (.str "seed") (some (.int s)) := DGet.k (k := Sum.inr "seed") hb
theorem bg_turn {H : Hp} {b c : Addr} {r s t : Int} (hb : H b = some (.dK (boxK c r s t))) : DGet H b (.str "turn") (some (.int t)) := DGet.k (k := Sum.inr "turn") hb
theorem bp_rest {H : Hp} {b c : Addr} {r s t x : Int} (hb : H b = some (.dK (boxK c r s t))) : DPut H b (.str "rest") (.int x) (upd H b (.dK (boxK c x s t))) := DPut.k (k := Sum.inr "rest") hb (by show 4 < sizeLine; decide)
theorem bp_seed {H : Hp} {b c : Addr} {r s t x : Int} (hb : H b = some (.dK (boxK c r s t))) : DPut H b (.str "seed") (.int x) (upd H b (.dK (boxK c r x t))) := DPut.k (k := Sum.inr "seed") hb (by show 4 < sizeLine; decide)
theorem bp_turn {H : Hp} {b c : Addr} {r s t x : Int} (hb : H b = some (.dK (boxK c r s t))) : DPut H b (.str "turn") (.int x) (upd H b (.dK (boxK c r s x))) := DPut.k (k := Sum.inr "turn") hb (by show 4 < sizeLine; decide)
/-- the dict changes -/
theorem Kc.dict {c b : Addr} {H H' : Hp} {o : HO} (k : Kc c H H') (hb : ∃ kvs, H b = some (.dK kvs)) : Kc c H (L2.upd H' b o) := fun a u h1 h2 e => by
  have ne : a ≠ b := fun z => by
    obtain ⟨kvs, hb⟩ := hb
    rw [z, hb] at e
    exact h2 kvs (Option.some.inj e).symm
  rw [upd_ne ne]
  exact k a u h1 h2 e
theorem Kc.cell {c : Addr} {H H' : Hp} {o : HO} (k : Kc c H H') : Kc c H (L2.upd H' c o) := fun a u h1 h2 e => by
  rw [upd_ne h1]
  exact k a u h1 h2 e
theorem Box.dict {b c : Addr} {H : Hp} (h : Box b c H) : ∃ kvs, H b = some (.dK kvs) := by
  obtain ⟨ns, r, s, t, h1, h2, h3⟩ := h.ex
  exact ⟨_, h1⟩
theorem Box.ne {b c : Addr} {H : Hp} (h : Box b c H) : b ≠ c := by
  obtain ⟨ns, r, s, t, h1, h2, h3⟩ := h.ex
  exact ne_of h1 h2 (by intro z; cases z)
end RL
namespace RL
open PySem PySem.Spec PyProof.Rows L2 RLM
section
variable {P : Program} {w : World} {K : PySem.W.Frag} {mg : Str → Option Value} {base : Heap}
/-! ### data -/
theorem dp_ints {H : Hp} : ∀ ns : List Int, DpAll K H (ns.map V.int) (ns.map PyData.int)
  | [] => .nil
  | n :: ns => .cons (.int n) (dp_ints ns)
theorem shaped_ints (ns : List Int) : SeqAt.shaped (.list (ns.map PyData.int)) = true := PySem.W.ke_shaped_ints ns
theorem shaped_tup (ns : List Int) : SeqAt.shaped (.tuple (ns.map PyData.int)) = true := by
  have h := PySem.W.ke_shaped_ints ns
  exact h
theorem eqv_tup (ns : List Int) : PyData.eqv (.tuple (ns.map PyData.int)) (.tuple (ns.map PyData.int)) = true := SeqAt.eqv_refl _ (SeqAt.canLay_of_shaped (shaped_tup ns))
theorem six0 (n : Nat) : seqIndex? 0 (n + 1) = some 0 := by
  unfold seqIndex?
  simp
theorem cut_ints (ns : List Int) (lo hi : Option Int) : ∃ ms : List Int, cutV (ns.map V.int) lo hi = ms.map V.int ∧ ms.length ≤ ns.length := by
  unfold cutV
  rw [← List.map_drop, ← List.map_take]
  exact ⟨_, rfl, by rw [List.length_take, List.length_drop]; omega⟩
/-! ### is_number, is_between -/
def spNumber : Sp := fun vs H Q _ => ∃ i : Int, vs = [.int i] ∧ Q (.bl true) H
theorem sc_is_number : FnScope ["thing"] ["thing"] (defScope s_is_number) := ⟨rfl, rfl, rfl, by decide +kernel, rfl, by decide +kernel, by decide +kernel⟩
theorem ok_is_number (T : Tx K mg) : Has P w K mg base (He.ga K "is_number") 1 ["thing"] spNumber := by
  obtain ⟨fd, F⟩ := T.d_is_number
  refine ⟨⟨fd, F.ok sc_is_number (fun vs H Q E h => ?_) (fun cdv A outer s H vs Q E hr h => ?_), F.bindsN fun _ _ _ _ _ _ us hl => match us, hl with | [_], _ => rfl⟩, F.kp⟩
  · obtain ⟨i, rfl, _⟩ := h
    rfl
  · obtain ⟨i, rfl, h⟩ := h
    refine ⟨_, PSs.nox (pss_one (ps_ret (pe_and (pe_callB (isiK (K := K)) (by rfl) T.free_isinstance (by decide +kernel) (pa_cons (pv 0) (pa_cons (pe_bltn (v := .ty "int") (u := .type "int") (by rfl) T.free_int (by decide +kernel) rfl) pa_nil))) (pe_one (pe_not (pe_callB (isiK (K := K)) (by rfl) T.free_isinstance (by decide +kernel) (pa_cons (pv 0) (pa_cons (pe_bltn (v := .ty "bool") (u := .type "bool") (by rfl) T.free_bool (by decide +kernel) rfl) pa_nil)))))))), ?_⟩
    refine ⟨_, rfl, _, _, _, _, true, rfl, .ty _, .base (.int i), kit_ty (by decide +kernel), true, rfl, iteT ?_⟩
    exact ⟨_, rfl, _, _, _, _, false, rfl, .ty _, .base (.int i), kit_ty (by decide +kernel), false, rfl, h⟩
def spBetween : Sp := fun vs H Q _ => ∃ i a b : Int, vs = [.int i, .int a, .int b] ∧ Q (.bl (decide (a ≤ i ∧ i ≤ b))) H
theorem sc_is_between : FnScope ["thing", "least", "most"] ["thing", "least", "most"] (defScope s_is_between) := ⟨rfl, rfl, rfl, by decide +kernel, rfl, by decide +kernel, by decide +kernel⟩
theorem ok_is_between (T : Tx K mg) : Has P w K mg base (He.ga K "is_between") 2 ["thing", "least", "most"] spBetween := by
  obtain ⟨⟨fd_is_number, F_is_number, b_is_number⟩, kp_is_number⟩ := ok_is_number (P := P) (w := w) (base := base) T
  obtain ⟨fd, F⟩ := T.d_is_between
  refine ⟨⟨fd, F.ok sc_is_between (fun vs H Q E h => ?_) (fun cdv A outer s H vs Q E hr h => ?_), F.bindsN fun _ _ _ _ _ _ us hl => match us, hl with | [_, _, _], _ => rfl⟩, F.kp⟩
  · obtain ⟨i, a, b, rfl, _⟩ := h
    rfl
  · obtain ⟨i, a, b, rfl, h⟩ := h
    have hr_is_number : Room 1 _ := hr.mono (by decide)
    refine ⟨_, PSs.nox (pss_one (ps_ret (pe_and (pe_call F_is_number hr_is_number rfl T.glo_is_number kp_is_number b_is_number .nil pass0 (pa_cons (pv 0) pa_nil)) (pe_one (pe_chain op_le op_le (pv 1) (pv 0) (pv 2)))))), ?_⟩
    refine ⟨_, rfl, i, rfl, _, rfl, iteT ?_⟩
    refine ⟨_, rfl, _, rfl, _, _, rfl, rfl, _, rfl, ?_⟩
    by_cases h1 : a ≤ i
    · rw [decide_eq_true h1]
      refine iteT ⟨_, rfl, _, _, rfl, rfl, ?_⟩
      have e : decide (a ≤ i ∧ i ≤ b) = decide (i ≤ b) := by simp [h1]
      rw [e] at h
      exact h
    · rw [decide_eq_false h1]
      refine iteF ?_
      have e : decide (a ≤ i ∧ i ≤ b) = false := by simp [h1]
      rw [e] at h
      exact h
/-! ### the box -/
def spBox (K : PySem.W.Frag) : Sp := fun vs H Q _ => ∃ (a : Addr) (ns : List Int), vs = [.ref a] ∧ SqL K H a (ns.map V.int) ∧ ns.length ≤ 63 ∧ ∀ H' b c, Same H H' → Box b c H' → Q (.ref b) H'
theorem sc__law_box : FnScope ["_law_script"] ["_law_script"] (defScope s__law_box) := ⟨rfl, rfl, rfl, by decide +kernel, rfl, by decide +kernel, by decide +kernel⟩
theorem ok_box (T : Tx K mg) : Has P w K mg base (He.ga K "_law_box") 1 ["_law_script"] (spBox K) := by
  obtain ⟨fd, F⟩ := T.d__law_box
  refine ⟨⟨fd, F.ok sc__law_box (fun vs H Q E h => ?_) (fun cdv A outer s H vs Q E hr h => ?_), F.bindsN fun _ _ _ _ _ _ us hl => match us, hl with | [_], _ => rfl⟩, F.kp⟩
  · obtain ⟨a, ns, rfl, _⟩ := h
    rfl
  · obtain ⟨a, ns, rfl, hS, hl, h⟩ := h
    refine ⟨_, PSs.nox (pss_one (ps_ret (pe_disp (pps_cons pe_str (pe_callTy (listK (K := K)) (by rfl) T.free_list (by decide +kernel) (pa_cons (pe_slice (slL (K := K)) (pv 0) po_none (po_some pe_int)) pa_nil)) (pps_cons pe_str pe_int (pps_cons pe_str pe_int (pps_cons pe_str pe_int pps_nil)))) (by rfl) (by rfl) (fun z => by cases z) (by decide)))), ?_⟩
    intro b hb
    have sb : Same H (upd H b (.dK [])) := same_upd hb
    refine ⟨_, rfl, ?_⟩
    refine ⟨63, rfl, a, _, rfl, sb.seq hS, fun q hq => ?_⟩
    have sq := same_upd (o := .lst (cutV (List.map V.int ns) none (some 63))) hq
    obtain ⟨ms, em, lm⟩ := cut_ints ns none (some 63)
    refine ⟨q, _, rfl, .inl (SqL.of upd_same), fun l hl => ?_⟩
    have s2 := same_upd (o := .lst (cutV (List.map V.int ns) none (some 63))) hl
    have s3 := (sb.trans sq).trans s2
    refine ⟨?_, [(Sum.inr "cells", .ref l), (Sum.inr "rest", .int 0), (Sum.inr "seed", .int 9121001), (Sum.inr "turn", .int 0)], rfl, (by show 4 ≤ 15; decide), ?_⟩
    · exact s2 _ _ (sq _ _ upd_same)
    · have nlb : l ≠ b := fun z => by
        rw [z, sq _ _ upd_same] at hl
        cases hl
      refine h _ b l (same_mut s3 hb) ⟨ms, 0, 9121001, 0, upd_same, ?_, by decide, by decide, by decide, by omega⟩
      rw [upd_ne nlb, upd_same, em]
/-! ### pick -/
def spPick : Sp := fun vs H Q _ => ∃ (b c : Addr) (m : Int), vs = [.ref b, .int m] ∧ Box b c H ∧ 1 ≤ m ∧ m < 1073741824 ∧ ∀ H' i, Kc c H H' → Box b c H' → 0 ≤ i → i < m → Q (.int i) H'
theorem sc__law_pick : FnScope ["_law_box_here", "_law_many", "_law_cell", "_law_digit", "_law_seed"] ["_law_box_here", "_law_many"] (defScope s__law_pick) := ⟨rfl, rfl, rfl, by decide +kernel, rfl, by decide +kernel, by decide +kernel⟩
theorem ok_pick (T : Tx K mg) : Has P w K mg base (He.ga K "_law_pick") 1 ["_law_box_here", "_law_many"] spPick := by
  obtain ⟨fd, F⟩ := T.d__law_pick
  refine ⟨⟨fd, F.ok sc__law_pick (fun vs H Q E h => ?_) (fun cdv A outer s H vs Q E hr h => ?_), F.bindsN fun _ _ _ _ _ _ us hl => match us, hl with | [_, _], _ => rfl⟩, F.kp⟩
  · obtain ⟨b, c, m, rfl, _⟩ := h
    rfl
  · obtain ⟨b, c, m, rfl, B, m1, m2, h⟩ := h
    have hu := hu_of hr
    refine ⟨_, PSs.nox (C8.pss_cut (ps_if (PW.pt (pw_and (pt_cmpR op_eq (pe_dget hu (pv 0) pe_str (fun _ _ => rfl)) pe_int (nomark _)) (pw_and1 (pt_cmpR (neD (K := K) hr.units) (pe_dget hu (pv 0) pe_str (fun _ _ => rfl)) (pe_lst pa_nil) (nomark _))))) (pss_cons (ps_set (i := 2) sc__law_pick.nd rfl (Or.inl rfl) (bmK (K := K) PySem.F.plainAttrs_list PySem.F.slot_list_pop PySem.F.type_list_pop mt_popAt (pe_dget hu (pv 0) pe_str (fun _ _ => rfl)) (pa_cons pe_int pa_nil)))
      (pss_cons (ps_dput hu (pv 0) pe_str (pe_callB (call_max2 rfl) (by rfl) T.free_max (by decide +kernel) (pa_cons pe_int (pa_cons (pe_op op_sub (pv 2) (pe_op op_pow pe_int pe_int)) pa_nil))) rfl)
      (pss_one (ps_dput hu (pv 0) pe_str (pe_op op_mod (pe_op op_add (pe_op op_add (pe_op op_mul (pe_dget hu (pv 0) pe_str (fun _ _ => rfl)) pe_int) (pe_op op_mul (pe_op op_mod (pv 2) pe_int) pe_int)) pe_int) pe_int) rfl)))) pss_nil)
      (pss_cons (ps_if (pt_cmpR op_gt (pe_dget hu (pv 0) pe_str (fun _ _ => rfl)) pe_int (nomark _)) (pss_cons (ps_set (i := 3) sc__law_pick.nd rfl (Or.inl rfl) (pe_op op_modN (pe_dget hu (pv 0) pe_str (fun _ _ => rfl)) (pv 1)))
      (pss_cons (ps_dput hu (pv 0) pe_str (pe_op op_fdivN (pe_dget hu (pv 0) pe_str (fun _ _ => rfl)) (pv 1)) rfl)
      (pss_one (ps_ret (pv 3))))) pss_nil)
      (pss_cons (ps_dput hu (pv 0) pe_str (pe_op op_add (pe_dget hu (pv 0) pe_str (fun _ _ => rfl)) pe_int) rfl)
      (pss_cons (ps_set (i := 4) sc__law_pick.nd rfl (Or.inl rfl) (pe_op op_mod (pe_op op_add (pe_op op_add (pe_op op_mul (pe_dget hu (pv 0) pe_str (fun _ _ => rfl)) pe_int) (pe_op op_mul (pe_dget hu (pv 0) pe_str (fun _ _ => rfl)) pe_int)) pe_int) pe_int))
      (pss_cons (ps_dput hu (pv 0) pe_str (pe_op op_mod (pe_op op_add (pe_op op_add (pe_op op_mul (pv 4) (pv 4)) (pe_op op_mul pe_int (pv 4))) pe_int) pe_int) rfl)
      (pss_one (ps_ret (pe_op op_modN (pe_op op_add (pe_op op_fdiv (pe_dget hu (pv 0) pe_str (fun _ _ => rfl)) pe_int) (pe_op op_mul (pe_op op_mod (pe_dget hu (pv 0) pe_str (fun _ _ => rfl)) pe_int) pe_int)) (pv 1))))))))), ?_⟩
    refine ⟨fun σ H1 => (∃ v2, σ = [some (.ref b), some (.int m), v2, none, none]) ∧ Kc c H H1 ∧ Box b c H1, ?_, ?_⟩
    · obtain ⟨ns, r, z, t, hb, hc, r0, z0, z1, nl⟩ := B.ex
      have nbc := B.ne
      refine ⟨_, rfl, b, _, rfl, bg_rest hb, rfl, _, rfl, ?_⟩
      refine ite2 (fun hr0 => ?_) (fun hr0 => iteF ⟨⟨none, rfl⟩, Kc.refl c H, B⟩)
      refine ⟨_, rfl, b, _, rfl, bg_cells hb, Nat.zero_le _, fun l hl => ?_⟩
      have sl : Same H (upd H l (.lst [])) := same_upd hl
      refine ⟨.list (ns.map .int), .list [], .lst (SqL.of (sl _ _ hc)) (dp_ints ns), .lst (SqL.of upd_same) .nil, shaped_ints ns, shaped_ints [], _, rfl, ?_⟩
      cases ns with
      | nil => exact iteF ⟨⟨none, rfl⟩, kc_same sl, B.same sl⟩
      | cons n0 ns =>
        refine iteT ?_
        have hb1 := sl _ _ hb
        have hc1 := sl _ _ hc
        generalize hH1 : upd H l (.lst []) = H1 at sl hb1 hc1
        refine ⟨_, rfl, b, _, rfl, bg_cells hb1, .inl ⟨rfl, _, SqL.of hc1⟩, c, _, 0, 0, _, rfl, rfl, hc1, by decide, by decide, six0 _, rfl, ?_⟩
        have hb2 : (upd H1 c (.lst (ns.map V.int))) b = some (.dK (boxK c r z t)) := by
          rw [upd_ne nbc]
          exact hb1
        have hc2 : (upd H1 c (.lst (ns.map V.int))) c = some (.lst (ns.map V.int)) := upd_same
        have k2 : Kc c H (upd H1 c (.lst (ns.map V.int))) := (kc_same sl).cell
        have e2 : ((n0 :: ns).map V.int).eraseIdx 0 = ns.map V.int := rfl
        rw [e2]
        generalize upd H1 c (.lst (ns.map V.int)) = H2 at hb2 hc2 k2
        refine ⟨_, rfl, _, _, rfl, rfl, ⟨by decide, by decide, by decide⟩, _, _, rfl, rfl, _, _, rfl, _, rfl, b, _, rfl, bp_rest hb2, ?_⟩
        have hb3 : (upd H2 b (.dK (boxK c (if n0 - 10 ^ (18 : Int).toNat > 0 then n0 - 10 ^ (18 : Int).toNat else 0) z t))) b = _ := upd_same
        have hc3 : (upd H2 b (.dK (boxK c (if n0 - 10 ^ (18 : Int).toNat > 0 then n0 - 10 ^ (18 : Int).toNat else 0) z t))) c = some (.lst (ns.map V.int)) := by
          rw [upd_ne nbc.symm]
          exact hc2
        have k3 : Kc c H (upd H2 b (.dK (boxK c (if n0 - 10 ^ (18 : Int).toNat > 0 then n0 - 10 ^ (18 : Int).toNat else 0) z t))) := k2.dict ⟨_, hb⟩
        have r3 : 0 ≤ (if n0 - 10 ^ (18 : Int).toNat > 0 then n0 - 10 ^ (18 : Int).toNat else 0) := by split <;> omega
        generalize (if n0 - 10 ^ (18 : Int).toNat > 0 then n0 - 10 ^ (18 : Int).toNat else 0) = r1 at hb3 hc3 k3 r3
        generalize upd H2 b (.dK (boxK c r1 z t)) = H3 at hb3 hc3 k3
        refine ⟨_, rfl, b, _, rfl, bg_seed hb3, _, _, rfl, rfl, .inl ⟨by omega, by omega⟩, _, rfl, _, _, rfl, rfl, (by show (0 : Int) < 1000003; decide), _, _, rfl, rfl, .inr ⟨by decide, by decide⟩, _, _, rfl, rfl, _, _, rfl, rfl, _, _, rfl, rfl, (by show (0 : Int) < 2147483629; decide), _, rfl, b, _, rfl, bp_seed hb3, ?_⟩
        refine ⟨⟨_, rfl⟩, k3.dict ⟨_, hb⟩, ⟨ns, r1, _, t, upd_same, ?_, r3, Int.emod_nonneg _ (by decide), Int.emod_lt_of_pos _ (by decide), ?_⟩⟩
        · rw [upd_ne nbc.symm]
          exact hc3
        · rw [List.length_cons] at nl
          omega
    · rintro σ H1 ⟨⟨v2, rfl⟩, k1, B1⟩
      obtain ⟨ns, r, z, t, hb, hc, r0, z0, z1, nl⟩ := B1.ex
      have nbc := B1.ne
      refine ⟨_, rfl, b, _, rfl, bg_rest hb, _, _, rfl, rfl, _, rfl, ?_⟩
      refine ite2 (fun hr0 => ?_) (fun hr0 => ?_)
      · refine ⟨_, rfl, b, _, rfl, bg_rest hb, _, rfl, _, _, rfl, rfl, by omega, ?_⟩
        refine ⟨_, rfl, b, _, rfl, bg_rest hb, _, rfl, _, _, rfl, rfl, ⟨by omega, by omega⟩, _, rfl, b, _, rfl, bp_rest hb, ?_⟩
        refine ⟨_, rfl, ?_⟩
        have e1 : r.fmod m = r % m := Int.fmod_eq_emod_of_nonneg _ (by omega)
        have e2 : r.fdiv m = r / m := Int.fdiv_eq_ediv_of_nonneg _ (by omega)
        refine h _ _ (k1.dict B.dict) ⟨ns, _, z, t, upd_same, ?_, ?_, z0, z1, nl⟩ ?_ ?_
        · rw [upd_ne nbc.symm]
          exact hc
        · rw [e2]
          exact Int.ediv_nonneg r0 (by omega)
        · rw [e1]
          exact Int.emod_nonneg _ (by omega)
        · rw [e1]
          exact Int.emod_lt_of_pos _ (by omega)
      · refine ⟨_, rfl, b, _, rfl, bg_turn hb, _, _, rfl, rfl, _, rfl, b, _, rfl, bp_turn hb, ?_⟩
        have hb2 : (upd H1 b (.dK (boxK c r z (t + 1)))) b = _ := upd_same
        have hc2 : (upd H1 b (.dK (boxK c r z (t + 1)))) c = some (.lst (ns.map V.int)) := by
          rw [upd_ne nbc.symm]
          exact hc
        have k2 : Kc c H (upd H1 b (.dK (boxK c r z (t + 1)))) := k1.dict B.dict
        generalize upd H1 b (.dK (boxK c r z (t + 1))) = H2 at hb2 hc2 k2
        refine ⟨_, rfl, b, _, rfl, bg_seed hb2, _, _, rfl, rfl, .inl ⟨by omega, by omega⟩, _, rfl, b, _, rfl, bg_turn hb2, _, _, rfl, rfl, .inr ⟨by decide, by decide⟩, _, _, rfl, rfl, _, _, rfl, rfl, _, _, rfl, rfl, (by show (0 : Int) < 2147483629; decide), ?_⟩
        have y0 : 0 ≤ (z * 16807 + (t + 1) * 7919 + 3) % 2147483629 := Int.emod_nonneg _ (by decide)
        have y1 : (z * 16807 + (t + 1) * 7919 + 3) % 2147483629 < 2147483629 := Int.emod_lt_of_pos _ (by decide)
        refine ⟨_, rfl, _, rfl, _, _, rfl, rfl, .inl ⟨by omega, by omega⟩, _, rfl, _, _, rfl, rfl, .inl ⟨by decide, by decide⟩, _, _, rfl, rfl, _, _, rfl, rfl, _, _, rfl, rfl, (by show (0 : Int) < 2147483629; decide), _, rfl, b, _, rfl, bp_seed hb2, ?_⟩
        refine ⟨_, rfl, b, _, rfl, bg_seed upd_same, _, _, rfl, rfl, ⟨by decide, by decide⟩, _, rfl, b, _, rfl, bg_seed upd_same, _, _, rfl, rfl, (by show (0 : Int) < 127; decide), _, _, rfl, rfl, .inr ⟨by decide, by decide⟩, _, _, rfl, rfl, _, rfl, _, _, rfl, rfl, by omega, ?_⟩
        show Q (.int (Int.fmod _ m)) _
        rw [Int.fmod_eq_emod_of_nonneg _ (by omega)]
        refine h _ _ (k2.dict B.dict) ⟨ns, r, _, t + 1, upd_same, ?_, r0, Int.emod_nonneg _ (by decide), Int.emod_lt_of_pos _ (by decide), nl⟩ (Int.emod_nonneg _ (by omega)) (Int.emod_lt_of_pos _ (by omega))
        rw [upd_ne nbc.symm]
        exact hc2
end
end RL
/-! Comprehensions whose turns leave all that was there as it was. -/
namespace RL
open PySem PySem.Spec PyProof.Rows L2 RLM
/-- all tuples stay -/
def TK (H H' : Hp) : Prop := ∀ (a : Addr) (xs : List V), H a = some (.tup xs) → H' a = some (.tup xs)
theorem TK.refl (H : Hp) : TK H H := fun _ _ h => h
theorem TK.trans {H H1 H2 : Hp} (a : TK H H1) (b : TK H1 H2) : TK H H2 := fun x xs h => b x xs (a x xs h)
theorem tk_same {H H' : Hp} (s : Same H H') : TK H H' := fun a xs h => s _ _ h
theorem tk_lst {H : Hp} {D : Addr} {acc bcc : List V} (h : H D = some (.lst acc)) : TK H (upd H D (.lst bcc)) := fun a xs e => by
  rw [upd_ne (ne_of e h (by intro z; cases z))]
  exact e
theorem Kc.tk {c : Addr} {H H' : Hp} (k : Kc c H H') (hc : ∃ ys, H c = some (.lst ys)) : TK H H' := fun a xs h => k.tup hc h
section
variable {J : It} {n : Nat} {G : Hp → Prop} {Y : Nat → Hp → V → Hp → Prop} {g : TG} {tt : TT} {te : TE} {vs : List Nat} {σ : L2.St} {H : Hp} {D : Addr} {Qd : Hp → Prop}
/-- [e for x in ..]: what R says of each -/
theorem lc_rel (w : Walk J n G Y) (R : Nat → V → Hp → Prop) (hn : n ≤ 100000) (hD : H D = none) (tk : ∀ k v H1 H2, R k v H1 → TK H1 H2 → R k v H2) (hG : ∀ H1, Same H H1 → G H1)
    (hs : ∀ i x H1 H2 (Nx : V → Hp → Prop), i < n → Same H H1 → Y i H1 x H2 → (∀ y H4, R i y H4 → Same H1 H4 → Nx y H4) → g x (wipe σ vs) H2 fun σ2 H3 => wipe σ2 vs = wipe σ vs ∧ te σ2 H3 Nx)
    (hd : ∀ H1 ys, H1 D = some (.lst ys) → ys.length = n → (∀ k y, ys[k]? = some y → R k y H1) → Same H H1 → Qd H1) :
    ∃ W : Nat → Nat → Hp → Prop, (∃ m, W 0 m (upd H D (.lst []))) ∧ ∀ i m H, W i m H →
      (J.stop i H ∧ Qd H) ∨ (J.go i H ∧ ∃ Nx : Hp → Prop, (∀ H', Nx H' → ∃ m', m' < m ∧ W (i + 1) m' H') ∧ ∀ x H', J.yld i H x H' → g x (wipe σ vs) H' fun σ2 H2 => wipe σ2 vs = wipe σ vs ∧ tYes σ2 H2 fun b H3 =>
        if b = true then te σ2 H3 fun y H4 => ∃ acc, H4 D = some (.lst acc) ∧ acc.length < sizeLine ∧ Nx (upd H4 D (.lst (acc ++ [y]))) else Nx H3) := by
  refine lc_it w (fun i H1 => ∃ ys, H1 D = some (.lst ys) ∧ ys.length = i ∧ (∀ k y, ys[k]? = some y → R k y H1) ∧ Same H H1) ⟨[], upd_same, rfl, fun k y e => (by simp at e), same_upd hD⟩ (fun i H1 _ ⟨_, _, _, _, s1⟩ => hG H1 s1) ?_ (fun H1 ⟨ys, h1, h2, h3, h4⟩ => hd H1 ys h1 h2 h3 h4)
  rintro i x H1 H2 hi ⟨ys, h1, h2, h3, s1⟩ hY
  refine hs i x H1 H2 (fun y H4 => ∃ acc, H4 D = some (.lst acc) ∧ acc.length < sizeLine ∧ ∃ zs, (upd H4 D (.lst (acc ++ [y]))) D = some (.lst zs) ∧ zs.length = i + 1 ∧ (∀ k y', zs[k]? = some y' → R k y' (upd H4 D (.lst (acc ++ [y])))) ∧ Same H (upd H4 D (.lst (acc ++ [y])))) hi s1 hY fun y H4 r s4 => ?_
  have h4 := s4 _ _ h1
  refine ⟨ys, h4, ?_, ys ++ [y], upd_same, by simp [h2], fun k y' e => ?_, same_mut (s1.trans s4) hD⟩
  · rw [h2]
    exact Nat.lt_of_lt_of_le hi (Nat.le_trans hn (by decide))
  · by_cases hk : k < ys.length
    · rw [List.getElem?_append_left hk] at e
      exact tk _ _ _ _ (h3 k y' e) ((tk_same s4).trans (tk_lst h4))
    · rw [List.getElem?_append_right (by omega)] at e
      have ek : k = ys.length := by
        obtain ⟨z1, _⟩ := List.getElem?_eq_some_iff.mp e
        simp at z1
        omega
      rw [ek, Nat.sub_self] at e
      cases e
      rw [ek, h2]
      exact tk _ _ _ _ r (tk_lst h4)
/-- [f(x) for x in ..]: plain values -/
theorem lc_val (w : Walk J n G Y) (f : Nat → V) (hn : n ≤ 100000) (hD : H D = none) (hG : ∀ H1, Same H H1 → G H1)
    (hs : ∀ i x H1 H2 (Nx : V → Hp → Prop), i < n → Same H H1 → Y i H1 x H2 → (∀ H4, Same H1 H4 → Nx (f i) H4) → g x (wipe σ vs) H2 fun σ2 H3 => wipe σ2 vs = wipe σ vs ∧ te σ2 H3 Nx)
    (hd : ∀ H1, H1 D = some (.lst ((List.range n).map f)) → Same H H1 → Qd H1) :
    ∃ W : Nat → Nat → Hp → Prop, (∃ m, W 0 m (upd H D (.lst []))) ∧ ∀ i m H, W i m H →
      (J.stop i H ∧ Qd H) ∨ (J.go i H ∧ ∃ Nx : Hp → Prop, (∀ H', Nx H' → ∃ m', m' < m ∧ W (i + 1) m' H') ∧ ∀ x H', J.yld i H x H' → g x (wipe σ vs) H' fun σ2 H2 => wipe σ2 vs = wipe σ vs ∧ tYes σ2 H2 fun b H3 =>
        if b = true then te σ2 H3 fun y H4 => ∃ acc, H4 D = some (.lst acc) ∧ acc.length < sizeLine ∧ Nx (upd H4 D (.lst (acc ++ [y]))) else Nx H3) := by
  refine lc_rel w (fun k v _ => v = f k) hn hD (fun _ _ _ _ h _ => h) hG (fun i x H1 H2 Nx hi s1 hY h => hs i x H1 H2 Nx hi s1 hY fun H4 s4 => h _ _ rfl s4) fun H1 ys h1 h2 h3 s1 => hd H1 ?_ s1
  rw [h1]
  congr 2
  refine List.ext_getElem? fun k => ?_
  by_cases hk : k < n
  · have e : ys[k]? = some ys[k] := List.getElem?_eq_getElem (by omega)
    rw [e, h3 k _ e, List.getElem?_map, List.getElem?_range hk]
    rfl
  · rw [List.getElem?_eq_none (by omega), List.getElem?_eq_none (by simp; omega)]
/-- [b for b in .. if t(b)], the b numbers -/
theorem lc_filt (w : Walk J n G Y) (xs : List Nat) (t : Nat → Bool) (hx : n = xs.length) (hn : n ≤ 100000) (hD : H D = none) (hG : ∀ H1, Same H H1 → G H1)
    (hs : ∀ i b x H1 H2 (N1 : V → Hp → Prop) (N0 : Hp → Prop), xs[i]? = some b → Same H H1 → Y i H1 x H2 → (∀ H4, t b = true → Same H1 H4 → N1 (vI b) H4) → (∀ H4, t b = false → Same H1 H4 → N0 H4) →
      g x (wipe σ vs) H2 fun σ2 H3 => wipe σ2 vs = wipe σ vs ∧ tt σ2 H3 fun c H4 => if c = true then te σ2 H4 N1 else N0 H4)
    (hd : ∀ H1, H1 D = some (.lst ((xs.filter t).map vI)) → Same H H1 → Qd H1) :
    ∃ W : Nat → Nat → Hp → Prop, (∃ m, W 0 m (upd H D (.lst []))) ∧ ∀ i m H, W i m H →
      (J.stop i H ∧ Qd H) ∨ (J.go i H ∧ ∃ Nx : Hp → Prop, (∀ H', Nx H' → ∃ m', m' < m ∧ W (i + 1) m' H') ∧ ∀ x H', J.yld i H x H' → g x (wipe σ vs) H' fun σ2 H2 => wipe σ2 vs = wipe σ vs ∧ tt σ2 H2 fun b H3 =>
        if b = true then te σ2 H3 fun y H4 => ∃ acc, H4 D = some (.lst acc) ∧ acc.length < sizeLine ∧ Nx (upd H4 D (.lst (acc ++ [y]))) else Nx H3) := by
  refine lc_it w (fun i H1 => H1 D = some (.lst (((xs.take i).filter t).map vI)) ∧ Same H H1) ⟨upd_same, same_upd hD⟩ (fun i H1 _ ⟨_, s1⟩ => hG H1 s1) ?_ (fun H1 ⟨h1, h2⟩ => hd H1 (by rw [hx, List.take_length] at h1; exact h1) h2)
  rintro i x H1 H2 hi ⟨h1, s1⟩ hY
  have hb : xs[i]? = some (xs[i]'(by omega)) := List.getElem?_eq_getElem _
  generalize xs[i]'(by omega) = b at hb
  have et : xs.take (i + 1) = xs.take i ++ [b] := by
    rw [List.take_add_one, hb]
    rfl
  refine hs i b x H1 H2 _ _ hb s1 hY (fun H4 tb s4 => ⟨_, s4 _ _ h1, ?_, ?_, same_mut (s1.trans s4) hD⟩) (fun H4 tb s4 => ⟨?_, s1.trans s4⟩)
  · rw [List.length_map]
    refine Nat.lt_of_le_of_lt (List.length_filter_le _ _) (Nat.lt_of_le_of_lt (?_ : _ ≤ 100000) (by decide))
    rw [List.length_take]
    omega
  · rw [upd_same, et, List.filter_append, List.filter_cons, if_pos tb, List.map_append]
    rfl
  · rw [s4 _ _ h1, et, List.filter_append, List.filter_cons, if_neg (by rw [tb]; exact Bool.false_ne_true), List.filter_nil, List.append_nil]
end
/-- what stands in a list or a tuple of numbers -/
theorem get_vI {xs : List Nat} {i : Nat} {x : V} (h : (xs.map vI)[i]? = some x) : ∃ b, xs[i]? = some b ∧ x = vI b := by
  rw [List.getElem?_map] at h
  cases e : xs[i]? with
  | none => rw [e] at h; cases h
  | some b => rw [e] at h; exact ⟨b, rfl, (Option.some.inj h).symm⟩
theorem get_mapV {α : Type} {f : α → V} {xs : List α} {i : Nat} {x : V} (h : (xs.map f)[i]? = some x) : ∃ b, xs[i]? = some b ∧ x = f b := by
  rw [List.getElem?_map] at h
  cases e : xs[i]? with
  | none => rw [e] at h; cases h
  | some b => rw [e] at h; exact ⟨b, rfl, (Option.some.inj h).symm⟩
theorem range_vI (n : Nat) (f : Nat → Nat) : (List.range n).map (fun i => vI (f i)) = ((List.range n).map f).map vI := by rw [List.map_map]; rfl
theorem filter_lot {n : Nat} {p : Nat → Prop} {t : Nat → Bool} {xs : List Nat} (hs : xs.Pairwise (· < ·)) (hm : ∀ b, b ∈ xs ∧ t b = true ↔ b < n ∧ p b) : xs.filter t = lotP n p :=
  lotP_of (hs.filter _) fun b => by rw [List.mem_filter]; exact hm b
end RL
namespace RL
open PySem PySem.Spec PyProof.Rows L2 RLM
section
variable {P : Program} {w : World} {K : PySem.W.Frag} {mg : Str → Option Value} {base : Heap}
/-! ### from a menu -/
def spFrom : Sp := fun vs H Q _ => ∃ (b c l : Addr) (xs : List V), vs = [.ref b, .ref l] ∧ Box b c H ∧ H l = some (.lst xs) ∧ l ≠ c ∧ 1 ≤ xs.length ∧ xs.length ≤ 1000 ∧ ∀ H' x, Kc c H H' → Box b c H' → x ∈ xs → Q x H'
theorem sc__law_from : FnScope ["_law_box_here", "_law_menu"] ["_law_box_here", "_law_menu"] (defScope s__law_from) := ⟨rfl, rfl, rfl, by decide +kernel, rfl, by decide +kernel, by decide +kernel⟩
theorem ok_from (T : Tx K mg) : Has P w K mg base (He.ga K "_law_from") 2 ["_law_box_here", "_law_menu"] spFrom := by
  obtain ⟨⟨fd_law_pick, F_law_pick, b_law_pick⟩, kp_law_pick⟩ := ok_pick (P := P) (w := w) (base := base) T
  obtain ⟨fd, F⟩ := T.d__law_from
  refine ⟨⟨fd, F.ok sc__law_from (fun vs H Q E h => ?_) (fun cdv A outer s H vs Q E hr h => ?_), F.bindsN fun _ _ _ _ _ _ us hl => match us, hl with | [_, _], _ => rfl⟩, F.kp⟩
  · obtain ⟨b, c, l, xs, rfl, _⟩ := h
    rfl
  · obtain ⟨b, c, l, xs, rfl, B, hl, nc, l1, l2, h⟩ := h
    have hr_law_pick : Room 1 _ := hr.mono (by decide)
    refine ⟨_, PSs.nox (pss_one (ps_ret (pe_ix (ixS (K := K)) (pv 1) (pe_call F_law_pick hr_law_pick rfl T.glo_law_pick kp_law_pick b_law_pick .nil pass0 (pa_cons (pv 0) (pa_cons (pe_callB (lenK (K := K)) (by rfl) T.free_len (by decide +kernel) (pa_cons (pv 1) pa_nil)) pa_nil))) (fun _ _ => rfl)))), ?_⟩
    refine ⟨_, rfl, _, rfl, _, rfl, l, _, rfl, .inl (SqL.of hl), b, c, _, rfl, B, by omega, by omega, fun H1 i k1 B1 i0 i1 => ?_⟩
    have hl1 : H1 l = some (.lst xs) := k1 _ _ nc (fun _ z => by cases z) hl
    obtain ⟨j, rfl⟩ : ∃ j : Nat, i = (j : Nat) := ⟨i.toNat, by omega⟩
    have hj : j < xs.length := by omega
    refine .inl ⟨l, xs, _, xs[j], rfl, rfl, SqL.of hl1, atI_nat (by simp [hj]), h H1 _ k1 B1 (List.getElem_mem hj)⟩
/-! ### from a tuple -/
def spFromT : Sp := fun vs H Q _ => ∃ (b c l : Addr) (xs : List V), vs = [.ref b, .ref l] ∧ Box b c H ∧ H l = some (.tup xs) ∧ 1 ≤ xs.length ∧ xs.length ≤ 1000 ∧ ∀ H' x, Kc c H H' → Box b c H' → x ∈ xs → Q x H'
theorem ok_fromT (T : Tx K mg) : Has P w K mg base (He.ga K "_law_from") 2 ["_law_box_here", "_law_menu"] spFromT := by
  obtain ⟨⟨fd_law_pick, F_law_pick, b_law_pick⟩, kp_law_pick⟩ := ok_pick (P := P) (w := w) (base := base) T
  obtain ⟨fd, F⟩ := T.d__law_from
  refine ⟨⟨fd, F.ok sc__law_from (fun vs H Q E h => ?_) (fun cdv A outer s H vs Q E hr h => ?_), F.bindsN fun _ _ _ _ _ _ us hl => match us, hl with | [_, _], _ => rfl⟩, F.kp⟩
  · obtain ⟨b, c, l, xs, rfl, _⟩ := h
    rfl
  · obtain ⟨b, c, l, xs, rfl, B, hl, l1, l2, h⟩ := h
    have hr_law_pick : Room 1 _ := hr.mono (by decide)
    refine ⟨_, PSs.nox (pss_one (ps_ret (pe_ix (ixS (K := K)) (pv 1) (pe_call F_law_pick hr_law_pick rfl T.glo_law_pick kp_law_pick b_law_pick .nil pass0 (pa_cons (pv 0) (pa_cons (pe_callB (lenK (K := K)) (by rfl) T.free_len (by decide +kernel) (pa_cons (pv 1) pa_nil)) pa_nil))) (fun _ _ => rfl)))), ?_⟩
    refine ⟨_, rfl, _, rfl, _, rfl, l, _, rfl, (.inr (SqT.of hl)), b, c, _, rfl, B, by omega, by omega, fun H1 i k1 B1 i0 i1 => ?_⟩
    have hl1 : H1 l = some (.tup xs) := k1.tup B.lst hl
    obtain ⟨j, rfl⟩ : ∃ j : Nat, i = (j : Nat) := ⟨i.toNat, by omega⟩
    have hj : j < xs.length := by omega
    refine .inr (.inl ⟨l, xs, _, xs[j], rfl, rfl, SqT.of hl1, atI_nat (by simp [hj]), h H1 _ k1 B1 (List.getElem_mem hj)⟩)
/-! ### mixed -/
def spMixed : Sp := fun vs H Q _ => ∃ (b c l : Addr) (xs : List V), vs = [.ref b, .ref l] ∧ Box b c H ∧ H l = some (.lst xs) ∧ l ≠ c ∧ xs.length ≤ 1000 ∧ ∀ H' p ys, ys.Perm xs → H' p = some (.lst ys) → p ≠ c → Kc c H H' → Box b c H' → Q (.ref p) H'
theorem perm_ins {α : Type} (ys : List α) (j : Nat) (y : α) : (ys.take j ++ [y] ++ ys.drop j).Perm (ys ++ [y]) := by
  have e : ys ++ [y] = ys.take j ++ (ys.drop j ++ [y]) := by rw [← List.append_assoc, List.take_append_drop]
  rw [e, List.append_assoc]
  exact (List.perm_append_comm).append_left _
theorem sc__law_mixed : FnScope ["_law_box_here", "_law_things", "_law_found", "_law_thing"] ["_law_box_here", "_law_things"] (defScope s__law_mixed) := ⟨rfl, rfl, rfl, by decide +kernel, rfl, by decide +kernel, by decide +kernel⟩
theorem ok_mixed (T : Tx K mg) : Has P w K mg base (He.ga K "_law_mixed") 2 ["_law_box_here", "_law_things"] spMixed := by
  obtain ⟨⟨fd_law_pick, F_law_pick, b_law_pick⟩, kp_law_pick⟩ := ok_pick (P := P) (w := w) (base := base) T
  obtain ⟨fd, F⟩ := T.d__law_mixed
  refine ⟨⟨fd, F.ok sc__law_mixed (fun vs H Q E h => ?_) (fun cdv A outer s H vs Q E hr h => ?_), F.bindsN fun _ _ _ _ _ _ us hl => match us, hl with | [_, _], _ => rfl⟩, F.kp⟩
  · obtain ⟨b, c, l, xs, rfl, _⟩ := h
    rfl
  · obtain ⟨b, c, l, xs, rfl, B, hl, nc, l2, h⟩ := h
    have hr_law_pick : Room 1 _ := hr.mono (by decide)
    refine ⟨_, PSs.nox (pss_cons (ps_set (i := 2) sc__law_mixed.nd rfl (Or.inl rfl) (pe_lst pa_nil))
      (pss_cons (ps_for PassesOwn.never rfl (piL (K := K) (pv 1)) (pg_name (i := 3) sc__law_mixed.nd rfl (Or.inl rfl)) (pss_one (ps_expr (bmK (K := K) PySem.F.plainAttrs_list PySem.F.slot_list_insert PySem.F.type_list_insert mt_insert (pv 2) (pa_cons (pe_call F_law_pick hr_law_pick rfl T.glo_law_pick kp_law_pick b_law_pick .nil pass0 (pa_cons (pv 0) (pa_cons (pe_op op_add (pe_callB (lenK (K := K)) (by rfl) T.free_len (by decide +kernel) (pa_cons (pv 2) pa_nil)) pe_int) pa_nil))) (pa_cons (pv 3) pa_nil))))))
      (pss_one (ps_ret (pv 2))))), ?_⟩
    refine ⟨Nat.zero_le _, fun p hp => ?_⟩
    have s0 : Same H (upd H p (.lst [])) := same_upd hp
    have hpc : p ≠ c := fun z => by
      obtain ⟨ys, hc⟩ := B.lst
      rw [z, hc] at hp
      cases hp
    refine ⟨_, rfl, l, rfl, ⟨_, SqL.of (s0 _ _ hl)⟩, for_list (K := K) (a := l) (xs := xs) (fun i σ H1 => ∃ (ys : List V) (v : Option V), σ = [some (.ref b), some (.ref l), some (.ref p), v] ∧ ys.Perm (xs.take i) ∧ H1 p = some (.lst ys) ∧ Kc c H H1 ∧ Box b c H1)
      ⟨[], none, rfl, by simp, upd_same, kc_same s0, B.same s0⟩ (fun i σ H1 _ ⟨_, _, _, _, _, k1, _⟩ => SqL.of (k1 _ _ nc (fun _ z => by cases z) hl)) ?_ ?_⟩
    · rintro i y σ H1 hi ⟨ys, v, rfl, pm, h1, k1, B1⟩
      have li : i < xs.length := (List.getElem?_eq_some_iff.mp hi).1
      have ly : ys.length = i := by
        rw [pm.length_eq, List.length_take]
        omega
      refine ⟨_, rfl, .inl ⟨rfl, _, SqL.of h1⟩, _, rfl, _, rfl, p, _, rfl, .inl (SqL.of h1), _, _, rfl, rfl, b, c, _, rfl, B1, by omega, by omega, fun H2 j k2 B2 j0 j1 => ?_⟩
      have h2 : H2 p = some (.lst ys) := k2 _ _ hpc (fun _ z => by cases z) h1
      refine ⟨_, rfl, p, ys, j, y, rfl, rfl, h2, Nat.lt_of_le_of_lt (show ys.length ≤ 1000 by omega) (by decide), j0, by omega, ?_⟩
      refine ⟨_, _, rfl, ?_, upd_same, (k1.trans k2).upd hp, ?_⟩
      · have e : xs.take (i + 1) = xs.take i ++ [y] := by
          rw [List.take_add_one, hi]
          rfl
        rw [e]
        exact (perm_ins ys j.toNat y).trans (pm.append_right _)
      · obtain ⟨ns, r, z, t, g1, g2, g3⟩ := B2.ex
        refine ⟨ns, r, z, t, ?_, ?_, g3⟩
        · rw [upd_ne (ne_of g1 h2 (by intro z; cases z))]
          exact g1
        · rw [upd_ne hpc.symm]
          exact g2
    · rintro σ H1 ⟨ys, v, rfl, pm, h1, k1, B1⟩
      rw [List.take_length] at pm
      exact ⟨_, rfl, h H1 p ys pm h1 hpc k1 B1⟩
end
end RL
namespace RL
open PySem PySem.Spec PyProof.Rows L2 RLM
theorem Box.upd {b c p : Addr} {H : Hp} {o : HO} (h : Box b c H) (hp : p ≠ c) (hb : p ≠ b) : Box b c (L2.upd H p o) := by
  obtain ⟨ns, r, s, t, h1, h2, h3⟩ := h.ex
  exact ⟨ns, r, s, t, by rw [upd_ne hb.symm]; exact h1, by rw [upd_ne hp.symm]; exact h2, h3⟩
theorem Box.new {b c p : Addr} {H : Hp} (h : Box b c H) (hp : H p = none) : p ≠ c ∧ p ≠ b := by
  obtain ⟨ns, r, s, t, h1, h2, h3⟩ := h.ex
  exact ⟨(ne_of_none h2 hp).symm, (ne_of_none h1 hp).symm⟩
/-- the ways of a list -/
def WaysOk (n : Nat) (L : List (Addr × Nat × Nat)) : Prop := (L.map (·.2)).Nodup ∧ (∀ q ∈ L, q.2.1 < n ∧ q.2.2 < n ∧ q.2.1 ≠ q.2.2) ∧ L.length ≤ 64
theorem WaysOk.sub {n : Nat} {L M : List (Addr × Nat × Nat)} (h : WaysOk n L) (s : M.Sublist L) : WaysOk n M :=
  ⟨(s.map _).nodup h.1, fun q hq => h.2.1 q (s.subset hq), Nat.le_trans s.length_le h.2.2⟩
theorem perm_map {α β : Type} {f : α → β} : ∀ {xs : List α} {ys : List β}, ys.Perm (xs.map f) → ∃ zs : List α, ys = zs.map f ∧ zs.Perm xs
  | [], ys, h => ⟨[], by rw [List.Perm.eq_nil h]; rfl, List.Perm.refl _⟩
  | x :: xs, ys, h => by
    have hm : f x ∈ ys := h.mem_iff.mpr (by simp)
    obtain ⟨y1, y2, rfl⟩ := List.append_of_mem hm
    have h2 : (y1 ++ y2).Perm (xs.map f) := by
      have := List.perm_middle.symm.trans h
      exact this.cons_inv
    obtain ⟨zs, e, p⟩ := perm_map h2
    obtain ⟨z1, z2, rfl, e1, e2⟩ := List.map_eq_append_iff.mp e.symm
    refine ⟨z1 ++ x :: z2, ?_, List.perm_middle.trans (p.cons x)⟩
    rw [List.map_append, List.map_cons, e1, e2]
/-- [way for way in ways if ..], whatever the test says -/
theorem filt {K : PySem.W.Frag} {b c l D : Addr} {k : Nat} {H : Hp} {σ : L2.St} {vs : List Nat} {tt : TT} {L : List (Addr × Nat × Nat)} {Qd : Hp → Prop} (PL : PairsAt c H l L) (B : Box b c H) (len : L.length ≤ 64) (hD : H D = none)
    (hw : ∀ x : V, wipe ((wipe σ vs).set k (some x)) vs = wipe σ vs) (hk : ∀ x : V, ((wipe σ vs).set k (some x))[k]? = some (some x))
    (htt : ∀ q ∈ L, ∀ H1, Kc c H H1 → Box b c H1 → ∀ R : Bool → Hp → Prop, (∀ t H2, Kc c H1 H2 → Box b c H2 → R t H2) → tt ((wipe σ vs).set k (some (.ref q.1))) H1 R)
    (hd : ∀ H1 M, M.Sublist L → PairsAt c H1 D M → Kc c H H1 → Box b c H1 → Qd H1) :
    ∃ W : Nat → Nat → Hp → Prop, (∃ m, W 0 m (upd H D (.lst []))) ∧ ∀ i m H, W i m H →
      ((Itl K l).stop i H ∧ Qd H) ∨ ((Itl K l).go i H ∧ ∃ Nx : Hp → Prop, (∀ H', Nx H' → ∃ m', m' < m ∧ W (i + 1) m' H') ∧ ∀ x H', (Itl K l).yld i H x H' → gName k x (wipe σ vs) H' fun σ2 H2 => wipe σ2 vs = wipe σ vs ∧ tt σ2 H2 fun b H3 =>
        if b = true then tVar k σ2 H3 fun y H4 => ∃ acc, H4 D = some (.lst acc) ∧ acc.length < sizeLine ∧ Nx (upd H4 D (.lst (acc ++ [y]))) else Nx H3) := by
  have Dc := (B.new hD).1
  have Db := (B.new hD).2
  have s0 : Same H (upd H D (.lst [])) := same_upd hD
  refine lc_list (K := K) (a := l) (xs := L.map fun q => V.ref q.1) (fun i H1 => ∃ M : List (Addr × Nat × Nat), M.Sublist (L.take i) ∧ H1 D = some (.lst (M.map fun q => V.ref q.1)) ∧ Kc c H H1 ∧ Box b c H1)
    ⟨[], by simp, upd_same, kc_same s0, B.same s0⟩ (fun i H1 _ ⟨_, _, _, k1, _⟩ => SqL.of (k1 _ _ PL.ne (fun _ z => by cases z) PL.at_)) ?_ ?_
  · rintro i x H1 hx ⟨M, sM, hM, k1, B1⟩
    rw [List.getElem?_map] at hx
    obtain ⟨q, hq, rfl⟩ : ∃ q, L[i]? = some q ∧ V.ref q.1 = x := by
      cases e : L[i]? with
      | none => rw [e] at hx; cases hx
      | some q => rw [e] at hx; exact ⟨q, rfl, Option.some.inj hx⟩
    have et : L.take (i + 1) = L.take i ++ [q] := by
      rw [List.take_add_one, hq]
      rfl
    refine ⟨hw _, htt q (List.mem_of_getElem? hq) H1 k1 B1 _ fun t H2 k2 B2 => ?_⟩
    have hM2 : H2 D = some (.lst (M.map fun q => V.ref q.1)) := k2 _ _ Dc (fun _ z => by cases z) hM
    have lM : M.length ≤ 64 := Nat.le_trans sM.length_le (by rw [List.length_take]; omega)
    cases t with
    | false =>
      refine iteF ⟨M, ?_, hM2, k1.trans k2, B2⟩
      rw [et]
      exact sM.trans (List.sublist_append_left _ _)
    | true =>
      refine iteT ⟨_, hk _, _, hM2, ?_, M ++ [q], ?_, ?_, (k1.trans k2).upd hD, B2.upd Dc Db⟩
      · rw [List.length_map]
        exact Nat.lt_of_le_of_lt lM (by decide)
      · rw [et]
        exact sM.append (List.Sublist.refl _)
      · rw [upd_same, List.map_append]
        rfl
  · rintro H1 ⟨M, sM, hM, k1, B1⟩
    rw [List.length_map, List.take_length] at sM
    exact hd H1 M sM ⟨hM, Dc, fun q hq => k1.tup B.lst (PL.tup q (sM.subset hq))⟩ k1 B1
section
variable {P : Program} {w : World} {K : PySem.W.Frag} {mg : Str → Option Value} {base : Heap}
def spWays : Sp := fun vs H Q _ => ∃ (b c : Addr) (n : Nat), vs = [.ref b, vI n] ∧ Box b c H ∧ 1 ≤ n ∧ n ≤ 8 ∧ ∀ H' l L, PairsAt c H' l L → WaysOk n L → Kc c H H' → Box b c H' → Q (.ref l) H'
/-! ### a board's data -/
def spBoard : Sp := fun vs H Q _ => ∃ (b c : Addr), vs = [.ref b, vI 8] ∧ Box b c H ∧ ∀ H' t n l L, 1 ≤ n → n ≤ 8 → H' t = some (.tup [vI n, .ref l]) → PairsAt c H' l L → WaysOk n L → Kc c H H' → Box b c H' → Q (.ref t) H'
end
end RL
namespace RL
open PySem PySem.Spec PyProof.Rows L2 RLM
theorem rep_flat {α : Type} (x : α) : ∀ k : Nat, (List.replicate k [x]).flatten = List.replicate k x
  | 0 => rfl
  | k + 1 => by
    rw [List.replicate_succ, List.flatten_cons, rep_flat x k]
    rfl
theorem menu_small {xs : List V} {x : V} (h : x ∈ xs) (hs : xs.all (fun v => match v with | .int i => decide (0 ≤ i ∧ i ≤ 7) | _ => false) = true) : ∃ p : Nat, x = vI p ∧ p ≤ 7 := by
  have := List.all_eq_true.mp hs x h
  cases x with
  | int i =>
    have z : 0 ≤ i ∧ i ≤ 7 := of_decide_eq_true this
    refine ⟨i.toNat, ?_, by omega⟩
    show V.int i = V.int (i.toNat : Nat)
    rw [Int.toNat_of_nonneg z.1]
  | _ => cases this
section
variable {P : Program} {w : World} {K : PySem.W.Frag} {mg : Str → Option Value} {base : Heap}
def spPace : Sp := fun vs H Q _ => ∃ (b c : Addr) (n : Nat), vs = [.ref b, vI n] ∧ Box b c H ∧ 1 ≤ n ∧ n ≤ 8 ∧ ∀ H' t (ps : List Nat), ps.length = n → (∀ p ∈ ps, p ≤ 7) → H' t = some (.tup (ps.map vI)) → Kc c H H' → Box b c H' → Q (.ref t) H'
/-! ### lots -/
def spLot : Sp := fun vs H Q _ => ∃ (b c : Addr) (n : Nat), vs = [.ref b, vI n] ∧ Box b c H ∧ 1 ≤ n ∧ n ≤ 8 ∧ ∀ H' t p, H' t = some (.tup ((lotP n p).map vI)) → Kc c H H' → Box b c H' → Q (.ref t) H'
theorem rg_range (n : Nat) : rgV 0 (n : Int) = (List.range n).map vI := by
  unfold rgV
  rw [Int.sub_zero, Int.toNat_natCast]
  refine List.map_congr_left fun i _ => ?_
  show V.int (0 + (i : Nat)) = V.int (i : Nat)
  rw [Int.zero_add]
theorem lotP_true (n : Nat) : lotP n (fun _ => True) = List.range n := (lotP_of (range_sorted n) fun b => by simp [List.mem_range]).symm
theorem sc__law_lot : FnScope ["_law_box_here", "_law_many", "_law_thick", "_law_place"] ["_law_box_here", "_law_many"] (defScope s__law_lot) := ⟨rfl, rfl, rfl, by decide +kernel, rfl, by decide +kernel, by decide +kernel⟩
theorem ok_lot (T : Tx K mg) : Has P w K mg base (He.ga K "_law_lot") 2 ["_law_box_here", "_law_many"] spLot := by
  obtain ⟨⟨fd_law_pick, F_law_pick, b_law_pick⟩, kp_law_pick⟩ := ok_pick (P := P) (w := w) (base := base) T
  obtain ⟨fd, F⟩ := T.d__law_lot
  refine ⟨⟨fd, F.ok sc__law_lot (fun vs H Q E h => ?_) (fun cdv A outer s H vs Q E hr h => ?_), F.bindsN fun _ _ _ _ _ _ us hl => match us, hl with | [_, _], _ => rfl⟩, F.kp⟩
  · obtain ⟨b, c, n, rfl, _⟩ := h
    rfl
  · obtain ⟨b, c, n, rfl, B, n1, n8, h⟩ := h
    have hr_law_pick : Room 1 _ := hr.mono (by decide)
    refine ⟨_, PSs.nox (pss_cons (ps_if (pt_cmpR op_eq (pe_call F_law_pick hr_law_pick rfl T.glo_law_pick kp_law_pick b_law_pick .nil pass0 (pa_cons (pv 0) (pa_cons pe_int pa_nil))) pe_int (nomark _)) (pss_one (ps_ret (pe_tupRg rfl (by rfl) T.free_tuple (prg_1 (by rfl) T.free_range (pv 1))))) pss_nil)
      (pss_cons (ps_set (i := 2) sc__law_lot.nd rfl (Or.inr rfl) (pe_op op_add pe_int (pe_call F_law_pick hr_law_pick rfl T.glo_law_pick kp_law_pick b_law_pick .nil pass0 (pa_cons (pv 0) (pa_cons pe_int pa_nil)))))
      (pss_one (ps_ret (pe_callTy (tupK (K := K)) (by rfl) T.free_tuple (by decide +kernel) (pa_cons (pe_lc (own := [("_law_place", 3)]) (g := (gName 3)) rfl sc__law_lot.nd (pi_range1 (by rfl) T.free_range (pa_cons (pv 1) pa_nil)) (blkOk_by (by kernel_rfl)) (fun _ _ _ _ _ => (pg_name (i := 3) sc__law_lot.nd rfl (Or.inl rfl))) (fun _ _ _ _ _ => (pts_one (pt_cmpR op_lt (pe_call F_law_pick hr_law_pick rfl T.glo_law_pick kp_law_pick b_law_pick .nil pass0 (pa_cons (pv 0) (pa_cons pe_int pa_nil))) (pv 2) (nomark _)))) (fun _ _ _ _ _ => (pv 3))) pa_nil)))))), ?_⟩
    refine ⟨_, rfl, b, c, _, rfl, B, by decide, by decide, fun H1 i k1 B1 i0 i1 => ?_⟩
    refine ⟨rfl, _, rfl, ?_⟩
    refine ite2 (fun _ => ?_) (fun _ => ?_)
    · refine ⟨_, rfl, (n : Int), rfl, RgOk.of_le (by decide) (by omega) (by decide) (by omega), fun q hq => ?_⟩
      have s2 := same_upd (o := HO.tup (rgV 0 (n : Int))) hq
      refine h _ q (fun _ => True) ?_ (k1.trans (kc_same s2)) (B1.same s2)
      rw [upd_same, rg_range, lotP_true]
    · refine ⟨_, rfl, b, c, _, rfl, B1, by decide, by decide, fun H2 j k2 B2 j0 j1 => ?_⟩
      refine ⟨_, _, rfl, rfl, ?_⟩
      refine ⟨_, rfl, (n : Int), rfl, by omega, by omega, fun D hD => ?_⟩
      have s3 : Same H2 (upd H2 D (.lst [])) := same_upd hD
      have Dc := (B2.new hD).1
      have Db := (B2.new hD).2
      refine lc_range (lo := 0) (n := ((n : Nat) : Int).toNat) (fun j H3 => ∃ ps : List Nat, ps.Sublist (List.range j) ∧ H3 D = some (.lst (ps.map vI)) ∧ Kc c H2 H3 ∧ Box b c H3)
        ⟨[], by simp, upd_same, kc_same s3, B2.same s3⟩ ?_ ?_
      · rintro j H3 hj ⟨ps, sp, hp, k3, B3⟩
        refine ⟨rfl, _, rfl, b, c, _, rfl, B3, by decide, by decide, fun H4 x k4 B4 x0 x1 => ?_⟩
        refine ⟨_, rfl, _, _, rfl, rfl, _, rfl, ?_⟩
        have hp4 : H4 D = some (.lst (ps.map vI)) := k4 _ _ Dc (fun _ z => by cases z) hp
        have lp : ps.length ≤ 8 := Nat.le_trans sp.length_le (by rw [List.length_range]; omega)
        refine ite2 (fun _ => ?_) (fun _ => ?_)
        · refine ⟨_, rfl, _, hp4, ?_, ps ++ [j], ?_, ?_, (k3.trans k4).upd hD, B4.upd Dc Db⟩
          · rw [List.length_map]
            exact Nat.lt_of_le_of_lt lp (by decide)
          · rw [List.range_succ]
            exact sp.append (List.Sublist.refl _)
          · rw [upd_same, List.map_append, Int.zero_add]
            rfl
        · refine ⟨ps, ?_, hp4, k3.trans k4, B4⟩
          rw [List.range_succ]
          exact sp.trans (List.sublist_append_left _ _)
      · rintro H3 ⟨ps, sp, hp, k3, B3⟩
        rw [Int.toNat_natCast] at sp
        refine ⟨D, _, rfl, .inl ⟨SqL.of hp, fun t ht => ?_⟩⟩
        have s4 := same_upd (o := HO.tup (ps.map vI)) ht
        refine h _ t (fun b => b ∈ ps) ?_ (((k1.trans k2).trans k3).trans (kc_same s4)) (B3.same s4)
        rw [upd_same, ← lotP_of (n := n) (p := fun b => b ∈ ps) ((range_sorted n).sublist sp) fun b => ⟨fun hb => ⟨List.mem_range.mp (sp.subset hb), hb⟩, fun hb => hb.2⟩]
/-! ### two lots put together -/
def spJoined : Sp := fun vs H Q _ => ∃ (s t : Addr) (n : Nat) (p q : Nat → Prop), vs = [.ref s, .ref t] ∧ H s = some (.tup ((lotP n p).map vI)) ∧ H t = some (.tup ((lotP n q).map vI)) ∧ n ≤ 8 ∧ ∀ H' u, H' u = some (.tup ((lotP n fun b => p b ∨ q b).map vI)) → Same H H' → Q (.ref u) H'
def nI (k : Nat) : Int := (k : Nat)
theorem vI_map (xs : List Nat) : xs.map vI = (xs.map nI).map V.int := by
  rw [List.map_map]
  rfl
/-- a rising list of ints that has just the places of a lot is it -/
theorem rise_lot {n : Nat} {p : Nat → Prop} {ns : List Int} (h : ns.Pairwise (· < ·)) (hm : ∀ k : Int, k ∈ ns ↔ ∃ b : Nat, k = nI b ∧ b < n ∧ p b) : ns.map V.int = (lotP n p).map vI := by
  have e : ns = (ns.map Int.toNat).map nI := by
    rw [List.map_map]
    refine (List.map_id' ns).symm.trans (List.map_congr_left fun k hk => ?_)
    obtain ⟨b, rfl, _⟩ := (hm k).1 hk
    rfl
  have s2 : (ns.map Int.toNat).Pairwise (· < ·) := by
    rw [List.pairwise_map]
    refine h.imp_of_mem fun {x y} hx hy hxy => ?_
    obtain ⟨a, rfl, _⟩ := (hm x).1 hx
    obtain ⟨b, rfl, _⟩ := (hm y).1 hy
    have : (a : Int) < (b : Int) := hxy
    show a < b
    omega
  have : ns.map Int.toNat = lotP n p := by
    refine lotP_of s2 fun b => ⟨fun hb => ?_, fun hb => ?_⟩
    · obtain ⟨k, hk, rfl⟩ := List.mem_map.mp hb
      obtain ⟨b, rfl, hb2⟩ := (hm k).1 hk
      exact hb2
    · exact List.mem_map.mpr ⟨nI b, (hm _).2 ⟨b, rfl, hb⟩, rfl⟩
  rw [vI_map, ← this, ← e]
end
end RL
namespace RL
open PySem PySem.Spec PyProof.Rows L2 RLM
/-- [e for x in xs if t(x)]: what R says of each -/
theorem lc_relF {α : Type} {J : It} {n : Nat} {G : Hp → Prop} {Y : Nat → Hp → V → Hp → Prop} {g : TG} {tt : TT} {te : TE} {vs : List Nat} {σ : L2.St} {H : Hp} {D : Addr} {Qd : Hp → Prop} (w : Walk J n G Y) (xs : List α) (t : α → Bool) (R : α → V → Hp → Prop) (hx : n = xs.length) (hn : n ≤ 100000) (hD : H D = none) (tk : ∀ a v H1 H2, R a v H1 → TK H1 H2 → R a v H2) (hG : ∀ H1, Same H H1 → G H1)
    (hs : ∀ i b x H1 H2 (N1 : V → Hp → Prop) (N0 : Hp → Prop), xs[i]? = some b → Same H H1 → Y i H1 x H2 → (∀ y H4, t b = true → R b y H4 → Same H1 H4 → N1 y H4) → (∀ H4, t b = false → Same H1 H4 → N0 H4) →
      g x (wipe σ vs) H2 fun σ2 H3 => wipe σ2 vs = wipe σ vs ∧ tt σ2 H3 fun c H4 => if c = true then te σ2 H4 N1 else N0 H4)
    (hd : ∀ H1 (ys : List (V × α)), H1 D = some (.lst (ys.map (·.1))) → ys.map (·.2) = xs.filter t → (∀ q ∈ ys, R q.2 q.1 H1) → Same H H1 → Qd H1) :
    ∃ W : Nat → Nat → Hp → Prop, (∃ m, W 0 m (upd H D (.lst []))) ∧ ∀ i m H, W i m H →
      (J.stop i H ∧ Qd H) ∨ (J.go i H ∧ ∃ Nx : Hp → Prop, (∀ H', Nx H' → ∃ m', m' < m ∧ W (i + 1) m' H') ∧ ∀ x H', J.yld i H x H' → g x (wipe σ vs) H' fun σ2 H2 => wipe σ2 vs = wipe σ vs ∧ tt σ2 H2 fun b H3 =>
        if b = true then te σ2 H3 fun y H4 => ∃ acc, H4 D = some (.lst acc) ∧ acc.length < sizeLine ∧ Nx (upd H4 D (.lst (acc ++ [y]))) else Nx H3) := by
  refine lc_it w (fun i H1 => ∃ ys : List (V × α), H1 D = some (.lst (ys.map (·.1))) ∧ ys.map (·.2) = (xs.take i).filter t ∧ (∀ q ∈ ys, R q.2 q.1 H1) ∧ Same H H1) ⟨[], upd_same, rfl, fun q hq => (by cases hq), same_upd hD⟩ (fun i H1 _ ⟨_, _, _, _, s1⟩ => hG H1 s1) ?_ (fun H1 ⟨ys, h1, h2, h3, h4⟩ => hd H1 ys h1 (by rw [hx, List.take_length] at h2; exact h2) h3 h4)
  rintro i x H1 H2 hi ⟨ys, h1, h2, h3, s1⟩ hY
  have hb : xs[i]? = some (xs[i]'(by omega)) := List.getElem?_eq_getElem _
  generalize xs[i]'(by omega) = b at hb
  have et : xs.take (i + 1) = xs.take i ++ [b] := by
    rw [List.take_add_one, hb]
    rfl
  refine hs i b x H1 H2 (fun y H4 => ∃ acc, H4 D = some (.lst acc) ∧ acc.length < sizeLine ∧ ∃ zs : List (V × α), (upd H4 D (.lst (acc ++ [y]))) D = some (.lst (zs.map (·.1))) ∧ zs.map (·.2) = (xs.take (i + 1)).filter t ∧ (∀ q ∈ zs, R q.2 q.1 (upd H4 D (.lst (acc ++ [y])))) ∧ Same H (upd H4 D (.lst (acc ++ [y])))) _ hb s1 hY (fun y H4 tb r s4 => ?_) (fun H4 tb s4 => ?_)
  · have h4 := s4 _ _ h1
    refine ⟨_, h4, ?_, ys ++ [(y, b)], by rw [upd_same, List.map_append]; rfl, ?_, fun q hq => ?_, same_mut (s1.trans s4) hD⟩
    · have e := congrArg List.length h2
      rw [List.length_map] at e
      rw [List.length_map, e]
      refine Nat.lt_of_le_of_lt (List.length_filter_le _ _) (Nat.lt_of_le_of_lt (?_ : _ ≤ 100000) (by decide))
      rw [List.length_take]
      omega
    · rw [List.map_append, h2, et, List.filter_append, List.filter_cons, if_pos tb]
      rfl
    · rcases List.mem_append.mp hq with z | z
      · exact tk _ _ _ _ (h3 q z) ((tk_same s4).trans (tk_lst h4))
      · rw [List.mem_singleton.mp z]
        exact tk _ _ _ _ r (tk_lst h4)
  · refine ⟨ys, s4 _ _ h1, ?_, fun q hq => tk _ _ _ _ (h3 q hq) (tk_same s4), s1.trans s4⟩
    rw [h2, et, List.filter_append, List.filter_cons, if_neg (by rw [tb]; exact Bool.false_ne_true), List.filter_nil, List.append_nil]
end RL
namespace RL
open PySem PySem.Spec PyProof.Rows L2 RLM
section
variable {P : Program} {w : World} {K : PySem.W.Frag} {mg : Str → Option Value} {base : Heap}
def pairL (q : Nat × Nat) : List Int := [nI q.1, nI q.2]
theorem pairL_inj {a b : Nat × Nat} (h : pairL a = pairL b) : a = b := by
  unfold pairL nI at h
  simp at h
  exact Prod.ext (by omega) (by omega)
/-- a list of ways that a set of tuples tells -/
def toT (q : Addr × Nat × Nat) : Addr × List Int := (q.1, pairL q.2)
def lexLt (a b : Nat × Nat) : Prop := a.1 < b.1 ∨ (a.1 = b.1 ∧ a.2 < b.2)
def spRising (K : PySem.W.Frag) : Sp := fun vs H Q _ => ∃ (n : Nat) (l : Addr) (L : List (Addr × Nat × Nat)), vs = [vI n, .ref l] ∧ H l = some (.lst (L.map fun q => V.ref q.1)) ∧ (∀ q ∈ L, H q.1 = some (.tup [vI q.2.1, vI q.2.2])) ∧ WaysOk n L ∧ n ≤ 8 ∧ L.length < 63 ∧
  ∀ (H' : Hp) (p : Addr) (M : List (Addr × Nat × Nat)), H' p = some (.lst (M.map fun q => V.ref q.1)) → (∀ q ∈ M, H' q.1 = some (.tup [vI q.2.1, vI q.2.2])) → (∀ e, e ∈ M.map (·.2) ↔ e ∈ L.map (·.2)) → (M.map (·.2)).Pairwise lexLt → Same H H' → H p = none → Q (.ref p) H'
theorem sc_rising_ways : FnScope ["many", "ways", "seen", "at", "one", "other"] ["many", "ways"] (defScope s_rising_ways) := ⟨rfl, rfl, rfl, by decide +kernel, rfl, by decide +kernel, by decide +kernel⟩
theorem ok_rising (T : Tx K mg) : Has P w K mg base (He.ga K "rising_ways") 3 ["many", "ways"] (spRising K) := by
  obtain ⟨⟨fd_is_between, F_is_between, b_is_between⟩, kp_is_between⟩ := ok_is_between (P := P) (w := w) (base := base) T
  obtain ⟨fd, F⟩ := T.d_rising_ways
  refine ⟨⟨fd, F.ok sc_rising_ways (fun vs H Q E h => ?_) (fun cdv A outer s H vs Q E hr h => ?_), F.bindsN fun _ _ _ _ _ _ us hl => match us, hl with | [_, _], _ => rfl⟩, F.kp⟩
  · obtain ⟨n, l, L, rfl, _⟩ := h
    rfl
  · obtain ⟨n, l, L, rfl, hl, tL, W, n8, len, h⟩ := h
    have hr_is_between : Room 2 _ := hr.mono (by decide)
    refine ⟨_, PSs.nox (pss_cons (ps_set (i := 2) sc_rising_ways.nd rfl (Or.inl rfl) (pe_callTy0 (set0T (P := P) (w := w)) (by rfl) T.free_set (by decide +kernel)))
      (pss_cons (ps_for PassesOwn.never rfl (piEnum (K := K) (by rfl) T.free_enumerate (pa_cons (pv 1) pa_nil)) (pgT (K := K) (n := 2) rfl (pgs_cons (pg_name (i := 3) sc_rising_ways.nd rfl (Or.inl rfl)) (pgs_cons (pgT (K := K) (n := 2) rfl (pgs_cons (pg_name (i := 4) sc_rising_ways.nd rfl (Or.inl rfl)) (pgs_cons (pg_name (i := 5) sc_rising_ways.nd rfl (Or.inl rfl)) pgs_nil))) pgs_nil))) (pss_cons (ps_if (PW.pt (pw_or (pt_not (pt_val (pe_call F_is_between hr_is_between rfl T.glo_is_between kp_is_between b_is_between .nil pass0 (pa_cons (pv 4) (pa_cons pe_int (pa_cons (pe_op op_sub (pv 0) pe_int) pa_nil)))))) (pw_or1 (pt_not (pt_val (pe_call F_is_between hr_is_between rfl T.glo_is_between kp_is_between b_is_between .nil pass0 (pa_cons (pv 5) (pa_cons pe_int (pa_cons (pe_op op_sub (pv 0) pe_int) pa_nil))))))))) (pss_one ps_never) pss_nil)
      (pss_cons (ps_if (PW.pt (pw_or (pt_cmpR op_eq (pv 4) (pv 5) (nomark _)) (pw_or1 (pt_cmpR (inT (K := K) (P := P) (w := w) hr.units) (pe_tup (pa_cons (pv 4) (pa_cons (pv 5) pa_nil))) (pv 2) (by rfl))))) (pss_one ps_never) pss_nil)
      (pss_one (ps_expr (pe_addT (K := K) (P := P) (w := w) hr.units (pv 2) (pa_cons (pe_tup (pa_cons (pv 4) (pa_cons (pv 5) pa_nil))) pa_nil)))))))
      (pss_one (ps_ret (pe_callB (sortSetT (K := K) (P := P) (w := w)) (by rfl) T.free_sorted (by decide +kernel) (pa_cons (pv 2) pa_nil)))))), ?_⟩
    refine ⟨rfl, fun a ha => ?_⟩
    have s0 : Same H (upd H a (SetTO P w a [])) := same_upd ha
    refine ⟨_, rfl, l, _, rfl, SqL.of (s0 _ _ hl), for_it (walk_enum (K := K) (a := l) (xs := L.map fun q => V.ref q.1)) (fun i σ H1 => ∃ (M : List (Addr × Nat × Nat)) (S : List (Addr × List Int)) (v3 v4 v5 : Option V), σ = [some (vI n), some (.ref l), some (.ref a), v3, v4, v5] ∧ S.Perm (M.map toT) ∧ H1 a = some (SetTO P w a S) ∧ (∀ q ∈ M, H1 q.1 = some (.tup [vI q.2.1, vI q.2.2])) ∧ (∀ e, e ∈ M.map (·.2) ↔ e ∈ (L.take i).map (·.2)) ∧ M.length = i ∧ Same H H1)
      ⟨[], [], none, none, none, rfl, by simp, upd_same, fun q hq => (by cases hq), by simp, rfl, s0⟩ (fun i σ H1 _ ⟨_, _, _, _, _, _, _, _, _, _, _, s1⟩ => SqL.of (s1 _ _ hl)) ?_ ?_⟩
    · rintro i x σ H1 H2 hi ⟨M, S, v3, v4, v5, rfl, pm, hS, tM, mM, lM, s1⟩ ⟨t, x1, x2, rfl, ht, rfl, e1, e2⟩
      rw [List.length_map] at hi
      have eq : L[i]? = some L[i] := List.getElem?_eq_getElem hi
      generalize L[i] = q at eq
      have mq : q ∈ L := List.mem_of_getElem? eq
      obtain ⟨w1, w2, w3⟩ := W.2.1 q mq
      cases (Option.some.inj e1)
      have ex2 : x2 = V.ref q.1 := by
        have e3 : (L.map fun q => V.ref q.1)[i]? = some x2 := e2
        rw [List.getElem?_map, eq] at e3
        exact (Option.some.inj e3).symm
      subst ex2
      have s2 : Same H1 (upd H1 t (.tup [.int (i : Nat), .ref q.1])) := same_upd ht
      have tq := s2 _ _ (s1 _ _ (tL q mq))
      refine ⟨t, _, rfl, SqT.of upd_same, rfl, _, _, rfl, _, _, rfl, q.1, _, rfl, SqT.of tq, rfl, _, _, rfl, _, _, rfl, rfl, rfl, ?_⟩
      have hS2 := s2 _ _ hS
      have tM2 : ∀ m ∈ M, (upd H1 t (.tup [.int (i : Nat), .ref q.1])) m.1 = some (.tup [vI m.2.1, vI m.2.2]) := fun m hm => s2 _ _ (tM m hm)
      have s3 : Same H (upd H1 t (.tup [.int (i : Nat), .ref q.1])) := s1.trans s2
      generalize upd H1 t (.tup [.int (i : Nat), .ref q.1]) = H3 at hS2 tM2 s3
      refine ⟨_, rfl, _, rfl, _, _, rfl, rfl, _, _, _, rfl, _, rfl, iteNS ⟨by omega, by omega⟩ ?_⟩
      refine ⟨_, rfl, _, rfl, _, _, rfl, rfl, _, _, _, rfl, _, rfl, iteNS ⟨by omega, by omega⟩ ?_⟩
      refine ⟨_, rfl, _, rfl, rfl, _, rfl, ?_⟩
      have ne : ¬ (vI q.2.1 = vI q.2.2) := fun z => w3 (by
        have z1 : V.int (q.2.1 : Nat) = V.int (q.2.2 : Nat) := z
        injection z1 with z2
        omega)
      refine ite2 (fun z => absurd (of_decide_eq_true z) ne) (fun _ => ?_)
      have et : L.take (i + 1) = L.take i ++ [q] := by
        rw [List.take_add_one, eq]
        rfl
      have nin : pairL q.2 ∉ S.map (·.2) := fun hm => by
        obtain ⟨p, hp, ep⟩ := List.mem_map.mp hm
        obtain ⟨m, hm, rfl⟩ := List.mem_map.mp (pm.mem_iff.mp hp)
        have em : m.2 = q.2 := pairL_inj ep
        have h1 : q.2 ∈ (L.take i).map (·.2) := (mM q.2).1 (em ▸ List.mem_map.mpr ⟨m, hm, rfl⟩)
        have nd : ((L.take (i + 1)).map (·.2)).Nodup := ((List.take_sublist _ _).map _).nodup W.1
        rw [et, List.map_append, List.nodup_append] at nd
        exact nd.2.2 _ h1 _ (by simp) rfl
      have TA : ∀ H4, (∀ m ∈ M, H4 m.1 = some (.tup [vI m.2.1, vI m.2.2])) → TupsAt K H4 S := fun H4 h4 p hp => by
        obtain ⟨m, hm, rfl⟩ := List.mem_map.mp (pm.mem_iff.mp hp)
        exact SqT.of (h4 m hm)
      refine ⟨_, rfl, _, rfl, (by show 2 ≤ sizeLine; decide), fun u hu => ?_⟩
      have s4 : Same H3 (upd H3 u (.tup [vI q.2.1, vI q.2.2])) := same_upd hu
      refine ⟨_, rfl, u, a, pairL q.2, S, rfl, rfl, SqT.of upd_same, s4 _ _ hS2, TA _ fun m hm => s4 _ _ (tM2 m hm), _, rfl, ?_⟩
      rw [decide_eq_false nin]
      refine iteF ?_
      have hS4 := s4 _ _ hS2
      have tM4 : ∀ m ∈ M, (upd H3 u (.tup [vI q.2.1, vI q.2.2])) m.1 = some (.tup [vI m.2.1, vI m.2.2]) := fun m hm => s4 _ _ (tM2 m hm)
      have s5 := s3.trans s4
      generalize upd H3 u (.tup [vI q.2.1, vI q.2.2]) = H4 at hS4 tM4 s5
      refine ⟨_, rfl, ⟨a, S, rfl, hS4⟩, _, rfl, _, rfl, (by show 2 ≤ sizeLine; decide), fun v hv => ?_⟩
      have s6 : Same H4 (upd H4 v (.tup [vI q.2.1, vI q.2.2])) := same_upd hv
      have lS : S.length < 63 := by
        rw [pm.length_eq, List.length_map, lM]
        omega
      refine ⟨a, v, pairL q.2, S, rfl, rfl, SqT.of upd_same, s6 _ _ hS4, TA _ fun m hm => s6 _ _ (tM4 m hm), lS, nin, fun S' pm' => ?_⟩
      have nva : v ≠ a := fun z => by
        rw [z, hS4] at hv
        cases hv
      refine ⟨M ++ [(v, q.2)], S', _, _, _, rfl, ?_, upd_same, fun m hm => ?_, fun e => ?_, by simp [lM], same_mut (s5.trans s6) ha⟩
      · rw [List.map_append]
        refine pm'.trans ((pm.cons _).trans ?_)
        exact List.perm_append_comm (l₁ := [toT (v, q.2)])
      · rcases List.mem_append.mp hm with hm | hm
        · have g := s6 _ _ (tM4 m hm)
          rw [upd_ne (ne_of g (s6 _ _ hS4) (by intro z; cases z))]
          exact g
        · rw [List.mem_singleton.mp hm, upd_ne nva, upd_same]
      · rw [et, List.map_append, List.map_append, List.mem_append, List.mem_append, mM e]
        rfl
    · rintro σ H1 ⟨M, S, v3, v4, v5, rfl, pm, hS, tM, mM, lM, s1⟩
      rw [List.length_map, List.take_length] at mM
      have inM : ∀ m ∈ M, m.2.1 < 8 ∧ m.2.2 < 8 := fun m hm => by
        obtain ⟨q, hq, e⟩ := List.mem_map.mp ((mM m.2).1 (List.mem_map.mpr ⟨m, hm, rfl⟩))
        have := W.2.1 q hq
        have e : q.2 = m.2 := e
        rw [← e]
        omega
      refine ⟨_, rfl, a, S, 2, 64, rfl, hS, fun p hp => ?_, by decide, fun p hp => ?_, fun S' p pm' nd few pw hp => ?_⟩
      · obtain ⟨m, hm, rfl⟩ := List.mem_map.mp (pm.mem_iff.mp hp)
        exact SqT.of (tM m hm)
      · obtain ⟨m, hm, rfl⟩ := List.mem_map.mp (pm.mem_iff.mp hp)
        have := inM m hm
        refine ⟨rfl, ?_⟩
        intro z hz
        have hz : z = nI m.2.1 ∨ z = nI m.2.2 := by simpa [toT, pairL] using hz
        unfold nI at hz
        omega
      · obtain ⟨M', rfl, pM⟩ := perm_map (pm'.trans pm)
        have e1 : (M'.map toT).map (fun q => V.ref q.1) = M'.map fun q => V.ref q.1 := by
          rw [List.map_map]
          rfl
        have s2 := same_upd (o := HO.lst ((M'.map toT).map fun q => V.ref q.1)) hp
        refine h _ p M' (by rw [upd_same, e1]) (fun q hq => s2 _ _ (tM q (pM.mem_iff.mp hq))) (fun e => ?_) ?_ (s1.trans s2) (s1.free hp)
        · rw [← mM e]
          exact (pM.map _).mem_iff
        · rw [List.pairwise_map] at pw ⊢
          have nd2 : M'.Pairwise (fun x y => pairL x.2 ≠ pairL y.2) := by
            have : ((M'.map toT).map (·.2)).Pairwise (· ≠ ·) := nd
            rw [List.map_map, List.pairwise_map] at this
            exact this
          refine (pw.and nd2).imp_of_mem fun {x y} hx hy ⟨c1, c2⟩ => ?_
          have bx := inM x (pM.mem_iff.mp hx)
          have by_ := inM y (pM.mem_iff.mp hy)
          have := pair_lt (x := nI x.2.1) (y := nI x.2.2) (x' := nI y.2.1) (y' := nI y.2.2) c1 c2 (by unfold nI; omega) (by unfold nI; omega) (by unfold nI; omega) (by unfold nI; omega)
          unfold nI at this
          unfold lexLt
          omega
end
end RL
namespace RL
open PySem PySem.Spec PyProof.Rows L2 RLM
theorem ixN_nat {n j : Nat} (h : j < n) : ixN n (j : Int) = some j := by
  unfold ixN
  have h1 : (0 : Int) ≤ (j : Int) := Int.natCast_nonneg j
  have h2 : (j : Int) < (n : Int) := by omega
  rw [if_pos h1, if_pos h2, Int.toNat_natCast]
theorem get_map {α β : Type} {f : α → β} {xs : List α} {i : Nat} {x : α} (h : xs[i]? = some x) : (xs.map f)[i]? = some (f x) := by
  rw [List.getElem?_map, h]
  rfl
/-- the leads' lists -/
structure LeadsAt (H : Hp) (ll : Addr) (n : Nat) (E : List (Nat × Nat)) (G : List (Addr × List Nat)) : Prop where
  at_ : H ll = some (.lst (G.map fun g => V.ref g.1))
  len : G.length = n
  each : ∀ (c : Nat) (g : Addr × List Nat), G[c]? = some g → H g.1 = some (.lst (g.2.map vI)) ∧ g.2.length ≤ 64 ∧ ∀ o, o ∈ g.2 ↔ (c, o) ∈ E
theorem LeadsAt.same {H H' : Hp} {ll : Addr} {n : Nat} {E : List (Nat × Nat)} {G : List (Addr × List Nat)} (s : Same H H') (h : LeadsAt H ll n E G) : LeadsAt H' ll n E G :=
  ⟨s _ _ h.at_, h.len, fun c g e => ⟨s _ _ (h.each c g e).1, (h.each c g e).2⟩⟩
section
variable {P : Program} {w : World} {K : PySem.W.Frag} {mg : Str → Option Value} {base : Heap}
def spFars : Sp := fun vs H Q _ => ∃ (ll : Addr) (a n : Nat) (E : List (Nat × Nat)) (G : List (Addr × List Nat)), vs = [.ref ll, vI a] ∧ LeadsAt H ll n E G ∧ On n E ∧ n ≤ 8 ∧ a < n ∧
  ∀ (H' : Hp) (p : Addr) (fs : List (Option Nat)), H' p = some (.lst (fs.map vO)) → H p = none → Fars n E a fs → Same H H' → Q (.ref p) H'
theorem sc_fars_from : FnScope ["leads", "place", "fars", "edge", "beyond", "one", "other"] ["leads", "place"] (defScope s_fars_from) := ⟨rfl, rfl, rfl, by decide +kernel, rfl, by decide +kernel, by decide +kernel⟩
theorem ok_fars (T : Tx K mg) : Has P w K mg base (He.ga K "fars_from") 1 ["leads", "place"] spFars := by
  obtain ⟨fd, F⟩ := T.d_fars_from
  refine ⟨⟨fd, F.ok sc_fars_from (fun vs H Q E h => ?_) (fun cdv A outer s H vs Q E hr h => ?_), F.bindsN fun _ _ _ _ _ _ us hl => match us, hl with | [_, _], _ => rfl⟩, F.kp⟩
  · obtain ⟨ll, a, n, E, G, rfl, _⟩ := h
    rfl
  · obtain ⟨ll, a, n, E, G, rfl, LA, hE, n8, an, h⟩ := h
    refine ⟨_, PSs.nox (pss_cons (ps_set (i := 2) sc_fars_from.nd rfl (Or.inl rfl) (pe_op op_rep (pe_lst (pa_cons pe_non pa_nil)) (pe_callB (lenK (K := K)) (by rfl) T.free_len (by decide +kernel) (pa_cons (pv 0) pa_nil))))
      (pss_cons (ps_asg pe_int (pg_sub (pv 2) (pv 1) set_list))
      (pss_cons (ps_set (i := 3) sc_fars_from.nd rfl (Or.inl rfl) (pe_lst (pa_cons (pv 1) pa_nil)))
      (pss_cons (ps_while PassesOwn.never (pt_truth (pv 3) (by intro _; rfl)) (pss_cons (ps_set (i := 4) sc_fars_from.nd rfl (Or.inl rfl) (pe_lst pa_nil))
      (pss_cons (ps_for PassesOwn.never rfl (piL (K := K) (pv 3)) (pg_name (i := 5) sc_fars_from.nd rfl (Or.inl rfl)) (pss_one (ps_for PassesOwn.never rfl (piL (K := K) (pe_ix (ixL (K := K)) (pv 0) (pv 5) (fun _ _ => rfl))) (pg_name (i := 6) sc_fars_from.nd rfl (Or.inl rfl)) (pss_one (ps_if (pt_cmpR op_isN (pe_ix (ixL (K := K)) (pv 2) (pv 6) (fun _ _ => rfl)) pe_non (nomark _)) (pss_cons (ps_asg (pe_op op_add (pe_ix (ixL (K := K)) (pv 2) (pv 5) (fun _ _ => rfl)) pe_int) (pg_sub (pv 2) (pv 6) set_list))
      (pss_one (ps_expr (bmK (K := K) PySem.F.plainAttrs_list PySem.F.slot_list_append PySem.F.type_list_append mt_append (pv 4) (pa_cons (pv 6) pa_nil))))) pss_nil)))))
      (pss_one (ps_set (i := 3) sc_fars_from.nd rfl (Or.inl rfl) (pv 4))))))
      (pss_one (ps_ret (pv 2))))))), ?_⟩
    refine ⟨(by show 1 ≤ sizeLine; decide), fun l0 hl0 => ?_⟩
    have s0 : Same H (upd H l0 (.lst [.non])) := same_upd hl0
    refine ⟨_, rfl, ll, _, rfl, .inl (SqL.of (s0 _ _ LA.at_)), l0, _, _, rfl, rfl, upd_same, ?_, ?_, ?_, fun pf hpf => ?_⟩
    · rw [List.length_map]
      omega
    · rw [List.length_map, LA.len]
      omega
    · rw [List.length_map, LA.len]
      show 1 * (n : Int).toNat ≤ sizeLine
      exact Nat.le_trans (show 1 * (n : Int).toNat ≤ 8 by omega) (by decide)
    have Hf : H pf = none := s0.free hpf
    have ef : (List.replicate (((G.map fun g => V.ref g.1).length : Nat) : Int).toNat [V.non]).flatten = (List.replicate n (none : Option Nat)).map vO := by
      rw [List.length_map, LA.len, Int.toNat_natCast, rep_flat, List.map_replicate]
      rfl
    rw [ef]
    refine ⟨_, rfl, _, rfl, pf, _, _, a, rfl, rfl, upd_same, ixN_nat (by simp [an]), ?_⟩
    have e2 : ((List.replicate n (none : Option Nat)).map vO).set a (V.int 0) = ((List.replicate n (none : Option Nat)).set a (some 0)).map vO := by
      rw [List.map_set]
      rfl
    rw [e2]
    refine ⟨_, rfl, (by show 1 ≤ sizeLine; decide), fun pe hpe => ?_⟩
    have s1 : Same H (upd (upd (upd (upd H l0 (.lst [.non])) pf (.lst ((List.replicate n (none : Option Nat)).map vO))) pf (.lst (((List.replicate n (none : Option Nat)).set a (some 0)).map vO))) pe (.lst [vI a])) :=
      (same_mut (same_mut s0 Hf) Hf).trans (same_upd hpe)
    have Hpe : H pe = none := (same_mut (same_mut s0 Hf) Hf).free hpe
    have nfe : pf ≠ pe := fun z => by
      rw [← z, upd_same] at hpe
      cases hpe
    refine ⟨fun m σ H1 => ∃ (l : Nat) (fs : List (Option Nat)) (edge : List Nat) (pe : Addr) (v4 v5 v6 : Option V), σ = [some (.ref ll), some (vI a), some (.ref pf), some (.ref pe), v4, v5, v6] ∧ H1 pf = some (.lst (fs.map vO)) ∧ H1 pe = some (.lst (edge.map vI)) ∧ pf ≠ pe ∧ H pe = none ∧ Lev n E a l fs edge ∧ edge.length ≤ 64 ∧ m = fs.count none + (if edge = [] then 0 else 1) ∧ Same H H1,
      ⟨_, 0, _, [a], pe, none, none, none, rfl, ?_, upd_same, nfe, Hpe, lev_start an, by simp, rfl, s1⟩, ?_⟩
    · rw [upd_ne nfe, upd_same]
    rintro m σ H1 ⟨l, fs, edge, pe, v4, v5, v6, rfl, hf, he, nfe, Hpe, LV, le, rfl, s1⟩
    refine ⟨_, rfl, _, .inl ⟨_, SqL.of he, rfl⟩, ?_⟩
    cases edge with
    | nil => exact iteF ⟨_, rfl, h H1 pf fs hf Hf (LV.fars hE an) s1⟩
    | cons c0 cs =>
    refine iteT ?_
    generalize hed : c0 :: cs = edge at LV le he
    have ne : edge ≠ [] := by rw [← hed]; exact List.cons_ne_nil _ _
    refine ⟨fun σ' H' => ∃ (fs' : List (Option Nat)) (bey : List Nat) (pb : Addr) (v5 v6 : Option V), σ' = [some (.ref ll), some (vI a), some (.ref pf), some (.ref pb), some (.ref pb), v5, v6] ∧ H' pf = some (.lst (fs'.map vO)) ∧ H' pb = some (.lst (bey.map vI)) ∧ pf ≠ pb ∧ H pb = none ∧ Lev n E a (l + 1) fs' bey ∧ fs'.count none + bey.length = fs.count none ∧ bey.length ≤ 64 ∧ Same H H', ?_, ?_⟩
    · rintro σ' H' ⟨fs', bey, pb, w5, w6, rfl, g1, g2, g3, g4, g5, g6, g7, g8⟩
      refine ⟨_, ?_, l + 1, fs', bey, pb, _, w5, w6, rfl, g1, g2, g3, g4, g5, g7, rfl, g8⟩
      rw [if_neg ne]
      cases bey with
      | nil => simp at g6 ⊢; omega
      | cons x y => simp at g6 ⊢; omega
    refine ⟨Nat.zero_le _, fun pb hpb => ?_⟩
    have s2 : Same H1 (upd H1 pb (.lst [])) := same_upd hpb
    have nfb : pf ≠ pb := ne_of_none hf hpb
    have neb : pe ≠ pb := ne_of_none he hpb
    have Hpb : H pb = none := s1.free hpb
    refine ⟨_, rfl, pe, rfl, ⟨_, SqL.of (s2 _ _ he)⟩, for_list (K := K) (a := pe) (xs := edge.map vI) (fun i σ H2 => ∃ (fs' : List (Option Nat)) (bey done : List Nat) (v5 v6 : Option V), σ = [some (.ref ll), some (vI a), some (.ref pf), some (.ref pe), some (.ref pb), v5, v6] ∧ H2 pf = some (.lst (fs'.map vO)) ∧ H2 pb = some (.lst (bey.map vI)) ∧ H2 pe = some (.lst (edge.map vI)) ∧ Mid n E l fs edge done fs' bey ∧ (∀ c o, c ∈ edge.take i → (c, o) ∈ E → o ∈ done) ∧ Same H H2)
      ⟨fs, [], [], v5, v6, rfl, s2 _ _ hf, upd_same, s2 _ _ he, mid_start LV.len, by simp, s1.trans s2⟩ (fun i σ H2 _ ⟨_, _, _, _, _, _, _, _, g, _⟩ => SqL.of g) ?_ ?_⟩
    · rintro i x σ H2 hx ⟨fs', bey, done, v5, v6, rfl, hf2, hb2, he2, MD, dn, s3⟩
      obtain ⟨c, hc, rfl⟩ : ∃ c, edge[i]? = some c ∧ vI c = x := by
        rw [List.getElem?_map] at hx
        cases e : edge[i]? with
        | none => rw [e] at hx; cases hx
        | some c => rw [e] at hx; exact ⟨c, rfl, Option.some.inj hx⟩
      have mc : c ∈ edge := List.mem_of_getElem? hc
      have fc : fs[c]? = some (some l) := (LV.edge_ c).1 mc
      have cn : c < n := by
        rw [← LV.len]
        exact (List.getElem?_eq_some_iff.mp fc).1
      obtain ⟨g, hg⟩ : ∃ g, G[c]? = some g := ⟨_, List.getElem?_eq_getElem (by rw [LA.len]; exact cn)⟩
      have LA2 := LA.same s3
      obtain ⟨hgl, gl, gE⟩ := LA2.each c g hg
      have et : edge.take (i + 1) = edge.take i ++ [c] := by
        rw [List.take_add_one, hc]
        rfl
      refine ⟨_, rfl, _, rfl, ll, _, _, _, rfl, rfl, SqL.of LA2.at_, atI_nat (get_map hg), g.1, rfl, ⟨_, SqL.of hgl⟩, for_list (K := K) (a := g.1) (xs := g.2.map vI) (fun j σ H3 => ∃ (fs' : List (Option Nat)) (bey done' : List Nat) (v6 : Option V), σ = [some (.ref ll), some (vI a), some (.ref pf), some (.ref pe), some (.ref pb), some (vI c), v6] ∧ H3 pf = some (.lst (fs'.map vO)) ∧ H3 pb = some (.lst (bey.map vI)) ∧ H3 pe = some (.lst (edge.map vI)) ∧ Mid n E l fs edge done' fs' bey ∧ (∀ o, o ∈ done → o ∈ done') ∧ (∀ o, o ∈ g.2.take j → o ∈ done') ∧ Same H H3)
        ⟨fs', bey, done, v6, rfl, hf2, hb2, he2, MD, fun _ z => z, by simp, s3⟩ (fun j σ H3 _ ⟨_, _, _, _, _, _, _, _, _, _, _, s4⟩ => SqL.of ((LA.same s4).each c g hg).1) ?_ ?_⟩
      · rintro j x σ H3 hx ⟨fs3, bey3, done3, v6, rfl, hf3, hb3, he3, MD3, d1, d2, s4⟩
        obtain ⟨o, ho, rfl⟩ : ∃ o, g.2[j]? = some o ∧ vI o = x := by
          rw [List.getElem?_map] at hx
          cases e : g.2[j]? with
          | none => rw [e] at hx; cases hx
          | some o => rw [e] at hx; exact ⟨o, rfl, Option.some.inj hx⟩
        have mo : (c, o) ∈ E := (gE o).1 (List.mem_of_getElem? ho)
        have on : o < fs3.length := by
          rw [MD3.len]
          exact (hE _ mo).2.1
        have eo : fs3[o]? = some fs3[o] := List.getElem?_eq_getElem on
        generalize fs3[o] = d at eo
        have et2 : g.2.take (j + 1) = g.2.take j ++ [o] := by
          rw [List.take_add_one, ho]
          rfl
        refine ⟨_, rfl, _, rfl, pf, _, _, _, rfl, rfl, SqL.of hf3, atI_nat (get_map eo), rfl, _, rfl, ?_⟩
        cases d with
        | some d =>
          refine iteF ⟨fs3, bey3, done3 ++ [o], _, rfl, hf3, hb3, he3, MD3.hit eo, fun o' ho' => List.mem_append_left _ (d1 o' ho'), fun o' ho' => ?_, s4⟩
          rw [et2] at ho'
          rcases List.mem_append.mp ho' with z | z
          · exact List.mem_append_left _ (d2 o' z)
          · exact List.mem_append_right _ z
        | none =>
          refine iteT ?_
          have fc3 : fs3[c]? = some (some l) := MD3.old c l fc
          refine ⟨_, rfl, _, rfl, pf, _, _, _, rfl, rfl, SqL.of hf3, atI_nat (get_map fc3), _, _, rfl, rfl, _, rfl, _, rfl, pf, _, _, o, rfl, rfl, hf3, ixN_nat (by simpa using on), ?_⟩
          have ez : (fs3.map vO).set o (V.int (((l : Nat) : Int) + 1)) = (fs3.set o (some (l + 1))).map vO := by
            rw [List.map_set]
            rfl
          rw [ez]
          have hb4 : (upd H3 pf (.lst ((fs3.set o (some (l + 1))).map vO))) pb = some (.lst (bey3.map vI)) := by
            rw [upd_ne nfb.symm]
            exact hb3
          have b64 : bey3.length ≤ 64 := by
            have c1 := MD3.cnt
            have c2 : fs.count none ≤ fs.length := List.count_le_length
            rw [LV.len] at c2
            omega
          refine ⟨_, rfl, .inl ⟨rfl, _, SqL.of hb4⟩, _, rfl, pb, _, _, rfl, rfl, hb4, ?_, ?_⟩
          · rw [List.length_map]
            exact Nat.lt_of_le_of_lt b64 (by decide)
          refine ⟨fs3.set o (some (l + 1)), bey3 ++ [o], done3 ++ [o], _, rfl, ?_, ?_, ?_, MD3.put LV.len eo mc mo, fun o' ho' => List.mem_append_left _ (d1 o' ho'), fun o' ho' => ?_, same_mut (same_mut s4 Hf) Hpb⟩
          · rw [upd_ne nfb, upd_same]
          · rw [upd_same, List.map_append]
            rfl
          · rw [upd_ne neb, upd_ne nfe.symm]
            exact he3
          · rw [et2] at ho'
            rcases List.mem_append.mp ho' with z | z
            · exact List.mem_append_left _ (d2 o' z)
            · exact List.mem_append_right _ z
      · rintro σ H3 ⟨fs3, bey3, done3, v6, rfl, hf3, hb3, he3, MD3, d1, d2, s4⟩
        rw [List.length_map, List.take_length] at d2
        refine ⟨fs3, bey3, done3, _, _, rfl, hf3, hb3, he3, MD3, fun c' o hc' ho => ?_, s4⟩
        rw [et] at hc'
        rcases List.mem_append.mp hc' with z | z
        · exact d1 o (dn c' o z ho)
        · rw [List.mem_singleton.mp z] at ho
          exact d2 o ((gE o).2 ho)
    · rintro σ H2 ⟨fs', bey, done, v5, v6, rfl, hf2, hb2, he2, MD, dn, s3⟩
      rw [List.length_map, List.take_length] at dn
      have c1 := MD.cnt
      have c2 : fs.count none ≤ fs.length := List.count_le_length
      rw [LV.len] at c2
      exact ⟨_, rfl, fs', bey, pb, _, _, rfl, hf2, hb2, nfb, Hpb, MD.next LV hE an dn, c1, by omega, s3⟩
end
end RL
namespace RL
open PySem PySem.Spec PyProof.Rows L2 RLM
section
variable {P : Program} {w : World} {K : PySem.W.Frag} {mg : Str → Option Value} {base : Heap}
def spInit (K : PySem.W.Frag) : Sp := fun vs H Q _ => ∃ (H0 : Hp) (x dx c l : Addr) (n : Nat) (L : List (Addr × Nat × Nat)), vs = [.ref x, vI n, .ref l] ∧ Same H0 H ∧ H0 x = none ∧ H x = some (.ins (cB K) dx []) ∧ (∃ ys, H0 c = some (.lst ys)) ∧
  H0 l = some (.lst (L.map fun q => V.ref q.1)) ∧ (∀ q ∈ L, H0 q.1 = some (.tup [vI q.2.1, vI q.2.2])) ∧ WaysOk n L ∧ 1 ≤ n ∧ n ≤ 8 ∧ L.length < 63 ∧
  ∀ (H' : Hp) (E : List (Nat × Nat)), BoardAt K c H' x n E → (∀ e, e ∈ E ↔ e ∈ L.map (·.2)) → E.Pairwise lexLt → Same H0 H' → Q .non H'
theorem sc_Board_init : FnScope ["self", "many", "ways", "place", "one", "other"] ["self", "many", "ways"] (defScope s_Board_init) := ⟨rfl, rfl, rfl, by decide +kernel, rfl, by decide +kernel, by decide +kernel⟩
theorem ok_init (T : Tx K mg) : Has P w K mg base (mB K "__init__") 4 ["self", "many", "ways"] (spInit K) := by
  obtain ⟨⟨fd_is_between, F_is_between, b_is_between⟩, kp_is_between⟩ := ok_is_between (P := P) (w := w) (base := base) T
  obtain ⟨⟨fd_rising_ways, F_rising_ways, b_rising_ways⟩, kp_rising_ways⟩ := ok_rising (P := P) (w := w) (base := base) T
  obtain ⟨⟨fd_fars_from, F_fars_from, b_fars_from⟩, kp_fars_from⟩ := ok_fars (P := P) (w := w) (base := base) T
  obtain ⟨fd, F⟩ := T.d_Board_init
  have hb : Binds K fd ["self", "many", "ways"] [] := by
    obtain ⟨ds, e, b⟩ := F.binds1 (ps := ["self", "many", "ways"]) 3 1 (List.cons_ne_nil _ _) rfl (fun T0 kV doc pm an cdv ct us its l1 l2 => match us, its, l1, l2 with
      | [_, _, _], [_], _, _ => ⟨_, rfl, rfl⟩)
    cases e
    exact b
  refine ⟨⟨fd, F.ok sc_Board_init (fun vs H Q E h => ?_) (fun cdv A outer s H vs Q E hr h => ?_), hb⟩, F.kp⟩
  · obtain ⟨H0, x, dx, c, l, n, L, rfl, _⟩ := h
    rfl
  · obtain ⟨H0, x, dx, c, l, n, L, rfl, s0, x0, hx, hc, hl, tL, W, n1, n8, len, h⟩ := h
    have hr_is_between : Room 2 _ := hr.mono (by decide)
    have hr_rising_ways : Room 3 _ := hr.mono (by decide)
    have hr_fars_from : Room 1 _ := hr.mono (by decide)
    refine ⟨_, PSs.nox (pss_cons (ps_if (pt_not (pt_val (pe_call F_is_between hr_is_between rfl T.glo_is_between kp_is_between b_is_between .nil pass0 (pa_cons (pv 1) (pa_cons pe_int (pa_cons (pe_glob (v := .int 8) rfl T.glob_MOST_PLACES.choose_spec ⟨_, rfl⟩) pa_nil)))))) (pss_one ps_never) pss_nil)
      (pss_cons (ps_fld (pv 0) (pv 1) rfl)
      (pss_cons (ps_fld (pv 0) (pe_call F_rising_ways hr_rising_ways rfl T.glo_rising_ways kp_rising_ways b_rising_ways .nil pass0 (pa_cons (pv 1) (pa_cons (pv 2) pa_nil))) rfl)
      (pss_cons (ps_fld (pv 0) (pe_lc (own := [("place", 3)]) (g := (gName 3)) (tt := tYes) rfl sc_Board_init.nd (pi_range1 (by rfl) T.free_range (pa_cons (pv 1) pa_nil)) (blkOk_by (by kernel_rfl)) (fun _ _ _ _ _ => (pg_name (i := 3) sc_Board_init.nd rfl (Or.inr rfl))) (fun _ _ _ _ _ => pts_nil) (fun _ _ _ _ _ => (pe_lc (own := [("one", 4), ("other", 5)]) rfl sc_Board_init.nd (piL (K := K) (fldK (K := K) (pv 0) rfl)) (blkOk_by (by kernel_rfl)) (fun _ _ _ _ _ => (pgT (K := K) (n := 2) rfl (pgs_cons (pg_name (i := 4) sc_Board_init.nd rfl (Or.inl rfl)) (pgs_cons (pg_name (i := 5) sc_Board_init.nd rfl (Or.inl rfl)) pgs_nil)))) (fun _ _ _ _ _ => (pts_one (pt_cmpR op_eq (pv 4) (pv 3) (nomark _)))) (fun _ _ _ _ _ => (pv 5))))) rfl)
      (pss_one (ps_fld (pv 0) (pe_lc (own := [("place", 3)]) (g := (gName 3)) (tt := tYes) rfl sc_Board_init.nd (pi_range1 (by rfl) T.free_range (pa_cons (pv 1) pa_nil)) (blkOk_by (by kernel_rfl)) (fun _ _ _ _ _ => (pg_name (i := 3) sc_Board_init.nd rfl (Or.inl rfl))) (fun _ _ _ _ _ => pts_nil) (fun _ _ _ _ _ => (pe_call F_fars_from hr_fars_from rfl T.glo_fars_from kp_fars_from b_fars_from .nil pass0 (pa_cons (fldK (K := K) (pv 0) rfl) (pa_cons (pv 3) pa_nil))))) rfl)))))), ?_⟩
    refine ⟨_, rfl, _, _, _, rfl, _, rfl, iteNS ⟨by omega, by omega⟩ ?_⟩
    refine ⟨_, rfl, _, rfl, x, _, dx, _, rfl, hx, T.cl, T.n_many, (by show 0 < 1000; decide), ?_⟩
    have s1 : Same H0 (upd H x (.ins (cB K) dx (putF "many" (vI n) []))) := same_mut s0 x0
    have hx1 : (upd H x (.ins (cB K) dx (putF "many" (vI n) []))) x = some (.ins (cB K) dx (putF "many" (vI n) [])) := upd_same
    generalize upd H x (.ins (cB K) dx (putF "many" (vI n) [])) = H1 at s1 hx1
    refine ⟨_, rfl, _, rfl, n, l, L, rfl, s1 _ _ hl, fun q hq => s1 _ _ (tL q hq), W, n8, len, fun H2 p M hp tM mM sM s2 hpn => ?_⟩
    have hx2 := s2 _ _ hx1
    have npx : p ≠ x := ne_of hp hx2 (by intro z; cases z)
    refine ⟨_, rfl, x, _, dx, _, rfl, hx2, T.cl, T.n_pairs, (by show 1 < 1000; decide), ?_⟩
    have hc1 : ∃ ys, H1 c = some (.lst ys) := hc.imp fun ys z => s1 _ _ z
    have npc : p ≠ c := fun z => by
      obtain ⟨ys, hc1⟩ := hc1
      rw [← z, hpn] at hc1
      cases hc1
    have hx3 : (upd H2 x (.ins (cB K) dx (putF "pairs" (.ref p) (putF "many" (vI n) [])))) x = some (.ins (cB K) dx (putF "pairs" (.ref p) (putF "many" (vI n) []))) := upd_same
    have hp3 : (upd H2 x (.ins (cB K) dx (putF "pairs" (.ref p) (putF "many" (vI n) [])))) p = some (.lst (M.map fun q => V.ref q.1)) := by
      rw [upd_ne npx]
      exact hp
    have tM3 : ∀ q ∈ M, (upd H2 x (.ins (cB K) dx (putF "pairs" (.ref p) (putF "many" (vI n) [])))) q.1 = some (.tup [vI q.2.1, vI q.2.2]) := fun q hq => by
      rw [upd_ne (ne_of (tM q hq) hx2 (by intro z; cases z))]
      exact tM q hq
    have s3 : Same H0 (upd H2 x (.ins (cB K) dx (putF "pairs" (.ref p) (putF "many" (vI n) [])))) := same_mut (s1.trans s2) x0
    generalize upd H2 x (.ins (cB K) dx (putF "pairs" (.ref p) (putF "many" (vI n) []))) = H3 at hx3 hp3 tM3 s3
    have nd : (M.map (·.2)).Nodup := sM.imp fun {a b} z e => by
      unfold lexLt at z
      rw [e] at z
      omega
    have lM : M.length ≤ 64 := by
      have q1 : (M.map (·.2)).length ≤ (L.map (·.2)).length := nd.length_le_of_subset fun e he => (mM e).1 he
      rw [List.length_map, List.length_map] at q1
      omega
    have on : On n (M.map (·.2)) := fun e he => by
      obtain ⟨q, hq, rfl⟩ := List.mem_map.mp ((mM e).1 he)
      exact W.2.1 q hq
    refine ⟨_, rfl, (n : Int), rfl, by omega, by omega, fun D hD => ?_⟩
    have Dc : D ≠ c := fun z => by
      obtain ⟨ys, hc⟩ := hc
      rw [z, s3 _ _ hc] at hD
      cases hD
    refine lc_range (lo := 0) (n := ((n : Nat) : Int).toNat) (fun i H4 => ∃ G : List (Addr × List Nat), G.length = i ∧ H4 D = some (.lst (G.map fun g => V.ref g.1)) ∧ (∀ (c : Nat) (g : Addr × List Nat), G[c]? = some g → g.1 ≠ D ∧ H4 g.1 = some (.lst (g.2.map vI)) ∧ g.2.length ≤ 64 ∧ ∀ o, o ∈ g.2 ↔ (c, o) ∈ M.map (·.2)) ∧ Same H3 H4)
      ⟨[], rfl, upd_same, fun c g e => (by simp at e), same_upd hD⟩ ?_ ?_
    · rintro i H4 hi ⟨G, lG, hG, eG, s4⟩
      refine ⟨rfl, ?_⟩
      unfold tYes
      refine iteT ?_
      refine ⟨_, rfl, x, _, dx, _, _, rfl, s4 _ _ hx3, T.cl, T.n_pairs, rfl, p, rfl, ⟨_, SqL.of (s4 _ _ hp3)⟩, fun D2 hD2 => ?_⟩
      refine lc_list (K := K) (a := p) (xs := M.map fun q => V.ref q.1) (fun j H5 => ∃ os : List Nat, H5 D2 = some (.lst (os.map vI)) ∧ (∀ o, o ∈ os ↔ (i, o) ∈ (M.take j).map (·.2)) ∧ os.length ≤ j ∧ Same H4 H5)
        ⟨[], upd_same, by simp, Nat.le_refl _, same_upd hD2⟩ (fun j H5 _ ⟨_, _, _, _, s5⟩ => SqL.of (s5 _ _ (s4 _ _ hp3))) ?_ ?_
      · rintro j y H5 hy ⟨os, ho, mo, lo, s5⟩
        obtain ⟨q, hq, rfl⟩ : ∃ q, M[j]? = some q ∧ V.ref q.1 = y := by
          rw [List.getElem?_map] at hy
          cases e : M[j]? with
          | none => rw [e] at hy; cases hy
          | some q => rw [e] at hy; exact ⟨q, rfl, Option.some.inj hy⟩
        have jM : j < M.length := (List.getElem?_eq_some_iff.mp hq).1
        have et : M.take (j + 1) = M.take j ++ [q] := by
          rw [List.take_add_one, hq]
          rfl
        have tq := s5 _ _ (s4 _ _ (tM3 q (List.mem_of_getElem? hq)))
        refine ⟨q.1, _, rfl, SqT.of tq, rfl, _, _, rfl, _, _, rfl, rfl, rfl, ?_⟩
        refine ⟨_, rfl, _, rfl, rfl, _, rfl, ?_⟩
        refine ite2 (fun z => ?_) (fun z => ?_)
        · have z1 : V.int (q.2.1 : Nat) = V.int (0 + (i : Int)) := of_decide_eq_true z
          have z2 : q.2.1 = i := by
            injection z1 with z1
            omega
          refine ⟨_, rfl, _, ho, ?_, os ++ [q.2.2], ?_, fun o => ?_, ?_, same_mut s5 hD2⟩
          · rw [List.length_map]
            exact Nat.lt_of_le_of_lt (show os.length ≤ 64 by omega) (by decide)
          · rw [upd_same, List.map_append]
            rfl
          · rw [et, List.map_append, List.mem_append, List.mem_append, mo o]
            have : o ∈ [q.2.2] ↔ (i, o) ∈ List.map (fun x => x.2) [q] := by
              simp only [List.mem_singleton, List.map_cons, List.map_nil]
              constructor
              · intro e
                rw [e, ← z2]
              · intro e
                rw [← e]
            rw [this]
          · rw [List.length_append]
            simp
            omega
        · have z2 : q.2.1 ≠ i := fun e => z (decide_eq_true (by
            show V.int (q.2.1 : Nat) = V.int (0 + (i : Int))
            rw [e, Int.zero_add]))
          refine ⟨os, ho, fun o => ?_, by omega, s5⟩
          rw [et, List.map_append, List.mem_append, mo o]
          constructor
          · exact .inl
          · rintro (e | e)
            · exact e
            · have : (i, o) = q.2 := by simpa using e
              exact absurd (congrArg Prod.fst this).symm z2
      · rintro H5 ⟨os, ho, mo, lo, s5⟩
        rw [List.length_map] at lo mo
        rw [List.take_length] at mo
        have D2D : D2 ≠ D := fun z => by
          rw [z, hG] at hD2
          cases hD2
        refine ⟨_, s5 _ _ hG, ?_, G ++ [(D2, os)], by simp [lG], ?_, fun c' g hg => ?_, same_mut (s4.trans s5) hD⟩
        · rw [List.length_map]
          exact Nat.lt_of_le_of_lt (show G.length ≤ 8 by omega) (by decide)
        · rw [upd_same, List.map_append]
          rfl
        · rw [List.getElem?_append] at hg
          split at hg
          · rename_i lt
            obtain ⟨gD, g1, g2, g3⟩ := eG c' g hg
            rw [upd_ne gD]
            exact ⟨gD, s5 _ _ g1, g2, g3⟩
          · rename_i ge
            have e0 : c' - G.length = 0 := by
              cases h0 : c' - G.length with
              | zero => rfl
              | succ k => rw [h0] at hg; simp at hg
            rw [e0] at hg
            have eg : (D2, os) = g := by simpa using hg
            subst eg
            have ec : c' = i := by omega
            subst ec
            rw [upd_ne D2D]
            exact ⟨D2D, ho, (show os.length ≤ 64 by omega), mo⟩
    · rintro H4 ⟨G, lG, hG, eG, s4⟩
      have hx4 := s4 _ _ hx3
      refine ⟨_, rfl, x, _, dx, _, rfl, hx4, T.cl, T.n_leads, (by show 2 < 1000; decide), ?_⟩
      have nDx : D ≠ x := ne_of hG hx4 (by intro z; cases z)
      have hx5 : (upd H4 x (.ins (cB K) dx (putF "leads" (.ref D) (putF "pairs" (.ref p) (putF "many" (vI n) []))))) x = some (.ins (cB K) dx (putF "leads" (.ref D) (putF "pairs" (.ref p) (putF "many" (vI n) [])))) := upd_same
      have LA : LeadsAt (upd H4 x (.ins (cB K) dx (putF "leads" (.ref D) (putF "pairs" (.ref p) (putF "many" (vI n) []))))) D n (M.map (·.2)) G := by
        refine ⟨by rw [upd_ne nDx]; exact hG, by omega, fun c' g hg => ?_⟩
        obtain ⟨_, g1, g2, g3⟩ := eG c' g hg
        rw [upd_ne (ne_of g1 hx4 (by intro z; cases z))]
        exact ⟨g1, g2, g3⟩
      have hp5 : (upd H4 x (.ins (cB K) dx (putF "leads" (.ref D) (putF "pairs" (.ref p) (putF "many" (vI n) []))))) p = some (.lst (M.map fun q => V.ref q.1)) := by
        rw [upd_ne npx]
        exact s4 _ _ hp3
      have tM5 : ∀ q ∈ M, (upd H4 x (.ins (cB K) dx (putF "leads" (.ref D) (putF "pairs" (.ref p) (putF "many" (vI n) []))))) q.1 = some (.tup [vI q.2.1, vI q.2.2]) := fun q hq => by
        have g := s4 _ _ (tM3 q hq)
        rw [upd_ne (ne_of g hx4 (by intro z; cases z))]
        exact g
      have s5 : Same H0 (upd H4 x (.ins (cB K) dx (putF "leads" (.ref D) (putF "pairs" (.ref p) (putF "many" (vI n) []))))) := same_mut (s3.trans s4) x0
      generalize upd H4 x (.ins (cB K) dx (putF "leads" (.ref D) (putF "pairs" (.ref p) (putF "many" (vI n) [])))) = H5 at hx5 LA hp5 tM5 s5
      refine ⟨_, rfl, (n : Int), rfl, by omega, by omega, fun D3 hD3 => ?_⟩
      have D3c : D3 ≠ c := fun z => by
        obtain ⟨ys, hc⟩ := hc
        rw [z, s5 _ _ hc] at hD3
        cases hD3
      refine lc_range (lo := 0) (n := ((n : Nat) : Int).toNat) (fun i H6 => ∃ U : List (Addr × List (Option Nat)), U.length = i ∧ H6 D3 = some (.lst (U.map fun g => V.ref g.1)) ∧ (∀ (a : Nat) (q : Addr × List (Option Nat)), U[a]? = some q → q.1 ≠ D3 ∧ H6 q.1 = some (.lst (q.2.map vO)) ∧ q.1 ≠ c ∧ Fars n (M.map (·.2)) a q.2) ∧ Same H5 H6)
        ⟨[], rfl, upd_same, fun c g e => (by simp at e), same_upd hD3⟩ ?_ ?_
      · rintro i H6 hi ⟨U, lU, hU, eU, s6⟩
        refine ⟨rfl, ?_⟩
        unfold tYes
        refine iteT ?_
        refine ⟨_, rfl, x, _, dx, _, _, rfl, s6 _ _ hx5, T.cl, T.n_leads, rfl, _, rfl, D, i, n, _, G, (by rw [Int.zero_add]; rfl), LA.same s6, on, n8, by omega, fun H7 pp fs hpp hpn7 FF s7 => ?_⟩
        have ppD : pp ≠ D3 := fun z => by
          rw [z, hU] at hpn7
          cases hpn7
        have ppc : pp ≠ c := fun z => by
          obtain ⟨ys, hc⟩ := hc
          rw [z, s6 _ _ (s5 _ _ hc)] at hpn7
          cases hpn7
        refine ⟨_, s7 _ _ hU, ?_, U ++ [(pp, fs)], by simp [lU], ?_, fun a q hq => ?_, same_mut (s6.trans s7) hD3⟩
        · rw [List.length_map]
          exact Nat.lt_of_le_of_lt (show U.length ≤ 8 by omega) (by decide)
        · rw [upd_same, List.map_append]
          rfl
        · rw [List.getElem?_append] at hq
          split at hq
          · obtain ⟨gD, g1, g2, g3⟩ := eU a q hq
            rw [upd_ne gD]
            exact ⟨gD, s7 _ _ g1, g2, g3⟩
          · rename_i ge
            have e0 : a - U.length = 0 := by
              cases h0 : a - U.length with
              | zero => rfl
              | succ k => rw [h0] at hq; simp at hq
            rw [e0] at hq
            have eg : (pp, fs) = q := by simpa using hq
            subst eg
            have ec : a = i := by omega
            subst ec
            rw [upd_ne ppD]
            exact ⟨ppD, hpp, ppc, FF⟩
      · rintro H6 ⟨U, lU, hU, eU, s6⟩
        have hx6 := s6 _ _ hx5
        refine ⟨_, rfl, x, _, dx, _, rfl, hx6, T.cl, T.n_fars, (by show 3 < 1000; decide), ?_⟩
        have off : ∀ a o, H6 a = some o → (∀ d fs, o ≠ .ins (cB K) d fs) → (upd H6 x (.ins (cB K) dx (putF "fars" (.ref D3) (putF "leads" (.ref D) (putF "pairs" (.ref p) (putF "many" (vI n) [])))))) a = some o := fun a o e k => by
          have ne : a ≠ x := fun z => by
            rw [z, hx6] at e
            exact k _ _ (Option.some.inj e).symm
          rw [upd_ne ne]
          exact e
        refine h _ (M.map (·.2)) ⟨⟨dx, p, D, D3, M, _, U, upd_same, ⟨off _ _ (s6 _ _ hp5) (by intro d f z; cases z), npc, fun q hq => off _ _ (s6 _ _ (tM5 q hq)) (by intro d f z; cases z)⟩, rfl,
          off _ _ (s6 _ _ LA.at_) (by intro d f z; cases z), Dc, by rw [List.length_map]; exact LA.len, off _ _ hU (by intro d f z; cases z), D3c, by omega, fun a q hq => ?_⟩, n1, n8, on, nd⟩ mM sM (same_mut (s5.trans s6) x0)
        obtain ⟨_, g1, g2, g3⟩ := eU a q hq
        exact ⟨off _ _ g1 (by intro d f z; cases z), g2, g3⟩
end
end RL
namespace RL
open PySem PySem.Spec PyProof.Rows L2 RLM
section
variable {P : Program} {w : World} {K : PySem.W.Frag} {mg : Str → Option Value} {base : Heap}
def spCheck (K : PySem.W.Frag) : Sp := fun vs H Q _ => ∃ (c x : Addr) (n a : Nat) (E : List (Nat × Nat)), vs = [.ref x, vI a] ∧ BoardAt K c H x n E ∧ a < n ∧ Q .non H
theorem sc_Board_check_place : FnScope ["self", "place"] ["self", "place"] (defScope s_Board_check_place) := ⟨rfl, rfl, rfl, by decide +kernel, rfl, by decide +kernel, by decide +kernel⟩
theorem ok_check (T : Tx K mg) : Has P w K mg base (mB K "check_place") 3 ["self", "place"] (spCheck K) := by
  obtain ⟨⟨fd_is_between, F_is_between, b_is_between⟩, kp_is_between⟩ := ok_is_between (P := P) (w := w) (base := base) T
  obtain ⟨fd, F⟩ := T.d_Board_check_place
  refine ⟨⟨fd, F.ok sc_Board_check_place (fun vs H Q E h => ?_) (fun cdv A outer s H vs Q E hr h => ?_), F.bindsN fun _ _ _ _ _ _ us hl => match us, hl with | [_, _], _ => rfl⟩, F.kp⟩
  · obtain ⟨c, x, n, a, E, rfl, _⟩ := h
    rfl
  · obtain ⟨c, x, n, a, E, rfl, B, an, h⟩ := h
    have hr_is_between : Room 2 _ := hr.mono (by decide)
    refine ⟨_, PSs.nox (pss_one (ps_if (pt_not (pt_val (pe_call F_is_between hr_is_between rfl T.glo_is_between kp_is_between b_is_between .nil pass0 (pa_cons (pv 1) (pa_cons pe_int (pa_cons (pe_op op_sub (fldK (K := K) (pv 0) rfl) pe_int) pa_nil)))))) (pss_one ps_never) pss_nil)), ?_⟩
    obtain ⟨dx, lp, ll, lf, hx⟩ := B.obj
    exact ⟨_, rfl, _, rfl, x, _, dx, _, _, rfl, hx, T.cl, T.n_many, bf_many _ _ _ _, _, _, rfl, rfl, _, _, _, rfl, _, rfl, iteNS ⟨by omega, by omega⟩ h⟩
def spLen (K : PySem.W.Frag) : Sp := fun vs H Q _ => ∃ (c x : Addr) (n : Nat) (E : List (Nat × Nat)), vs = [.ref x] ∧ BoardAt K c H x n E ∧ Q (vI n) H
theorem sc_Board_len : FnScope ["self"] ["self"] (defScope s_Board_len) := ⟨rfl, rfl, rfl, by decide +kernel, rfl, by decide +kernel, by decide +kernel⟩
theorem ok_len (T : Tx K mg) : Has P w K mg base (mB K "__len__") 1 ["self"] (spLen K) := by
  obtain ⟨fd, F⟩ := T.d_Board_len
  refine ⟨⟨fd, F.ok sc_Board_len (fun vs H Q E h => ?_) (fun cdv A outer s H vs Q E hr h => ?_), F.bindsN fun _ _ _ _ _ _ us hl => match us, hl with | [_], _ => rfl⟩, F.kp⟩
  · obtain ⟨c, x, n, E, rfl, _⟩ := h
    rfl
  · obtain ⟨c, x, n, E, rfl, B, h⟩ := h
    refine ⟨_, PSs.nox (pss_one (ps_ret (pe_callB (lenK (K := K)) (by rfl) T.free_len (by decide +kernel) (pa_cons (fldK (K := K) (pv 0) rfl) pa_nil)))), ?_⟩
    obtain ⟨dx, lp, ll, lf, L, ls, F, hx, h2, h3, h4, h5, h6, _⟩ := B.ex
    refine ⟨_, rfl, x, _, dx, _, _, rfl, hx, T.cl, T.n_leads, bf_leads _ _ _ _, ll, _, rfl, .inl (SqL.of h4), ?_⟩
    rw [h6]
    exact h
def spWithin (K : PySem.W.Frag) : Sp := fun vs H Q _ => ∃ (c x : Addr) (n a : Nat) (m : Int) (E : List (Nat × Nat)), vs = [.ref x, vI a, .int m] ∧ BoardAt K c H x n E ∧ a < n ∧ ∀ H' t, H' t = some (.tup ((lotP n (Near E m a)).map vI)) → Same H H' → Q (.ref t) H'
end
end RL
namespace RL
open PySem PySem.Spec PyProof.Rows L2 RLM
/-! few ways -/
def allW : List (Nat × Nat) := (List.range 8).flatMap fun a => (List.range 8).filterMap fun b => if a = b then none else some (a, b)
theorem allW_len : allW.length = 56 := by decide +kernel
theorem mem_allW {e : Nat × Nat} (h1 : e.1 < 8) (h2 : e.2 < 8) (h3 : e.1 ≠ e.2) : e ∈ allW := by
  unfold allW
  rw [List.mem_flatMap]
  refine ⟨e.1, List.mem_range.mpr h1, List.mem_filterMap.mpr ⟨e.2, List.mem_range.mpr h2, ?_⟩⟩
  rw [if_neg h3]
theorem on_few {n : Nat} {E : List (Nat × Nat)} (hn : n ≤ 8) (on : On n E) (nd : E.Nodup) : E.length ≤ 56 := by
  rw [← allW_len]
  refine nd.length_le_of_subset fun e he => ?_
  obtain ⟨h1, h2, h3⟩ := on e he
  exact mem_allW (by omega) (by omega) h3
theorem WaysOk.few {n : Nat} {L : List (Addr × Nat × Nat)} (hn : n ≤ 8) (h : WaysOk n L) : L.length < 63 := by
  have := on_few (E := L.map (·.2)) hn (fun e he => by
    obtain ⟨q, hq, rfl⟩ := List.mem_map.mp he
    exact h.2.1 q hq) h.1
  rw [List.length_map] at this
  omega
section
variable {P : Program} {w : World} {K : PySem.W.Frag} {mg : Str → Option Value} {base : Heap}
/-- Board(n, l) is asked where l has been made -/
theorem init_at {H : Hp} {c l x dx : Addr} {n : Nat} {L : List (Addr × Nat × Nat)} {Q : VK} (hc : ∃ ys, H c = some (.lst ys)) (hl : H l = some (.lst (L.map fun q => V.ref q.1))) (tL : ∀ q ∈ L, H q.1 = some (.tup [vI q.2.1, vI q.2.2])) (W : WaysOk n L) (n1 : 1 ≤ n) (n8 : n ≤ 8)
    (hx : H x = none) (hdx : H dx = none) (ne : dx ≠ x) (h : ∀ (H' : Hp) (E : List (Nat × Nat)), BoardAt K c H' x n E → (∀ e, e ∈ E ↔ e ∈ L.map (·.2)) → E.Pairwise lexLt → Same H H' → Q .non H') :
    spInit K [.ref x, vI n, .ref l] (upd (upd H dx (.own x)) x (.ins (cB K) dx [])) Q E0 := by
  refine ⟨H, x, dx, c, l, n, L, rfl, fun b o e => ?_, hx, upd_same, hc, hl, tL, W, n1, n8, W.few n8, h⟩
  rw [upd_ne (ne_of_none e hx), upd_ne (ne_of_none e hdx)]
  exact e
def spMade (K : PySem.W.Frag) : Sp := fun vs H Q _ => ∃ (c t l : Addr) (n : Nat) (L : List (Addr × Nat × Nat)), vs = [.ref t] ∧ H t = some (.tup [vI n, .ref l]) ∧ PairsAt c H l L ∧ WaysOk n L ∧ 1 ≤ n ∧ n ≤ 8 ∧ (∃ ys, H c = some (.lst ys)) ∧
  ∀ (H' : Hp) (x : Addr) (E : List (Nat × Nat)), BoardAt K c H' x n E → (∀ e, e ∈ E ↔ e ∈ L.map (·.2)) → E.Pairwise lexLt → Same H H' → Q (.ref x) H'
def spTurned (K : PySem.W.Frag) : Sp := fun vs H Q _ => ∃ (c x : Addr) (n : Nat) (E : List (Nat × Nat)), vs = [.ref x] ∧ BoardAt K c H x n E ∧ (∃ ys, H c = some (.lst ys)) ∧
  ∀ (H' : Hp) (y : Addr) (E' : List (Nat × Nat)), BoardAt K c H' y n E' → (∀ a b, (a, b) ∈ E' ↔ (b, a) ∈ E) → E'.Pairwise lexLt → Same H H' → Q (.ref y) H'
theorem nodup_inj {α β : Type} {f : α → β} : ∀ {l : List α}, l.Nodup → (∀ x ∈ l, ∀ y ∈ l, f x = f y → x = y) → (l.map f).Nodup
  | [], _, _ => List.nodup_nil
  | a :: l, h, hf => by
    rw [List.map_cons, List.nodup_cons]
    rw [List.nodup_cons] at h
    refine ⟨fun hm => ?_, nodup_inj h.2 fun x hx y hy => hf x (List.mem_cons_of_mem _ hx) y (List.mem_cons_of_mem _ hy)⟩
    obtain ⟨b, hb, e⟩ := List.mem_map.mp hm
    exact h.1 (hf b (List.mem_cons_of_mem _ hb) a List.mem_cons_self e ▸ hb)
theorem sqt_same {H H' : Hp} {a : Addr} {xs : List V} (s : Same H H') (h : SqT K H a xs) : SqT K H' a xs := by
  rcases h with (h | ⟨o, h⟩) | h
  · exact .inl (.inl (s _ _ h))
  · exact .inl (.inr ⟨o, s _ _ h⟩)
  · exact .inr h
def spRenamed (K : PySem.W.Frag) : Sp := fun vs H Q _ => ∃ (c x t : Addr) (n : Nat) (E : List (Nat × Nat)) (os : List Nat), vs = [.ref x, .ref t] ∧ BoardAt K c H x n E ∧ (∃ ys, H c = some (.lst ys)) ∧ SqT K H t (os.map vI) ∧ os.Perm (List.range n) ∧
  ∀ (H' : Hp) (y : Addr) (E' : List (Nat × Nat)), BoardAt K c H' y n E' → (∀ e, e ∈ E' ↔ ∃ p, p ∈ E ∧ e = (os.getD p.1 0, os.getD p.2 0)) → E'.Pairwise lexLt → Same H H' → Q (.ref y) H'
theorem int_maps : ∀ {xs ys : List Int}, xs.map V.int = ys.map V.int → xs = ys
  | [], [], _ => rfl
  | [], _ :: _, h => by cases h
  | _ :: _, [], h => by cases h
  | x :: xs, y :: ys, h => by
    rw [List.map_cons, List.map_cons] at h
    injection h with h1 h2
    injection h1 with h1
    rw [h1, int_maps h2]
/-- what is sorted of an order of the places -/
theorem sorted_order {n : Nat} {os : List Nat} {ms : List Int} (h : os.Perm (List.range n)) (p : ms.Perm (os.map nI)) (s : ms.Pairwise (· ≤ ·)) : ms = (List.range n).map nI := by
  have pm : ms.Perm ((List.range n).map nI) := p.trans (h.map nI)
  have nd : ms.Nodup := pm.nodup_iff.mpr (nodup_inj List.nodup_range fun x _ y _ e => by
    unfold nI at e
    omega)
  have lt : ms.Pairwise (· < ·) := (s.and nd).imp fun {a b} ⟨z1, z2⟩ => by
    have z2 : a ≠ b := z2
    omega
  have e := rise_lot (n := n) (p := fun _ => True) lt fun k => by
    rw [pm.mem_iff, List.mem_map]
    constructor
    · rintro ⟨b, hb, rfl⟩
      exact ⟨b, rfl, List.mem_range.mp hb, trivial⟩
    · rintro ⟨b, rfl, hb, _⟩
      exact ⟨b, List.mem_range.mpr hb, rfl⟩
  rw [lotP_true, vI_map] at e
  exact int_maps e
theorem os_get {n : Nat} {os : List Nat} (h : os.Perm (List.range n)) {a : Nat} (ha : a < n) : os[a]? = some (os.getD a 0) ∧ os.getD a 0 < n := by
  have hl : a < os.length := by rw [h.length_eq, List.length_range]; exact ha
  have e : os.getD a 0 = os[a] := by rw [List.getD_eq_getElem?_getD, List.getElem?_eq_getElem hl]; rfl
  refine ⟨by rw [e]; exact List.getElem?_eq_getElem hl, ?_⟩
  rw [e]
  exact List.mem_range.mp (h.mem_iff.mp (List.getElem_mem hl))
theorem os_inj {n : Nat} {os : List Nat} (h : os.Perm (List.range n)) {a b : Nat} (ha : a < n) (hb : b < n) (e : os.getD a 0 = os.getD b 0) : a = b := by
  have nd : os.Nodup := h.nodup_iff.mpr List.nodup_range
  have h1 := (os_get h ha).1
  have h2 := (os_get h hb).1
  rw [e, ← h2] at h1
  have hl : a < os.length := by rw [h.length_eq, List.length_range]; exact ha
  exact (List.getElem?_inj hl nd).mp h1
end
end RL
/-! a board made without ways -/
namespace RL
open PySem PySem.Spec PyProof.Rows L2 RLM
theorem ways_nil (n : Nat) : WaysOk n [] := by
  unfold WaysOk
  simp
section
variable {P : Program} {w : World} {K : PySem.W.Frag} {mg : Str → Option Value} {base : Heap}
def spRising0 (K : PySem.W.Frag) : Sp := fun vs H Q _ => ∃ (n : Nat) (l : Addr), vs = [vI n, .ref l] ∧ (∀ H', SqT K H' l []) ∧
  ∀ (H' : Hp) (p : Addr) (M : List (Addr × Nat × Nat)), H' p = some (.lst (M.map fun q => V.ref q.1)) → (∀ q ∈ M, H' q.1 = some (.tup [vI q.2.1, vI q.2.2])) → (∀ e, e ∈ M.map (·.2) ↔ e ∈ ([] : List (Nat × Nat))) → (M.map (·.2)).Pairwise lexLt → Same H H' → H p = none → Q (.ref p) H'
theorem ok_rising0 (T : Tx K mg) : Has P w K mg base (He.ga K "rising_ways") 3 ["many", "ways"] (spRising0 K) := by
  obtain ⟨⟨fd_is_between, F_is_between, b_is_between⟩, kp_is_between⟩ := ok_is_between (P := P) (w := w) (base := base) T
  obtain ⟨fd, F⟩ := T.d_rising_ways
  refine ⟨⟨fd, F.ok sc_rising_ways (fun vs H Q E h => ?_) (fun cdv A outer s H vs Q E hr h => ?_), F.bindsN fun _ _ _ _ _ _ us hl => match us, hl with | [_, _], _ => rfl⟩, F.kp⟩
  · obtain ⟨n, l, rfl, _⟩ := h
    rfl
  · obtain ⟨n, l, rfl, hl, h⟩ := h
    have hr_is_between : Room 2 _ := hr.mono (by decide)
    refine ⟨_, PSs.nox (pss_cons (ps_set (i := 2) sc_rising_ways.nd rfl (Or.inl rfl) (pe_callTy0 (set0T (P := P) (w := w)) (by rfl) T.free_set (by decide +kernel)))
      (pss_cons (ps_for PassesOwn.never rfl (piEnumT (K := K) (by rfl) T.free_enumerate (pa_cons (pv 1) pa_nil)) (pgT (K := K) (n := 2) rfl (pgs_cons (pg_name (i := 3) sc_rising_ways.nd rfl (Or.inl rfl)) (pgs_cons (pgT (K := K) (n := 2) rfl (pgs_cons (pg_name (i := 4) sc_rising_ways.nd rfl (Or.inl rfl)) (pgs_cons (pg_name (i := 5) sc_rising_ways.nd rfl (Or.inl rfl)) pgs_nil))) pgs_nil))) (pss_cons (ps_if (PW.pt (pw_or (pt_not (pt_val (pe_call F_is_between hr_is_between rfl T.glo_is_between kp_is_between b_is_between .nil pass0 (pa_cons (pv 4) (pa_cons pe_int (pa_cons (pe_op op_sub (pv 0) pe_int) pa_nil)))))) (pw_or1 (pt_not (pt_val (pe_call F_is_between hr_is_between rfl T.glo_is_between kp_is_between b_is_between .nil pass0 (pa_cons (pv 5) (pa_cons pe_int (pa_cons (pe_op op_sub (pv 0) pe_int) pa_nil))))))))) (pss_one ps_never) pss_nil)
      (pss_cons (ps_if (PW.pt (pw_or (pt_cmpR op_eq (pv 4) (pv 5) (nomark _)) (pw_or1 (pt_cmpR (inT (K := K) (P := P) (w := w) hr.units) (pe_tup (pa_cons (pv 4) (pa_cons (pv 5) pa_nil))) (pv 2) (by rfl))))) (pss_one ps_never) pss_nil)
      (pss_one (ps_expr (pe_addT (K := K) (P := P) (w := w) hr.units (pv 2) (pa_cons (pe_tup (pa_cons (pv 4) (pa_cons (pv 5) pa_nil))) pa_nil)))))))
      (pss_one (ps_ret (pe_callB (sortSetT (K := K) (P := P) (w := w)) (by rfl) T.free_sorted (by decide +kernel) (pa_cons (pv 2) pa_nil)))))), ?_⟩
    refine ⟨rfl, fun a ha => ?_⟩
    have s0 : Same H (upd H a (SetTO P w a [])) := same_upd ha
    refine ⟨_, rfl, l, _, rfl, hl _, for_it (walk_enumT (K := K) (a := l) (xs := [])) (fun i σ H1 => σ = [some (vI n), some (.ref l), some (.ref a), none, none, none] ∧ H1 a = some (SetTO P w a []) ∧ Same H H1)
      ⟨rfl, upd_same, s0⟩ (fun i σ H1 _ _ => hl _) (fun i x σ H1 H2 hi => absurd hi (Nat.not_lt_zero _)) ?_⟩
    rintro σ H1 ⟨rfl, hS, s1⟩
    refine ⟨_, rfl, a, [], 2, 64, rfl, hS, (by simp), by decide, (by simp), fun S' p pm' nd few pw hp => ?_⟩
    obtain rfl := pm'.eq_nil
    exact h _ p [] (by rw [upd_same]; rfl) (by simp) (by simp) (by simp) (s1.trans (same_upd hp)) (s1.free hp)
def spInit0 (K : PySem.W.Frag) : Sp := fun vs H Q _ => ∃ (H0 : Hp) (x dx c l : Addr) (n : Nat), vs = [.ref x, vI n, .ref l] ∧ Same H0 H ∧ H0 x = none ∧ H x = some (.ins (cB K) dx []) ∧ (∃ ys, H0 c = some (.lst ys)) ∧
  (∀ H', SqT K H' l []) ∧ 1 ≤ n ∧ n ≤ 8 ∧
  ∀ (H' : Hp) (E : List (Nat × Nat)), BoardAt K c H' x n E → (∀ e, e ∈ E ↔ e ∈ ([] : List (Nat × Nat))) → E.Pairwise lexLt → Same H0 H' → Q .non H'
theorem okf_init0 (T : Tx K mg) {fd : FuncData} (F : FnP K "__init__" "Board.__init__" s_Board_init [V.ref (He.dflAt ("Board", some "__init__") 0 K)] (mB K "__init__") fd) : FnOk P w K mg base CX0 4 (mB K "__init__") fd ["self", "many", "ways"] (spInit0 K) := by
  obtain ⟨⟨fd_is_between, F_is_between, b_is_between⟩, kp_is_between⟩ := ok_is_between (P := P) (w := w) (base := base) T
  obtain ⟨⟨fd_rising_ways, F_rising_ways, b_rising_ways⟩, kp_rising_ways⟩ := ok_rising0 (P := P) (w := w) (base := base) T
  obtain ⟨⟨fd_fars_from, F_fars_from, b_fars_from⟩, kp_fars_from⟩ := ok_fars (P := P) (w := w) (base := base) T
  refine F.ok sc_Board_init (fun vs H Q E h => ?_) (fun cdv A outer s H vs Q E hr h => ?_)
  · obtain ⟨H0, x, dx, c, l, n, rfl, _⟩ := h
    rfl
  · obtain ⟨H0, x, dx, c, l, n, rfl, s0, x0, hx, hc, hl, n1, n8, h⟩ := h
    obtain ⟨L, eL⟩ : ∃ L : List (Addr × Nat × Nat), L = [] := ⟨_, rfl⟩
    have W : WaysOk n L := by rw [eL]; exact ways_nil n
    have len : L.length < 63 := by rw [eL]; decide
    replace h : ∀ (H' : Hp) (E : List (Nat × Nat)), BoardAt K c H' x n E → (∀ e, e ∈ E ↔ e ∈ L.map (·.2)) → E.Pairwise lexLt → Same H0 H' → Q .non H' := fun H' E a b => h H' E a (by rw [eL] at b; exact b)
    have hr_is_between : Room 2 _ := hr.mono (by decide)
    have hr_rising_ways : Room 3 _ := hr.mono (by decide)
    have hr_fars_from : Room 1 _ := hr.mono (by decide)
    refine ⟨_, PSs.nox (pss_cons (ps_if (pt_not (pt_val (pe_call F_is_between hr_is_between rfl T.glo_is_between kp_is_between b_is_between .nil pass0 (pa_cons (pv 1) (pa_cons pe_int (pa_cons (pe_glob (v := .int 8) rfl T.glob_MOST_PLACES.choose_spec ⟨_, rfl⟩) pa_nil)))))) (pss_one ps_never) pss_nil)
      (pss_cons (ps_fld (pv 0) (pv 1) rfl)
      (pss_cons (ps_fld (pv 0) (pe_call F_rising_ways hr_rising_ways rfl T.glo_rising_ways kp_rising_ways b_rising_ways .nil pass0 (pa_cons (pv 1) (pa_cons (pv 2) pa_nil))) rfl)
      (pss_cons (ps_fld (pv 0) (pe_lc (own := [("place", 3)]) (g := (gName 3)) (tt := tYes) rfl sc_Board_init.nd (pi_range1 (by rfl) T.free_range (pa_cons (pv 1) pa_nil)) (blkOk_by (by kernel_rfl)) (fun _ _ _ _ _ => (pg_name (i := 3) sc_Board_init.nd rfl (Or.inr rfl))) (fun _ _ _ _ _ => pts_nil) (fun _ _ _ _ _ => (pe_lc (own := [("one", 4), ("other", 5)]) rfl sc_Board_init.nd (piL (K := K) (fldK (K := K) (pv 0) rfl)) (blkOk_by (by kernel_rfl)) (fun _ _ _ _ _ => (pgT (K := K) (n := 2) rfl (pgs_cons (pg_name (i := 4) sc_Board_init.nd rfl (Or.inl rfl)) (pgs_cons (pg_name (i := 5) sc_Board_init.nd rfl (Or.inl rfl)) pgs_nil)))) (fun _ _ _ _ _ => (pts_one (pt_cmpR op_eq (pv 4) (pv 3) (nomark _)))) (fun _ _ _ _ _ => (pv 5))))) rfl)
      (pss_one (ps_fld (pv 0) (pe_lc (own := [("place", 3)]) (g := (gName 3)) (tt := tYes) rfl sc_Board_init.nd (pi_range1 (by rfl) T.free_range (pa_cons (pv 1) pa_nil)) (blkOk_by (by kernel_rfl)) (fun _ _ _ _ _ => (pg_name (i := 3) sc_Board_init.nd rfl (Or.inl rfl))) (fun _ _ _ _ _ => pts_nil) (fun _ _ _ _ _ => (pe_call F_fars_from hr_fars_from rfl T.glo_fars_from kp_fars_from b_fars_from .nil pass0 (pa_cons (fldK (K := K) (pv 0) rfl) (pa_cons (pv 3) pa_nil))))) rfl)))))), ?_⟩
    refine ⟨_, rfl, _, _, _, rfl, _, rfl, iteNS ⟨by omega, by omega⟩ ?_⟩
    refine ⟨_, rfl, _, rfl, x, _, dx, _, rfl, hx, T.cl, T.n_many, (by show 0 < 1000; decide), ?_⟩
    have s1 : Same H0 (upd H x (.ins (cB K) dx (putF "many" (vI n) []))) := same_mut s0 x0
    have hx1 : (upd H x (.ins (cB K) dx (putF "many" (vI n) []))) x = some (.ins (cB K) dx (putF "many" (vI n) [])) := upd_same
    generalize upd H x (.ins (cB K) dx (putF "many" (vI n) [])) = H1 at s1 hx1
    refine ⟨_, rfl, _, rfl, n, l, rfl, hl, fun H2 p M hp tM mM sM s2 hpn => ?_⟩
    replace mM : ∀ e, e ∈ M.map (·.2) ↔ e ∈ L.map (·.2) := fun e => by rw [eL]; exact mM e
    have hx2 := s2 _ _ hx1
    have npx : p ≠ x := ne_of hp hx2 (by intro z; cases z)
    refine ⟨_, rfl, x, _, dx, _, rfl, hx2, T.cl, T.n_pairs, (by show 1 < 1000; decide), ?_⟩
    have hc1 : ∃ ys, H1 c = some (.lst ys) := hc.imp fun ys z => s1 _ _ z
    have npc : p ≠ c := fun z => by
      obtain ⟨ys, hc1⟩ := hc1
      rw [← z, hpn] at hc1
      cases hc1
    have hx3 : (upd H2 x (.ins (cB K) dx (putF "pairs" (.ref p) (putF "many" (vI n) [])))) x = some (.ins (cB K) dx (putF "pairs" (.ref p) (putF "many" (vI n) []))) := upd_same
    have hp3 : (upd H2 x (.ins (cB K) dx (putF "pairs" (.ref p) (putF "many" (vI n) [])))) p = some (.lst (M.map fun q => V.ref q.1)) := by
      rw [upd_ne npx]
      exact hp
    have tM3 : ∀ q ∈ M, (upd H2 x (.ins (cB K) dx (putF "pairs" (.ref p) (putF "many" (vI n) [])))) q.1 = some (.tup [vI q.2.1, vI q.2.2]) := fun q hq => by
      rw [upd_ne (ne_of (tM q hq) hx2 (by intro z; cases z))]
      exact tM q hq
    have s3 : Same H0 (upd H2 x (.ins (cB K) dx (putF "pairs" (.ref p) (putF "many" (vI n) [])))) := same_mut (s1.trans s2) x0
    generalize upd H2 x (.ins (cB K) dx (putF "pairs" (.ref p) (putF "many" (vI n) []))) = H3 at hx3 hp3 tM3 s3
    have nd : (M.map (·.2)).Nodup := sM.imp fun {a b} z e => by
      unfold lexLt at z
      rw [e] at z
      omega
    have lM : M.length ≤ 64 := by
      have q1 : (M.map (·.2)).length ≤ (L.map (·.2)).length := nd.length_le_of_subset fun e he => (mM e).1 he
      rw [List.length_map, List.length_map] at q1
      omega
    have on : On n (M.map (·.2)) := fun e he => by
      obtain ⟨q, hq, rfl⟩ := List.mem_map.mp ((mM e).1 he)
      exact W.2.1 q hq
    refine ⟨_, rfl, (n : Int), rfl, by omega, by omega, fun D hD => ?_⟩
    have Dc : D ≠ c := fun z => by
      obtain ⟨ys, hc⟩ := hc
      rw [z, s3 _ _ hc] at hD
      cases hD
    refine lc_range (lo := 0) (n := ((n : Nat) : Int).toNat) (fun i H4 => ∃ G : List (Addr × List Nat), G.length = i ∧ H4 D = some (.lst (G.map fun g => V.ref g.1)) ∧ (∀ (c : Nat) (g : Addr × List Nat), G[c]? = some g → g.1 ≠ D ∧ H4 g.1 = some (.lst (g.2.map vI)) ∧ g.2.length ≤ 64 ∧ ∀ o, o ∈ g.2 ↔ (c, o) ∈ M.map (·.2)) ∧ Same H3 H4)
      ⟨[], rfl, upd_same, fun c g e => (by simp at e), same_upd hD⟩ ?_ ?_
    · rintro i H4 hi ⟨G, lG, hG, eG, s4⟩
      refine ⟨rfl, ?_⟩
      unfold tYes
      refine iteT ?_
      refine ⟨_, rfl, x, _, dx, _, _, rfl, s4 _ _ hx3, T.cl, T.n_pairs, rfl, p, rfl, ⟨_, SqL.of (s4 _ _ hp3)⟩, fun D2 hD2 => ?_⟩
      refine lc_list (K := K) (a := p) (xs := M.map fun q => V.ref q.1) (fun j H5 => ∃ os : List Nat, H5 D2 = some (.lst (os.map vI)) ∧ (∀ o, o ∈ os ↔ (i, o) ∈ (M.take j).map (·.2)) ∧ os.length ≤ j ∧ Same H4 H5)
        ⟨[], upd_same, by simp, Nat.le_refl _, same_upd hD2⟩ (fun j H5 _ ⟨_, _, _, _, s5⟩ => SqL.of (s5 _ _ (s4 _ _ hp3))) ?_ ?_
      · rintro j y H5 hy ⟨os, ho, mo, lo, s5⟩
        obtain ⟨q, hq, rfl⟩ : ∃ q, M[j]? = some q ∧ V.ref q.1 = y := by
          rw [List.getElem?_map] at hy
          cases e : M[j]? with
          | none => rw [e] at hy; cases hy
          | some q => rw [e] at hy; exact ⟨q, rfl, Option.some.inj hy⟩
        have jM : j < M.length := (List.getElem?_eq_some_iff.mp hq).1
        have et : M.take (j + 1) = M.take j ++ [q] := by
          rw [List.take_add_one, hq]
          rfl
        have tq := s5 _ _ (s4 _ _ (tM3 q (List.mem_of_getElem? hq)))
        refine ⟨q.1, _, rfl, SqT.of tq, rfl, _, _, rfl, _, _, rfl, rfl, rfl, ?_⟩
        refine ⟨_, rfl, _, rfl, rfl, _, rfl, ?_⟩
        refine ite2 (fun z => ?_) (fun z => ?_)
        · have z1 : V.int (q.2.1 : Nat) = V.int (0 + (i : Int)) := of_decide_eq_true z
          have z2 : q.2.1 = i := by
            injection z1 with z1
            omega
          refine ⟨_, rfl, _, ho, ?_, os ++ [q.2.2], ?_, fun o => ?_, ?_, same_mut s5 hD2⟩
          · rw [List.length_map]
            exact Nat.lt_of_le_of_lt (show os.length ≤ 64 by omega) (by decide)
          · rw [upd_same, List.map_append]
            rfl
          · rw [et, List.map_append, List.mem_append, List.mem_append, mo o]
            have : o ∈ [q.2.2] ↔ (i, o) ∈ List.map (fun x => x.2) [q] := by
              simp only [List.mem_singleton, List.map_cons, List.map_nil]
              constructor
              · intro e
                rw [e, ← z2]
              · intro e
                rw [← e]
            rw [this]
          · rw [List.length_append]
            simp
            omega
        · have z2 : q.2.1 ≠ i := fun e => z (decide_eq_true (by
            show V.int (q.2.1 : Nat) = V.int (0 + (i : Int))
            rw [e, Int.zero_add]))
          refine ⟨os, ho, fun o => ?_, by omega, s5⟩
          rw [et, List.map_append, List.mem_append, mo o]
          constructor
          · exact .inl
          · rintro (e | e)
            · exact e
            · have : (i, o) = q.2 := by simpa using e
              exact absurd (congrArg Prod.fst this).symm z2
      · rintro H5 ⟨os, ho, mo, lo, s5⟩
        rw [List.length_map] at lo mo
        rw [List.take_length] at mo
        have D2D : D2 ≠ D := fun z => by
          rw [z, hG] at hD2
          cases hD2
        refine ⟨_, s5 _ _ hG, ?_, G ++ [(D2, os)], by simp [lG], ?_, fun c' g hg => ?_, same_mut (s4.trans s5) hD⟩
        · rw [List.length_map]
          exact Nat.lt_of_le_of_lt (show G.length ≤ 8 by omega) (by decide)
        · rw [upd_same, List.map_append]
          rfl
        · rw [List.getElem?_append] at hg
          split at hg
          · rename_i lt
            obtain ⟨gD, g1, g2, g3⟩ := eG c' g hg
            rw [upd_ne gD]
            exact ⟨gD, s5 _ _ g1, g2, g3⟩
          · rename_i ge
            have e0 : c' - G.length = 0 := by
              cases h0 : c' - G.length with
              | zero => rfl
              | succ k => rw [h0] at hg; simp at hg
            rw [e0] at hg
            have eg : (D2, os) = g := by simpa using hg
            subst eg
            have ec : c' = i := by omega
            subst ec
            rw [upd_ne D2D]
            exact ⟨D2D, ho, (show os.length ≤ 64 by omega), mo⟩
    · rintro H4 ⟨G, lG, hG, eG, s4⟩
      have hx4 := s4 _ _ hx3
      refine ⟨_, rfl, x, _, dx, _, rfl, hx4, T.cl, T.n_leads, (by show 2 < 1000; decide), ?_⟩
      have nDx : D ≠ x := ne_of hG hx4 (by intro z; cases z)
      have hx5 : (upd H4 x (.ins (cB K) dx (putF "leads" (.ref D) (putF "pairs" (.ref p) (putF "many" (vI n) []))))) x = some (.ins (cB K) dx (putF "leads" (.ref D) (putF "pairs" (.ref p) (putF "many" (vI n) [])))) := upd_same
      have LA : LeadsAt (upd H4 x (.ins (cB K) dx (putF "leads" (.ref D) (putF "pairs" (.ref p) (putF "many" (vI n) []))))) D n (M.map (·.2)) G := by
        refine ⟨by rw [upd_ne nDx]; exact hG, by omega, fun c' g hg => ?_⟩
        obtain ⟨_, g1, g2, g3⟩ := eG c' g hg
        rw [upd_ne (ne_of g1 hx4 (by intro z; cases z))]
        exact ⟨g1, g2, g3⟩
      have hp5 : (upd H4 x (.ins (cB K) dx (putF "leads" (.ref D) (putF "pairs" (.ref p) (putF "many" (vI n) []))))) p = some (.lst (M.map fun q => V.ref q.1)) := by
        rw [upd_ne npx]
        exact s4 _ _ hp3
      have tM5 : ∀ q ∈ M, (upd H4 x (.ins (cB K) dx (putF "leads" (.ref D) (putF "pairs" (.ref p) (putF "many" (vI n) []))))) q.1 = some (.tup [vI q.2.1, vI q.2.2]) := fun q hq => by
        have g := s4 _ _ (tM3 q hq)
        rw [upd_ne (ne_of g hx4 (by intro z; cases z))]
        exact g
      have s5 : Same H0 (upd H4 x (.ins (cB K) dx (putF "leads" (.ref D) (putF "pairs" (.ref p) (putF "many" (vI n) []))))) := same_mut (s3.trans s4) x0
      generalize upd H4 x (.ins (cB K) dx (putF "leads" (.ref D) (putF "pairs" (.ref p) (putF "many" (vI n) [])))) = H5 at hx5 LA hp5 tM5 s5
      refine ⟨_, rfl, (n : Int), rfl, by omega, by omega, fun D3 hD3 => ?_⟩
      have D3c : D3 ≠ c := fun z => by
        obtain ⟨ys, hc⟩ := hc
        rw [z, s5 _ _ hc] at hD3
        cases hD3
      refine lc_range (lo := 0) (n := ((n : Nat) : Int).toNat) (fun i H6 => ∃ U : List (Addr × List (Option Nat)), U.length = i ∧ H6 D3 = some (.lst (U.map fun g => V.ref g.1)) ∧ (∀ (a : Nat) (q : Addr × List (Option Nat)), U[a]? = some q → q.1 ≠ D3 ∧ H6 q.1 = some (.lst (q.2.map vO)) ∧ q.1 ≠ c ∧ Fars n (M.map (·.2)) a q.2) ∧ Same H5 H6)
        ⟨[], rfl, upd_same, fun c g e => (by simp at e), same_upd hD3⟩ ?_ ?_
      · rintro i H6 hi ⟨U, lU, hU, eU, s6⟩
        refine ⟨rfl, ?_⟩
        unfold tYes
        refine iteT ?_
        refine ⟨_, rfl, x, _, dx, _, _, rfl, s6 _ _ hx5, T.cl, T.n_leads, rfl, _, rfl, D, i, n, _, G, (by rw [Int.zero_add]; rfl), LA.same s6, on, n8, by omega, fun H7 pp fs hpp hpn7 FF s7 => ?_⟩
        have ppD : pp ≠ D3 := fun z => by
          rw [z, hU] at hpn7
          cases hpn7
        have ppc : pp ≠ c := fun z => by
          obtain ⟨ys, hc⟩ := hc
          rw [z, s6 _ _ (s5 _ _ hc)] at hpn7
          cases hpn7
        refine ⟨_, s7 _ _ hU, ?_, U ++ [(pp, fs)], by simp [lU], ?_, fun a q hq => ?_, same_mut (s6.trans s7) hD3⟩
        · rw [List.length_map]
          exact Nat.lt_of_le_of_lt (show U.length ≤ 8 by omega) (by decide)
        · rw [upd_same, List.map_append]
          rfl
        · rw [List.getElem?_append] at hq
          split at hq
          · obtain ⟨gD, g1, g2, g3⟩ := eU a q hq
            rw [upd_ne gD]
            exact ⟨gD, s7 _ _ g1, g2, g3⟩
          · rename_i ge
            have e0 : a - U.length = 0 := by
              cases h0 : a - U.length with
              | zero => rfl
              | succ k => rw [h0] at hq; simp at hq
            rw [e0] at hq
            have eg : (pp, fs) = q := by simpa using hq
            subst eg
            have ec : a = i := by omega
            subst ec
            rw [upd_ne ppD]
            exact ⟨ppD, hpp, ppc, FF⟩
      · rintro H6 ⟨U, lU, hU, eU, s6⟩
        have hx6 := s6 _ _ hx5
        refine ⟨_, rfl, x, _, dx, _, rfl, hx6, T.cl, T.n_fars, (by show 3 < 1000; decide), ?_⟩
        have off : ∀ a o, H6 a = some o → (∀ d fs, o ≠ .ins (cB K) d fs) → (upd H6 x (.ins (cB K) dx (putF "fars" (.ref D3) (putF "leads" (.ref D) (putF "pairs" (.ref p) (putF "many" (vI n) [])))))) a = some o := fun a o e k => by
          have ne : a ≠ x := fun z => by
            rw [z, hx6] at e
            exact k _ _ (Option.some.inj e).symm
          rw [upd_ne ne]
          exact e
        refine h _ (M.map (·.2)) ⟨⟨dx, p, D, D3, M, _, U, upd_same, ⟨off _ _ (s6 _ _ hp5) (by intro d f z; cases z), npc, fun q hq => off _ _ (s6 _ _ (tM5 q hq)) (by intro d f z; cases z)⟩, rfl,
          off _ _ (s6 _ _ LA.at_) (by intro d f z; cases z), Dc, by rw [List.length_map]; exact LA.len, off _ _ hU (by intro d f z; cases z), D3c, by omega, fun a q hq => ?_⟩, n1, n8, on, nd⟩ mM sM (same_mut (s5.trans s6) x0)
        obtain ⟨_, g1, g2, g3⟩ := eU a q hq
        exact ⟨off _ _ g1 (by intro d f z; cases z), g2, g3⟩
/-- as a call with the number alone has it -/
theorem bd_Board0 (T : Tx K mg) : ∃ fd ds, FnOk P w K mg base CX0 4 (mB K "__init__") fd ["self", "many", "ways"] (spInit0 K) ∧ Vals [V.ref (He.dflAt ("Board", some "__init__") 0 K)] ds ∧ Binds K fd ["self", "many", "ways"] ds := by
  obtain ⟨fd, F⟩ := T.d_Board_init
  obtain ⟨ds, v, b⟩ := F.binds1 (ps := ["self", "many", "ways"]) 2 0 (List.cons_ne_nil _ _) rfl (fun T0 kV doc pm an cdv ct us its l1 l2 => match us, its, l1, l2 with
    | [_, _], [_], _, _ => ⟨_, rfl, rfl⟩)
  exact ⟨fd, ds, okf_init0 T F, v, b⟩
end
end RL
/-! Spans by closing over middle places: plain mathematics. -/
namespace RLM
/-- a walk whose inner places are below m -/
inductive Wm (E : List (Nat × Nat)) (m : Nat) : Nat → Nat → Nat → Prop where
  | z (a : Nat) : Wm E m 0 a a
  | o {a b : Nat} : (a, b) ∈ E → Wm E m 1 a b
  | s {k a b c : Nat} : Wm E m k a b → b < m → (b, c) ∈ E → Wm E m (k + 1) a c
theorem Wm.split {E : List (Nat × Nat)} {m k a b : Nat} (w : Wm E (m + 1) k a b) : Wm E m k a b ∨ ∃ k1 k2, k1 + k2 ≤ k ∧ Wm E m k1 a m ∧ Wm E m k2 m b := by
  induction w with
  | z a => exact .inl (.z a)
  | o e => exact .inl (.o e)
  | @s k a b c w hb e ih =>
    rcases ih with w' | ⟨k1, k2, hk, w1, w2⟩
    · by_cases h : b < m
      · exact .inl (.s w' h e)
      · have : b = m := by omega
        subst this
        exact .inr ⟨k, 1, Nat.le_refl _, w', .o e⟩
    · by_cases h : b < m
      · exact .inr ⟨k1, k2 + 1, by omega, w1, .s w2 h e⟩
      · have : b = m := by omega
        subst this
        exact .inr ⟨k1, 1, by omega, w1, .o e⟩
theorem Wk.wm {n : Nat} {E : List (Nat × Nat)} (h : On n E) {k a b : Nat} (w : Wk E k a b) (ha : a < n) : Wm E n k a b := by
  induction w with
  | z a => exact .z a
  | s w e ih => exact .s (ih ha) (w.lt h ha) e
theorem Wk.app {E : List (Nat × Nat)} {k a b : Nat} (w : Wk E k a b) {l c : Nat} (v : Wk E l b c) : Wk E (k + l) a c := by
  induction v with
  | z _ => exact w
  | s v e ih => exact .s (ih w) e
/-- no entry says too little -/
structure Sound (n : Nat) (E : List (Nat × Nat)) (M : Nat → Nat → Nat) : Prop where
  hi : ∀ a b, a < n → b < n → M a b ≤ 99
  wk : ∀ a b, a < n → b < n → M a b < 99 → Wk E (M a b) a b
/-- no entry says too much -/
def Full (n : Nat) (E : List (Nat × Nat)) (m : Nat) (M : Nat → Nat → Nat) : Prop := ∀ k a b, a < n → b < n → Wm E m k a b → M a b ≤ k
/-- a table with one entry put -/
def put (M : Nat → Nat → Nat) (a b v : Nat) : Nat → Nat → Nat := fun x y => if x = a ∧ y = b then v else M x y
theorem put_at (M : Nat → Nat → Nat) (a b v : Nat) : put M a b v a b = v := if_pos ⟨rfl, rfl⟩
theorem put_ne (M : Nat → Nat → Nat) {a b v x y : Nat} (h : ¬ (x = a ∧ y = b)) : put M a b v x y = M x y := if_neg h
/-- within the pass of the middle m: the pairs that are done -/
structure Pass (n : Nat) (E : List (Nat × Nat)) (m : Nat) (M0 : Nat → Nat → Nat) (done : Nat → Nat → Prop) (M : Nat → Nat → Nat) : Prop where
  sn : Sound n E M
  le : ∀ a b, a < n → b < n → M a b ≤ M0 a b
  dn : ∀ a b, a < n → b < n → done a b → M a b ≤ M0 a m + M0 m b
theorem Pass.start {n m : Nat} {E : List (Nat × Nat)} {M : Nat → Nat → Nat} (s : Sound n E M) : Pass n E m M (fun _ _ => False) M :=
  ⟨s, fun _ _ _ _ => Nat.le_refl _, fun _ _ _ _ h => h.elim⟩
theorem Pass.weak {n m : Nat} {E : List (Nat × Nat)} {M0 M : Nat → Nat → Nat} {d d' : Nat → Nat → Prop} (p : Pass n E m M0 d M) (h : ∀ a b, a < n → b < n → d' a b → d a b) : Pass n E m M0 d' M :=
  ⟨p.sn, p.le, fun a b ha hb x => p.dn a b ha hb (h a b ha hb x)⟩
theorem Pass.one {n m : Nat} {E : List (Nat × Nat)} {M0 M : Nat → Nat → Nat} {d : Nat → Nat → Prop} (p : Pass n E m M0 d M) {a b : Nat} (ha : a < n) (hb : b < n) (hm : m < n) :
    Pass n E m M0 (fun x y => d x y ∨ (x = a ∧ y = b)) (put M a b (min (min (M a b) (M a m + M m b)) 99)) := by
  have lo : min (min (M a b) (M a m + M m b)) 99 ≤ M a b := by omega
  refine ⟨⟨fun x y hx hy => ?_, fun x y hx hy h => ?_⟩, fun x y hx hy => ?_, fun x y hx hy h => ?_⟩
  · by_cases e : x = a ∧ y = b
    · obtain ⟨rfl, rfl⟩ := e
      rw [put_at]; omega
    · rw [put_ne _ e]; exact p.sn.hi x y hx hy
  · by_cases e : x = a ∧ y = b
    · obtain ⟨rfl, rfl⟩ := e
      rw [put_at] at h ⊢
      by_cases c : M x y ≤ M x m + M m y
      · have e : min (min (M x y) (M x m + M m y)) 99 = M x y := by
          have := p.sn.hi x y hx hy
          omega
        rw [e] at h ⊢
        exact p.sn.wk x y hx hy h
      · have e : min (min (M x y) (M x m + M m y)) 99 = M x m + M m y := by omega
        rw [e] at h ⊢
        exact (p.sn.wk x m hx hm (by omega)).app (p.sn.wk m y hm hy (by omega))
    · rw [put_ne _ e] at h ⊢
      exact p.sn.wk x y hx hy h
  · by_cases e : x = a ∧ y = b
    · obtain ⟨rfl, rfl⟩ := e
      rw [put_at]
      exact Nat.le_trans lo (p.le x y hx hy)
    · rw [put_ne _ e]; exact p.le x y hx hy
  · by_cases e : x = a ∧ y = b
    · obtain ⟨rfl, rfl⟩ := e
      rw [put_at]
      have := p.le x m hx hm
      have := p.le m y hm hy
      omega
    · rw [put_ne _ e]
      rcases h with h | h
      · exact p.dn x y hx hy h
      · exact absurd h e
theorem Pass.full {n m : Nat} {E : List (Nat × Nat)} {M0 M : Nat → Nat → Nat} {d : Nat → Nat → Prop} (p : Pass n E m M0 d M) (h : ∀ a b, a < n → b < n → d a b) (f : Full n E m M0) (hm : m < n) : Full n E (m + 1) M := by
  intro k a b ha hb w
  rcases w.split with w | ⟨k1, k2, hk, w1, w2⟩
  · exact Nat.le_trans (p.le a b ha hb) (f k a b ha hb w)
  · have := p.dn a b ha hb (h a b ha hb)
    have := f _ _ _ ha hm w1
    have := f _ _ _ hm hb w2
    omega
/-- how far places are, 99 and above for never -/
structure Spans (n : Nat) (E : List (Nat × Nat)) (M : Nat → Nat → Nat) : Prop where
  hi : ∀ a b, a < n → b < n → M a b ≤ 99
  nr : ∀ (a b : Nat) (m : Int), a < n → b < n → m < 99 → ((M a b : Int) ≤ m ↔ Near E m a b)
theorem Spans.of {n : Nat} {E : List (Nat × Nat)} {M : Nat → Nat → Nat} (h : On n E) (s : Sound n E M) (f : Full n E n M) : Spans n E M := by
  refine ⟨s.hi, fun a b m ha hb hm => ⟨fun l => ?_, fun ⟨k, hk, w⟩ => ?_⟩⟩
  · exact ⟨M a b, l, s.wk a b ha hb (by omega)⟩
  · have := f k a b ha hb (w.wm h ha)
    omega
/-- before the first pass: the ways that are put so far -/
def first (W : List (Nat × Nat)) : Nat → Nat → Nat := fun a b => if (a, b) ∈ W then 1 else if a = b then 0 else 99
theorem first_nil (a b : Nat) : first [] a b = 99 * (if a ≠ b then 1 else 0) := by
  unfold first
  by_cases h : a = b <;> simp [h]
theorem first_put {W : List (Nat × Nat)} {a b : Nat} : put (first W) a b 1 = first (W ++ [(a, b)]) := by
  funext x y
  by_cases e : x = a ∧ y = b
  · obtain ⟨rfl, rfl⟩ := e
    rw [put_at]
    unfold first
    rw [if_pos (by simp)]
  · rw [put_ne _ e]
    unfold first
    by_cases h : (x, y) ∈ W
    · rw [if_pos h, if_pos (List.mem_append_left _ h)]
    · have g : (x, y) ∉ W ++ [(a, b)] := fun z => by
        rcases List.mem_append.mp z with z | z
        · exact h z
        · exact e (by simpa using z)
      rw [if_neg h, if_neg g]
theorem first_sound {n : Nat} {E : List (Nat × Nat)} (h : On n E) : Sound n E (first E) := by
  refine ⟨fun a b _ _ => ?_, fun a b _ _ l => ?_⟩
  · unfold first
    split
    · omega
    · split <;> omega
  · unfold first at l ⊢
    by_cases e : (a, b) ∈ E
    · rw [if_pos e] at l ⊢
      exact .s (.z a) e
    · rw [if_neg e] at l ⊢
      by_cases c : a = b
      · rw [if_pos c]
        subst c
        exact .z a
      · rw [if_neg c] at l
        omega
theorem first_full {n : Nat} {E : List (Nat × Nat)} (h : On n E) : Full n E 0 (first E) := by
  intro k a b _ _ w
  cases w with
  | z => 
    unfold first
    rw [if_neg fun z => (h _ z).2.2 rfl, if_pos rfl]
    omega
  | o e =>
    unfold first
    rw [if_pos e]
    omega
  | s w hb e => omega
end RLM
namespace RL
open PySem PySem.Spec PyProof.Rows L2 RLM
theorem yesT {σ : L2.St} {H : Hp} {A B : Hp → Prop} (h : A H) : tYes σ H (fun b H3 => if b = true then A H3 else B H3) := by
  unfold tYes
  exact iteT h
theorem nuMin2_int (i j : Int) : nuMin2 (.int i) (.int j) = some (.int (min i j)) := by
  have e : nuMin2 (.int i) (.int j) = some (if decide (j < i) = true then V.int j else V.int i) := rfl
  rw [e]
  by_cases h : j < i
  · rw [if_pos (decide_eq_true h), Int.min_eq_right (by omega)]
  · rw [if_neg (by simpa using h), Int.min_eq_left (by omega)]
theorem nuMin3_int (i j k : Int) : nuMin3 (.int i) (.int j) (.int k) = some (.int (min (min i j) k)) := by
  unfold nuMin3
  rw [nuMin2_int]
  exact nuMin2_int _ _
theorem cmul99 (b : Bool) : CMul 99 (if b = true then 1 else 0) := by
  exact .inl ⟨by decide, by decide⟩
theorem at0 {xs : List V} {j : Nat} {x : V} (h : xs[j]? = some x) : atI xs (0 + (j : Int)) = some x := by
  rw [Int.zero_add]
  exact atI_nat h
theorem ix0 {n j : Nat} (h : j < n) : ixN n (0 + (j : Int)) = some j := by
  rw [Int.zero_add]
  exact ixN_nat h
/-- a table of numbers: a list of lists -/
structure TabAt (c : Addr) (H : Hp) (D : Addr) (n : Nat) (rs : List Addr) (M : Nat → Nat → Nat) : Prop where
  at_ : H D = some (.lst (rs.map V.ref))
  len : rs.length = n
  nd : rs.Nodup
  nD : D ∉ rs
  nc : D ≠ c ∧ c ∉ rs
  row : ∀ (i : Nat) (r : Addr), rs[i]? = some r → H r = some (.lst ((List.range n).map fun j => vI (M i j)))
theorem TabAt.same {c : Addr} {H H' : Hp} {D : Addr} {n : Nat} {rs : List Addr} {M : Nat → Nat → Nat} (s : Same H H') (h : TabAt c H D n rs M) : TabAt c H' D n rs M :=
  ⟨s _ _ h.at_, h.len, h.nd, h.nD, h.nc, fun i r e => s _ _ (h.row i r e)⟩
theorem TabAt.keep {c : Addr} {H H' : Hp} {D : Addr} {n : Nat} {rs : List Addr} {M : Nat → Nat → Nat} (k : Kc c H H') (h : TabAt c H D n rs M) : TabAt c H' D n rs M :=
  ⟨k _ _ h.nc.1 (fun _ z => by cases z) h.at_, h.len, h.nd, h.nD, h.nc, fun i r e => k _ _ (fun z => h.nc.2 (z ▸ List.mem_of_getElem? e)) (fun _ z => by cases z) (h.row i r e)⟩
theorem TabAt.get {c : Addr} {H : Hp} {D : Addr} {n : Nat} {rs : List Addr} {M : Nat → Nat → Nat} (h : TabAt c H D n rs M) {a : Nat} (ha : a < n) : ∃ r, rs[a]? = some r ∧ H r = some (.lst ((List.range n).map fun j => vI (M a j))) := by
  have e : a < rs.length := by rw [h.len]; exact ha
  exact ⟨rs[a], List.getElem?_eq_getElem e, h.row a _ (List.getElem?_eq_getElem e)⟩
theorem row_get {n b : Nat} {f : Nat → V} (h : b < n) : ((List.range n).map f)[b]? = some (f b) := by
  rw [List.getElem?_map, List.getElem?_range h]
  rfl
theorem TabAt.put {c : Addr} {H : Hp} {D : Addr} {n : Nat} {rs : List Addr} {M : Nat → Nat → Nat} (h : TabAt c H D n rs M) {a b v : Nat} {r : Addr} (hr : rs[a]? = some r) :
    TabAt c (upd H r (.lst (((List.range n).map fun j => vI (M a j)).set b (vI v)))) D n rs (RLM.put M a b v) := by
  have mr : r ∈ rs := List.mem_of_getElem? hr
  refine ⟨?_, h.len, h.nd, h.nD, h.nc, fun i r' e => ?_⟩
  · rw [upd_ne (fun z => h.nD (by rw [z]; exact mr))]
    exact h.at_
  · by_cases ei : i = a
    · subst ei
      rw [hr] at e
      cases e
      rw [upd_same]
      congr 2
      apply List.ext_getElem
      · simp
      · intro j h1 h2
        have hj : j < n := by simpa using h2
        rw [List.getElem_set]
        simp only [List.getElem_map, List.getElem_range]
        by_cases eb : b = j
        · subst eb
          rw [if_pos rfl, put_at]
        · rw [if_neg eb, put_ne _ (fun z => eb z.2.symm)]
    · have ne : r' ≠ r := fun z => by
        subst z
        obtain ⟨h1, e1⟩ := List.getElem?_eq_some_iff.mp e
        obtain ⟨h2, e2⟩ := List.getElem?_eq_some_iff.mp hr
        exact ei ((List.getElem_inj h.nd).mp (e1.trans e2.symm))
      rw [upd_ne ne, h.row i r' e]
      congr 2
      refine List.map_congr_left fun j _ => ?_
      rw [put_ne _ (fun z => ei z.1)]
section
variable {P : Program} {w : World} {K : PySem.W.Frag} {mg : Str → Option Value} {base : Heap}
def spSpans : Sp := fun vs H Q _ => ∃ (c t l : Addr) (n : Nat) (L : List (Addr × Nat × Nat)), vs = [.ref t] ∧ H t = some (.tup [vI n, .ref l]) ∧ PairsAt c H l L ∧ WaysOk n L ∧ 1 ≤ n ∧ n ≤ 8 ∧ (∃ ys, H c = some (.lst ys)) ∧
  ∀ (H' : Hp) (D : Addr) (rs : List Addr) (M : Nat → Nat → Nat), TabAt c H' D n rs M → Spans n (L.map (·.2)) M → Same H H' → Q (.ref D) H'
end
end RL
namespace RL
open PySem PySem.Spec PyProof.Rows L2 RLM
theorem isiTK {X : Cx} {K : PySem.W.Frag} (h : X.K = K := by rfl) : CallR X (.builtin "isinstance") (rIsiT K) := h ▸ call_isiT
/-! ### things that are alike, to a depth -/
def ScalV (x y : V) : Prop := x = y ∧ ((∃ i, x = .int i) ∨ (∃ b, x = .bl b) ∨ x = .non ∨ ∃ s, x = .str s)
def SameV : Nat → Hp → V → V → Prop
  | 0, _, x, y => ScalV x y
  | d + 1, H, x, y => ScalV x y ∨ ∃ (a b : Addr) (xs ys : List V), x = .ref a ∧ y = .ref b ∧ ((Rd H a (.lst xs) ∧ Rd H b (.lst ys)) ∨ (Rd H a (.tup xs) ∧ Rd H b (.tup ys))) ∧ xs.length = ys.length ∧ xs.length ≤ 1000 ∧ ∀ (k : Nat) (u v : V), xs[k]? = some u → ys[k]? = some v → SameV d H u v
theorem rd_same {H H' : Hp} {a : Addr} {o : HO} (s : Same H H') (h : Rd H a o) : Rd H' a o := by
  rcases h with h | ⟨u, h⟩
  · exact .inl (s _ _ h)
  · exact .inr ⟨u, s _ _ h⟩
theorem SameV.same {H H' : Hp} (s : Same H H') : ∀ {d : Nat} {x y : V}, SameV d H x y → SameV d H' x y
  | 0, _, _, h => h
  | d + 1, x, y, h => by
    rcases h with h | ⟨a, b, xs, ys, rfl, rfl, ab, l1, l2, each⟩
    · exact .inl h
    · refine .inr ⟨a, b, xs, ys, rfl, rfl, ?_, l1, l2, fun k u v h1 h2 => SameV.same s (each k u v h1 h2)⟩
      rcases ab with ⟨h1, h2⟩ | ⟨h1, h2⟩
      · exact .inl ⟨rd_same s h1, rd_same s h2⟩
      · exact .inr ⟨rd_same s h1, rd_same s h2⟩
theorem SameV.of0 {H : Hp} : ∀ {d : Nat} {x y : V}, ScalV x y → SameV d H x y
  | 0, _, _, h => h
  | _ + 1, _, _, h => .inl h
theorem ty_lst {K : PySem.W.Frag} {H : Hp} {a : Addr} {xs : List V} (h : Rd H a (.lst xs)) : TyX K H (.ref a) (.type "list") := by
  rcases h with h | ⟨o, h⟩
  · exact .base (.lst h)
  · exact .base (.frz h)
theorem ty_tup {K : PySem.W.Frag} {H : Hp} {a : Addr} {xs : List V} (h : Rd H a (.tup xs)) : TyX K H (.ref a) (.type "tuple") := by
  rcases h with h | ⟨o, h⟩
  · exact .base (.tup h)
  · exact .fTuple h
section
variable {P : Program} {w : World} {K : PySem.W.Frag} {mg : Str → Option Value} {base : Heap}
def spSame : Nat → Sp
  | 0 => fun _ _ _ _ => False
  | d + 1 => fun vs H Q _ => ∃ x y : V, vs = [x, y] ∧ SameV d H x y ∧ ∀ H', Same H H' → Q (.bl true) H'
theorem sc__law_same : FnScope ["_law_found", "_law_due", "_law_k"] ["_law_found", "_law_due"] (defScope s__law_same) := ⟨rfl, rfl, rfl, by decide +kernel, rfl, by decide +kernel, by decide +kernel⟩
theorem ok_same (T : Tx K mg) : ∀ d : Nat, Has P w K mg base (He.ga K "_law_same") (d + 1) ["_law_found", "_law_due"] (spSame d)
  | 0 => by
    obtain ⟨fd, F⟩ := T.d__law_same
    exact ⟨⟨fd, F.ok sc__law_same (fun vs H Q E h => h.elim) (fun cdv A outer s H vs Q E hr h => h.elim), F.bindsN fun _ _ _ _ _ _ us hl => match us, hl with | [_, _], _ => rfl⟩, F.kp⟩
  | d + 1 => by
    obtain ⟨⟨fd_law_same, F_law_same, b_law_same⟩, kp_law_same⟩ := ok_same T d
    obtain ⟨fd, F⟩ := T.d__law_same
    refine ⟨⟨fd, F.ok sc__law_same (fun vs H Q E h => ?_) (fun cdv A outer s H vs Q E hr h => ?_), F.bindsN fun _ _ _ _ _ _ us hl => match us, hl with | [_, _], _ => rfl⟩, F.kp⟩
    · obtain ⟨x, y, rfl, _⟩ := h
      rfl
    · obtain ⟨x, y, rfl, sv, h⟩ := h
      have hr_law_same : Room (d + 1) _ := hr
      refine ⟨_, PSs.nox (pss_cons (ps_if (pt_cmpR op_isN (pv 1) pe_non (nomark _)) (pss_one (ps_ret (pe_cmpR op_isN (pv 0) pe_non (nomark _)))) pss_nil)
      (pss_cons (ps_if (pt_val (pe_callB (isiTK (K := K)) (by rfl) T.free_isinstance (by decide +kernel) (pa_cons (pv 1) (pa_cons (pe_tup (pa_cons (pe_bltn (v := .ty "list") (u := .type "list") (by rfl) T.free_list (by decide +kernel) rfl) (pa_cons (pe_bltn (v := .ty "tuple") (u := .type "tuple") (by rfl) T.free_tuple (by decide +kernel) rfl) pa_nil))) pa_nil)))) (pss_cons (ps_if (PW.pt (pw_or (pt_cmpR op_ne (pe_callB (isiK (K := K)) (by rfl) T.free_isinstance (by decide +kernel) (pa_cons (pv 0) (pa_cons (pe_bltn (v := .ty "list") (u := .type "list") (by rfl) T.free_list (by decide +kernel) rfl) pa_nil))) (pe_callB (isiK (K := K)) (by rfl) T.free_isinstance (by decide +kernel) (pa_cons (pv 1) (pa_cons (pe_bltn (v := .ty "list") (u := .type "list") (by rfl) T.free_list (by decide +kernel) rfl) pa_nil))) (nomark _)) (pw_or1 (pt_cmpR op_ne (pe_callB (isiK (K := K)) (by rfl) T.free_isinstance (by decide +kernel) (pa_cons (pv 0) (pa_cons (pe_bltn (v := .ty "tuple") (u := .type "tuple") (by rfl) T.free_tuple (by decide +kernel) rfl) pa_nil))) (pe_callB (isiK (K := K)) (by rfl) T.free_isinstance (by decide +kernel) (pa_cons (pv 1) (pa_cons (pe_bltn (v := .ty "tuple") (u := .type "tuple") (by rfl) T.free_tuple (by decide +kernel) rfl) pa_nil))) (nomark _))))) (pss_one (ps_ret pe_bl)) pss_nil)
      (pss_one (ps_ret (pe_and (pe_cmpR op_eq (pe_callB (lenK (K := K)) (by rfl) T.free_len (by decide +kernel) (pa_cons (pv 0) pa_nil)) (pe_callB (lenK (K := K)) (by rfl) T.free_len (by decide +kernel) (pa_cons (pv 1) pa_nil)) (nomark _)) (pe_one (pe_callB (allK (K := K)) (by rfl) T.free_all (by decide +kernel) (pa_cons (pe_lc (own := [("_law_k", 2)]) (g := (gName 2)) (tt := tYes) rfl sc__law_same.nd (pi_range1 (by rfl) T.free_range (pa_cons (pe_callB (lenK (K := K)) (by rfl) T.free_len (by decide +kernel) (pa_cons (pv 1) pa_nil)) pa_nil)) (blkOk_by (by kernel_rfl)) (fun _ _ _ _ _ => (pg_name (i := 2) sc__law_same.nd rfl (Or.inl rfl))) (fun _ _ _ _ _ => pts_nil) (fun _ _ _ _ _ => (pe_call F_law_same hr_law_same rfl T.glo_law_same kp_law_same b_law_same .nil pass0 (pa_cons (pe_ix (ixS (K := K)) (pv 0) (pv 2) (fun _ _ => rfl)) (pa_cons (pe_ix (ixS (K := K)) (pv 1) (pv 2) (fun _ _ => rfl)) pa_nil))))) pa_nil))))))) pss_nil)
      (pss_cons (ps_if (PW.pt (pw_or (pt_cmpR op_ne (pe_callB (isiK (K := K)) (by rfl) T.free_isinstance (by decide +kernel) (pa_cons (pv 0) (pa_cons (pe_bltn (v := .ty "bool") (u := .type "bool") (by rfl) T.free_bool (by decide +kernel) rfl) pa_nil))) (pe_callB (isiK (K := K)) (by rfl) T.free_isinstance (by decide +kernel) (pa_cons (pv 1) (pa_cons (pe_bltn (v := .ty "bool") (u := .type "bool") (by rfl) T.free_bool (by decide +kernel) rfl) pa_nil))) (nomark _)) (pw_or1 (pt_cmpR op_ne (pe_callB (isiK (K := K)) (by rfl) T.free_isinstance (by decide +kernel) (pa_cons (pv 0) (pa_cons (pe_bltn (v := .ty "str") (u := .type "str") (by rfl) T.free_str (by decide +kernel) rfl) pa_nil))) (pe_callB (isiK (K := K)) (by rfl) T.free_isinstance (by decide +kernel) (pa_cons (pv 1) (pa_cons (pe_bltn (v := .ty "str") (u := .type "str") (by rfl) T.free_str (by decide +kernel) rfl) pa_nil))) (nomark _))))) (pss_one (ps_ret pe_bl)) pss_nil)
      (pss_one (ps_ret (pe_and (pe_cmpR op_eq (pe_callB (isiK (K := K)) (by rfl) T.free_isinstance (by decide +kernel) (pa_cons (pv 0) (pa_cons (pe_bltn (v := .ty "int") (u := .type "int") (by rfl) T.free_int (by decide +kernel) rfl) pa_nil))) (pe_callB (isiK (K := K)) (by rfl) T.free_isinstance (by decide +kernel) (pa_cons (pv 1) (pa_cons (pe_bltn (v := .ty "int") (u := .type "int") (by rfl) T.free_int (by decide +kernel) rfl) pa_nil))) (nomark _)) (pe_one (pe_cmpR op_eq (pv 0) (pv 1) (nomark _))))))))), ?_⟩
      have sv' : ScalV x y ∨ ∃ (a b : Addr) (xs ys : List V), x = .ref a ∧ y = .ref b ∧ ((Rd H a (.lst xs) ∧ Rd H b (.lst ys)) ∨ (Rd H a (.tup xs) ∧ Rd H b (.tup ys))) ∧ xs.length = ys.length ∧ xs.length ≤ 1000 ∧ ∃ d', d = d' + 1 ∧ ∀ (k : Nat) (u v : V), xs[k]? = some u → ys[k]? = some v → SameV d' H u v := by
        match d, sv with
        | 0, sv => exact .inl sv
        | d' + 1, .inl sv => exact .inl sv
        | d' + 1, .inr ⟨a, b, xs, ys, e1, e2, e3, e4, e5, e6⟩ => exact .inr ⟨a, b, xs, ys, e1, e2, e3, e4, e5, d', rfl, e6⟩
      rcases sv' with ⟨rfl, h4⟩ | ⟨a, b, xs, ys, rfl, rfl, ab, l1, l2, d', rfl, each⟩
      · rcases h4 with ⟨i, rfl⟩ | ⟨b, rfl⟩ | rfl | ⟨z, rfl⟩
        · refine ⟨_, rfl, rfl, _, rfl, iteF ?_⟩
          refine ⟨_, rfl, (by show 2 ≤ sizeLine; decide), fun tp htp => ?_⟩
          have s1 := same_upd (o := HO.tup [V.ty "list", V.ty "tuple"]) htp
          refine ⟨_, tp, _, _, _, false, rfl, upd_same, .cons (.ty _) (.cons (.ty _) .nil), .base (.int i), kitAny_cons (kit_ty (b := "list") (r := false) (by decide +kernel)) (fun _ => kitAny_cons (kit_ty (b := "tuple") (r := false) (by decide +kernel)) (fun _ => kitAny_nil) (fun z => by cases z)) (fun z => by cases z), _, rfl, iteF ?_⟩
          refine ⟨_, rfl, _, _, _, _, false, rfl, .ty _, .base (.int i), kit_ty (by decide +kernel), _, rfl, _, _, _, _, false, rfl, .ty _, .base (.int i), kit_ty (by decide +kernel), rfl, _, rfl, iteF ?_⟩
          refine ⟨_, rfl, _, _, _, _, false, rfl, .ty _, .base (.int i), kit_ty (by decide +kernel), _, rfl, _, _, _, _, false, rfl, .ty _, .base (.int i), kit_ty (by decide +kernel), rfl, _, rfl, iteF ?_⟩
          refine ⟨_, rfl, _, _, _, _, true, rfl, .ty _, .base (.int i), kit_ty (by decide +kernel), _, rfl, _, _, _, _, true, rfl, .ty _, .base (.int i), kit_ty (by decide +kernel), rfl, _, rfl, iteT ⟨_, rfl, _, rfl, rfl, ?_⟩⟩
          rw [decide_eq_true rfl]
          exact h _ s1
        · refine ⟨_, rfl, rfl, _, rfl, iteF ?_⟩
          refine ⟨_, rfl, (by show 2 ≤ sizeLine; decide), fun tp htp => ?_⟩
          have s1 := same_upd (o := HO.tup [V.ty "list", V.ty "tuple"]) htp
          refine ⟨_, tp, _, _, _, false, rfl, upd_same, .cons (.ty _) (.cons (.ty _) .nil), .base (.bl b), kitAny_cons (kit_ty (b := "list") (r := false) (by decide +kernel)) (fun _ => kitAny_cons (kit_ty (b := "tuple") (r := false) (by decide +kernel)) (fun _ => kitAny_nil) (fun z => by cases z)) (fun z => by cases z), _, rfl, iteF ?_⟩
          refine ⟨_, rfl, _, _, _, _, true, rfl, .ty _, .base (.bl b), kit_ty (by decide +kernel), _, rfl, _, _, _, _, true, rfl, .ty _, .base (.bl b), kit_ty (by decide +kernel), rfl, _, rfl, iteF ?_⟩
          refine ⟨_, rfl, _, _, _, _, false, rfl, .ty _, .base (.bl b), kit_ty (by decide +kernel), _, rfl, _, _, _, _, false, rfl, .ty _, .base (.bl b), kit_ty (by decide +kernel), rfl, _, rfl, iteF ?_⟩
          refine ⟨_, rfl, _, _, _, _, true, rfl, .ty _, .base (.bl b), kit_ty (by decide +kernel), _, rfl, _, _, _, _, true, rfl, .ty _, .base (.bl b), kit_ty (by decide +kernel), rfl, _, rfl, iteT ⟨_, rfl, _, rfl, rfl, ?_⟩⟩
          rw [decide_eq_true rfl]
          exact h _ s1
        · exact ⟨_, rfl, rfl, _, rfl, iteT ⟨_, rfl, rfl, h H fun _ _ e => e⟩⟩
        · refine ⟨_, rfl, rfl, _, rfl, iteF ?_⟩
          refine ⟨_, rfl, (by show 2 ≤ sizeLine; decide), fun tp htp => ?_⟩
          have s1 := same_upd (o := HO.tup [V.ty "list", V.ty "tuple"]) htp
          refine ⟨_, tp, _, _, _, false, rfl, upd_same, .cons (.ty _) (.cons (.ty _) .nil), .base (.str z), kitAny_cons (kit_ty (b := "list") (r := false) (by decide +kernel)) (fun _ => kitAny_cons (kit_ty (b := "tuple") (r := false) (by decide +kernel)) (fun _ => kitAny_nil) (fun z => by cases z)) (fun z => by cases z), _, rfl, iteF ?_⟩
          refine ⟨_, rfl, _, _, _, _, false, rfl, .ty _, .base (.str z), kit_ty (by decide +kernel), _, rfl, _, _, _, _, false, rfl, .ty _, .base (.str z), kit_ty (by decide +kernel), rfl, _, rfl, iteF ?_⟩
          refine ⟨_, rfl, _, _, _, _, true, rfl, .ty _, .base (.str z), kit_ty (by decide +kernel), _, rfl, _, _, _, _, true, rfl, .ty _, .base (.str z), kit_ty (by decide +kernel), rfl, _, rfl, iteF ?_⟩
          refine ⟨_, rfl, _, _, _, _, false, rfl, .ty _, .base (.str z), kit_ty (by decide +kernel), _, rfl, _, _, _, _, false, rfl, .ty _, .base (.str z), kit_ty (by decide +kernel), rfl, _, rfl, iteT ⟨_, rfl, _, rfl, rfl, ?_⟩⟩
          rw [decide_eq_true rfl]
          exact h _ s1
      · have each' : ∀ {H1 : Hp} (k : Nat) (u v : V), Same H H1 → xs[k]? = some u → ys[k]? = some v → SameV d' H1 u v := fun k u v s1 h1 h2 => (each k u v h1 h2).same s1
        refine ⟨_, rfl, rfl, _, rfl, iteF ?_⟩
        refine ⟨_, rfl, (by show 2 ≤ sizeLine; decide), fun tp htp => ?_⟩
        have s1 := same_upd (o := HO.tup [V.ty "list", V.ty "tuple"]) htp
        have h1 : (upd H tp (HO.tup [V.ty "list", V.ty "tuple"])) tp = some (.tup [V.ty "list", V.ty "tuple"]) := upd_same
        generalize upd H tp (HO.tup [V.ty "list", V.ty "tuple"]) = H1 at s1 h1
        rcases ab with ⟨ra, rb⟩ | ⟨ra, rb⟩
        · refine ⟨_, tp, _, _, _, true, rfl, h1, .cons (.ty _) (.cons (.ty _) .nil), ty_lst (rd_same s1 rb), kitAny_cons (kit_ty (b := "list") (r := true) (by decide +kernel)) (fun z => by cases z) (fun _ => rfl), _, rfl, iteT ?_⟩
          refine ⟨_, rfl, _, _, _, _, true, rfl, .ty _, ty_lst (rd_same s1 ra), kit_ty (by decide +kernel), _, rfl, _, _, _, _, true, rfl, .ty _, ty_lst (rd_same s1 rb), kit_ty (by decide +kernel), rfl, _, rfl, iteF ?_⟩
          refine ⟨_, rfl, _, _, _, _, false, rfl, .ty _, ty_lst (rd_same s1 ra), kit_ty (by decide +kernel), _, rfl, _, _, _, _, false, rfl, .ty _, ty_lst (rd_same s1 rb), kit_ty (by decide +kernel), rfl, _, rfl, iteF ?_⟩
          refine ⟨_, rfl, a, xs, rfl, .inl (.inl (rd_same s1 ra)), _, rfl, b, ys, rfl, .inl (.inl (rd_same s1 rb)), rfl, _, rfl, ?_⟩
          rw [l1, decide_eq_true rfl]
          refine iteT ⟨_, rfl, b, ys, rfl, .inl (.inl (rd_same s1 rb)), _, rfl, by omega, by omega, fun D hD => ?_⟩
          refine lc_range (lo := 0) (n := ((ys.length : Nat) : Int).toNat) (fun k H2 => H2 D = some (.lst ((List.replicate k true).map V.bl)) ∧ Same H1 H2) ⟨upd_same, same_upd hD⟩ ?_ ?_
          · rintro k H2 hk ⟨h2, s2⟩
            have kl : k < ys.length := by omega
            have s12 := s1.trans s2
            have hu : xs[k]? = some (xs[k]'(by omega)) := List.getElem?_eq_getElem _
            have hv : ys[k]? = some (ys[k]) := List.getElem?_eq_getElem _
            refine ⟨rfl, yesT ?_⟩
            refine ⟨_, rfl, _, rfl, .inl ⟨a, _, _, _, rfl, rfl, .inl (rd_same s12 ra), at0 hu, _, rfl, _, rfl, .inl ⟨b, _, _, _, rfl, rfl, .inl (rd_same s12 rb), at0 hv, _, _, rfl, each' k _ _ s12 hu hv, fun H3 s3 => ?_⟩⟩⟩
            refine ⟨_, s3 _ _ h2, ?_, ?_, same_mut (s2.trans s3) hD⟩
            · rw [List.length_map, List.length_replicate]
              exact Nat.lt_of_le_of_lt (show k ≤ 1000 by omega) (by decide)
            · rw [upd_same, List.replicate_succ', List.map_append]
              rfl
          · rintro H2 ⟨h2, s2⟩
            refine ⟨D, _, rfl, SqL.of h2, ?_⟩
            rw [show (List.replicate ((ys.length : Nat) : Int).toNat true).all id = true from List.all_eq_true.mpr fun z hz => by rw [(List.mem_replicate.mp hz).2]; rfl]
            exact h _ (s1.trans s2)
        · refine ⟨_, tp, _, _, _, true, rfl, h1, .cons (.ty _) (.cons (.ty _) .nil), ty_tup (rd_same s1 rb), kitAny_cons (kit_ty (b := "list") (r := false) (by decide +kernel)) (fun _ => kitAny_cons (kit_ty (b := "tuple") (r := true) (by decide +kernel)) (fun z => by cases z) (fun _ => rfl)) (fun z => by cases z), _, rfl, iteT ?_⟩
          refine ⟨_, rfl, _, _, _, _, false, rfl, .ty _, ty_tup (rd_same s1 ra), kit_ty (by decide +kernel), _, rfl, _, _, _, _, false, rfl, .ty _, ty_tup (rd_same s1 rb), kit_ty (by decide +kernel), rfl, _, rfl, iteF ?_⟩
          refine ⟨_, rfl, _, _, _, _, true, rfl, .ty _, ty_tup (rd_same s1 ra), kit_ty (by decide +kernel), _, rfl, _, _, _, _, true, rfl, .ty _, ty_tup (rd_same s1 rb), kit_ty (by decide +kernel), rfl, _, rfl, iteF ?_⟩
          refine ⟨_, rfl, a, xs, rfl, .inr (.inl (rd_same s1 ra)), _, rfl, b, ys, rfl, .inr (.inl (rd_same s1 rb)), rfl, _, rfl, ?_⟩
          rw [l1, decide_eq_true rfl]
          refine iteT ⟨_, rfl, b, ys, rfl, .inr (.inl (rd_same s1 rb)), _, rfl, by omega, by omega, fun D hD => ?_⟩
          refine lc_range (lo := 0) (n := ((ys.length : Nat) : Int).toNat) (fun k H2 => H2 D = some (.lst ((List.replicate k true).map V.bl)) ∧ Same H1 H2) ⟨upd_same, same_upd hD⟩ ?_ ?_
          · rintro k H2 hk ⟨h2, s2⟩
            have kl : k < ys.length := by omega
            have s12 := s1.trans s2
            have hu : xs[k]? = some (xs[k]'(by omega)) := List.getElem?_eq_getElem _
            have hv : ys[k]? = some (ys[k]) := List.getElem?_eq_getElem _
            refine ⟨rfl, yesT ?_⟩
            refine ⟨_, rfl, _, rfl, .inr (.inl ⟨a, _, _, _, rfl, rfl, .inl (rd_same s12 ra), at0 hu, _, rfl, _, rfl, .inr (.inl ⟨b, _, _, _, rfl, rfl, .inl (rd_same s12 rb), at0 hv, _, _, rfl, each' k _ _ s12 hu hv, fun H3 s3 => ?_⟩)⟩)⟩
            refine ⟨_, s3 _ _ h2, ?_, ?_, same_mut (s2.trans s3) hD⟩
            · rw [List.length_map, List.length_replicate]
              exact Nat.lt_of_le_of_lt (show k ≤ 1000 by omega) (by decide)
            · rw [upd_same, List.replicate_succ', List.map_append]
              rfl
          · rintro H2 ⟨h2, s2⟩
            refine ⟨D, _, rfl, SqL.of h2, ?_⟩
            rw [show (List.replicate ((ys.length : Nat) : Int).toNat true).all id = true from List.all_eq_true.mpr fun z hz => by rw [(List.mem_replicate.mp hz).2]; rfl]
            exact h _ (s1.trans s2)
end
end RL
namespace RL
open PySem PySem.Spec PyProof.Rows L2 RLM
/-- two lists, two tuples of the same numbers are alike -/
theorem nums_sameL {H : Hp} {a b : Addr} {xs : List Nat} (l : xs.length ≤ 1000) (ha : H a = some (.lst (xs.map vI))) (hb : H b = some (.lst (xs.map vI))) : SameV 1 H (.ref a) (.ref b) := by
  refine .inr ⟨a, b, _, _, rfl, rfl, .inl ⟨.inl ha, .inl hb⟩, rfl, by rw [List.length_map]; exact l, fun j x y e1 e2 => ?_⟩
  rw [e1] at e2
  cases e2
  obtain ⟨z, _, rfl⟩ := get_mapV e1
  exact ⟨rfl, .inl ⟨_, rfl⟩⟩
theorem nums_sameT {H : Hp} {a b : Addr} {xs : List Nat} (l : xs.length ≤ 1000) (ha : H a = some (.tup (xs.map vI))) (hb : H b = some (.tup (xs.map vI))) : SameV 1 H (.ref a) (.ref b) := by
  refine .inr ⟨a, b, _, _, rfl, rfl, .inr ⟨.inl ha, .inl hb⟩, rfl, by rw [List.length_map]; exact l, fun j x y e1 e2 => ?_⟩
  rw [e1] at e2
  cases e2
  obtain ⟨z, _, rfl⟩ := get_mapV e1
  exact ⟨rfl, .inl ⟨_, rfl⟩⟩
end RL
/-! what a refusal is asked with -/
namespace RL
open PySem PySem.Spec PyProof.Rows L2
section
variable {K : PySem.W.Frag}
/-- what a refusal is asked with -/
def Refuse (K : PySem.W.Frag) (C f : Str) (z : Int) (H : Hp) (X : XK) : Prop := ∀ d H', H' d = some (.xd [(f, .int z), ("word", .str C)]) → Same H H' → X (.ref (He.ga K C)) (some d) H'
theorem Refuse.on {C f : Str} {z : Int} {H H1 : Hp} {X : XK} (r : Refuse K C f z H X) (s : Same H H1) : Refuse K C f z H1 X := fun d H' hd s' => r d H' hd (s.trans s')
end
end RL
namespace RL
open PySem PySem.Spec PyProof.Rows L2
/-- a def without exceptions among those that may raise -/
theorem fn_noX {P : Program} {w : World} {K : PySem.W.Frag} {mg : Str → Option Value} {base : Heap} {CX : CXT} {k : Nat} {f : Addr} {fd : FuncData} {ps : List Str} {sp : Sp} (F : FnOk P w K mg base CX0 k f fd ps sp) : FnOk P w K mg base CX k f fd ps sp :=
  ⟨F.len, fun A outer s H args us vs Q E hr he hb hv hs => codeAny_mono (F.run A outer s H args us vs Q E hr he hb hv hs) fun r s' h => by
    cases r with
    | error e => exact h.elim
    | ok fl => cases fl <;> exact h⟩
theorem fn_or {P : Program} {w : World} {K : PySem.W.Frag} {mg : Str → Option Value} {base : Heap} {CX : CXT} {k : Nat} {f : Addr} {fd : FuncData} {ps : List Str} {sp sp' : Sp} (A : FnOk P w K mg base CX k f fd ps sp) (B : FnOk P w K mg base CX k f fd ps sp') : FnOk P w K mg base CX k f fd ps (fun vs H Q E => sp vs H Q E ∨ sp' vs H Q E) :=
  ⟨fun vs H Q E h => h.elim (A.len vs H Q E) (B.len vs H Q E), fun A0 outer s H args us vs Q E r e b v h => h.elim (A.run A0 outer s H args us vs Q E r e b v) (B.run A0 outer s H args us vs Q E r e b v)⟩
end RL
/-! rows of any numbers as data, for == and != -/
namespace RL
open PySem PySem.Spec PyProof.Rows L2 RLM
def lotD (ns : List Int) : PyData := .tuple (ns.map PyData.int)
theorem lots_lay : ∀ dss : List (List Int), PyData.canLayAll0 (dss.map lotD) = true
  | [] => by simp [PyData.canLayAll0]
  | ns :: dss => by
    have h := SeqAt.canLay_of_shaped (shaped_tup ns)
    rw [List.map_cons]
    unfold PyData.canLayAll0
    rw [lots_lay dss]
    show ((lotD ns).canLay0 && true) = true
    rw [Bool.and_true]
    exact h
theorem lots_depth : ∀ dss : List (List Int), PyData.depthAll (dss.map lotD) ≤ 60
  | [] => by simp [PyData.depthAll]
  | ns :: dss => by
    have ih := lots_depth dss
    have h : (lotD ns).depth ≤ 60 := by
      unfold lotD
      simp [PyData.depth, PySem.W.ke_depthAll]
      try omega
    rw [List.map_cons]
    unfold PyData.depthAll
    omega
theorem lots_shaped (dss : List (List Int)) : SeqAt.shaped (.list (dss.map lotD)) = true := by
  unfold SeqAt.shaped
  rw [Bool.and_eq_true]
  constructor
  · unfold PyData.canLay0
    exact lots_lay dss
  · refine decide_eq_true ?_
    unfold PyData.depth
    have := lots_depth dss
    omega
theorem lots_eqvA : ∀ xs ys : List (List Int), PyData.eqvAll (xs.map lotD) (ys.map lotD) = decide (xs = ys)
  | [], [] => by simp [PyData.eqvAll]
  | [], _ :: _ => by simp [PyData.eqvAll]
  | _ :: _, [] => by simp [PyData.eqvAll]
  | x :: xs, y :: ys => by
    rw [List.map_cons, List.map_cons, PyData.eqvAll, lots_eqvA xs ys]
    have e : PyData.eqv (lotD x) (lotD y) = decide (x = y) := by
      unfold lotD
      rw [PyData.eqv]
      exact PySem.W.ked_eqvAll x y
    rw [e]
    by_cases h1 : x = y
    · by_cases h2 : xs = ys <;> simp [h1, h2]
    · simp [h1]
theorem dp_rowsA {K : PySem.W.Frag} {H : Hp} : ∀ {L : List (Addr × List Int)}, (∀ q ∈ L, H q.1 = some (.tup (q.2.map V.int))) → DpAll K H (L.map fun q => V.ref q.1) ((L.map (·.2)).map lotD)
  | [], _ => .nil
  | q :: L, h => .cons (.tup (SqT.of (h q (List.mem_cons_self ..))) (dp_ints _)) (dp_rowsA fun y hy => h y (List.mem_cons_of_mem _ hy))
theorem dp_rowsZ {K : PySem.W.Frag} {H : Hp} {l : Addr} {L : List (Addr × List Int)} (hl : H l = some (.lst (L.map fun q => V.ref q.1))) (h : ∀ q ∈ L, H q.1 = some (.tup (q.2.map V.int))) : Dp K H (.ref l) (.list ((L.map (·.2)).map lotD)) := .lst (SqL.of hl) (dp_rowsA h)
theorem rowsZ_eqv {xs ys : List (List Int)} : PyData.eqv (.list (xs.map lotD)) (.list (ys.map lotD)) = decide (xs = ys) := by
  rw [PyData.eqv, lots_eqvA]
end RL
/-! pairs of any numbers; slices, triples, repeated things -/
namespace RL
open PySem PySem.Spec PyProof.Rows L2 RLM
/-- pairs of any numbers, in a list -/
structure PairsZ (H : Hp) (l : Addr) (L : List (Addr × Int × Int)) : Prop where
  at_ : H l = some (.lst (L.map fun q => V.ref q.1))
  row : ∀ q ∈ L, H q.1 = some (.tup [.int q.2.1, .int q.2.2])
theorem PairsZ.same {H H' : Hp} {l : Addr} {L : List (Addr × Int × Int)} (h : PairsZ H l L) (s : Same H H') : PairsZ H' l L := ⟨s _ _ h.at_, fun q hq => s _ _ (h.row q hq)⟩
theorem list_choose {α β : Type} {Pr : β → α → Prop} : ∀ {ys : List β}, (∀ y ∈ ys, ∃ q, Pr y q) → ∃ L : List α, L.length = ys.length ∧ ∀ (k : Nat) (y : β) (q : α), ys[k]? = some y → L[k]? = some q → Pr y q
  | [], _ => ⟨[], rfl, fun k y q h => by simp at h⟩
  | y :: ys, h => by
    obtain ⟨q, hq⟩ := h y (List.mem_cons_self ..)
    obtain ⟨L, l, hL⟩ := list_choose (ys := ys) fun z hz => h z (List.mem_cons_of_mem _ hz)
    refine ⟨q :: L, by simp [l], fun k z r e1 e2 => ?_⟩
    cases k with
    | zero =>
      cases e1
      cases e2
      exact hq
    | succ k => exact hL k z r e1 e2
theorem SameV.up {H : Hp} : ∀ {d : Nat} {x y : V}, SameV d H x y → SameV (d + 1) H x y
  | 0, _, _, h => .inl h
  | d + 1, x, y, h => by
    rcases h with h | ⟨a, b, xs, ys, e1, e2, ab, l1, l2, each⟩
    · exact .inl h
    · exact .inr ⟨a, b, xs, ys, e1, e2, ab, l1, l2, fun k u v h1 h2 => SameV.up (each k u v h1 h2)⟩
theorem cut_to7 (k : Nat) {xs : List V} : cutV xs none (some (k : Int)) = xs.take k := by
  unfold cutV
  rw [HT.sIx_nat]
  show (xs.drop 0).take (min k xs.length - 0) = _
  rw [List.drop_zero, Nat.sub_zero]
  rcases Nat.le_total k xs.length with h | h
  · rw [Nat.min_eq_left h]
  · rw [Nat.min_eq_right h, List.take_of_length_le (Nat.le_refl _), List.take_of_length_le h]
theorem cut_from7 (k : Nat) {xs : List V} : cutV xs (some (k : Int)) none = xs.drop k := by
  unfold cutV
  rw [HT.sIx_nat]
  show (xs.drop (min k xs.length)).take (xs.length - min k xs.length) = _
  rcases Nat.le_total k xs.length with h | h
  · rw [Nat.min_eq_left h, List.take_of_length_le (by rw [List.length_drop]; omega)]
  · rw [Nat.min_eq_right h, List.drop_of_length_le h, List.drop_of_length_le (Nat.le_refl _)]
    simp
theorem dp_pairs {K : PySem.W.Frag} {H : Hp} {l : Addr} {L : List (Addr × Int × Int)} (h : PairsZ H l L) : Dp K H (.ref l) (.list ((L.map fun q => [q.2.1, q.2.2]).map lotD)) := by
  have := dp_rowsZ (K := K) (H := H) (l := l) (L := L.map fun q => (q.1, [q.2.1, q.2.2])) (by rw [h.at_, List.map_map]; rfl) fun q hq => by
    obtain ⟨r, hr, rfl⟩ := List.mem_map.mp hq
    exact h.row r hr
  rw [show (L.map fun q => (q.1, [q.2.1, q.2.2])).map (·.2) = L.map fun q => [q.2.1, q.2.2] by rw [List.map_map]; rfl] at this
  exact this
theorem tri_same {H : Hp} {a b : Addr} {x y z x' : V} (ha : H a = some (.tup [x, y, z])) (hb : H b = some (.tup [x', y, z])) (h1 : SameV 1 H x x') (h2 : ∃ s, y = .str s) (h3 : z = .non ∨ ∃ i, z = .int i) : SameV 2 H (.ref a) (.ref b) := by
  refine .inr ⟨a, b, _, _, rfl, rfl, .inr ⟨.inl ha, .inl hb⟩, rfl, (by show 3 ≤ 1000; decide), fun j u v e1 e2 => ?_⟩
  match j, e1, e2 with
  | 0, rfl, rfl => exact h1
  | 1, rfl, rfl => exact .inl ⟨rfl, .inr (.inr (.inr h2))⟩
  | 2, rfl, rfl =>
    rcases h3 with h | h
    · exact .inl ⟨rfl, .inr (.inr (.inl h))⟩
    · exact .inl ⟨rfl, .inl h⟩
theorem rep_one {K : PySem.W.Frag} {H : Hp} {l : Addr} {v : V} {k : Int} {Q : VK} (hl : H l = some (.tup [v])) (h1 : 1 ≤ k) (h2 : k ≤ 1000) (key : ∀ t H', Same H H' → H' t = some (.tup (List.replicate k.toNat v)) → Q (.ref t) H') : rRepT1 K (.ref l) (.int k) H Q :=
  ⟨l, k, [v], rfl, rfl, SqT.of hl, List.cons_ne_nil _ _, h1, h2, (by show 1 ≤ 1000; decide), fun e => key l H (Same.refl _) (by rw [hl, e]; rfl), fun q hq => key q _ (same_upd hq) (by rw [upd_same, rep_flat])⟩
end RL
namespace RL
open PySem PySem.Spec PyProof.Rows L2 RLM
section
variable {P : Program} {w : World} {K : PySem.W.Frag} {mg : Str → Option Value} {base : Heap}
theorem all_true {bs : List Bool} (h : ∀ b ∈ bs, b = true) : bs.all id = true := List.all_eq_true.mpr h
def spIsLot (K : PySem.W.Frag) : Sp := fun vs H Q _ => ∃ (c x t : Addr) (n : Nat) (E : List (Nat × Nat)) (p : Nat → Prop), vs = [.ref x, .ref t] ∧ BoardAt K c H x n E ∧ H t = some (.tup ((lotP n p).map vI)) ∧ ∀ H', Same H H' → Q (.bl true) H'
theorem sc_is_lot : FnScope ["board", "lot", "place"] ["board", "lot"] (defScope s_is_lot) := ⟨rfl, rfl, rfl, by decide +kernel, rfl, by decide +kernel, by decide +kernel⟩
theorem ok_is_lot (T : Tx K mg) : Has P w K mg base (He.ga K "is_lot") 3 ["board", "lot"] (spIsLot K) := by
  obtain ⟨⟨fd_is_between, F_is_between, b_is_between⟩, kp_is_between⟩ := ok_is_between (P := P) (w := w) (base := base) T
  obtain ⟨⟨fd_len, F_len, b_len⟩, kp_len⟩ := ok_len (P := P) (w := w) (base := base) T
  obtain ⟨fd, F⟩ := T.d_is_lot
  refine ⟨⟨fd, F.ok sc_is_lot (fun vs H Q E h => ?_) (fun cdv A outer s H vs Q E hr h => ?_), F.bindsN fun _ _ _ _ _ _ us hl => match us, hl with | [_, _], _ => rfl⟩, F.kp⟩
  · obtain ⟨c, x, t, n, E, p, rfl, _⟩ := h
    rfl
  · obtain ⟨c, x, t, n, E, p, rfl, B, ht, h⟩ := h
    have hr_is_between : Room 2 _ := hr.mono (by decide)
    have hr_len : Room 2 _ := hr.mono (by decide)
    refine ⟨_, PSs.nox (pss_cons (ps_if (pt_not (pt_val (pe_callB (isiK (K := K)) (by rfl) T.free_isinstance (by decide +kernel) (pa_cons (pv 1) (pa_cons (pe_bltn (v := .ty "tuple") (u := .type "tuple") (by rfl) T.free_tuple (by decide +kernel) rfl) pa_nil))))) (pss_one (ps_ret pe_bl)) pss_nil)
      (pss_cons (ps_if (pt_not (pt_val (pe_callB (allK (K := K)) (by rfl) T.free_all (by decide +kernel) (pa_cons (pe_lc (own := [("place", 2)]) (g := (gName 2)) (tt := tYes) rfl sc_is_lot.nd (piT (K := K) (pv 1)) (blkOk_by (by kernel_rfl)) (fun _ _ _ _ _ => (pg_name (i := 2) sc_is_lot.nd rfl (Or.inl rfl))) (fun _ _ _ _ _ => pts_nil) (fun _ _ _ _ _ => (pe_call F_is_between hr_is_between rfl T.glo_is_between kp_is_between b_is_between .nil pass0 (pa_cons (pv 2) (pa_cons pe_int (pa_cons (pe_op op_sub (pe_callB (call_lenOwn T.m_len F_len b_len hr_len) (by rfl) T.free_len (by decide +kernel) (pa_cons (pv 0) pa_nil)) pe_int) pa_nil)))))) pa_nil)))) (pss_one (ps_ret pe_bl)) pss_nil)
      (pss_one (ps_ret (pe_cmpR (eqD (K := K) hr.units) (pe_callTy (listK (K := K)) (by rfl) T.free_list (by decide +kernel) (pa_cons (pv 1) pa_nil)) (pe_callB (sortS (w := w)) (by rfl) T.free_sorted (by decide +kernel) (pa_cons (pe_callTy (setTK (K := K) (w := w)) (by rfl) T.free_set (by decide +kernel) (pa_cons (pv 1) pa_nil)) pa_nil)) (nomark _)))))), ?_⟩
    have n8 := B.hi
    have lp := lotP_len n p
    refine ⟨_, rfl, _, _, _, _, true, rfl, .ty _, .base (.tup ht), kit_ty (by decide +kernel), true, rfl, iteF ?_⟩
    refine ⟨_, rfl, t, rfl, ⟨_, SqT.of ht⟩, fun D hD => ?_⟩
    refine lc_tup (K := K) (a := t) (xs := (lotP n p).map vI) (fun i H1 => ∃ bs : List Bool, H1 D = some (.lst (bs.map V.bl)) ∧ (∀ b ∈ bs, b = true) ∧ bs.length = i ∧ Same H H1)
      ⟨[], upd_same, by simp, rfl, same_upd hD⟩ (fun i H1 _ ⟨_, _, _, _, s1⟩ => SqT.of (s1 _ _ ht)) ?_ ?_
    · rintro i y H1 hy ⟨bs, hb, tb, lb, s1⟩
      obtain ⟨q, hq, rfl⟩ : ∃ q, (lotP n p)[i]? = some q ∧ vI q = y := by
        rw [List.getElem?_map] at hy
        cases e : (lotP n p)[i]? with
        | none => rw [e] at hy; cases hy
        | some q => rw [e] at hy; exact ⟨q, rfl, Option.some.inj hy⟩
      have qn := (mem_lotP.mp (List.mem_of_getElem? hq)).1
      have il : i < (lotP n p).length := (List.getElem?_eq_some_iff.mp hq).1
      have B1 := B.same s1
      obtain ⟨dx, q1, q2, q3, hx⟩ := B1.obj
      refine ⟨rfl, ?_⟩
      unfold tYes
      refine iteT ?_
      refine ⟨_, rfl, _, rfl, x, dx, _, rfl, hx, c, x, n, E, rfl, B1, (n : Int), rfl, by omega, by omega, _, _, rfl, rfl, _, _, _, rfl, ?_⟩
      rw [decide_eq_true (show (0 : Int) ≤ (q : Nat) ∧ ((q : Nat) : Int) ≤ (n : Int) - 1 from ⟨by omega, by omega⟩)]
      refine ⟨_, hb, ?_, bs ++ [true], ?_, ?_, by simp [lb], same_mut s1 hD⟩
      · rw [List.length_map]
        exact Nat.lt_of_le_of_lt (show bs.length ≤ 8 by omega) (by decide)
      · rw [upd_same, List.map_append]
        rfl
      · intro b hb2
        rcases List.mem_append.mp hb2 with z | z
        · exact tb b z
        · rw [List.mem_singleton.mp z]
    · rintro H1 ⟨bs, hb, tb, lb, s1⟩
      refine ⟨D, bs, rfl, SqL.of hb, _, rfl, ?_⟩
      rw [all_true tb]
      refine iteF ?_
      refine ⟨_, rfl, t, _, rfl, .inr (SqT.of (s1 _ _ ht)), fun l1 hl1 => ?_⟩
      have s2 := same_upd (o := HO.lst ((lotP n p).map vI)) hl1
      have ht2 := s2 _ _ (s1 _ _ ht)
      refine ⟨_, rfl, t, (lotP n p).map nI, rfl, SqT.of (by rw [← vI_map]; exact ht2), by rw [List.length_map]; omega, fun d cc hd hcc => ?_⟩
      refine ⟨d, _, cc, rfl, upd_same, ?_, fun ns l2 h1 h2 h3 hl2 => ?_⟩
      · rw [List.length_map] at hcc
        omega
      have s3 := same_upd (o := SetO w d (fun j => decide (j ∈ (lotP n p).map nI)) cc) hd
      have s4 := same_upd (o := HO.lst (ns.map V.int)) hl2
      have en : ns.map V.int = (lotP n p).map vI := rise_lot h1 fun k => (h2 k).trans (decide_eq_true_iff.trans (by
        rw [List.mem_map]
        constructor
        · rintro ⟨b, hb, rfl⟩
          exact ⟨b, rfl, mem_lotP.mp hb⟩
        · rintro ⟨b, rfl, hb⟩
          exact ⟨b, mem_lotP.mpr hb, rfl⟩))
      refine ⟨.list (ns.map .int), .list (ns.map .int), .lst (SqL.of (s4 _ _ (s3 _ _ (by rw [upd_same, ← en])))) (dp_ints ns), .lst (SqL.of upd_same) (dp_ints ns), shaped_ints ns, shaped_ints ns, ?_⟩
      rw [SeqAt.eqv_refl _ (SeqAt.canLay_of_shaped (shaped_ints ns))]
      exact h _ (((s1.trans s2).trans s3).trans s4)
def spChkLot (K : PySem.W.Frag) : Sp := fun vs H Q _ => ∃ (c x t : Addr) (n : Nat) (E : List (Nat × Nat)) (p : Nat → Prop), vs = [.ref x, .ref t] ∧ BoardAt K c H x n E ∧ H t = some (.tup ((lotP n p).map vI)) ∧ ∀ H', Same H H' → Q .non H'
/-- a pace -/
def PaceOk (n : Nat) (ps : List Nat) : Prop := ps.length = n ∧ ∀ q ∈ ps, q ≤ 7
def spIsPace (K : PySem.W.Frag) : Sp := fun vs H Q _ => ∃ (c x t : Addr) (n : Nat) (E : List (Nat × Nat)) (ps : List Nat), vs = [.ref x, .ref t] ∧ BoardAt K c H x n E ∧ H t = some (.tup (ps.map vI)) ∧ PaceOk n ps ∧ ∀ H', Same H H' → Q (.bl true) H'
def spChkPace (K : PySem.W.Frag) : Sp := fun vs H Q _ => ∃ (c x t : Addr) (n : Nat) (E : List (Nat × Nat)) (ps : List Nat), vs = [.ref x, .ref t] ∧ BoardAt K c H x n E ∧ H t = some (.tup (ps.map vI)) ∧ PaceOk n ps ∧ ∀ H', Same H H' → Q .non H'
end
end RL
namespace RL
open PySem PySem.Spec PyProof.Rows L2 RLM
theorem in_lot (b : Nat) (xs : List Nat) : inV (vI b) (xs.map vI) = decide (b ∈ xs) := by
  unfold inV
  rw [List.any_map]
  have e : ((fun y => eqV y (vI b)) ∘ vI) = fun q : Nat => decide (q = b) := by
    funext q
    show ((q : Int) == (b : Int)) = decide (q = b)
    by_cases h : q = b
    · subst h
      simp
    · have h2 : ¬ ((q : Int) = (b : Int)) := by omega
      rw [decide_eq_false h]
      exact beq_eq_false_iff_ne.mpr h2
  rw [e]
  by_cases h : b ∈ xs
  · rw [decide_eq_true h]
    exact List.any_eq_true.mpr ⟨b, h, by simp⟩
  · rw [decide_eq_false h]
    refine Bool.eq_false_iff.mpr fun z => ?_
    obtain ⟨q, hq, e⟩ := List.any_eq_true.mp z
    exact h (of_decide_eq_true e ▸ hq)
theorem flat_vI (xs : List Nat) : (xs.map vI).all flatV = true := by
  rw [List.all_map]
  exact List.all_eq_true.mpr fun _ _ => rfl
theorem count_more {p q : Nat → Bool} : ∀ (xs : List Nat) {b : Nat}, b ∈ xs → (∀ x, p x = true → q x = true) → p b = false → q b = true → xs.countP p + 1 ≤ xs.countP q
  | x :: xs, b, hb, hpq, h0, h1 => by
    have mono : ∀ ys : List Nat, ys.countP p ≤ ys.countP q := fun ys => List.countP_mono_left fun x _ hx => hpq x hx
    rw [List.countP_cons, List.countP_cons]
    rcases List.mem_cons.mp hb with e | e
    · subst e
      rw [h0, h1]
      have := mono xs
      simp
      omega
    · have ih := count_more xs e hpq h0 h1
      have : (if p x = true then 1 else 0) ≤ (if q x = true then 1 else 0) := by
        by_cases hx : p x = true
        · rw [if_pos hx, if_pos (hpq x hx)]
          exact Nat.le_refl _
        · rw [if_neg hx]
          exact Nat.zero_le _
      omega
section
variable {P : Program} {w : World} {K : PySem.W.Frag} {mg : Str → Option Value} {base : Heap}
/-- where a step leads from a lot -/
def stepP (n : Nat) (E : List (Nat × Nat)) (ps : List Nat) (p : Nat → Prop) (b : Nat) : Prop := ∃ a, a < n ∧ p a ∧ Near E ((ps.getD a 0 : Nat) : Int) a b
def spStep (K : PySem.W.Frag) : Sp := fun vs H Q _ => ∃ (c x tp tl : Addr) (n : Nat) (E : List (Nat × Nat)) (ps : List Nat) (p : Nat → Prop), vs = [.ref x, .ref tp, .ref tl] ∧ BoardAt K c H x n E ∧ H tp = some (.tup (ps.map vI)) ∧ PaceOk n ps ∧ H tl = some (.tup ((lotP n p).map vI)) ∧
  ∀ H' t, H' t = some (.tup ((lotP n (stepP n E ps p)).map vI)) → Same H H' → Q (.ref t) H'
/-- the set so far -/
def SetIs (w : World) (n : Nat) (D : Addr) (H : Hp) (r : Nat → Prop) : Prop := ∃ (S : Int → Bool) (cnt : Nat), H D = some (SetO w D S cnt) ∧ cnt ≤ (List.range 8).countP (fun b => S (nI b)) ∧ ∀ k : Int, S k = true ↔ ∃ b : Nat, k = nI b ∧ b < n ∧ r b
theorem pace_get {n : Nat} {ps : List Nat} (h : PaceOk n ps) {a : Nat} (ha : a < n) : ps[a]? = some (ps.getD a 0) := by
  have hl : a < ps.length := by rw [h.1]; exact ha
  rw [List.getD_eq_getElem?_getD, List.getElem?_eq_getElem hl]
  rfl
def beforeP (n : Nat) (E : List (Nat × Nat)) (ps : List Nat) (p : Nat → Prop) (a : Nat) : Prop := ∃ b, b < n ∧ p b ∧ Near E ((ps.getD a 0 : Nat) : Int) a b
def spBefore (K : PySem.W.Frag) : Sp := fun vs H Q _ => ∃ (c x tp tl : Addr) (n : Nat) (E : List (Nat × Nat)) (ps : List Nat) (p : Nat → Prop), vs = [.ref x, .ref tp, .ref tl] ∧ BoardAt K c H x n E ∧ H tp = some (.tup (ps.map vI)) ∧ PaceOk n ps ∧ H tl = some (.tup ((lotP n p).map vI)) ∧
  ∀ H' t, H' t = some (.tup ((lotP n (beforeP n E ps p)).map vI)) → Same H H' → Q (.ref t) H'
end
end RL
namespace RL
open PySem PySem.Spec PyProof.Rows L2 RLM
section
variable {P : Program} {w : World} {K : PySem.W.Frag} {mg : Str → Option Value} {base : Heap}
/-- [b for b in range(n) if t(b)]: the places of which t holds -/
theorem reach_any {n : Nat} {E : List (Nat × Nat)} {M : Nat → Nat → Nat} {ps : List Nat} {p : Nat → Prop} (S : Spans n E M) (PO : PaceOk n ps) {b : Nat} (hb : b < n) :
    (((lotP n p).map fun a => decide (M a b ≤ ps.getD a 0)).any id = true) ↔ stepP n E ps p b := by
  have key : ∀ a, a < n → (M a b ≤ ps.getD a 0 ↔ Near E ((ps.getD a 0 : Nat) : Int) a b) := fun a ha => by
    have h7 : ps.getD a 0 ≤ 7 := PO.2 _ (List.mem_of_getElem? (pace_get PO ha))
    rw [← S.nr a b _ ha hb (by omega)]
    omega
  rw [List.any_eq_true]
  constructor
  · rintro ⟨v, hv, ev⟩
    obtain ⟨a, ha, rfl⟩ := List.mem_map.mp hv
    have m := mem_lotP.mp ha
    exact ⟨a, m.1, m.2, (key a m.1).1 (of_decide_eq_true ev)⟩
  · rintro ⟨a, h1, h2, h3⟩
    exact ⟨true, List.mem_map.mpr ⟨a, mem_lotP.mpr ⟨h1, h2⟩, decide_eq_true ((key a h1).2 h3)⟩, rfl⟩
def spReached (K : PySem.W.Frag) : Sp := fun vs H Q _ => ∃ (c D tp tl : Addr) (rs : List Addr) (M : Nat → Nat → Nat) (n : Nat) (E : List (Nat × Nat)) (ps : List Nat) (p : Nat → Prop), vs = [.ref D, .ref tp, .ref tl] ∧ TabAt c H D n rs M ∧ Spans n E M ∧ n ≤ 8 ∧ H tp = some (.tup (ps.map vI)) ∧ PaceOk n ps ∧ H tl = some (.tup ((lotP n p).map vI)) ∧
  ∀ H' t, H' t = some (.tup ((lotP n (stepP n E ps p)).map vI)) → Same H H' → Q (.ref t) H'
/-! ### a board, its spans, the program's own board -/
def spGround (K : PySem.W.Frag) : Sp := fun vs H Q _ => ∃ (b c : Addr), vs = [.ref b, vI 8] ∧ Box b c H ∧ ∀ (H' : Hp) (u t l D x n : Nat) (L : List (Addr × Nat × Nat)) (rs : List Addr) (M : Nat → Nat → Nat) (E : List (Nat × Nat)), 1 ≤ n → n ≤ 8 → H' u = some (.tup [.ref t, .ref D, .ref x]) → H' t = some (.tup [vI n, .ref l]) → PairsAt c H' l L → WaysOk n L → (∀ e, e ∈ E ↔ e ∈ L.map (·.2)) → TabAt c H' D n rs M → Spans n E M → BoardAt K c H' x n E → Kc c H H' → Box b c H' → Q (.ref u) H'
theorem spans_congr {n : Nat} {E E' : List (Nat × Nat)} {M : Nat → Nat → Nat} (h : ∀ e, e ∈ E' ↔ e ∈ E) (S : Spans n E M) : Spans n E' M :=
  ⟨S.hi, fun a b m ha hb hm => (S.nr a b m ha hb hm).trans ⟨fun ⟨k, h1, h2⟩ => ⟨k, h1, h2.mono fun p hp => (h p).2 hp⟩, fun ⟨k, h1, h2⟩ => ⟨k, h1, h2.mono fun p hp => (h p).1 hp⟩⟩⟩
end
end RL
namespace RL
open PySem PySem.Spec PyProof.Rows L2 RLM
/-! ### looks -/
inductive Look where
  | lot (p : Nat → Prop)
  | parts (ps : List (Nat → Prop))
  | near (b k : Nat)
/-- a look as it stands -/
def LookAt (n : Nat) (H : Hp) (v : V) : Look → Prop
  | .lot p => ∃ t u : Addr, v = .ref t ∧ H t = some (.tup [.str "in", .ref u]) ∧ H u = some (.tup ((lotP n p).map vI))
  | .parts ps => ∃ (t u : Addr) (us : List Addr), v = .ref t ∧ H t = some (.tup [.str "parts", .ref u]) ∧ H u = some (.tup (us.map V.ref)) ∧ us.length = ps.length ∧ ∀ (k : Nat) (a : Addr) (p : Nat → Prop), us[k]? = some a → ps[k]? = some p → H a = some (.tup ((lotP n p).map vI))
  | .near b k => ∃ t : Addr, v = .ref t ∧ H t = some (.tup [.str "near", vI b, vI k])
/-- a look of a board -/
def LookOk (n : Nat) : Look → Prop
  | .lot _ => True
  | .parts ps => ps.length ≤ n ∧ (∀ b, b < n → ∃ (k : Nat) (p : Nat → Prop), ps[k]? = some p ∧ p b) ∧ (∀ (i j : Nat) (p q : Nat → Prop) (b : Nat), ps[i]? = some p → ps[j]? = some q → b < n → p b → q b → i = j) ∧ ∀ p ∈ ps, ∃ b, b < n ∧ p b
  | .near b k => b < n ∧ k ≤ 7
theorem LookAt.same {n : Nat} {H H' : Hp} {v : V} (s : Same H H') : ∀ {L : Look}, LookAt n H v L → LookAt n H' v L
  | .lot _, ⟨t, u, e, h1, h2⟩ => ⟨t, u, e, s _ _ h1, s _ _ h2⟩
  | .parts _, ⟨t, u, us, e, h1, h2, l, h3⟩ => ⟨t, u, us, e, s _ _ h1, s _ _ h2, l, fun k a p e1 e2 => s _ _ (h3 k a p e1 e2)⟩
  | .near _ _, ⟨t, e, h1⟩ => ⟨t, e, s _ _ h1⟩
theorem LookAt.keep {n : Nat} {c : Addr} {H H' : Hp} {v : V} (k : Kc c H H') (hc : ∃ ys, H c = some (.lst ys)) : ∀ {L : Look}, LookAt n H v L → LookAt n H' v L
  | .lot _, ⟨t, u, e, h1, h2⟩ => ⟨t, u, e, k.tup hc h1, k.tup hc h2⟩
  | .parts _, ⟨t, u, us, e, h1, h2, l, h3⟩ => ⟨t, u, us, e, k.tup hc h1, k.tup hc h2, l, fun i a p e1 e2 => k.tup hc (h3 i a p e1 e2)⟩
  | .near _ _, ⟨t, e, h1⟩ => ⟨t, e, k.tup hc h1⟩
open Classical in
noncomputable def decB (p : Prop) : Bool := decide p
open Classical in
theorem dec_lot {n b : Nat} {p : Nat → Prop} (bn : b < n) : decide (b ∈ lotP n p) = decB (p b) := by
  unfold decB
  rw [decide_eq_decide, mem_lotP]
  exact ⟨fun h => h.2, fun h => ⟨bn, h⟩⟩
open Classical in
/-- what a place answers -/
noncomputable def ans (M : Nat → Nat → Nat) : Look → Nat → Nat
  | .lot p, b => if p b then 1 else 0
  | .parts ps, b => ps.findIdx fun p => decB (p b)
  | .near c k, b => min (M b c) (k + 1)
open Classical in
theorem decB_true {p : Prop} : decB p = true ↔ p := by
  unfold decB
  exact decide_eq_true_iff
theorem ans_near {M : Nat → Nat → Nat} {c k b : Nat} : ans M (.near c k) b = min (M b c) (k + 1) := rfl
theorem ans_in {M : Nat → Nat → Nat} {p : Nat → Prop} {b : Nat} (h : p b) : ans M (.lot p) b = 1 := if_pos h
theorem ans_out {M : Nat → Nat → Nat} {p : Nat → Prop} {b : Nat} (h : ¬ p b) : ans M (.lot p) b = 0 := if_neg h
section
variable {P : Program} {w : World} {K : PySem.W.Frag} {mg : Str → Option Value} {base : Heap}
def spBoth : Sp := fun vs H Q _ => ∃ (s t : Addr) (n : Nat) (p q : Nat → Prop), vs = [.ref s, .ref t] ∧ n ≤ 8 ∧ H s = some (.tup ((lotP n p).map vI)) ∧ H t = some (.tup ((lotP n q).map vI)) ∧
  ∀ H' u, H' u = some (.tup ((lotP n fun b => p b ∧ q b).map vI)) → Same H H' → Q (.ref u) H'
def spAnswer : Sp := fun vs H Q _ => ∃ (c D : Addr) (v : V) (n b : Nat) (rs : List Addr) (M : Nat → Nat → Nat) (L : Look), vs = [.ref D, v, vI b] ∧ n ≤ 8 ∧ TabAt c H D n rs M ∧ LookAt n H v L ∧ LookOk n L ∧ b < n ∧ ∀ H', Same H H' → Q (vI (ans M L b)) H'
end
end RL
namespace RL
open PySem PySem.Spec PyProof.Rows L2 RLM
theorem lotP_one {n b : Nat} (h : b < n) : lotP n (fun x => x = b) = [b] :=
  (lotP_of (List.pairwise_singleton _ _) fun x => by
    rw [List.mem_singleton]
    exact ⟨fun e => ⟨by omega, e⟩, fun e => e.2⟩).symm
theorem dp_lot {K : PySem.W.Frag} {H : Hp} {t : Addr} {xs : List Nat} (h : H t = some (.tup (xs.map vI))) : Dp K H (.ref t) (.tuple ((xs.map nI).map PyData.int)) := .tup (SqT.of (by rw [← vI_map]; exact h)) (dp_ints _)
theorem eqv_none : ∀ xs : List Nat, PyData.eqv (.tuple ((xs.map nI).map PyData.int)) (.tuple ((([] : List Nat).map nI).map PyData.int)) = xs.isEmpty
  | [] => by unfold PyData.eqv; rfl
  | x :: xs => by unfold PyData.eqv; rfl
section
variable {P : Program} {w : World} {K : PySem.W.Frag} {mg : Str → Option Value} {base : Heap}
def spStart : Sp := fun vs H Q _ => ∃ (b c : Addr) (n : Nat), vs = [.ref b, vI n] ∧ Box b c H ∧ 1 ≤ n ∧ n ≤ 8 ∧ ∀ H' t p, H' t = some (.tup ((lotP n p).map vI)) → (∃ a, a < n ∧ p a) → Kc c H H' → Box b c H' → Q (.ref t) H'
end
end RL
namespace RL
open PySem PySem.Spec PyProof.Rows L2 RLM
/-- a triple that was seen: beat, look, answer -/
structure Triple where
  beat : Nat
  look : Look
  told : Nat
/-- triples as they stand, in a tuple or a list: where each is, where its look is -/
def TripAt (n : Nat) (H : Hp) (q : Addr × V × Triple) : Prop := H q.1 = some (.tup [vI q.2.2.beat, q.2.1, vI q.2.2.told]) ∧ LookAt n H q.2.1 q.2.2.look ∧ LookOk n q.2.2.look
/-- a story as it stands -/
structure StoryAt (n : Nat) (H : Hp) (s : Addr) (p : Nat → Prop) (PS : List (Addr × List Nat)) (SN : List (Addr × V × Triple)) : Prop where
  ex : ∃ tl tp ts : Addr, H s = some (.tup [.ref tl, .ref tp, .ref ts]) ∧ H tl = some (.tup ((lotP n p).map vI)) ∧ H tp = some (.tup (PS.map fun q => V.ref q.1)) ∧ H ts = some (.tup (SN.map fun q => V.ref q.1))
  pc : ∀ q ∈ PS, H q.1 = some (.tup (q.2.map vI)) ∧ PaceOk n q.2
  sn : ∀ q ∈ SN, TripAt n H q ∧ q.2.2.beat ≤ PS.length
  lp : PS.length ≤ 12
  ls : SN.length ≤ 24
theorem TripAt.same {n : Nat} {H H' : Hp} {q : Addr × V × Triple} (s : Same H H') (h : TripAt n H q) : TripAt n H' q := ⟨s _ _ h.1, h.2.1.same s, h.2.2⟩
theorem StoryAt.same {n : Nat} {H H' : Hp} {a : Addr} {p : Nat → Prop} {PS : List (Addr × List Nat)} {SN : List (Addr × V × Triple)} (s : Same H H') (h : StoryAt n H a p PS SN) : StoryAt n H' a p PS SN := by
  obtain ⟨tl, tp, ts, h1, h2, h3, h4⟩ := h.ex
  exact ⟨⟨tl, tp, ts, s _ _ h1, s _ _ h2, s _ _ h3, s _ _ h4⟩, fun q hq => ⟨s _ _ (h.pc q hq).1, (h.pc q hq).2⟩, fun q hq => ⟨(h.sn q hq).1.same s, (h.sn q hq).2⟩, h.lp, h.ls⟩
/-- what was seen lets a place be -/
def openP (M : Nat → Nat → Nat) (SN : List (Addr × V × Triple)) (i b : Nat) : Prop := ∀ q ∈ SN, q.2.2.beat = i → ans M q.2.2.look b = q.2.2.told
/-- a list of lots, as tuples -/
structure LotsAt (n : Nat) (H : Hp) (D : Addr) (m : Nat) (p : Nat → Nat → Prop) : Prop where
  ex : ∃ us : List Addr, H D = some (.lst (us.map V.ref)) ∧ us.length = m ∧ ∀ (i : Nat) (u : Addr), us[i]? = some u → H u = some (.tup ((lotP n (p i)).map vI))
section
variable {P : Program} {w : World} {K : PySem.W.Frag} {mg : Str → Option Value} {base : Heap}
def spOpen : Sp := fun vs H Q _ => ∃ (c D s : Addr) (n : Nat) (rs : List Addr) (M : Nat → Nat → Nat) (p : Nat → Prop) (PS : List (Addr × List Nat)) (SN : List (Addr × V × Triple)), vs = [.ref D, .ref s] ∧ n ≤ 8 ∧ TabAt c H D n rs M ∧ StoryAt n H s p PS SN ∧
  ∀ H' l, LotsAt n H' l (PS.length + 1) (openP M SN) → H l = none → Same H H' → Q (.ref l) H'
end
end RL
/-! Stories: walks that fit, the lots forth, back and known; how many walks there are. Plain mathematics.
    n places, m paces, S the lot of the beginning, R i a b: a step from a to b is let by pace i, O i b: what was seen at beat i lets b be. -/
namespace RLM
section
variable (n m : Nat) (S : Nat → Prop) (R : Nat → Nat → Nat → Prop) (O : Nat → Nat → Prop)
/-- from a on, at beat i: what a walk has behind a -/
inductive Tail : Nat → Nat → List Nat → Prop where
  | stop (a : Nat) : Tail m a []
  | go {i a b : Nat} {w : List Nat} : i < m → b < n → R i a b → O (i + 1) b → Tail (i + 1) b w → Tail i a (b :: w)
/-- a walk that fits -/
def Fit : List Nat → Prop
  | [] => False
  | a :: w => a < n ∧ S a ∧ O 0 a ∧ Tail n m R O 0 a w
/-- the lots forth -/
def ForthP : Nat → Nat → Prop
  | 0, b => b < n ∧ S b ∧ O 0 b
  | i + 1, b => b < n ∧ O (i + 1) b ∧ ∃ a, ForthP i a ∧ R i a b
/-- the lots back: k beats before the last -/
def BackP : Nat → Nat → Prop
  | 0, b => b < n ∧ O m b
  | k + 1, b => b < n ∧ O (m - (k + 1)) b ∧ ∃ c, BackP k c ∧ R (m - (k + 1)) b c
end
variable {n m : Nat} {S : Nat → Prop} {R : Nat → Nat → Nat → Prop} {O : Nat → Nat → Prop}
theorem Tail.len {i a : Nat} {w : List Nat} (h : Tail n m R O i a w) : i + w.length = m := by
  induction h with
  | stop a => simp
  | go _ _ _ _ _ ih => simp only [List.length_cons]; omega
theorem Tail.get {i a : Nat} {w : List Nat} (h : Tail n m R O i a w) : ∀ {j b : Nat}, w[j]? = some b → b < n ∧ O (i + 1 + j) b := by
  induction h with
  | stop a => intro j b e; simp at e
  | @go i a b w hi hb r o t ih =>
    intro j c e
    cases j with
    | zero => simp at e; subst e; exact ⟨hb, o⟩
    | succ j =>
      have := ih (j := j) (b := c) (by simpa using e)
      exact ⟨this.1, by have e : i + 1 + (j + 1) = i + 1 + 1 + j := by omega
                        rw [e]; exact this.2⟩
theorem Fit.len {w : List Nat} (h : Fit n m S R O w) : w.length = m + 1 := by
  cases w with
  | nil => exact h.elim
  | cons a w =>
    have := h.2.2.2.len
    simp only [List.length_cons]
    omega
/-- what a walk has behind a place leads on: the place is in the lot back -/
theorem Tail.back {i a : Nat} {w : List Nat} (h : Tail n m R O i a w) (ha : a < n) (o : O i a) : BackP n m R O (m - i) a := by
  induction h with
  | stop a =>
    rw [Nat.sub_self]
    exact ⟨ha, o⟩
  | @go i a b w hi hb r o2 t ih =>
    have e : m - i = (m - (i + 1)) + 1 := by omega
    have e2 : m - (m - (i + 1) + 1) = i := by omega
    rw [e]
    refine ⟨ha, ?_, b, ih hb o2, ?_⟩ <;> rw [e2] <;> assumption
/-- from a place of the lot back some walk leads on -/
theorem BackP.tail : ∀ {k a : Nat}, BackP n m R O k a → k ≤ m → ∃ w, Tail n m R O (m - k) a w
  | 0, a, _, _ => ⟨[], .stop a⟩
  | k + 1, a, h, hk => by
    obtain ⟨ha, o, c, hc, r⟩ := h
    obtain ⟨w, t⟩ := hc.tail (by omega)
    have e : m - k = m - (k + 1) + 1 := by omega
    have oc : O (m - k) c := by
      cases k with
      | zero => exact hc.2
      | succ k => exact hc.2.1
    have cn : c < n := by
      cases k with
      | zero => exact hc.1
      | succ k => exact hc.1
    rw [e] at t oc
    exact ⟨c :: w, .go (by omega) cn r oc t⟩
theorem ForthP.lt {i a : Nat} (h : ForthP n S R O i a) : a < n := by
  cases i with
  | zero => exact h.1
  | succ i => exact h.1
theorem ForthP.op {i a : Nat} (h : ForthP n S R O i a) : O i a := by
  cases i with
  | zero => exact h.2.2
  | succ i => exact h.2.1
theorem BackP.lt {k a : Nat} (h : BackP n m R O k a) : a < n := by
  cases k with
  | zero => exact h.1
  | succ i => exact h.1
/-- what a fitting walk passes is in the lots forth -/
theorem Tail.forth {i a : Nat} {w : List Nat} (h : Tail n m R O i a w) : ForthP n S R O i a → ∀ {j b : Nat}, (a :: w)[j]? = some b → ForthP n S R O (i + j) b ∧ BackP n m R O (m - (i + j)) b := by
  induction h with
  | stop a =>
    intro f j b e
    cases j with
    | zero =>
      simp at e
      subst e
      exact ⟨f, (Tail.stop (n := n) (m := m) (R := R) (O := O) _).back f.lt f.op⟩
    | succ j => simp at e
  | @go i a c w hi hb r o t ih =>
    intro f j b e
    cases j with
    | zero =>
      simp at e
      subst e
      exact ⟨f, (Tail.go hi hb r o t).back f.lt f.op⟩
    | succ j =>
      have := ih ⟨hb, o, a, f, r⟩ (j := j) (b := b) (by simpa using e)
      have e2 : i + (j + 1) = i + 1 + j := by omega
      rw [e2]
      exact this
/-- a walk to a place of the lot forth can be put before one that leads on -/
theorem ForthP.walk : ∀ {i a : Nat} {w : List Nat}, ForthP n S R O i a → Tail n m R O i a w → ∃ v, Fit n m S R O (v ++ a :: w) ∧ v.length = i
  | 0, a, w, f, t => ⟨[], ⟨f.1, f.2.1, f.2.2, t⟩, rfl⟩
  | i + 1, a, w, f, t => by
    obtain ⟨an, o, b, fb, r⟩ := f
    have hi : i < m := by
      have := t.len
      omega
    obtain ⟨v, fv, lv⟩ := fb.walk (.go hi an r o t)
    exact ⟨v ++ [b], by simpa using fv, by simp [lv]⟩
/-- known: where some fitting walk is; both forth and back -/
theorem known_iff {i b : Nat} (hi : i ≤ m) : (∃ w, Fit n m S R O w ∧ w[i]? = some b) ↔ ForthP n S R O i b ∧ BackP n m R O (m - i) b := by
  constructor
  · rintro ⟨w, f, e⟩
    cases w with
    | nil => exact f.elim
    | cons a w =>
      have := f.2.2.2.forth (S := S) (i := 0) ⟨f.1, f.2.1, f.2.2.1⟩ e
      simpa using this
  · rintro ⟨f, b'⟩
    obtain ⟨w, t⟩ := b'.tail (by omega)
    have e : m - (m - i) = i := by omega
    rw [e] at t
    obtain ⟨v, fv, lv⟩ := f.walk t
    refine ⟨_, fv, ?_⟩
    rw [List.getElem?_append_right (by omega), lv, Nat.sub_self]
    rfl
/-- no walk fits just where some lot forth is empty; where one is, all later ones are -/
theorem forth_none {i : Nat} (h : ∀ b, ¬ ForthP n S R O i b) : ∀ j, i ≤ j → ∀ b, ¬ ForthP n S R O j b
  | 0, hj, b => by
    have : i = 0 := by omega
    subst this
    exact h b
  | j + 1, hj, b => by
    rcases Nat.lt_or_ge j i with k | k
    · have : i = j + 1 := by omega
      subst this
      exact h b
    · rintro ⟨_, _, a, fa, _⟩
      exact forth_none h j k a fa
end RLM
namespace RL
open PySem PySem.Spec PyProof.Rows L2 RLM
/-- a comprehension in whose turns numbers are drawn -/
theorem lc_relK {J : It} {n : Nat} {G : Hp → Prop} {Y : Nat → Hp → V → Hp → Prop} {g : TG} {te : TE} {vs : List Nat} {σ : L2.St} {H : Hp} {D b c : Addr} {Qd : Hp → Prop} (w : Walk J n G Y) (R : Nat → V → Hp → Prop) (hn : n ≤ 100000) (B : Box b c H) (hD : H D = none) (tk : ∀ k v H1 H2, R k v H1 → TK H1 H2 → R k v H2) (hG : ∀ H1, Kc c H H1 → Box b c H1 → G H1)
    (hs : ∀ i x H1 H2 (Nx : V → Hp → Prop), i < n → Kc c H H1 → Box b c H1 → Y i H1 x H2 → (∀ y H4, R i y H4 → Kc c H1 H4 → Box b c H4 → Nx y H4) → g x (wipe σ vs) H2 fun σ2 H3 => wipe σ2 vs = wipe σ vs ∧ te σ2 H3 Nx)
    (hd : ∀ H1 ys, H1 D = some (.lst ys) → ys.length = n → (∀ k y, ys[k]? = some y → R k y H1) → Kc c H H1 → Box b c H1 → D ≠ c → Qd H1) :
    ∃ W : Nat → Nat → Hp → Prop, (∃ m, W 0 m (L2.upd H D (.lst []))) ∧ ∀ i m H, W i m H →
      (J.stop i H ∧ Qd H) ∨ (J.go i H ∧ ∃ Nx : Hp → Prop, (∀ H', Nx H' → ∃ m', m' < m ∧ W (i + 1) m' H') ∧ ∀ x H', J.yld i H x H' → g x (wipe σ vs) H' fun σ2 H2 => wipe σ2 vs = wipe σ vs ∧ tYes σ2 H2 fun b H3 =>
        if b = true then te σ2 H3 fun y H4 => ∃ acc, H4 D = some (.lst acc) ∧ acc.length < sizeLine ∧ Nx (L2.upd H4 D (.lst (acc ++ [y]))) else Nx H3) := by
  obtain ⟨Dc, Db⟩ := B.new hD
  have s0 : Same H (L2.upd H D (.lst [])) := same_upd hD
  refine lc_it w (fun i H1 => ∃ ys, H1 D = some (.lst ys) ∧ ys.length = i ∧ (∀ k y, ys[k]? = some y → R k y H1) ∧ Kc c H H1 ∧ Box b c H1) ⟨[], upd_same, rfl, fun k y e => (by simp at e), kc_same s0, B.same s0⟩ (fun i H1 _ ⟨_, _, _, _, k1, B1⟩ => hG H1 k1 B1) ?_ (fun H1 ⟨ys, h1, h2, h3, h4, h5⟩ => hd H1 ys h1 h2 h3 h4 h5 Dc)
  rintro i x H1 H2 hi ⟨ys, h1, h2, h3, k1, B1⟩ hY
  refine hs i x H1 H2 (fun y H4 => ∃ acc, H4 D = some (.lst acc) ∧ acc.length < sizeLine ∧ ∃ zs, (L2.upd H4 D (.lst (acc ++ [y]))) D = some (.lst zs) ∧ zs.length = i + 1 ∧ (∀ k y', zs[k]? = some y' → R k y' (L2.upd H4 D (.lst (acc ++ [y])))) ∧ Kc c H (L2.upd H4 D (.lst (acc ++ [y]))) ∧ Box b c (L2.upd H4 D (.lst (acc ++ [y])))) hi k1 B1 hY fun y H4 r k4 B4 => ?_
  have h4 := k4 _ _ Dc (fun _ z => by cases z) h1
  refine ⟨ys, h4, ?_, ys ++ [y], upd_same, by simp [h2], fun k y' e => ?_, (k1.trans k4).upd hD, B4.upd Dc Db⟩
  · rw [h2]
    exact Nat.lt_of_lt_of_le hi (Nat.le_trans hn (by decide))
  · by_cases hk : k < ys.length
    · rw [List.getElem?_append_left hk] at e
      exact tk _ _ _ _ (h3 k y' e) ((k4.tk B1.lst).trans (tk_lst h4))
    · rw [List.getElem?_append_right (by omega)] at e
      have ek : k = ys.length := by
        obtain ⟨z1, _⟩ := List.getElem?_eq_some_iff.mp e
        simp at z1
        omega
      rw [ek, Nat.sub_self] at e
      cases e
      rw [ek, h2]
      exact tk _ _ _ _ r (tk_lst h4)
/-- what each of a list is, as a list beside -/
theorem beside {α : Type} {R : Nat → V → α → Prop} : ∀ (ys : List V) (i : Nat), (∀ (k : Nat) (y : V), ys[k]? = some y → ∃ a, R (i + k) y a) → ∃ as : List α, as.length = ys.length ∧ ∀ (k : Nat) (y : V) (a : α), ys[k]? = some y → as[k]? = some a → R (i + k) y a
  | [], i, _ => ⟨[], rfl, fun k y a e => by simp at e⟩
  | y :: ys, i, h => by
    obtain ⟨a, ha⟩ := h 0 y rfl
    obtain ⟨as, l, h2⟩ := beside ys (i + 1) fun k y e => by
      have := h (k + 1) y e
      rw [← Nat.add_assoc, Nat.add_right_comm] at this
      exact this
    refine ⟨a :: as, by simp [l], fun k y' a' e1 e2 => ?_⟩
    cases k with
    | zero =>
      cases e1
      cases e2
      exact ha
    | succ k =>
      have := h2 k y' a' e1 e2
      rw [Nat.add_right_comm, Nat.add_assoc] at this
      exact this
theorem ys_of {α : Type} {f : α → V} {ys : List V} {as : List α} (l : as.length = ys.length) (h : ∀ (k : Nat) (y : V) (a : α), ys[k]? = some y → as[k]? = some a → y = f a) : ys = as.map f := by
  refine List.ext_getElem? fun k => ?_
  rw [List.getElem?_map]
  by_cases hk : k < ys.length
  · have e1 : ys[k]? = some ys[k] := List.getElem?_eq_getElem hk
    have e2 : as[k]? = some (as[k]'(by omega)) := List.getElem?_eq_getElem _
    rw [e1, e2, h k _ _ e1 e2]
    rfl
  · rw [List.getElem?_eq_none (by omega), List.getElem?_eq_none (by omega)]
    rfl
/-- the parts by signs -/
def signP (ss : List Nat) (z : Int) (b : Nat) : Prop := nI (ss.getD b 0) = z
theorem parts_ok {n : Nat} {ss : List Nat} {zs : List Int} (ls : ss.length = n) (nd : zs.Nodup) (hm : ∀ z, z ∈ zs ↔ z ∈ ss.map nI) (lz : zs.length ≤ n) : LookOk n (.parts (zs.map (signP ss))) := by
  refine ⟨by rw [List.length_map]; exact lz, fun b bn => ?_, fun i j p q b hp hq bn pb qb => ?_, fun p hp => ?_⟩
  · have hb : b < ss.length := by omega
    have hmem : nI (ss.getD b 0) ∈ zs := (hm _).2 (List.mem_map.mpr ⟨ss.getD b 0, by rw [List.getD_eq_getElem?_getD, List.getElem?_eq_getElem hb]; exact List.getElem_mem hb, rfl⟩)
    obtain ⟨k, hk, e⟩ := List.getElem_of_mem hmem
    exact ⟨k, signP ss zs[k], by rw [List.getElem?_map, List.getElem?_eq_getElem hk]; rfl, e.symm⟩
  · rw [List.getElem?_map] at hp hq
    cases e1 : zs[i]? with
    | none => rw [e1] at hp; cases hp
    | some z1 =>
      cases e2 : zs[j]? with
      | none => rw [e2] at hq; cases hq
      | some z2 =>
        rw [e1] at hp
        rw [e2] at hq
        cases hp
        cases hq
        have pb : nI (ss.getD b 0) = z1 := pb
        have qb : nI (ss.getD b 0) = z2 := qb
        rw [← pb] at e1
        rw [← qb] at e2
        exact (List.getElem?_inj (List.getElem?_eq_some_iff.mp e1).1 nd).mp (e1.trans e2.symm)
  · obtain ⟨z, hz, rfl⟩ := List.mem_map.mp hp
    obtain ⟨s, hs, e⟩ := List.mem_map.mp ((hm z).1 hz)
    obtain ⟨b, hb, e2⟩ := List.getElem_of_mem hs
    refine ⟨b, by omega, ?_⟩
    show nI (ss.getD b 0) = z
    rw [List.getD_eq_getElem?_getD, List.getElem?_eq_getElem hb]
    show nI ss[b] = z
    rw [e2, e]
section
variable {P : Program} {w : World} {K : PySem.W.Frag} {mg : Str → Option Value} {base : Heap}
def spLook : Sp := fun vs H Q _ => ∃ (b c : Addr) (n : Nat), vs = [.ref b, vI n] ∧ Box b c H ∧ 1 ≤ n ∧ n ≤ 8 ∧ ∀ H' v L, LookAt n H' v L → LookOk n L → Kc c H H' → Box b c H' → Q v H'
theorem sc__law_look : FnScope ["_law_box_here", "_law_many", "_law_kind", "_law_parts", "_law_signs", "_law_lots", "_law_place", "_law_sign"] ["_law_box_here", "_law_many"] (defScope s__law_look) := ⟨rfl, rfl, rfl, by decide +kernel, rfl, by decide +kernel, by decide +kernel⟩
theorem ok_look (T : Tx K mg) : Has P w K mg base (He.ga K "_law_look") 3 ["_law_box_here", "_law_many"] spLook := by
  obtain ⟨⟨fd_law_pick, F_law_pick, b_law_pick⟩, kp_law_pick⟩ := ok_pick (P := P) (w := w) (base := base) T
  obtain ⟨⟨fd_law_lot, F_law_lot, b_law_lot⟩, kp_law_lot⟩ := ok_lot (P := P) (w := w) (base := base) T
  obtain ⟨⟨fd_law_from, F_law_from, b_law_from⟩, kp_law_from⟩ := ok_from (P := P) (w := w) (base := base) T
  obtain ⟨⟨fd_law_mixed, F_law_mixed, b_law_mixed⟩, kp_law_mixed⟩ := ok_mixed (P := P) (w := w) (base := base) T
  obtain ⟨fd, F⟩ := T.d__law_look
  refine ⟨⟨fd, F.ok sc__law_look (fun vs H Q E h => ?_) (fun cdv A outer s H vs Q E hr h => ?_), F.bindsN fun _ _ _ _ _ _ us hl => match us, hl with | [_, _], _ => rfl⟩, F.kp⟩
  · obtain ⟨b, c, n, rfl, _⟩ := h
    rfl
  · obtain ⟨b, c, n, rfl, B, n1, n8, h⟩ := h
    have hr_law_pick : Room 1 _ := hr.mono (by decide)
    have hr_law_lot : Room 2 _ := hr.mono (by decide)
    have hr_law_from : Room 2 _ := hr.mono (by decide)
    have hr_law_mixed : Room 2 _ := hr.mono (by decide)
    refine ⟨_, PSs.nox (pss_cons (ps_set (i := 2) sc__law_look.nd rfl (Or.inl rfl) (pe_call F_law_pick hr_law_pick rfl T.glo_law_pick kp_law_pick b_law_pick .nil pass0 (pa_cons (pv 0) (pa_cons pe_int pa_nil))))
      (pss_cons (ps_if (pt_cmpR op_eq (pv 2) pe_int (nomark _)) (pss_one (ps_ret (pe_tup (pa_cons pe_str (pa_cons (pe_call F_law_lot hr_law_lot rfl T.glo_law_lot kp_law_lot b_law_lot .nil pass0 (pa_cons (pv 0) (pa_cons (pv 1) pa_nil))) pa_nil))))) pss_nil)
      (pss_cons (ps_if (pt_cmpR op_eq (pv 2) pe_int (nomark _)) (pss_cons (ps_set (i := 3) sc__law_look.nd rfl (Or.inr rfl) (pe_call F_law_from hr_law_from rfl T.glo_law_from kp_law_from b_law_from .nil pass0 (pa_cons (pv 0) (pa_cons (pe_lst (pa_cons pe_int (pa_cons pe_int (pa_cons pe_int (pa_cons pe_int (pa_cons pe_int pa_nil)))))) pa_nil))))
      (pss_cons (ps_set (i := 4) sc__law_look.nd rfl (Or.inr rfl) (pe_lc (own := [("_law_place", 6)]) (g := (gName 6)) (tt := tYes) rfl sc__law_look.nd (pi_range1 (by rfl) T.free_range (pa_cons (pv 1) pa_nil)) (blkOk_by (by kernel_rfl)) (fun _ _ _ _ _ => (pg_name (i := 6) sc__law_look.nd rfl (Or.inl rfl))) (fun _ _ _ _ _ => pts_nil) (fun _ _ _ _ _ => (pe_call F_law_pick hr_law_pick rfl T.glo_law_pick kp_law_pick b_law_pick .nil pass0 (pa_cons (pv 0) (pa_cons (pv 3) pa_nil))))))
      (pss_cons (ps_setLc (i := 5) (own := [("_law_sign", 7)]) (g := (gName 7)) (tt := tYes) rfl sc__law_look.nd rfl rfl (sw_true rfl rfl rfl (by decide +kernel)) (piL (K := K) (pe_callB (sortS (w := w)) (by rfl) T.free_sorted (by decide +kernel) (pa_cons (pe_callTy (setLK (K := K) (w := w)) (by rfl) T.free_set (by decide +kernel) (pa_cons (pv 4) pa_nil)) pa_nil))) (blkOk_by (by kernel_rfl)) (fun _ _ _ _ _ => (pg_name (i := 7) sc__law_look.nd rfl (Or.inr rfl))) (fun _ _ _ _ _ => pts_nil) (fun _ _ _ _ _ => (pe_callTy (tupK (K := K)) (by rfl) T.free_tuple (by decide +kernel) (pa_cons (pe_lc (own := [("_law_place", 6)]) (g := (gName 6)) rfl sc__law_look.nd (pi_range1 (by rfl) T.free_range (pa_cons (pv 1) pa_nil)) (blkOk_by (by kernel_rfl)) (fun _ _ _ _ _ => (pg_name (i := 6) sc__law_look.nd rfl (Or.inl rfl))) (fun _ _ _ _ _ => (pts_one (pt_cmpR op_eq (pe_ix (ixL (K := K)) (pv 4) (pv 6) (fun _ _ => rfl)) (pv 7) (nomark _)))) (fun _ _ _ _ _ => (pv 6))) pa_nil))))
      (pss_one (ps_ret (pe_tup (pa_cons pe_str (pa_cons (pe_callTy (tupK (K := K)) (by rfl) T.free_tuple (by decide +kernel) (pa_cons (pe_call F_law_mixed hr_law_mixed rfl T.glo_law_mixed kp_law_mixed b_law_mixed .nil pass0 (pa_cons (pv 0) (pa_cons (pv 5) pa_nil))) pa_nil)) pa_nil)))))))) pss_nil)
      (pss_one (ps_ret (pe_tup (pa_cons pe_str (pa_cons (pe_call F_law_pick hr_law_pick rfl T.glo_law_pick kp_law_pick b_law_pick .nil pass0 (pa_cons (pv 0) (pa_cons (pv 1) pa_nil))) (pa_cons (pe_call F_law_from hr_law_from rfl T.glo_law_from kp_law_from b_law_from .nil pass0 (pa_cons (pv 0) (pa_cons (pe_lst (pa_cons pe_int (pa_cons pe_int (pa_cons pe_int (pa_cons pe_int (pa_cons pe_int (pa_cons pe_int (pa_cons pe_int (pa_cons pe_int pa_nil))))))))) pa_nil))) pa_nil))))))))), ?_⟩
    refine ⟨_, rfl, b, c, _, rfl, B, by decide, by decide, fun H1 i k1 B1 i0 i1 => ?_⟩
    refine ⟨_, rfl, rfl, _, rfl, ?_⟩
    refine ite2 (fun _ => ?_) (fun _ => ?_)
    · refine ⟨_, rfl, _, rfl, b, c, n, rfl, B1, n1, n8, fun H2 t p ht k2 B2 => ?_⟩
      refine ⟨(by show 2 ≤ sizeLine; decide), fun u hu => ?_⟩
      have s3 := same_upd (o := HO.tup [V.str "in", .ref t]) hu
      exact h _ (.ref u) (.lot p) ⟨u, t, rfl, upd_same, s3 _ _ ht⟩ trivial ((k1.trans k2).trans (kc_same s3)) (B2.same s3)
    refine ⟨_, rfl, rfl, _, rfl, ?_⟩
    refine ite2 (fun _ => ?_) (fun _ => ?_)
    · refine ⟨_, rfl, (by show 5 ≤ sizeLine; decide), fun l hl => ?_⟩
      have s2 := same_upd (o := HO.lst [V.int 1, V.int 2, V.int 3, V.int 4, V.int 8]) hl
      refine ⟨b, c, l, _, rfl, B1.same s2, upd_same, (B1.new hl).1, by decide, by decide, fun H3 v k3 B3 hv => ?_⟩
      obtain ⟨m, rfl, m1, m8⟩ : ∃ m : Nat, v = vI m ∧ 1 ≤ m ∧ m ≤ 8 := by
        simp only [List.mem_cons, List.not_mem_nil, or_false] at hv
        rcases hv with e | e | e | e | e <;> subst e
        · exact ⟨1, rfl, by decide, by decide⟩
        · exact ⟨2, rfl, by decide, by decide⟩
        · exact ⟨3, rfl, by decide, by decide⟩
        · exact ⟨4, rfl, by decide, by decide⟩
        · exact ⟨8, rfl, by decide, by decide⟩
      have k13 := (k1.trans (kc_same s2)).trans k3
      refine ⟨_, rfl, (n : Int), rfl, by omega, by omega, fun D hD => ?_⟩
      refine lc_relK (walk_range (lo := 0) (n := ((n : Nat) : Int).toNat)) (fun _ v _ => ∃ s : Nat, v = vI s) (by omega) B3 hD (fun _ _ _ _ h _ => h) (fun _ _ _ => trivial) ?_ ?_
      · rintro i x H4 H5 Nx hi k4 B4 ⟨rfl, rfl⟩ kk
        refine ⟨rfl, _, rfl, _, rfl, b, c, _, rfl, B4, by omega, by omega, fun H6 j k6 B6 j0 j1 => ?_⟩
        exact kk _ _ ⟨j.toNat, by show V.int j = V.int _; congr 1; omega⟩ k6 B6
      · intro H4 ys h4 ly hy k4 B4 Dc
        rw [Int.toNat_natCast] at ly
        obtain ⟨ss, l5, h5⟩ := beside (R := fun _ v (s : Nat) => v = vI s) ys 0 fun k y e => hy k y e
        have ey : ys = ss.map vI := ys_of l5 h5
        have ls : ss.length = n := by omega
        subst ey
        have k14 := k13.trans k4
        refine ⟨_, rfl, D, ss.map nI, rfl, SqL.of (by rw [← vI_map]; exact h4), by rw [List.length_map]; omega, fun d cc hd hcc _ => ?_⟩
        have s5 := same_upd (o := SetO w d (fun j => decide (j ∈ ss.map nI)) cc) hd
        rw [List.length_map] at hcc
        refine ⟨d, _, cc, rfl, upd_same, by omega, fun zs q r1 r2 r3 hq => ?_⟩
        have s6 := same_upd (o := HO.lst (zs.map V.int)) hq
        have hq6 : (L2.upd (L2.upd H4 d (SetO w d (fun j => decide (j ∈ ss.map nI)) cc)) q (.lst (zs.map V.int))) q = some (.lst (zs.map V.int)) := upd_same
        have s46 := s5.trans s6
        generalize L2.upd (L2.upd H4 d (SetO w d (fun j => decide (j ∈ ss.map nI)) cc)) q (.lst (zs.map V.int)) = H6 at s46 hq6
        clear s5 s6
        have h6 := s46 _ _ h4
        have mz : ∀ z, z ∈ zs ↔ z ∈ ss.map nI := fun z => (r2 z).trans decide_eq_true_iff
        have nz : zs.Nodup := r1.imp fun z => Int.ne_of_lt z
        refine ⟨q, rfl, ⟨_, SqL.of hq6⟩, fun D2 hD2 => ?_⟩
        have B6 := B4.same s46
        have D2c := (B6.new hD2).1
        refine lc_rel (walk_list (K := K) (a := q) (xs := zs.map V.int)) (fun k v H' => ∃ t : Addr, v = .ref t ∧ ∀ z, zs[k]? = some z → H' t = some (.tup ((lotP n (signP ss z)).map vI))) (by rw [List.length_map]; omega) hD2 (fun k v Ha Hb ⟨t, e, h'⟩ tk => ⟨t, e, fun z ez => tk _ _ (h' z ez)⟩) (fun H7 s7 => SqL.of (s7 _ _ hq6)) ?_ ?_
        · rintro i x H7 H8 Nx hi s7 ⟨rfl, hx⟩ kk
          obtain ⟨z, hz, rfl⟩ := get_mapV hx
          refine ⟨rfl, _, rfl, (n : Int), rfl, by omega, by omega, fun D3 hD3 => ?_⟩
          refine lc_filt (walk_range (lo := 0) (n := ((n : Nat) : Int).toNat)) (List.range n) (fun b => decide (nI (ss.getD b 0) = z)) (by simp) (by omega) hD3 (fun _ _ => trivial) ?_ ?_
          · rintro j b' y Ha Hb N1 N0 hb' sa ⟨rfl, rfl⟩ k1' k0'
            obtain ⟨bn, rfl⟩ : j < n ∧ b' = j := by
              obtain ⟨z1, z2⟩ := List.getElem?_eq_some_iff.mp hb'
              rw [List.getElem_range] at z2
              rw [List.length_range] at z1
              exact ⟨z1, z2.symm⟩
            have hs : ss[b']? = some (ss.getD b' 0) := by
              rw [List.getD_eq_getElem?_getD, List.getElem?_eq_getElem (by omega)]
              rfl
            refine ⟨rfl, _, rfl, _, rfl, D, _, _, _, rfl, rfl, SqL.of (sa _ _ (s7 _ _ h6)), at0 (get_map hs), ?_⟩
            refine ⟨_, rfl, rfl, _, rfl, ?_⟩
            have eb : decide (vI (ss.getD b' 0) = V.int z) = decide (nI (ss.getD b' 0) = z) := by
              rw [decide_eq_decide]
              exact ⟨fun e => V.int.inj e, fun e => by rw [← e]; rfl⟩
            show if decide (vI (ss.getD b' 0) = V.int z) = true then _ else _
            rw [eb]
            refine ite2 (fun z' => ⟨_, rfl, ?_⟩) (fun z' => k0' _ (by simpa using z') fun _ _ e => e)
            have := k1' _ z' fun _ _ e => e
            show N1 (V.int (0 + ((b' : Nat) : Int))) _
            rw [Int.zero_add]
            exact this
          · intro Ha ha sa
            refine ⟨D3, _, rfl, .inl ⟨SqL.of ha, fun t ht => ?_⟩⟩
            refine kk _ _ ⟨t, rfl, fun z' ez => ?_⟩ (sa.trans (same_upd ht))
            rw [hz] at ez
            cases ez
            rw [upd_same, filter_lot (p := signP ss z) (range_sorted n) fun b => by
              rw [List.mem_range, decide_eq_true_iff]
              rfl]
        · intro H7 ys2 h7 ly2 hy2 s7
          rw [List.length_map] at ly2
          obtain ⟨ts, lt, ht⟩ := beside (R := fun k v (t : Addr) => v = .ref t ∧ ∀ z, zs[k]? = some z → H7 t = some (.tup ((lotP n (signP ss z)).map vI))) ys2 0 fun k y e => by
            rw [Nat.zero_add]
            exact hy2 k y e
          have e2 : ys2 = (ts.zip zs).map fun q => V.ref q.1 := by
            refine ys_of (by rw [List.length_zip]; omega) fun k y a e1 e2 => ?_
            obtain ⟨z1, z2⟩ := List.getElem?_zip_eq_some.mp e2
            exact (ht k y a.1 e1 z1).1
          have hz : ∀ q ∈ ts.zip zs, H7 q.1 = some (.tup ((lotP n (signP ss q.2)).map vI)) := fun q hq => by
            obtain ⟨k, hk, e⟩ := List.getElem_of_mem hq
            have ek : (ts.zip zs)[k]? = some q := by rw [List.getElem?_eq_getElem hk, e]
            obtain ⟨z1, z2⟩ := List.getElem?_zip_eq_some.mp ek
            have yk : ys2[k]? = some (ys2[k]'(by rw [List.length_zip] at hk; omega)) := List.getElem?_eq_getElem _
            exact (ht k _ q.1 yk z1).2 q.2 (by rw [Nat.zero_add]; exact z2)
          subst e2
          have B7 := B6.same s7
          have lzs : zs.length ≤ n := by omega
          refine ⟨_, rfl, _, rfl, b, c, D2, _, rfl, B7, h7, D2c, by rw [List.length_map, List.length_zip]; omega, fun H8 p ys' pm hp pc k8 B8 => ?_⟩
          obtain ⟨qs, rfl, pq⟩ := perm_map pm
          have mq : (qs.map (·.2)).Perm zs := by
            have := pq.map (·.2)
            rwa [show (ts.zip zs).map (·.2) = zs from List.map_snd_zip (by omega)] at this
          refine ⟨p, _, rfl, .inl ⟨SqL.of hp, fun u hu => ?_⟩⟩
          have s9 := same_upd (o := HO.tup (qs.map fun q => V.ref q.1)) hu
          have hu9 : (L2.upd H8 u (.tup (qs.map fun q => V.ref q.1))) u = some (.tup (qs.map fun q => V.ref q.1)) := upd_same
          generalize L2.upd H8 u (.tup (qs.map fun q => V.ref q.1)) = H9 at s9 hu9
          refine ⟨(by show 2 ≤ sizeLine; decide), fun t ht2 => ?_⟩
          have s10 := same_upd (o := HO.tup [V.str "parts", .ref u]) ht2
          have tks : TK H7 (L2.upd H9 t (.tup [V.str "parts", .ref u])) := (k8.tk B7.lst).trans (tk_same (s9.trans s10))
          refine h _ (.ref t) (.parts ((qs.map (·.2)).map (signP ss))) ⟨t, u, qs.map (·.1), rfl, upd_same, s10 _ _ (by rw [hu9, List.map_map]; rfl), by simp, fun k a p' e1 e2 => ?_⟩ (parts_ok ls (mq.nodup_iff.mpr nz) (fun z => mq.mem_iff.trans (mz z)) (by rw [mq.length_eq]; exact lzs))
            (((k14.trans (kc_same (s46.trans s7))).trans k8).trans (kc_same (s9.trans s10))) (B8.same (s9.trans s10))
          rw [List.getElem?_map] at e1
          rw [List.getElem?_map, List.getElem?_map] at e2
          cases e : qs[k]? with
          | none => rw [e] at e1; cases e1
          | some q' =>
            rw [e] at e1 e2
            cases e1
            cases e2
            exact tks _ _ (hz q' (pq.mem_iff.mp (List.mem_of_getElem? e)))
    · refine ⟨_, rfl, _, rfl, b, c, _, rfl, B1, by omega, by omega, fun H2 x k2 B2 x0 x1 => ?_⟩
      refine ⟨_, rfl, (by show 8 ≤ sizeLine; decide), fun l hl => ?_⟩
      have s3 := same_upd (o := HO.lst [V.int 0, V.int 1, V.int 2, V.int 7, V.int 3, V.int 4, V.int 5, V.int 6]) hl
      refine ⟨b, c, l, _, rfl, B2.same s3, upd_same, (B2.new hl).1, by decide, by decide, fun H4 v k4 B4 hv => ?_⟩
      obtain ⟨m, rfl, m7⟩ := menu_small hv (by decide)
      refine ⟨(by show 3 ≤ sizeLine; decide), fun t ht => ?_⟩
      have s5 := same_upd (o := HO.tup [V.str "near", .int x, vI m]) ht
      obtain ⟨d, rfl⟩ : ∃ d : Nat, x = (d : Nat) := ⟨x.toNat, by omega⟩
      exact h _ (.ref t) (.near d m) ⟨t, rfl, upd_same⟩ ⟨by omega, m7⟩ ((((k1.trans k2).trans (kc_same s3)).trans k4).trans (kc_same s5)) (B4.same s5)
end
end RL
namespace RL
open PySem PySem.Spec PyProof.Rows L2 RLM
theorem LookAt.tk {n : Nat} {H H' : Hp} {v : V} (k : TK H H') : ∀ {L : Look}, LookAt n H v L → LookAt n H' v L
  | .lot _, ⟨t, u, e, h1, h2⟩ => ⟨t, u, e, k _ _ h1, k _ _ h2⟩
  | .parts _, ⟨t, u, us, e, h1, h2, l, h3⟩ => ⟨t, u, us, e, k _ _ h1, k _ _ h2, l, fun i a p e1 e2 => k _ _ (h3 i a p e1 e2)⟩
  | .near _ _, ⟨t, e, h1⟩ => ⟨t, e, k _ _ h1⟩
theorem TripAt.tk {n : Nat} {H H' : Hp} {q : Addr × V × Triple} (k : TK H H') (h : TripAt n H q) : TripAt n H' q := ⟨k _ _ h.1, h.2.1.tk k, h.2.2⟩
theorem StoryAt.tk {n : Nat} {H H' : Hp} {a : Addr} {p : Nat → Prop} {PS : List (Addr × List Nat)} {SN : List (Addr × V × Triple)} (k : TK H H') (h : StoryAt n H a p PS SN) : StoryAt n H' a p PS SN := by
  obtain ⟨tl, tp, ts, h1, h2, h3, h4⟩ := h.ex
  exact ⟨⟨tl, tp, ts, k _ _ h1, k _ _ h2, k _ _ h3, k _ _ h4⟩, fun q hq => ⟨k _ _ (h.pc q hq).1, (h.pc q hq).2⟩, fun q hq => ⟨(h.sn q hq).1.tk k, (h.sn q hq).2⟩, h.lp, h.ls⟩
theorem kc_lst {c a : Addr} {H H' : Hp} {xs : List V} (k : Kc c H H') (n : a ≠ c) (h : H a = some (.lst xs)) : H' a = some (.lst xs) := k _ _ n (fun _ z => by cases z) h
section
variable {P : Program} {w : World} {K : PySem.W.Frag} {mg : Str → Option Value} {base : Heap}
def spSeen : Sp := fun vs H Q _ => ∃ (b c t l D wk : Addr) (n m : Nat) (rs : List Addr) (M : Nat → Nat → Nat) (ws : List Nat), vs = [.ref b, .ref t, .ref D, .ref wk, vI m] ∧ Box b c H ∧ H t = some (.tup [vI n, .ref l]) ∧ 1 ≤ n ∧ n ≤ 8 ∧ TabAt c H D n rs M ∧ H wk = some (.lst (ws.map vI)) ∧ wk ≠ c ∧ 1 ≤ ws.length ∧ ws.length ≤ 13 ∧ (∀ a ∈ ws, a < n) ∧ m ≤ 24 ∧
  ∀ (H' : Hp) (ts : Addr) (SN : List (Addr × V × Triple)), H' ts = some (.tup (SN.map fun q => V.ref q.1)) → (∀ q ∈ SN, TripAt n H' q ∧ q.2.2.beat < ws.length) → SN.length ≤ m → Kc c H H' → Box b c H' → Q (.ref ts) H'
end
end RL
/-! lambdas that are kept: their function objects tracked, a parameter with its default -/
namespace RLX
open PySem PySem.Spec PyProof.Rows L2 L2H HotX LamX
/-- captured names, globals, and parameters that the def's own names are not -/
structure LamP (N : List Str) (sc scope : Scope) : Prop where
  kind : scope.kind = .function
  co : scope.isCoroutine = false
  gen : scope.isGenerator = false
  noc : ∀ y ∈ scope.names, y.2 ≠ .cell
  par : ∀ y ∈ scope.names, y.2 = .local → y.1 ∉ N
  free : ∀ y ∈ scope.names, y.2 = .free → sc.names.lookup y.1 = some .cell ∨ sc.names.lookup y.1 = some .free
def lamPB (N : List Str) (sc scope : Scope) : Bool := decide (scope.kind = .function) && (!scope.isCoroutine && (!scope.isGenerator && (scope.names.all fun y => !decide (y.2 = .cell) && ((!decide (y.2 = .local) || !N.contains y.1) && (!decide (y.2 = .free) || (decide (sc.names.lookup y.1 = some .cell) || decide (sc.names.lookup y.1 = some .free)))))))
theorem lamP_by {N : List Str} {sc scope : Scope} (h : lamPB N sc scope = true) : LamP N sc scope := by
  unfold lamPB at h
  simp only [Bool.and_eq_true, Bool.or_eq_true, Bool.not_eq_true', decide_eq_true_eq, decide_eq_false_iff_not, List.all_eq_true] at h
  obtain ⟨h1, h2, h3, h4⟩ := h
  refine ⟨h1, h2, h3, fun y hy => (h4 y hy).1, fun y hy e => ?_, fun y hy e => ?_⟩
  · rcases (h4 y hy).2.1 with z | z
    · exact absurd e z
    · exact fun m => by rw [List.contains_iff_mem.mpr m] at z; cases z
  · rcases (h4 y hy).2.2 with z | z
    · exact absurd e z
    · exact z
section
variable {X : Cx} {pins : List (Addr × Obj)} {σ : L2.St} {H HZ : Hp} {s s1 : Shared} {ex : List Addr}
/-- the lambda's body begins, where the def's own state was known ahead -/
theorem lam_start3 {A : Around} {outer : List Env} {E : XK} {scope : Scope} {f c' : Addr} {h1 : Heap} {tk : Nat} {m1 : Str → Option Value} (I : Inv X pins σ H s) (L : LamP X.N X.env.scope scope) (e0 : Env0 X.prog X.w X.K X.mg X.base A outer s1 HZ) (hd : A.handled = none)
    (un : Un (frs X.stack) ex H HZ s.heap s1.heap) (hx : ∀ x c, X.env.cells.lookup x = some c → c ∉ ex) (hns : h1.Ns s1.heap.objs.size m1) (kp : ∀ b o, s1.heap.get? b = some o → h1.get? b = some o) :
    Inv (lamCx X A outer s1 HZ E scope f c') [] σ HZ { s1 with heap := h1, toks := tk } := by
  -- a captured name's cell is the def's own
  have hf : ∀ z ∈ scope.names, z.2 = .free → ∃ c, X.env.cells.lookup z.1 = some c := fun z hz e => (L.free z hz e).elim (fun k => I.ok.has _ (.inl k)) fun k => I.ok.has _ (.inr k)
  have own : ∀ {z c}, (cloFrom X.env.cells scope.names []).lookup z = some c → X.env.cells.lookup z = some c := fun {z c} e => by
    rcases cloFrom_mem (PySem.mem_of_lookup e) with k | ⟨k1, k2⟩
    · exact nomatch k
    · obtain ⟨c1, hc⟩ := hf _ k1 rfl
      have hc : X.env.cells.lookup z = some c1 := hc
      rw [k2, hc]
      rfl
  have got : ∀ {z}, scope.names.lookup z = some .free → ∃ c, (cloFrom X.env.cells scope.names []).lookup z = some c := fun {z} k => mem_lookup (cloFrom_has (cells := X.env.cells) (acc := []) (PySem.mem_of_lookup k))
  have stays : ∀ {x : Str} {c : Addr} {v : Option Value}, X.env.cells.lookup x = some c → s.heap.IsCell c v → h1.IsCell c v := fun {x c v} e ⟨o, ho, hd⟩ => by
    obtain ⟨sl, q⟩ := un.any ho (I.freeC x c e) (hx x c e)
    exact ⟨_, kp _ _ q, hd⟩
  have nx : ∀ b : Addr, b ∉ (lamCx X A outer s1 HZ E scope f c').ex := fun b z => nomatch (show b ∈ ([] : List Addr) from z)
  refine ⟨?_, rfl, e0.bare, Un.kept kp, ⟨m1, hns, fun i y v e1 e2 e3 => ?_⟩, fun y c e => ?_, e0.hok.fresh (Nat.le_refl _), fun y c e => ?_, fun q hq => absurd (show q ∈ ([] : List (Addr × Obj)) from hq) List.not_mem_nil, e0.hok.kept kp, I.len⟩
  · exact { mod := e0.mod, kind := L.kind, glob := rfl, blt := rfl, above := Nat.le_refl _, inj := fun y z c a b => I.ok.inj y z c (own a) (own b)
            has := fun y hy => by
              have hy : scope.names.lookup y = some .cell ∨ scope.names.lookup y = some .free := hy
              rcases hy with k | k
              · exact absurd rfl (L.noc _ (PySem.mem_of_lookup k))
              · exact got k
            cab := fun y c z _ => absurd (show false = true from z) (by decide)
            hd := fun _ => hd, frames := Around.frames_deeper e0.frames, stk := .inr ⟨rfl, rfl⟩, exf := fun b z => absurd z (nx b), bs := e0.bs, bsz := e0.bsz, noex := fun b _ _ => nx b, exfs := fun b z => absurd z (nx b), funs := e0.funs, frf := e0.frf }
  · have e3 : Vis scope y := e3
    rcases e3 with k | k | k
    · exact absurd (List.mem_of_getElem? e1) (L.par _ (PySem.mem_of_lookup k) rfl)
    · exact absurd rfl (L.noc _ (PySem.mem_of_lookup k))
    · obtain ⟨m, hn, hl⟩ := I.loc
      have cap := L.free _ (PySem.mem_of_lookup k) rfl
      obtain ⟨w', r, q⟩ := hl i y v e1 e2 (cap.elim (fun k => .inr (.inl k)) fun k => .inr (.inr k))
      obtain ⟨c2, h2⟩ := got k
      refine ⟨w', r, .inr ⟨.inr k, c2, h2, ?_⟩⟩
      rcases q with ⟨k', _⟩ | ⟨_, c3, e', z⟩
      · have k' : X.env.scope.names.lookup y = some .local := k'
        rcases cap with k2 | k2 <;> rw [show X.env.scope.names.lookup y = _ from k2] at k' <;> cases k'
      · rw [own h2] at e'
        cases e'
        exact stays (own h2) z
  · obtain ⟨w', z⟩ := I.cell y c (own e)
    exact ⟨w', stays (own e) z⟩
  · obtain ⟨v, o, ho, _⟩ := I.cell y c (own e)
    exact un.free c o ho (I.freeC y c (own e)) (hx y c (own e))
/-- what is tracked of a lambda's function object -/
abbrev LamO (q : Str) (params : Arguments) (body : Expr) (scope : Scope) (cl : List (Str × Addr)) (dV doc pm : Value) (c' : Addr) (ctv : Value) : HO := .frz (PySem.W.kdv_obj "<lambda>" q params (.expr body) scope cl dV doc pm c' ctv) (.ext fun _ => True)
theorem tabs_more {T : List (Addr × Str)} {P c' : Addr} {q : Str} {ps : Array Value} {pos : Pos} {G : Hp} (hT : Tabs T H) (hP : H P = some (.tbl ps)) (ht : TriplesOk ps.toList) (ha : ∀ (p : Pos) (cv : Value), codeAmong p ps.toList = some cv → ∃ c, cv = .ref c ∧ H c = some (CodeO c q)) (hu : ∀ p ∈ T, p.1 = P → p.2 = q)
    (e : ExtN H G) (gP : G P = some (.tbl (ps ++ #[rawInt pos.line, rawInt pos.col, .ref c']))) (gc : G c' = some (CodeO c' q)) (rest : ∀ b ps', b ≠ P → H b = some (.tbl ps') → G b = some (.tbl ps')) : Tabs T G := fun p hp => by
  have eL : (ps ++ #[rawInt pos.line, rawInt pos.col, .ref c']).toList = ps.toList ++ [rawInt pos.line, rawInt pos.col, .ref c'] := by simp
  by_cases at_ : p.1 = P
  · rw [hu p hp at_, at_]
    refine ⟨_, gP, ?_, fun p' cv k => ?_⟩
    · rw [eL]
      exact PySem.TriplesOk_snoc _ _ _ _ ht
    · rw [eL] at k
      rcases among_app _ ht k with z | z
      · obtain ⟨c0, e1, e2⟩ := ha p' cv z
        exact ⟨c0, e1, e _ _ e2 codeO_ne⟩
      · exact ⟨c', z, gc⟩
  · obtain ⟨ps', a1, a2, a3⟩ := hT p hp
    refine ⟨ps', rest _ _ at_ a1, a2, fun p' cv k => ?_⟩
    obtain ⟨c0, e1, e2⟩ := a3 p' cv k
    exact ⟨c0, e1, e _ _ e2 codeO_ne⟩
/-- a lambda is made, its function object tracked -/
theorem lam_make3 {T : List (Addr × Str)} {c P : Addr} {params : Arguments} {body : Expr} {scope : Scope} {pos : Pos} {dV : Value} {E : Value → Shared → Prop} {Q : Value → Shared → Prop} (I : Inv X pins σ H s) (TB : TabB X.base X.mg c P) (hcode : X.env.code = .ref c)
    (hm : (P, X.env.qual ++ "<lambda>") ∈ T) (hu : ∀ p ∈ T, p.1 = P → p.2 = X.env.qual ++ "<lambda>") (hT : Tabs T H) (hfree : ∀ y ∈ scope.names, y.2 = .free → ∃ c, X.env.cells.lookup y.1 = some c)
    (h : ∀ (f c' : Addr) (doc pm ctv : Value) (G : Hp) (s' : Shared), Inv X pins σ G s' → ExtN H G → Tabs T G → G f = some (LamO (X.env.qual ++ "<lambda>") params body scope (cloFrom X.env.cells scope.names []) dV doc pm c' ctv) → G c' = some (CodeO c' (X.env.qual ++ "<lambda>")) → Q (.ref f) s') :
    wpAny (model X.prog X.w) X.A (PySem.makeTail "<lambda>" (X.env.qual ++ "<lambda>") params (.expr body) scope X.env dV .none none pos pos.line) Q E s := by
  obtain ⟨ps, hP, ht, ha⟩ := hT _ hm
  have oP : s.heap.get? P = some { cls := .none, data := .fields ps } := I.hok P _ hP
  have fin : ∀ {G : Hp} {s2 : Shared} {doc pm ctv : Value} {c' : Addr}, Inv X pins σ G s2 → ExtN H G → Tabs T G → G c' = some (CodeO c' (X.env.qual ++ "<lambda>")) → Q (.ref s2.heap.objs.size) { s2 with heap := s2.heap.push (PySem.W.kdv_obj "<lambda>" (X.env.qual ++ "<lambda>") params (.expr body) scope (cloFrom X.env.cells scope.names []) dV doc pm c' ctv) } := fun {G s2 doc pm ctv c'} I2 e2 T2 hc => by
    have nf := I2.hok.fresh (Nat.le_refl _)
    have up : ∀ b o, G b = some o → upd G s2.heap.objs.size (LamO (X.env.qual ++ "<lambda>") params body scope (cloFrom X.env.cells scope.names []) dV doc pm c' ctv) b = some o := fun b o e => by
      rw [upd_ne (ne_of_none e nf)]
      exact e
    exact h _ c' doc pm ctv _ _ (I2.laid (t' := s2.toks) (o := LamO (X.env.qual ++ "<lambda>") params body scope (cloFrom X.env.cells scope.names []) dV doc pm c' ctv) (fun b o e => Heap.get?_push_of_some _ e) (Nat.le_refl _) ⟨Heap.get?_push_size _ rfl, True.intro, ⟨_, Heap.get?_push_size _ rfl⟩, fun _ _ _ _ => True.intro⟩) (e2.trans (ExtN.of up)) (T2.ext up) upd_same (up _ _ hc)
  cases hc : codeAmong pos ps.toList with
  | none =>
    refine PySem.W.kdv_makeTail (mg := X.mg) (c := c) (P := P) (ps := ps) (closure_ok hfree) I.ok.glob (I.mod.glob.keeps I.bk) hcode (TB.code.keeps I.bk) oP ht hc TB.gP (TB.bm.keeps I.bk) fun c' ctv doc h' tk hx hge hlt hrec htb => ?_
    obtain ⟨c2, oc, vs, t, e2, o1, o2, o3⟩ := hrec
    cases e2
    have nC : H c' = none := I.hok.fresh hge
    have nPc : P ≠ c' := ne_of_none hP nC
    have I1 := inv_table (t' := tk) (more := #[rawInt pos.line, rawInt pos.col, .ref c']) (h' := h') I hP (fun b o hb e => hx b o hb e) htb hge ⟨oc, vs, t, o1, o2, o3⟩
    have kept : ∀ b o, b ≠ P → H b = some o → upd (upd H P (.tbl (ps ++ #[rawInt pos.line, rawInt pos.col, .ref c']))) c' (CodeO c' (X.env.qual ++ "<lambda>")) b = some o := fun b o hb e => by
      rw [upd_ne (ne_of_none e nC), upd_ne hb]
      exact e
    have eN : ExtN H (upd (upd H P (.tbl (ps ++ #[rawInt pos.line, rawInt pos.col, .ref c']))) c' (CodeO c' (X.env.qual ++ "<lambda>"))) := fun b o e n => kept b o (fun z => by
      rw [z, hP] at e
      exact n ps (Option.some.inj e).symm) e
    exact fin (s2 := { s with heap := h', toks := tk }) I1 eN (tabs_more hT hP ht ha hu eN (by rw [upd_ne nPc, upd_same]) upd_same fun b ps' hb e => kept b _ hb e) upd_same
  | some cv =>
    obtain ⟨c', rfl, hco⟩ := ha pos cv hc
    refine PySem.W.kdv_makeTailHit (mg := X.mg) (c := c) (P := P) (ps := ps) (closure_ok hfree) I.ok.glob (I.mod.glob.keeps I.bk) hcode (TB.code.keeps I.bk) oP ht hc (TB.bm.keeps I.bk) fun ctv doc h' tk hx hsz => ?_
    exact fin (s2 := { s with heap := h', toks := tk }) (I.kept (t' := tk) hx) (ExtN.refl H) hT hco
end
end RLX
namespace RLX
open PySem PySem.Spec PyProof.Rows L2
section
variable {X : Cx}
/-- the turns of a comprehension's block -/
theorem blk_loop {u : Shared} {G H : Hp} {scope : Scope} {ce : Env} {fp : List Addr} {elt iter : Expr} {y : Str} {py pos : Pos} {it D : Addr} {J : It} {tn : Nat → Heap → Prop} {σ0 : L2.St} {vs : List Nat} {g : TG} {te : TE} {R : Result → Shared → Prop} {Qd : Hp → Prop} {W : Nat → Nat → Hp → Prop} {i0 m0 : Nat} {s : Shared} (hc : X.calm = true)
    (T : Turn X.prog X.w X.K (.Name y py) J fp it tn) (pg : PG (X.blk u G scope ce fp) (.Name y py) g) (pe : PE (X.blk u G scope ce fp) elt te)
    (turn : ∀ i m H, W i m H → (J.stop i H ∧ Qd H) ∨ (J.go i H ∧ ∃ Nx : Hp → Prop, (∀ H', Nx H' → ∃ m', m' < m ∧ W (i + 1) m' H') ∧ ∀ x H', J.yld i H x H' → g x σ0 H' fun σ2 H2 => wipe σ2 vs = σ0 ∧ tYes σ2 H2 fun b H3 =>
      if b = true then te σ2 H3 fun yv H4 => ∃ acc, H4 D = some (.lst acc) ∧ acc.length < sizeLine ∧ Nx (upd H4 D (.lst (acc ++ [yv]))) else Nx H3))
    (hend : ∀ H' s', Inv (X.blk u G scope ce fp) [] σ0 H' s' → Qd H' → R (.ok .next) s')
    (I : Inv (X.blk u G scope ce fp) [] σ0 H s) (st : tn i0 s.heap) (nf : ∀ b ∈ fp, H b = none) (w : W i0 m0 H) :
    codeAny (model X.prog X.w) X.A (.compLoop (.ListComp elt [⟨.Name y py, iter, [], 0⟩] scope pos) 0 (.ref it) (.ref D) ce) R s := by
  have free : ∀ {σ' : L2.St} {K' : Hp} {s' : Shared}, Inv (X.blk u G scope ce fp) [] σ' K' s' → (∀ b ∈ fp, K' b = none) → ∀ b ∈ fp, FpOk (X.blk u G scope ce fp) [] K' b := fun {σ' K' s'} I' hn b hb => by
    have ex := I'.ok.exf b hb
    exact ⟨hn b hb, ex.1, I'.ok.exfs b hb, .inl hb, fun x c e => ex.2 x c e, fun p hp => nomatch (show p ∈ ([] : List (Addr × Obj)) from hp)⟩
  refine compLoop_any (fun n s' => ∃ i K', Inv (X.blk u G scope ce fp) [] σ0 K' s' ∧ tn i s'.heap ∧ (∀ b ∈ fp, K' b = none) ∧ W i n K') (fun n a ha => ?_) m0 ⟨i0, H, I, st, nf, w⟩
  obtain ⟨i, K1, I1, st1, nf1, w1⟩ := ha
  rcases turn i n K1 w1 with ⟨stop, qd⟩ | ⟨go, Nx, hNx, step⟩
  · refine thnF (T.done (X.blk u G scope ce fp) rfl rfl rfl hc i [] a σ0 K1 (fun _ _ => False) I1 (free I1 nf1) st1 stop) fun r a2 ⟨er, I2⟩ => ?_
    subst er
    exact hend K1 a2 I2 qd
  · refine thnF (T.item (X.blk u G scope ce fp) rfl rfl rfl hc i [] a σ0 K1 (fun _ _ => False) I1 (free I1 nf1) st1 go) fun r a2 ⟨uv, er, h2⟩ => ?_
    subst er
    refine thnF h2 fun _ a3 ⟨x, K3, I3, r3, y3, st3, nf3⟩ => ?_
    have I3p := I3.pinned (free I3 nf3) (T.obj _ _ st3)
    refine thnF (pg.run _ a3 _ K3 x uv _ I3p r3 (step x K3 y3)) fun _ a4 ⟨σ4, K4, I4, e4, q4⟩ => ?_
    refine thnF ((pts_nil (X := X.blk u G scope ce fp)).run _ a4 σ4 K4 _ I4 q4) fun b a5 ⟨K5, I5, q5⟩ => ?_
    have back : ∀ {s' : Shared} {K' : Hp}, Inv (X.blk u G scope ce fp) ([] ++ pinsAt fp a3.heap) σ4 K' s' → Nx K' → ∃ m, m < n ∧ ∃ i K', Inv (X.blk u G scope ce fp) [] σ0 K' s' ∧ tn i s'.heap ∧ (∀ b ∈ fp, K' b = none) ∧ W i m K' := fun {s' K'} I' nx => by
      obtain ⟨m', lt, w'⟩ := hNx K' nx
      have pin : ∀ b ∈ fp, ∀ o, a3.heap.get? b = some o → s'.heap.get? b = some o ∧ K' b = none := fun b hb o e => by
        have z := I'.pin (b, o) (List.mem_append_right _ (List.mem_append_right _ (mem_pinsAt hb e)))
        exact ⟨z.1, z.2.1⟩
      have fr : ∀ b ∈ fp, K' b = none := fun b hb => by
        obtain ⟨o, e, _⟩ := T.obj _ _ st3 b hb
        exact (pin b hb o e).2
      have lens : σ0.length = σ4.length := by rw [← e4, wipe_length]
      exact ⟨m', lt, i + 1, K', (I'.unpinned (pins := [])).weak lens fun j v e => (wipe_some (by rw [e4]; exact e)).1, T.keep _ _ _ st3 fun b hb o e => (pin b hb o e).1, fr, w'⟩
    cases b with
    | false =>
      rw [if_neg (by decide)] at q5 ⊢
      exact back I5 q5
    | true =>
      rw [if_pos rfl] at q5 ⊢
      refine thnF (pe.run _ a5 σ4 K5 _ I5 q5) fun z a6 ⟨yv, K6, I6, r6, acc, h6, l6, nx⟩ => ?_
      exact app_ok (X := X.blk u G scope ce fp) I6 h6 l6 r6 fun a7 I7 => back I7 nx
def tLcA (wi : TI) (g : TG) (te : L2.St → TE) (vs : List Nat) : TE := fun σ H Q => tLc wi g tYes (te σ) vs σ H Q
/-- [elt for y in iter], the element read where the def's own state is known -/
theorem pe_lcA {elt iter : Expr} {y : Str} {scope : Scope} {own : List (Str × Nat)} {py pos : Pos} {wi : TI} {g : TG} {te : L2.St → TE} (hc : X.calm = true) (hN : X.N.Nodup) (hi : PI X (.Name y py) iter wi) (ok : BlkOk X.N X.env.scope scope own)
    (hg : ∀ (s : Shared) (H : Hp) (C : Addr) (cl : List (Str × Addr)) (fp : List Addr), PG (X.blk s H scope (compEnvC scope cl C X.env) fp) (.Name y py) g)
    (he : ∀ (pins : List (Addr × Obj)) (σ : L2.St) (u : Shared) (G : Hp) (C : Addr) (cl : List (Str × Addr)) (fp : List Addr), Inv X pins σ G u → (∀ b ∈ fp, FpOk X pins G b) → PE (X.blk u G scope (compEnvC scope cl C X.env) fp) elt (te σ))
    (hs : ∀ x, foldedSetIterable iter X.env x = pure x := by intro _; rfl) : PE X (.ListComp elt [⟨.Name y py, iter, [], 0⟩] scope pos) (tLcA wi g te (own.map (·.2))) := by
  refine ⟨fun pins s σ H Q I h => ?_⟩
  have free : ∀ z ∈ scope.names, z.2 = .free → ∃ c, X.env.cells.lookup z.1 = some c := fun z hz e => (ok.free z hz e).elim (fun k => I.ok.has _ (.inl k)) fun k => I.ok.has _ (.inr k)
  rw [eval_ListComp]
  refine wpAny_comprehension_free rfl hs (closure_ok free) ok.kind (fun z hz e => by rw [ok.uniq z hz, e]) ?_
  refine thn (hi.run pins s σ H _ I h) fun xv a1 ha => thn ha fun iv a2 hb => ?_
  obtain ⟨it, fp, tn, J, G, rfl, I2, T, t2, fo, q⟩ := hb
  refine wpAny_newObj_type (newEnv_comp ?_) (by show 0 ≤ sizeLine; decide)
  obtain ⟨W, ⟨m0, w0⟩, turn⟩ := q a2.heap.objs.size (I2.hok.fresh (Nat.le_refl _))
  have J3 : Inv X pins σ (upd G a2.heap.objs.size (.lst [])) { a2 with heap := a2.heap.push { cls := .type "list", data := .seq #[] } } :=
    I2.laid (t' := a2.toks) (fun b o e => Heap.get?_push_of_some _ e) (Nat.le_refl _) ⟨Nat.zero_le _, [], 0, .nil, Heap.get?_push_size _ rfl⟩
  have lt : ∀ b ∈ fp, b < a2.heap.objs.size := fun b hb => by
    obtain ⟨o, e, _⟩ := T.obj _ _ t2 b hb
    exact Heap.lt_size e
  generalize eu : ({ a2 with heap := a2.heap.push { cls := .type "list", data := .seq #[] } } : Shared) = u at J3
  have hu : u.heap = a2.heap.push { cls := .type "list", data := .seq #[] } := by rw [← eu]
  have f3 : ∀ b ∈ fp, FpOk X pins (upd G a2.heap.objs.size (.lst [])) b ∧ b < u.heap.objs.size := fun b hb => by
    have l := lt b hb
    have hs : b < u.heap.objs.size := by
      rw [hu, Heap.size_push]
      exact Nat.lt_succ_of_lt l
    have z := fo b hb
    refine ⟨⟨?_, z.2⟩, hs⟩
    rw [upd_ne (Nat.ne_of_lt l)]
    exact z.1
  have B := block_start J3 ok hN f3
  have t3 : tn 0 (pushCells (u.heap.push { cls := .type "dict", data := .dict #[] }) scope.names) := T.keep _ _ _ t2 fun b hb o e => pushCells_keeps _ _ _ _ (Heap.get?_push_of_some _ (by rw [hu]; exact Heap.get?_push_of_some _ e))
  show codeAny (model X.prog X.w) X.A (.compStart (.ListComp elt [⟨.Name y py, iter, [], 0⟩] scope pos) 0 (.ref it) (.ref a2.heap.objs.size) (compEnvC scope (cellsFrom (u.heap.objs.size + 1) scope.names (cloFrom X.env.cells scope.names [])) u.heap.objs.size X.env)) (compPost (model X.prog X.w) X.A X.xe none (EP X pins σ Q) (.ref a2.heap.objs.size) u.heap.objs.size) { u with heap := pushCells (u.heap.push { cls := .type "dict", data := .dict #[] }) scope.names }
  have L := blk_loop (X := X) (elt := elt) (iter := iter) (pos := pos) (it := it) (D := a2.heap.objs.size) (R := compPost (model X.prog X.w) X.A X.xe none (EP X pins σ Q) (.ref a2.heap.objs.size) u.heap.objs.size) hc T (hg u _ u.heap.objs.size _ fp) (he pins σ u _ u.heap.objs.size _ fp J3 fun b hb => (f3 b hb).1) turn (fun K' s' I' qd => ?_) B t3 (fun b hb => (f3 b hb).1.1) w0
  · exact codeAny_compStart_list L (T.self X.A 0 _ _ _ t3 L)
  · have Ib : Inv X pins σ K' s' := J3.call' (ch := fp) I'.os I'.base I'.hok I'.bare fun b hb => ⟨(f3 b hb).1.2.2.2.1, (f3 b hb).1.2.1, (f3 b hb).1.2.2.2.2.1, (f3 b hb).1.2.2.2.2.2⟩
    have nC : K' u.heap.objs.size = none := I'.free
    obtain ⟨m, hn, _⟩ := I'.loc
    obtain ⟨f0, f1, f2, f3, f4, f5⟩ := J3.fpOk (Nat.le_refl _) nC
    exact ⟨m, hn, fun h'' sb => ⟨.ref a2.heap.objs.size, K', Ib.turned (t' := s'.toks) (fun b o hb e => (sb.2 b hb).trans e) f0 f1 f3 f4 f5, rfl, qd⟩⟩
end
end RLX
/-! lambdas kept in names and lists, asked later -/
namespace RLX
open PySem PySem.Spec PyProof.Rows L2 L2H HotX LamX
/-- the tuples of G stand in H -/
abbrev Tups (G H : Hp) : Prop := ∀ (T : Addr) (xs : List V), G T = some (.tup xs) → H T = some (.tup xs)
/-- at f stands a lambda of the def's; when it is called, t is asked -/
structure Ask (X : Cx) (kb : Nat) (G : Hp) (f c' : Addr) (t : XK → TE) : Prop where
  ex : ∃ (params : Arguments) (body : Expr) (scope : Scope) (dV doc pm ctv : Value), G f = some (LamO (X.env.qual ++ "<lambda>") params body scope (cloFrom X.env.cells scope.names []) dV doc pm c' ctv) ∧ G c' = some (CodeO c' (X.env.qual ++ "<lambda>")) ∧ LamP X.N X.env.scope scope ∧
    (∀ (s1 : Shared) (H1 : Hp), HOk X.prog X.w H1 s1.heap → Tups G H1 → ∃ binds, BindsTo s1 (PySem.W.kdv_fn "<lambda>" (X.env.qual ++ "<lambda>") params (.expr body) scope (cloFrom X.env.cells scope.names []) dV doc pm (.ref c') ctv) ⟨[], []⟩ binds ∧ ∀ y ∈ binds, scope.names.lookup y.1 = some .local) ∧
    ∀ (A : Around) (outer : List Env) (s : Shared) (H : Hp) (E : XK), Room kb (A.deeper (lamEnv X scope s.heap.objs.size f c')) → PE (lamX X A outer s H E scope f c') body (t E)
/-- what such a lambda leans on -/
def Rests (G G' : Hp) : Prop := ∀ (b : Addr) (o : HO), G b = some o → ((∃ ob u, o = .frz ob u) ∨ (∃ φ, o = .ext φ) ∨ ∃ xs, o = .tup xs) → G' b = some o
theorem Ask.on {X : Cx} {kb : Nat} {G G' : Hp} {f c' : Addr} {t : XK → TE} (a : Ask X kb G f c' t) (r : Rests G G') : Ask X kb G' f c' t := by
  obtain ⟨params, body, scope, dV, doc, pm, ctv, h1, h2, h3, h4, h5⟩ := a.ex
  exact ⟨params, body, scope, dV, doc, pm, ctv, r _ _ h1 (.inl ⟨_, _, rfl⟩), r _ _ h2 (.inr (.inl ⟨_, rfl⟩)), h3, fun s1 H1 ok u => h4 s1 H1 ok fun T xs e => u T xs (r _ _ e (.inr (.inr ⟨_, rfl⟩))), h5⟩
theorem Ask.code {X : Cx} {kb : Nat} {G : Hp} {f c' : Addr} {t : XK → TE} (a : Ask X kb G f c' t) : G c' = some (CodeO c' (X.env.qual ++ "<lambda>")) := by
  obtain ⟨_, _, _, _, _, _, _, _, h2, _⟩ := a.ex
  exact h2
theorem rests_same {G G' : Hp} (s : ∀ b o, G b = some o → G' b = some o) : Rests G G' := fun b o h _ => s b o h
theorem rests_ext {G G' : Hp} (e : ExtN G G') : Rests G G' := fun b o h k => e b o h fun ps z => by
  subst z
  rcases k with ⟨_, _, z⟩ | ⟨_, z⟩ | ⟨_, z⟩ <;> cases z
section
variable {X : Cx} {pins : List (Addr × Obj)} {σ : L2.St} {G H : Hp} {u s : Shared} {ex : List Addr} {kb : Nat} {f c' : Addr} {t : XK → TE}
/-- such a lambda, called from a later frame; I: the def's own state, at some time ahead -/
theorem ask_act (I : Inv X pins σ G u) (hx : ∀ x c, X.env.cells.lookup x = some c → c ∉ ex) (un : Un (frs X.stack) ex G H u.heap s.heap) (a : Ask X kb H f c' t) :
    LamAct X.prog X.w X.K X.mg X.base (kb + 1) (frs X.stack) s H f (fun E H' Q => H' c' = some (CodeO c' (X.env.qual ++ "<lambda>")) ∧ t E σ H' Q) := by
  obtain ⟨params, body, scope, dV, doc, pm, ctv, hf, hc, L, hb, body_⟩ := a.ex
  have of1 : ∀ {s1 : Shared} {H1 : Hp}, HOk X.prog X.w H1 s1.heap → Un (frs X.stack) [] H H1 s.heap s1.heap → s1.heap.get? f = some (PySem.W.kdv_obj "<lambda>" (X.env.qual ++ "<lambda>") params (.expr body) scope (cloFrom X.env.cells scope.names []) dV doc pm c' ctv) := fun {s1 H1} ok v => (ok f _ (v.frzs _ _ _ hf)).1
  refine ⟨fun s1 H1 ok v => ⟨_, _, _, _, of1 ok v⟩, fun A outer s1 H1 Q E hr e0 v h => ?_⟩
  obtain ⟨hc1, ht⟩ := h
  obtain ⟨⟨oc, vs, tk, hoc, hdc, hvc⟩, _, _⟩ := e0.hok c' _ hc1
  have lim : s1.heap.NoLimit := e0.mod.nolimit.keeps fun b o e => (e0.bs b o e).1
  obtain ⟨binds, hbt, hloc⟩ := hb s1 H1 e0.hok v.tups
  refine PySem.W.kla_callFunE hr.depth (of1 e0.hok v) rfl L.co L.gen rfl ⟨c', oc, vs, tk, rfl, hoc, hdc, hvc⟩ (hbt _ _ _ _ ?_)
  refine wpAny_newFunctionEnv L.noc hloc (fun h1 hns hsb => ⟨lim.fresh _ hsb, ?_⟩) L.kind
  show codeAny _ _ (.expr body (lamEnv X scope s1.heap.objs.size f c')) _ _
  have kp : ∀ b o, s1.heap.get? b = some o → h1.get? b = some o := fun b o e => hsb.extBut b o (Nat.ne_of_lt (Heap.lt_size e)) (Heap.get?_push_of_some _ e)
  have J := (lam_start3 (E := E) (f := f) (c' := c') (tk := s1.toks + binds.length) I L e0 hr.hd (un.trans (v.mono (fun _ z => z) fun _ z => absurd z List.not_mem_nil)) hx hns kp).toTry (fun e s' => wpAny (model X.prog X.w) (A.deeper (lamEnv X scope s1.heap.objs.size f c')) (leaving (lamEnv X scope s1.heap.objs.size f c') e) (fun _ s'' => L2N.CX X.prog X.w outer H1 s1 E e s'') (fun e' s'' => L2N.CX X.prog X.w outer H1 s1 E e' s'') s')
  refine PySem.W.kla_codeExpr (wpAny_mono ((body_ A outer s1 H1 E (hr.deeper _)).run [] _ _ H1 Q J ht) (fun v s' hq => ?_) fun e s' hq => hq)
  obtain ⟨v', H', J', rv, q⟩ := hq
  exact ⟨v', H', J'.os, J'.bare, J'.base, J'.hok, rv, q⟩
end
section
variable {Z X : Cx} {pins : List (Addr × Obj)} {σ : L2.St} {H : Hp} {s : Shared} {k kl kb : Nat} {g f : Addr} {TT : TTL} {tl : XK → Hp → VK → Prop} {Q : VK}
theorem run_fnL (Fn : FnL Z.prog Z.w Z.K Z.mg Z.base k kl g TT) (hr : Room k Z.A) (I : Inv Z pins σ H s) (act : LamAct Z.prog Z.w Z.K Z.mg Z.base kl (frs Z.stack) s H f tl) (h : TT tl H Q) : wpAny (model Z.prog Z.w) Z.A (call (.ref g) [.ref f]) (EP Z pins σ Q) Z.xe s := by
  refine wpAny_call (codeAny_mono (Fn.run _ _ s H f Q tl hr I.env0 act h) fun r s2 hq => ?_)
  cases r with
  | error e => exact hq.elim
  | ok fl =>
    cases fl with
    | ret u => exact I.after hq
    | next => exact hq.elim
    | brk => exact hq.elim
    | cont => exact hq.elim
/-- what is asked there: σL gives the def's own slots -/
def tAskL (X : Cx) (kb : Nat) (TT : TTL) (te : TE) (σL : L2.St → L2.St) : TE := fun σZ H Q => te σZ H fun v H1 => ∃ (f c' : Addr) (t : XK → TE), v = .ref f ∧ Ask X kb H1 f c' t ∧ TT (fun E H' Q' => H' c' = some (CodeO c' (X.env.qual ++ "<lambda>")) ∧ t E (σL σZ) H' Q') H1 Q
/-- x(e), e a lambda that is kept -/
theorem pe_ask {e : Expr} {te : TE} {x : Str} {q pos : Pos} (σL : L2.St → L2.St) (Fn : FnL Z.prog Z.w Z.K Z.mg Z.base k kl g TT) (hkl : kb + 1 ≤ kl) (hr : Room k Z.A) (hg : Gl Z x) (hm : Z.mg x = some (.ref g)) (hk : PySem.W.keepIn Z.K (.ref g) = true) (pe : PE Z e te)
    (link : ∀ (pins : List (Addr × Obj)) (σZ : L2.St) (HZ : Hp) (sZ : Shared) (f c' : Addr) (t : XK → TE), Inv Z pins σZ HZ sZ → Ask X kb HZ f c' t → LamAct Z.prog Z.w Z.K Z.mg Z.base (kb + 1) (frs Z.stack) sZ HZ f (fun E H' Q' => H' c' = some (CodeO c' (X.env.qual ++ "<lambda>")) ∧ t E (σL σZ) H' Q'))
    (hdb : (x == ("__debug__" : Str)) = false := by decide) (he : starEach [e] Z.env = (false, eval e Z.env) :: starEach [] Z.env := by rfl) :
    PE Z (.Call (.Name x q) [e] [] pos) (tAskL X kb TT te σL) := by
  refine ⟨fun pins s σZ H Q I h => ?_⟩
  have ha : PA Z [e] _ := pa_cons pe pa_nil he
  have ask : tCons te tNil σZ H (fun vs H1 => match vs with
    | [v] => ∃ (f c' : Addr) (t : XK → TE), v = .ref f ∧ Ask X kb H1 f c' t ∧ TT (fun E H' Q' => H' c' = some (CodeO c' (X.env.qual ++ "<lambda>")) ∧ t E (σL σZ) H' Q') H1 Q
    | _ => False) := h
  refine wpAny_Call_Name_kw (ld_glob I hg hm (PySem.W.callWith_K (first := []) (h₀ := Z.base) I.ok.mod.kin hk (thn (ha.run pos pins s σZ H _ I ask) fun us s1 ⟨vs, H1, I1, r1, q1⟩ => ⟨I1.kIn, ?_⟩) he rfl) hdb)
  match vs, r1, q1 with
  | [v], r1, q1 =>
    obtain ⟨f, c', t, rfl, a, q⟩ := q1
    obtain rfl : us = [Value.ref f] := by
      cases r1 with
      | cons r rr =>
        cases rr
        cases r
        rfl
    exact run_fnL Fn hr I1 ((link pins σZ H1 s1 f c' t I1 a).mono hkl) q
theorem link_def {kb : Nat} {f c' : Addr} {t : XK → TE} (I : Inv X pins σ H s) (a : Ask X kb H f c' t) : LamAct X.prog X.w X.K X.mg X.base (kb + 1) (frs X.stack) s H f (fun E H' Q' => H' c' = some (CodeO c' (X.env.qual ++ "<lambda>")) ∧ t E σ H' Q') :=
  ask_act I (ex := []) (fun _ _ _ => List.not_mem_nil) Un.refl a
theorem link_blk {u : Shared} {G HZ : Hp} {scope : Scope} {ce : Env} {fp : List Addr} {pinsZ : List (Addr × Obj)} {σZ : L2.St} {sZ : Shared} {c' : Addr} {t : XK → TE} (I : Inv X pins σ G u) (fo : ∀ b ∈ fp, FpOk X pins G b) (IZ : Inv (X.blk u G scope ce fp) pinsZ σZ HZ sZ) (a : Ask X kb HZ f c' t) :
    LamAct X.prog X.w X.K X.mg X.base (kb + 1) (frs X.stack) sZ HZ f (fun E H' Q' => H' c' = some (CodeO c' (X.env.qual ++ "<lambda>")) ∧ t E σ H' Q') :=
  ask_act I (fun x c e z => (fo c z).2.2.2.2.1 x c e rfl) IZ.base a
end
/-- .. within a comprehension's block -/
theorem pe_askB {X : Cx} {pins : List (Addr × Obj)} {σ : L2.St} {u : Shared} {G : Hp} {scope : Scope} {ce : Env} {fp : List Addr} {k kl kb : Nat} {g : Addr} {TT : TTL} {e : Expr} {te : TE} {x : Str} {q pos : Pos} (I : Inv X pins σ G u) (fo : ∀ b ∈ fp, FpOk X pins G b)
    (Fn : FnL X.prog X.w X.K X.mg X.base k kl g TT) (hkl : kb + 1 ≤ kl) (hr : Room k X.A) (hg : Gl (X.blk u G scope ce fp) x) (hm : X.mg x = some (.ref g)) (hk : PySem.W.keepIn X.K (.ref g) = true) (pe : PE (X.blk u G scope ce fp) e te)
    (hdb : (x == ("__debug__" : Str)) = false := by decide) (he : starEach [e] ce = (false, eval e ce) :: starEach [] ce := by rfl) :
    PE (X.blk u G scope ce fp) (.Call (.Name x q) [e] [] pos) (tAskL X kb TT te (fun _ => σ)) :=
  pe_ask (Z := X.blk u G scope ce fp) (X := X) (fun _ => σ) Fn hkl hr hg hm hk pe (fun _ _ _ _ _ _ _ IZ a => link_blk I fo IZ a) hdb he
/-- .. at the def's own place -/
theorem pe_askD {X : Cx} {k kl kb : Nat} {g : Addr} {TT : TTL} {e : Expr} {te : TE} {x : Str} {q pos : Pos} (Fn : FnL X.prog X.w X.K X.mg X.base k kl g TT) (hkl : kb + 1 ≤ kl) (hr : Room k X.A) (hg : Gl X x) (hm : X.mg x = some (.ref g)) (hk : PySem.W.keepIn X.K (.ref g) = true) (pe : PE X e te)
    (hdb : (x == ("__debug__" : Str)) = false := by decide) (he : starEach [e] X.env = (false, eval e X.env) :: starEach [] X.env := by rfl) :
    PE X (.Call (.Name x q) [e] [] pos) (tAskL X kb TT te (fun σ => σ)) :=
  pe_ask (Z := X) (X := X) (fun σ => σ) Fn hkl hr hg hm hk pe (fun _ _ _ _ _ _ _ IZ a => link_def IZ a) hdb he
/-! ### the lambda itself, as a value -/
theorem mk_none {M : Model} {A : Around} {E : Value → Shared → Prop} {Q : Value → Shared → Prop} {s : Shared} {n q : Str} {params : Arguments} {b : Expr} {scope : Scope} {env : Env} {pos : Pos} {fl : Nat} (h : wpAny M A (PySem.makeTail n q params (.expr b) scope env .none .none none pos fl) Q E s) :
    wpAny M A (makeFunction n q params (.expr b) scope env [] [] [] pos fl) Q E s := by
  rw [makeFunction_eq]
  simpa only [List.zip_nil_right, List.filterMap_nil, List.isEmpty_nil, if_true, pure_bind] using h
theorem mk_one {M : Model} {A : Around} {E : Value → Shared → Prop} {Q : Value → Shared → Prop} {s : Shared} {n q : Str} {params : Arguments} {b : Expr} {scope : Scope} {env : Env} {pos : Pos} {fl : Nat} {v : Value} (h : wpAny M A (PySem.makeTail n q params (.expr b) scope env (.ref s.heap.objs.size) .none none pos fl) Q E { s with heap := s.heap.push (PySem.W.kdv_tup [v]) }) :
    wpAny M A (makeFunction n q params (.expr b) scope env [v] [] [] pos fl) Q E s := by
  rw [makeFunction_eq]
  simp only [List.zip_nil_right, List.filterMap_nil, List.isEmpty_nil, List.isEmpty_cons, Bool.false_eq_true, if_false, if_true, pure_bind]
  exact wpAny_bind (wpAny_newTextTuple h)
/-- a lambda is made: T the tables of the code objects -/
def tMkL (X : Cx) (T : List (Addr × Str)) (kb : Nat) (t : XK → TE) : TE := fun _ H Q => Tabs T H ∧ ∀ (f c' : Addr) (G : Hp), ExtN H G → Tabs T G → Ask X kb G f c' t → Q (.ref f) G
section
variable {X : Cx} {T : List (Addr × Str)} {c P : Addr} {kb : Nat} {params : Arguments} {body : Expr} {scope : Scope} {t : XK → TE} {pos : Pos}
theorem pe_lam0 (TB : TabB X.base X.mg c P) (hcode : X.env.code = .ref c) (hm : (P, X.env.qual ++ "<lambda>") ∈ T) (hu : ∀ p ∈ T, p.1 = P → p.2 = X.env.qual ++ "<lambda>") (L : LamP X.N X.env.scope scope) (hdef : defaultsOf params X.env = ([], []))
    (hbind : ∀ (q : Str) (cl : List (Str × Addr)) (doc pm cv ctv : Value), bindArgs (PySem.W.kdv_fn "<lambda>" q params (.expr body) scope cl .none doc pm cv ctv) ⟨[], []⟩ = pure [])
    (hbody : ∀ (A : Around) (outer : List Env) (s : Shared) (H : Hp) (E : XK) (f c' : Addr), Room kb (A.deeper (lamEnv X scope s.heap.objs.size f c')) → PE (lamX X A outer s H E scope f c') body (t E)) :
    PE X (.Lambda params body scope pos) (tMkL X T kb t) := by
  refine ⟨fun pins s σ H Q I h => ?_⟩
  obtain ⟨hT, h⟩ := h
  refine PySem.W.kla_eval hdef (mk_none (lam_make3 I TB hcode hm hu hT (fun z hz e => (L.free z hz e).elim (fun k => I.ok.has _ (.inl k)) fun k => I.ok.has _ (.inr k)) fun f c' doc pm ctv G s' I' e' T' hf hc => ?_))
  exact ⟨.ref f, G, I', rfl, h f c' G e' T' ⟨_, _, _, _, _, _, _, hf, hc, L, fun s1 H1 _ _ => ⟨[], .of_eq (hbind _ _ _ _ _ _), fun y z => absurd z List.not_mem_nil⟩, fun A outer s H E r => hbody A outer s H E f c' r⟩⟩
/-- .. with one parameter that has a default -/
theorem pe_lam1 {x : Str} {d : Expr} {td : TE} (TB : TabB X.base X.mg c P) (hcode : X.env.code = .ref c) (hm : (P, X.env.qual ++ "<lambda>") ∈ T) (hu : ∀ p ∈ T, p.1 = P → p.2 = X.env.qual ++ "<lambda>") (L : LamP X.N X.env.scope scope) (hd : params.defaults = [d]) (hk : params.kw_defaults = [])
    (pd : PE X d td) (hx : scope.names.lookup x = some .local)
    (hbind : ∀ (T0 : Addr) (q : Str) (cl : List (Str × Addr)) (doc pm cv ctv : Value), ∃ k, bindArgs (PySem.W.kdv_fn "<lambda>" q params (.expr body) scope cl (.ref T0) doc pm cv ctv) ⟨[], []⟩ = seqItems? (.ref T0) >>= k ∧ ∀ u : Value, k (some #[u]) = pure [(x, u)])
    (hbody : ∀ (A : Around) (outer : List Env) (s : Shared) (H : Hp) (E : XK) (f c' : Addr), Room kb (A.deeper (lamEnv X scope s.heap.objs.size f c')) → PE (lamX X A outer s H E scope f c') body (t E)) :
    PE X (.Lambda params body scope pos) (fun σ H Q => td σ H fun _ H1 => tMkL X T kb t σ H1 Q) := by
  refine ⟨fun pins s σ H Q I h => ?_⟩
  refine PySem.W.kdv_lam (by rw [hd]; rfl) hk ?_
  rw [hd]
  refine PySem.W.kdv_all1 (thn (pd.run pins s σ H _ I h) fun u s1 ⟨v, H1, I1, r1, hT, q⟩ => PySem.W.kdv_all0 (mk_one ?_))
  have nT := I1.hok.fresh (Nat.le_refl _)
  have up : ∀ b o, H1 b = some o → upd H1 s1.heap.objs.size (.tup [v]) b = some o := fun b o e => by
    rw [upd_ne (ne_of_none e nT)]
    exact e
  have I2 : Inv X pins σ (upd H1 s1.heap.objs.size (.tup [v])) { s1 with heap := s1.heap.push (PySem.W.kdv_tup [u]) } := I1.laid (t' := s1.toks) (o := .tup [v]) (fun b o e => Heap.get?_push_of_some _ e) (Nat.le_refl _) ⟨(by show 1 ≤ sizeLine; decide), [u], .cons r1 .nil, _, Heap.get?_push_size _ rfl, rfl, _, rfl⟩
  refine lam_make3 I2 TB hcode hm hu (hT.ext up) (fun z hz e => (L.free z hz e).elim (fun k => I.ok.has _ (.inl k)) fun k => I.ok.has _ (.inr k)) fun f c' doc pm ctv G s' I' e' T' hf hc => ?_
  have gT : G s1.heap.objs.size = some (.tup [v]) := e' _ _ upd_same fun ps z => by cases z
  refine ⟨.ref f, G, I', rfl, q f c' G ((ExtN.of up).trans e') T' ⟨_, _, _, _, _, _, _, hf, hc, L, fun s2 H2 ok tu => ?_, fun A outer s H E r => hbody A outer s H E f c' r⟩⟩
  obtain ⟨_, its, rv, o, ho, _, n, hn⟩ := ok _ _ (tu _ _ gT)
  cases rv with
  | cons ra rr =>
    cases rr
    obtain ⟨k, k1, k2⟩ := hbind s1.heap.objs.size (X.env.qual ++ "<lambda>") (cloFrom X.env.cells scope.names []) doc pm (.ref c') ctv
    exact ⟨[(x, _)], BindsTo.of_defaults rfl ho hn k1 (k2 _), fun y hy => by
      rw [List.mem_singleton.mp hy]
      exact hx⟩
end
end RLX
/-! what stays when a lambda is made, for laws without stories -/
namespace RL
open PySem PySem.Spec PyProof.Rows L2 RLM
abbrev LT (K : PySem.W.Frag) (H : Hp) : Prop := LamX.Tabs [((He.cT K ("law", none)).2, ("law.<locals>.<lambda>" : Str))] H
section
variable {K : PySem.W.Frag} {b c D x : Addr} {H H' : Hp} {n : Nat} {rs : List Addr} {M : Nat → Nat → Nat} {E : List (Nat × Nat)}
theorem ext_lst (e : LamX.ExtN H H') {a : Addr} {xs : List V} (h : H a = some (.lst xs)) : H' a = some (.lst xs) := e _ _ h fun _ z => by cases z
theorem ext_tup (e : LamX.ExtN H H') {a : Addr} {xs : List V} (h : H a = some (.tup xs)) : H' a = some (.tup xs) := e _ _ h fun _ z => by cases z
theorem BoardAt.ext (e : LamX.ExtN H H') (h : BoardAt K c H x n E) : BoardAt K c H' x n E := by
  obtain ⟨dx, lp, ll, lf, L, ls, F, h1, h2, h3, h4, h5, h6, h7, h8, h9, h10⟩ := h.ex
  exact ⟨⟨dx, lp, ll, lf, L, ls, F, e _ _ h1 (fun _ z => by cases z), ⟨ext_lst e h2.at_, h2.ne, fun q hq => ext_tup e (h2.tup q hq)⟩, h3, ext_lst e h4, h5, h6, ext_lst e h7, h8, h9, fun a q eq => ⟨ext_lst e (h10 a q eq).1, (h10 a q eq).2⟩⟩, h.lo, h.hi, h.on, h.nd⟩
theorem Box.ext (e : LamX.ExtN H H') (h : Box b c H) : Box b c H' := by
  obtain ⟨ns, r, s, t, h1, h2, h3⟩ := h.ex
  exact ⟨ns, r, s, t, e _ _ h1 (fun _ z => by cases z), ext_lst e h2, h3⟩
theorem TabAt.ext (e : LamX.ExtN H H') (h : TabAt c H D n rs M) : TabAt c H' D n rs M := ⟨ext_lst e h.at_, h.len, h.nd, h.nD, h.nc, fun i r er => ext_lst e (h.row i r er)⟩
theorem tabs_kc {T : List (Addr × Str)} (k : Kc c H H') (hc : ∃ ys, H c = some (.lst ys)) (h : LamX.Tabs T H) : LamX.Tabs T H' := fun q hq => by
  obtain ⟨ps, h1, h2, h3⟩ := h q hq
  obtain ⟨ys, hc⟩ := hc
  have ne : ∀ {a : Addr} {o : HO}, H a = some o → (∀ zs, o ≠ .lst zs) → a ≠ c := fun {a o} ha no z => by
    rw [z, hc] at ha
    exact no ys (Option.some.inj ha).symm
  refine ⟨ps, k _ _ (ne h1 fun _ z => by cases z) (fun _ z => by cases z) h1, h2, fun pos cv hcv => ?_⟩
  obtain ⟨c0, e1, e2⟩ := h3 pos cv hcv
  refine ⟨c0, e1, k _ _ (ne e2 fun zs z => ?_) (fun kvs z => ?_) e2⟩
  · unfold LamX.CodeO at z
    cases z
  · unfold LamX.CodeO at z
    cases z
theorem tabs_same {T : List (Addr × Str)} (s : Same H H') (h : LamX.Tabs T H) : LamX.Tabs T H' := h.ext s
/-- a list that is new grows: all else stays -/
theorem ext_grow {H1 H2 : Hp} {l : Addr} {o : HO} (hl : H l = none) (s : Same H H1) (e : LamX.ExtN H1 H2) : LamX.ExtN H (L2.upd H2 l o) := fun b u h n => by
  rw [upd_ne (ne_of_none h hl)]
  exact e b u (s b u h) n
theorem kc_grow {l : Addr} {o : HO} : Kc l H (L2.upd H l o) := fun a u h1 _ h => by
  rw [upd_ne h1]
  exact h
theorem rests_grow {l : Addr} {o : HO} {xs : List V} (h : H l = some (.lst xs)) : RLX.Rests H (L2.upd H l o) := fun a u e k => by
  have ne : a ≠ l := fun z => by
    rw [z, h] at e
    cases e
    rcases k with ⟨_, _, z⟩ | ⟨_, z⟩ | ⟨_, z⟩ <;> cases z
  rw [upd_ne ne]
  exact e
/-- board, table, box and the lambdas' table -/
structure Grd (K : PySem.W.Frag) (b c : Addr) (H : Hp) (D x n : Nat) (rs : List Addr) (M : Nat → Nat → Nat) (E : List (Nat × Nat)) : Prop where
  ta : TabAt c H D n rs M
  bd : BoardAt K c H x n E
  bx : Box b c H
  tab : LT K H
theorem Grd.same (h : Grd K b c H D x n rs M E) (s : Same H H') : Grd K b c H' D x n rs M E := ⟨h.ta.same s, h.bd.same s, h.bx.same s, tabs_same s h.tab⟩
theorem Grd.keep (h : Grd K b c H D x n rs M E) (k : Kc c H H') (B : Box b c H') : Grd K b c H' D x n rs M E := ⟨h.ta.keep k, h.bd.keep k h.bx.lst, B, tabs_kc k h.bx.lst h.tab⟩
theorem Grd.ext (h : Grd K b c H D x n rs M E) (e : LamX.ExtN H H') (t : LT K H') : Grd K b c H' D x n rs M E := ⟨h.ta.ext e, h.bd.ext e, h.bx.ext e, t⟩
end
end RL
/-! texts cut at spaces and joined again -/
namespace RLT
open PySem StrLaws Builtin Builtin.Str
/-- every occurrence of one sign, counted -/
theorem occ_one_go (x : Str) (c limit : Nat) : ∀ (l : List Nat) (st : Array Nat × Nat) (k : Nat), l = List.range' k l.length → st.snd ≤ k → st.fst.size + l.length ≤ limit →
    (forIn l st (occBody x ⟨#[c]⟩ x.length limit)).run.fst.size = st.fst.size + (l.filter fun i => decide (x.cps.toList[i]? = some c)).length
  | [], st, k, _, _, _ => by simp
  | a :: l, st, k, hl, hf, hz => by
    rw [List.forIn_cons]
    rw [List.length_cons] at hz
    have h1 : a = k ∧ l = List.range' (k + 1) l.length := by
      rw [List.length_cons, List.range'_succ] at hl
      injection hl with h1 h2
      exact ⟨h1, h2⟩
    obtain ⟨rfl, h2⟩ := h1
    unfold occBody
    by_cases hc : x.cps.toList[a]? = some c
    · have s := (subAt_one x c a).mpr hc
      rw [if_pos ⟨⟨⟨by omega, hf⟩, s.1⟩, s.2⟩]
      have ih := occ_one_go x c limit l (st.fst.push a, a + (⟨#[c]⟩ : Str).length) (a + 1) h2 (Nat.le_refl _) (by rw [Array.size_push]; omega)
      rw [List.filter_cons_of_pos (by simpa using hc), List.length_cons]
      refine Eq.trans ih ?_
      show (st.fst.push a).size + _ = _
      rw [Array.size_push]
      omega
    · have n : ¬ (((st.fst.size < limit ∧ st.snd ≤ a) ∧ a + (⟨#[c]⟩ : Str).length ≤ x.length) ∧ subAt x ⟨#[c]⟩ a = true) := fun z => hc ((subAt_one x c a).mp ⟨z.1.2, z.2⟩)
      rw [if_neg n, List.filter_cons_of_neg (by simpa using hc)]
      exact occ_one_go x c limit l (st.fst, st.snd) (a + 1) h2 (by show st.snd ≤ a + 1; omega) (by show st.fst.size + _ ≤ _; omega)
theorem filter_count (c : Nat) : ∀ (xs : List Nat) (pre : List Nat), ((List.range' pre.length xs.length).filter fun i => decide ((pre ++ xs)[i]? = some c)).length = xs.count c
  | [], pre => by simp
  | x :: xs, pre => by
    rw [List.length_cons, List.range'_succ, List.filter_cons]
    have ih := filter_count c xs (pre ++ [x])
    rw [List.length_append, List.append_assoc] at ih
    have e : (pre ++ x :: xs)[pre.length]? = some x := by simp
    rw [e]
    have ih' : ((List.range' (pre.length + 1) xs.length).filter fun i => decide ((pre ++ x :: xs)[i]? = some c)).length = xs.count c := ih
    by_cases h : x = c
    · subst h
      rw [if_pos (by simp), List.length_cons, ih', List.count_cons_self]
    · rw [if_neg (by simpa using h), ih', List.count_cons_of_ne (by simpa using h)]
theorem occ_count (x : Str) (c : Nat) : (occurrences x ⟨#[c]⟩ 0 x.length (x.length + 1)).length = x.cps.toList.count c := by
  rw [occ_eq, Array.length_toList]
  have h := occ_one_go x c (x.length + 1) (List.range' 0 (x.length + 1 - 0)) (#[], 0) 0 (by simp) (Nat.le_refl _) (by simp)
  refine Eq.trans h ?_
  show 0 + _ = _
  rw [Nat.zero_add, Nat.sub_zero]
  have e : x.length = x.cps.toList.length := by simp [Str.length]
  rw [e, List.range'_concat, List.filter_append]
  have z : (List.filter (fun i => decide (x.cps.toList[i]? = some c)) [0 + 1 * x.cps.toList.length]) = [] := by
    rw [List.filter_cons_of_neg (by simp)]
    rfl
  rw [z, List.append_nil]
  exact filter_count c x.cps.toList []
abbrev sp : Str := ⟨#[32]⟩
theorem kind_pos (x : Str) : ¬ Builtin.Str.strKind x < Builtin.Str.strKind sp := by
  have e : Builtin.Str.strKind sp = 1 := by decide +kernel
  rw [e]
  unfold Builtin.Str.strKind
  split
  · omega
  · split <;> omega
theorem spl_join (t : Str) : Txt.join sp (Txt.split t sp) = t := by
  unfold Txt.split Txt.join
  split
  · show (⟨_⟩ : Str) = t
    simp [glued]
  · split
    · simp [glued]
    · exact glued_between_self t sp _
theorem spl_len (t : Str) : (Txt.split t sp).length = t.cps.toList.count 32 + 1 := by
  have oc := occ_count t 32
  unfold Txt.split
  by_cases h : (decide (t.length < sp.length) || decide (Builtin.Str.strKind t < Builtin.Str.strKind sp)) = true
  · rw [if_pos h, List.length_singleton]
    have l0 : t.length < 1 := by
      rw [Bool.or_eq_true, decide_eq_true_eq, decide_eq_true_eq] at h
      exact h.elim id fun z => absurd z (kind_pos t)
    have : t.cps.toList = [] := by
      have e : t.cps.toList.length = t.length := by simp [Str.length]
      exact List.length_eq_zero_iff.mp (by omega)
    rw [this]
    rfl
  · rw [if_neg h]
    split
    · rename_i e
      rw [List.isEmpty_iff] at e
      rw [e] at oc
      rw [← oc]
      rfl
    · rw [length_partsBetween, oc]
/-- lists of signs, joined -/
def jn : List (List Nat) → List Nat
  | [] => []
  | [w] => w
  | w :: v :: r => w ++ 32 :: jn (v :: r)
theorem join_jn : ∀ ws : List Str, (Txt.join sp ws).cps.toList = jn (ws.map fun w => w.cps.toList)
  | [] => by rfl
  | [w] => by
    show (glued sp [w]).cps.toList = w.cps.toList
    rfl
  | w :: v :: r => by
    have ih := join_jn (v :: r)
    have e : Txt.join sp (w :: v :: r) = w ++ sp ++ Txt.join sp (v :: r) := by
      show glued _ _ = _ ++ glued _ _
      rw [glued_eq_join, glued_eq_join]
      rfl
    rw [e]
    show ((w.cps ++ sp.cps) ++ (Txt.join sp (v :: r)).cps).toList = w.cps.toList ++ 32 :: jn _
    rw [Array.toList_append, Array.toList_append, ih, List.append_assoc]
    rfl
theorem jn_count : ∀ L : List (List Nat), L ≠ [] → (jn L).count 32 + 1 = (L.map fun w => w.count 32).sum + L.length
  | [], h => absurd rfl h
  | [w], _ => by simp [jn]
  | w :: v :: r, _ => by
    have ih := jn_count (v :: r) (by simp)
    show (w ++ 32 :: jn (v :: r)).count 32 + 1 = _
    rw [List.count_append, List.count_cons_self, List.map_cons, List.sum_cons, List.length_cons]
    omega
theorem jn_len : ∀ L : List (List Nat), L ≠ [] → (jn L).length + 1 = (L.map List.length).sum + L.length
  | [], h => absurd rfl h
  | [w], _ => by simp [jn]
  | w :: v :: r, _ => by
    have ih := jn_len (v :: r) (by simp)
    show (w ++ 32 :: jn (v :: r)).length + 1 = _
    rw [List.length_append, List.length_cons, List.map_cons, List.sum_cons, List.length_cons]
    omega
theorem spl_ne (t : Str) : Txt.split t sp ≠ [] := fun e => by
  have := spl_len t
  rw [e] at this
  simp at this
theorem zero_of_sum : ∀ {xs : List Nat}, xs.sum = 0 → ∀ x ∈ xs, x = 0
  | [], _, x, h => absurd h List.not_mem_nil
  | y :: ys, e, x, h => by
    rw [List.sum_cons] at e
    rcases List.mem_cons.mp h with z | z
    · omega
    · exact zero_of_sum (by omega) x z
theorem spl_clean (t : Str) : ∀ w ∈ Txt.split t sp, 32 ∉ w.cps.toList := fun w hw => by
  have h1 := spl_len t
  have h2 := join_jn (Txt.split t sp)
  rw [spl_join] at h2
  have h3 := jn_count ((Txt.split t sp).map fun w => w.cps.toList) (by simpa using spl_ne t)
  rw [← h2, List.length_map, List.map_map] at h3
  have z := zero_of_sum (xs := (Txt.split t sp).map ((fun w : List Nat => w.count 32) ∘ fun w : Str => w.cps.toList)) (by omega) _ (List.mem_map.mpr ⟨w, hw, rfl⟩)
  exact List.count_eq_zero.mp z
theorem spl_sum (t : Str) : ((Txt.split t sp).map (·.length)).sum + (Txt.split t sp).length = t.length + 1 := by
  have h2 := join_jn (Txt.split t sp)
  rw [spl_join] at h2
  have h3 := jn_len ((Txt.split t sp).map fun w => w.cps.toList) (by simpa using spl_ne t)
  rw [← h2, List.length_map, List.map_map] at h3
  have e : (Txt.split t sp).map (List.length ∘ fun w : Str => w.cps.toList) = (Txt.split t sp).map (·.length) := List.map_congr_left fun w _ => by simp [Str.length]
  have e2 : t.cps.toList.length = t.length := by simp [Str.length]
  rw [e, e2] at h3
  exact h3.symm
theorem cut_uniq : ∀ {a b r s : List Nat}, 32 ∉ a → 32 ∉ b → a ++ 32 :: r = b ++ 32 :: s → a = b ∧ r = s
  | [], [], r, s, _, _, h => ⟨rfl, by injection h⟩
  | [], y :: b, r, s, _, hb, h => by
    injection h with h1 _
    subst h1
    exact absurd List.mem_cons_self hb
  | x :: a, [], r, s, ha, _, h => by
    injection h with h1 _
    subst h1
    exact absurd List.mem_cons_self ha
  | x :: a, y :: b, r, s, ha, hb, h => by
    injection h with h1 h2
    subst h1
    have := cut_uniq (fun z => ha (List.mem_cons_of_mem _ z)) (fun z => hb (List.mem_cons_of_mem _ z)) h2
    exact ⟨by rw [this.1], this.2⟩
theorem jn_uniq : ∀ {L M : List (List Nat)}, L ≠ [] → M ≠ [] → (∀ w ∈ L, 32 ∉ w) → (∀ w ∈ M, 32 ∉ w) → jn L = jn M → L = M
  | [], _, h, _, _, _, _ => absurd rfl h
  | _, [], _, h, _, _, _ => absurd rfl h
  | [w], [v], _, _, _, _, h => by rw [show w = v from h]
  | [w], v :: u :: r, _, _, hL, _, h => by
    refine absurd ?_ (hL w List.mem_cons_self)
    rw [show w = v ++ 32 :: jn (u :: r) from h]
    simp
  | w :: u :: r, [v], _, _, _, hM, h => by
    refine absurd ?_ (hM v List.mem_cons_self)
    rw [show v = w ++ 32 :: jn (u :: r) from h.symm]
    simp
  | w :: u :: r, v :: y :: s, _, _, hL, hM, h => by
    have h' : w ++ 32 :: jn (u :: r) = v ++ 32 :: jn (y :: s) := h
    obtain ⟨e1, e2⟩ := cut_uniq (hL w List.mem_cons_self) (hM v List.mem_cons_self) h'
    rw [e1, jn_uniq (by simp) (by simp) (fun z hz => hL z (List.mem_cons_of_mem _ hz)) (fun z hz => hM z (List.mem_cons_of_mem _ hz)) e2]
theorem str_ext {a b : Str} (h : a.cps.toList = b.cps.toList) : a = b := by
  cases a
  cases b
  congr 1
  exact Array.toList_inj.mp h
theorem strs_ext : ∀ {L M : List Str}, (L.map fun w => w.cps.toList) = (M.map fun w => w.cps.toList) → L = M
  | [], [], _ => rfl
  | [], _ :: _, h => by cases h
  | _ :: _, [], h => by cases h
  | a :: L, b :: M, h => by
    rw [List.map_cons, List.map_cons] at h
    injection h with h1 h2
    rw [str_ext h1, strs_ext h2]
/-- what was joined is cut at the same places -/
theorem spl_of_join {ws : List Str} (hn : ws ≠ []) (hc : ∀ w ∈ ws, 32 ∉ w.cps.toList) : Txt.split (Txt.join sp ws) sp = ws := by
  refine strs_ext (jn_uniq (by simpa using spl_ne _) (by simpa using hn) (fun w hw => ?_) (fun w hw => ?_) ?_)
  · obtain ⟨v, hv, rfl⟩ := List.mem_map.mp hw
    exact spl_clean _ v hv
  · obtain ⟨v, hv, rfl⟩ := List.mem_map.mp hw
    exact hc v hv
  · rw [← join_jn, ← join_jn, spl_join]
theorem join_len (ws : List Str) : (Txt.join sp ws).length = (ws.map (·.length)).sum + (ws.length - 1) := by
  show (glued sp ws).length = _
  rw [size_glued]
  show _ + (ws.length - 1) * 1 = _
  rw [Nat.mul_one]
theorem sp_eq : (" " : Str) = sp := by decide +kernel
/-! numbers of one figure, and ways -/
theorem dig : ∀ n : Nat, n < 10 → (toString (n : Int) : Str) = ⟨#[48 + n]⟩ := by decide +kernel
theorem int_dig : ∀ n : Nat, n < 10 → intText? ⟨#[48 + n]⟩ = some (n : Int) := by decide +kernel
end RLT
/-! a board's text, read: from its words -/
namespace RLT
open PySem
def numW (n : Nat) : Str := ⟨#[48 + n]⟩
def wayW (e : Nat × Nat) : Str := ⟨#[48 + e.1, 62, 48 + e.2]⟩
def lt2 (a b : Nat × Nat) : Prop := a.1 < b.1 ∨ (a.1 = b.1 ∧ a.2 < b.2)
instance : DecidableRel lt2 := fun a b => by unfold lt2; infer_instance
/-- a way of a board of n places -/
def OnE (n : Nat) (e : Nat × Nat) : Prop := e.1 < n ∧ e.2 < n ∧ e.1 ≠ e.2
def numOf (w : Str) : Option Nat := match w.cps.toList with
  | [a] => if 49 ≤ a ∧ a ≤ 56 then some (a - 48) else none
  | _ => none
def wayOf (n : Nat) (w : Str) : Option (Nat × Nat) := match w.cps.toList with
  | [a, b, c] => if b = 62 ∧ (48 ≤ a ∧ a < 48 + n) ∧ (48 ≤ c ∧ c < 48 + n) ∧ a ≠ c then some (a - 48, c - 48) else none
  | _ => none
theorem numOf_iff {w : Str} {n : Nat} : numOf w = some n ↔ (1 ≤ n ∧ n ≤ 8) ∧ w = numW n := by
  constructor
  · intro h
    unfold numOf at h
    split at h
    · rename_i a e
      split at h
      · rename_i c
        injection h with h
        subst h
        refine ⟨by omega, str_ext ?_⟩
        rw [e]
        show [a] = [48 + (a - 48)]
        rw [show 48 + (a - 48) = a by omega]
      · cases h
    · cases h
  · rintro ⟨h, rfl⟩
    show (if 49 ≤ 48 + n ∧ 48 + n ≤ 56 then some (48 + n - 48) else none) = some n
    rw [if_pos (by omega), Nat.add_sub_cancel_left]
theorem wayOf_iff {n : Nat} {w : Str} {e : Nat × Nat} : wayOf n w = some e ↔ OnE n e ∧ w = wayW e := by
  constructor
  · intro h
    unfold wayOf at h
    split at h
    · rename_i a b c e
      split at h
      · rename_i cc
        injection h with h
        subst h
        refine ⟨⟨by show a - 48 < n; omega, by show c - 48 < n; omega, by show a - 48 ≠ c - 48; omega⟩, str_ext ?_⟩
        rw [e]
        show [a, b, c] = [48 + (a - 48), 62, 48 + (c - 48)]
        rw [show 48 + (a - 48) = a by omega, show 48 + (c - 48) = c by omega, cc.1]
      · cases h
    · cases h
  · rintro ⟨⟨h1, h2, h3⟩, rfl⟩
    obtain ⟨i, j⟩ := e
    have h1 : i < n := h1
    have h2 : j < n := h2
    have h3 : i ≠ j := h3
    show (if (62 : Nat) = 62 ∧ (48 ≤ 48 + i ∧ 48 + i < 48 + n) ∧ (48 ≤ 48 + j ∧ 48 + j < 48 + n) ∧ 48 + i ≠ 48 + j then some (48 + i - 48, 48 + j - 48) else none) = some (i, j)
    rw [if_pos (by omega), Nat.add_sub_cancel_left, Nat.add_sub_cancel_left]
/-- a way may stand behind those of E -/
def nextOk (E : List (Nat × Nat)) (e : Nat × Nat) : Prop := ∀ p, E.getLast? = some p → lt2 p e
instance (E : List (Nat × Nat)) (e : Nat × Nat) : Decidable (nextOk E e) := by
  unfold nextOk
  cases h : E.getLast? with
  | none => exact .isTrue fun p z => by cases z
  | some q =>
    by_cases c : lt2 q e
    · exact .isTrue fun p z => by
        injection z with z
        rw [← z]
        exact c
    · exact .isFalse fun z => c (z q rfl)
/-- the words behind the first, from number at on; E: the ways read already; a bad word's number, or all ways -/
def scan (n : Nat) : List Str → List (Nat × Nat) → Nat → Nat ⊕ List (Nat × Nat)
  | [], E, _ => .inr E
  | w :: ws, E, at_ => match wayOf n w with
    | none => .inl at_
    | some e => if nextOk E e then scan n ws (E ++ [e]) (at_ + 1) else .inl at_
def boardOf : List Str → Nat ⊕ (Nat × List (Nat × Nat))
  | [] => .inl 0
  | w :: ws => match numOf w with
    | none => .inl 0
    | some n => match scan n ws [] 1 with
      | .inl k => .inl k
      | .inr E => .inr (n, E)
theorem scan_step {n j k : Nat} {ws : List Str} {y : Str} {E : List (Nat × Nat)} (h : ws[j]? = some y) : scan n (ws.drop j) E k = match wayOf n y with
    | none => .inl k
    | some e => if nextOk E e then scan n (ws.drop (j + 1)) (E ++ [e]) (k + 1) else .inl k := by
  obtain ⟨hj, e⟩ := List.getElem?_eq_some_iff.mp h
  rw [List.drop_eq_getElem_cons hj, e]
  rfl
theorem boardOf_cons (w : Str) (ws : List Str) : boardOf (w :: ws) = match numOf w with
    | none => .inl 0
    | some n => match scan n ws [] 1 with
      | .inl k => .inl k
      | .inr E => .inr (n, E) := rfl
theorem lt2_trans {a b c : Nat × Nat} (h : lt2 a b) (g : lt2 b c) : lt2 a c := by
  unfold lt2 at *
  omega
theorem next_all {E : List (Nat × Nat)} {e : Nat × Nat} (p : E.Pairwise lt2) (h : nextOk E e) : (E ++ [e]).Pairwise lt2 := by
  refine List.pairwise_append.mpr ⟨p, List.pairwise_singleton _ _, fun a ha b hb => ?_⟩
  rw [List.mem_singleton.mp hb]
  obtain ⟨i, hi, rfl⟩ := List.mem_iff_getElem.mp ha
  have l0 : E ≠ [] := fun z => by rw [z] at hi; exact Nat.not_lt_zero _ hi
  have hl := h _ (List.getLast?_eq_some_getLast l0)
  by_cases c : i = E.length - 1
  · have : E[i] = E.getLast l0 := by
      rw [List.getLast_eq_getElem]
      congr 1
    rw [this]
    exact hl
  · have := List.pairwise_iff_getElem.mp p i (E.length - 1) hi (by omega) (by omega)
    rw [← List.getLast_eq_getElem l0] at this
    exact lt2_trans this hl
theorem scan_inr {n : Nat} : ∀ {ws : List Str} {E F : List (Nat × Nat)} {k : Nat}, scan n ws E k = .inr F → E.Pairwise lt2 → (∀ e ∈ E, OnE n e) → F.Pairwise lt2 ∧ (∀ e ∈ F, OnE n e) ∧ F.length = E.length + ws.length
  | [], E, F, k, h, p, o => by
    injection h with h
    subst h
    exact ⟨p, o, rfl⟩
  | w :: ws, E, F, k, h, p, o => by
    unfold scan at h
    split at h
    · cases h
    · rename_i e he
      split at h
      · rename_i ok
        have r := scan_inr h (next_all p ok) fun a ha => by
          rcases List.mem_append.mp ha with z | z
          · exact o a z
          · rw [List.mem_singleton.mp z]
            exact (wayOf_iff.mp he).1
        refine ⟨r.1, r.2.1, ?_⟩
        rw [r.2.2, List.length_append, List.length_singleton, List.length_cons]
        omega
      · cases h
theorem scan_write {n : Nat} : ∀ {R L : List (Nat × Nat)} {k : Nat}, (L ++ R).Pairwise lt2 → (∀ e ∈ R, OnE n e) → scan n (R.map wayW) L k = .inr (L ++ R)
  | [], L, k, p, o => by
    rw [List.append_nil]
    rfl
  | e :: R, L, k, p, o => by
    rw [List.map_cons]
    unfold scan
    rw [wayOf_iff.mpr ⟨o e List.mem_cons_self, rfl⟩]
    have ok : nextOk L e := fun q hq => by
      have := List.pairwise_append.mp p
      exact this.2.2 q (List.mem_of_getLast? hq) e List.mem_cons_self
    show (if nextOk L e then _ else _) = _
    rw [if_pos ok, scan_write (by rw [List.append_assoc]; exact p) fun a ha => o a (List.mem_cons_of_mem _ ha), List.append_assoc]
    rfl
theorem boardOf_inr {W : List Str} {n : Nat} {E : List (Nat × Nat)} (h : boardOf W = .inr (n, E)) : (1 ≤ n ∧ n ≤ 8) ∧ E.Pairwise lt2 ∧ (∀ e ∈ E, OnE n e) ∧ E.length + 1 = W.length := by
  match W, h with
  | w :: ws, h =>
    rw [boardOf_cons] at h
    split at h
    · cases h
    · rename_i m hm
      split at h
      · cases h
      · rename_i F hF
        injection h with h
        injection h with h1 h2
        subst h1 h2
        have := scan_inr hF .nil fun e he => nomatch he
        refine ⟨(numOf_iff.mp hm).1, this.1, this.2.1, ?_⟩
        rw [this.2.2, List.length_nil, List.length_cons]
        omega
theorem boardOf_write {n : Nat} {E : List (Nat × Nat)} (n1 : 1 ≤ n) (n8 : n ≤ 8) (p : E.Pairwise lt2) (o : ∀ e ∈ E, OnE n e) : boardOf (numW n :: E.map wayW) = .inr (n, E) := by
  rw [boardOf_cons, numOf_iff.mpr ⟨⟨n1, n8⟩, rfl⟩]
  show (match scan n (E.map wayW) [] 1 with | .inl k => (Sum.inl k : Nat ⊕ (Nat × List (Nat × Nat))) | .inr F => .inr (n, F)) = _
  rw [scan_write (L := []) p o]
  rfl
theorem num_clean {n : Nat} (h : n ≤ 8) : 32 ∉ (numW n).cps.toList := by
  show 32 ∉ [48 + n]
  simp
  omega
theorem way_clean {e : Nat × Nat} : 32 ∉ (wayW e).cps.toList := by
  show 32 ∉ [48 + e.1, 62, 48 + e.2]
  simp
  omega
/-- what is written is read -/
theorem read_write {n : Nat} {E : List (Nat × Nat)} (n1 : 1 ≤ n) (n8 : n ≤ 8) (p : E.Pairwise lt2) (o : ∀ e ∈ E, OnE n e) : boardOf (Txt.split (Txt.join sp (numW n :: E.map wayW)) sp) = .inr (n, E) := by
  rw [spl_of_join (by simp) fun w hw => ?_]
  · exact boardOf_write n1 n8 p o
  · rcases List.mem_cons.mp hw with rfl | hw
    · exact num_clean n8
    · obtain ⟨e, _, rfl⟩ := List.mem_map.mp hw
      exact way_clean
end RLT
/-! texts cut at one sign and joined again -/
namespace RLT
open PySem StrLaws Builtin Builtin.Str
section
variable {c : Nat}
abbrev sg (c : Nat) : Str := ⟨#[c]⟩
theorem kind_posC {c : Nat} (hc : c < 256) (x : Str) : ¬ Builtin.Str.strKind x < Builtin.Str.strKind (sg c) := by
  have e : Builtin.Str.strKind (sg c) = 1 := by
    unfold Builtin.Str.strKind
    rw [if_pos (by simp; exact hc)]
  rw [e]
  unfold Builtin.Str.strKind
  split
  · omega
  · split <;> omega
theorem spl_joinC (t : Str) : Txt.join (sg c) (Txt.split t (sg c)) = t := by
  unfold Txt.split Txt.join
  split
  · show (⟨_⟩ : Str) = t
    simp [glued]
  · split
    · simp [glued]
    · exact glued_between_self t (sg c) _
theorem spl_lenC (hc : c < 256) (t : Str) : (Txt.split t (sg c)).length = t.cps.toList.count c + 1 := by
  have oc := occ_count t c
  unfold Txt.split
  by_cases h : (decide (t.length < (sg c).length) || decide (Builtin.Str.strKind t < Builtin.Str.strKind (sg c))) = true
  · rw [if_pos h, List.length_singleton]
    have l0 : t.length < 1 := by
      rw [Bool.or_eq_true, decide_eq_true_eq, decide_eq_true_eq] at h
      exact h.elim id fun z => absurd z (kind_posC hc t)
    have : t.cps.toList = [] := by
      have e : t.cps.toList.length = t.length := by simp [Str.length]
      exact List.length_eq_zero_iff.mp (by omega)
    rw [this]
    rfl
  · rw [if_neg h]
    split
    · rename_i e
      rw [List.isEmpty_iff] at e
      rw [e] at oc
      rw [← oc]
      rfl
    · rw [length_partsBetween, oc]
/-- lists of signs, joined -/
def jnC (c : Nat) : List (List Nat) → List Nat
  | [] => []
  | [w] => w
  | w :: v :: r => w ++ c :: jnC c (v :: r)
theorem join_jnC : ∀ ws : List Str, (Txt.join (sg c) ws).cps.toList = jnC c (ws.map fun w => w.cps.toList)
  | [] => by rfl
  | [w] => by
    show (glued (sg c) [w]).cps.toList = w.cps.toList
    rfl
  | w :: v :: r => by
    have ih := join_jnC (v :: r)
    have e : Txt.join (sg c) (w :: v :: r) = w ++ (sg c) ++ Txt.join (sg c) (v :: r) := by
      show glued _ _ = _ ++ glued _ _
      rw [glued_eq_join, glued_eq_join]
      rfl
    rw [e]
    show ((w.cps ++ (sg c).cps) ++ (Txt.join (sg c) (v :: r)).cps).toList = w.cps.toList ++ c :: jnC c _
    rw [Array.toList_append, Array.toList_append, ih, List.append_assoc]
    rfl
theorem jn_countC : ∀ L : List (List Nat), L ≠ [] → (jnC c L).count c + 1 = (L.map fun w => w.count c).sum + L.length
  | [], h => absurd rfl h
  | [w], _ => by simp [jnC]
  | w :: v :: r, _ => by
    have ih := jn_countC (v :: r) (by simp)
    show (w ++ c :: jnC c (v :: r)).count c + 1 = _
    rw [List.count_append, List.count_cons_self, List.map_cons, List.sum_cons, List.length_cons]
    omega
theorem jn_lenC : ∀ L : List (List Nat), L ≠ [] → (jnC c L).length + 1 = (L.map List.length).sum + L.length
  | [], h => absurd rfl h
  | [w], _ => by simp [jnC]
  | w :: v :: r, _ => by
    have ih := jn_lenC (v :: r) (by simp)
    show (w ++ c :: jnC c (v :: r)).length + 1 = _
    rw [List.length_append, List.length_cons, List.map_cons, List.sum_cons, List.length_cons]
    omega
theorem spl_neC (hc : c < 256) (t : Str) : Txt.split t (sg c) ≠ [] := fun e => by
  have := spl_lenC hc t
  rw [e] at this
  simp at this
theorem spl_cleanC (hc : c < 256) (t : Str) : ∀ w ∈ Txt.split t (sg c), c ∉ w.cps.toList := fun w hw => by
  have h1 := spl_lenC hc t
  have h2 := join_jnC (c := c) (Txt.split t (sg c))
  rw [spl_joinC] at h2
  have h3 := jn_countC (c := c) ((Txt.split t (sg c)).map fun w => w.cps.toList) (by simpa using spl_neC hc t)
  rw [← h2, List.length_map, List.map_map] at h3
  have z := zero_of_sum (xs := (Txt.split t (sg c)).map ((fun w : List Nat => w.count c) ∘ fun w : Str => w.cps.toList)) (by omega) _ (List.mem_map.mpr ⟨w, hw, rfl⟩)
  exact List.count_eq_zero.mp z
theorem spl_sumC (hc : c < 256) (t : Str) : ((Txt.split t (sg c)).map (·.length)).sum + (Txt.split t (sg c)).length = t.length + 1 := by
  have h2 := join_jnC (c := c) (Txt.split t (sg c))
  rw [spl_joinC] at h2
  have h3 := jn_lenC (c := c) ((Txt.split t (sg c)).map fun w => w.cps.toList) (by simpa using spl_neC hc t)
  rw [← h2, List.length_map, List.map_map] at h3
  have e : (Txt.split t (sg c)).map (List.length ∘ fun w : Str => w.cps.toList) = (Txt.split t (sg c)).map (·.length) := List.map_congr_left fun w _ => by simp [Str.length]
  have e2 : t.cps.toList.length = t.length := by simp [Str.length]
  rw [e, e2] at h3
  exact h3.symm
theorem cut_uniqC : ∀ {a b r s : List Nat}, c ∉ a → c ∉ b → a ++ c :: r = b ++ c :: s → a = b ∧ r = s
  | [], [], r, s, _, _, h => ⟨rfl, by injection h⟩
  | [], y :: b, r, s, _, hb, h => by
    injection h with h1 _
    subst h1
    exact absurd List.mem_cons_self hb
  | x :: a, [], r, s, ha, _, h => by
    injection h with h1 _
    subst h1
    exact absurd List.mem_cons_self ha
  | x :: a, y :: b, r, s, ha, hb, h => by
    injection h with h1 h2
    subst h1
    have := cut_uniqC (fun z => ha (List.mem_cons_of_mem _ z)) (fun z => hb (List.mem_cons_of_mem _ z)) h2
    exact ⟨by rw [this.1], this.2⟩
theorem jn_uniqC : ∀ {L M : List (List Nat)}, L ≠ [] → M ≠ [] → (∀ w ∈ L, c ∉ w) → (∀ w ∈ M, c ∉ w) → jnC c L = jnC c M → L = M
  | [], _, h, _, _, _, _ => absurd rfl h
  | _, [], _, h, _, _, _ => absurd rfl h
  | [w], [v], _, _, _, _, h => by rw [show w = v from h]
  | [w], v :: u :: r, _, _, hL, _, h => by
    refine absurd ?_ (hL w List.mem_cons_self)
    rw [show w = v ++ c :: jnC c (u :: r) from h]
    simp
  | w :: u :: r, [v], _, _, _, hM, h => by
    refine absurd ?_ (hM v List.mem_cons_self)
    rw [show v = w ++ c :: jnC c (u :: r) from h.symm]
    simp
  | w :: u :: r, v :: y :: s, _, _, hL, hM, h => by
    have h' : w ++ c :: jnC c (u :: r) = v ++ c :: jnC c (y :: s) := h
    obtain ⟨e1, e2⟩ := cut_uniqC (hL w List.mem_cons_self) (hM v List.mem_cons_self) h'
    rw [e1, jn_uniqC (by simp) (by simp) (fun z hz => hL z (List.mem_cons_of_mem _ hz)) (fun z hz => hM z (List.mem_cons_of_mem _ hz)) e2]
/-- what was joined is cut at the same places -/
theorem spl_of_joinC (hc : c < 256) {ws : List Str} (hn : ws ≠ []) (hw0 : ∀ w ∈ ws, c ∉ w.cps.toList) : Txt.split (Txt.join (sg c) ws) (sg c) = ws := by
  refine strs_ext (jn_uniqC (c := c) (by simpa using spl_neC hc _) (by simpa using hn) (fun w hw => ?_) (fun w hw => ?_) ?_)
  · obtain ⟨v, hv, rfl⟩ := List.mem_map.mp hw
    exact spl_cleanC hc _ v hv
  · obtain ⟨v, hv, rfl⟩ := List.mem_map.mp hw
    exact hw0 v hv
  · rw [← join_jnC, ← join_jnC, spl_joinC]
theorem join_lenC (ws : List Str) : (Txt.join (sg c) ws).length = (ws.map (·.length)).sum + (ws.length - 1) := by
  show (glued (sg c) ws).length = _
  rw [size_glued]
  show _ + (ws.length - 1) * 1 = _
  rw [Nat.mul_one]
end
end RLT
/-! lots and looks as texts, read -/
namespace RLT
open PySem
/-- a figure's text -/
def figT (i : Nat) : Str := ⟨#[48 + i]⟩
def figN (z : Str) : Option Nat := match z.cps.toList with
  | [a] => if 48 ≤ a ∧ a < 56 then some (a - 48) else none
  | _ => none
theorem figN_iff {z : Str} {i : Nat} : figN z = some i ↔ i < 8 ∧ z = figT i := by
  constructor
  · intro h
    unfold figN at h
    split at h
    · rename_i a e
      split at h
      · rename_i c
        injection h with h
        subst h
        refine ⟨by omega, str_ext ?_⟩
        rw [e]
        show [a] = [48 + (a - 48)]
        rw [show 48 + (a - 48) = a by omega]
      · cases h
    · cases h
  · rintro ⟨h, rfl⟩
    show (if 48 ≤ 48 + i ∧ 48 + i < 56 then some (48 + i - 48) else none) = some i
    rw [if_pos (by omega), Nat.add_sub_cancel_left]
abbrev dash : Str := ⟨#[45]⟩
abbrev comma : Str := sg 44
abbrev bar : Str := sg 124
/-- a lot's text -/
def lotT (zs : List Nat) : Str := if zs = [] then dash else Txt.join comma (zs.map figT)
/-- the figures of words, where all are figures -/
def figs : List Str → Option (List Nat)
  | [] => some []
  | w :: ws => match figN w, figs ws with
    | some i, some is => some (i :: is)
    | _, _ => none
theorem figs_iff : ∀ {ws : List Str} {is : List Nat}, figs ws = some is ↔ (∀ i ∈ is, i < 8) ∧ ws = is.map figT
  | [], is => by
    constructor
    · intro h
      injection h with h
      subst h
      exact ⟨fun i hi => absurd hi List.not_mem_nil, rfl⟩
    · rintro ⟨_, h⟩
      cases is with
      | nil => rfl
      | cons _ _ => cases h
  | w :: ws, is => by
    constructor
    · intro h
      unfold figs at h
      split at h
      · rename_i i js h1 h2
        injection h with h
        subst h
        obtain ⟨i8, rfl⟩ := figN_iff.mp h1
        obtain ⟨j8, rfl⟩ := figs_iff.mp h2
        exact ⟨fun k hk => (List.mem_cons.mp hk).elim (fun z => z ▸ i8) (j8 k), rfl⟩
      · cases h
    · rintro ⟨h8, h⟩
      cases is with
      | nil => cases h
      | cons i is =>
        injection h with h1 h2
        have a := figN_iff.mpr ⟨h8 i List.mem_cons_self, h1⟩
        have b := figs_iff.mpr ⟨fun k hk => h8 k (List.mem_cons_of_mem _ hk), h2⟩
        unfold figs
        rw [a, b]
/-- the lot that a word tells -/
def lotOf (w : Str) : Option (List Nat) := if w = dash then some [] else match figs (Txt.split w comma) with
  | none => none
  | some is => if is.Pairwise (· < ·) then some is else none
theorem fig_cleanC {i c : Nat} (h : i < 8) (hc : c = 44 ∨ c = 124 ∨ c = 32) : c ∉ (figT i).cps.toList := by
  show c ∉ [48 + i]
  simp
  omega
theorem lotOf_lotT {zs : List Nat} (h8 : ∀ i ∈ zs, i < 8) (s : zs.Pairwise (· < ·)) : lotOf (lotT zs) = some zs := by
  unfold lotOf lotT
  by_cases e : zs = []
  · rw [if_pos e, if_pos rfl, e]
  · rw [if_neg e]
    have ne : Txt.join comma (zs.map figT) ≠ dash := fun z => by
      have h := spl_of_joinC (c := 44) (by decide) (ws := zs.map figT) (by simpa using e) fun w hw => by
        obtain ⟨i, hi, rfl⟩ := List.mem_map.mp hw
        exact fig_cleanC (h8 i hi) (.inl rfl)
      rw [z] at h
      have h2 : Txt.split dash (sg 44) = [dash] := by decide +kernel
      rw [h2] at h
      cases zs with
      | nil => exact e rfl
      | cons i is =>
        injection h with h1 h3
        have : (45 : Nat) = 48 + i := by
          injection h1 with h1
          simpa using h1
        omega
    rw [if_neg ne, spl_of_joinC (c := 44) (by decide) (by simpa using e) fun w hw => by
      obtain ⟨i, hi, rfl⟩ := List.mem_map.mp hw
      exact fig_cleanC (h8 i hi) (.inl rfl), figs_iff.mpr ⟨h8, rfl⟩]
    exact if_pos s
theorem lotOf_some {w : Str} {zs : List Nat} (h : lotOf w = some zs) : (∀ i ∈ zs, i < 8) ∧ zs.Pairwise (· < ·) ∧ w = lotT zs := by
  unfold lotOf at h
  split at h
  · rename_i e
    injection h with h
    subst h
    exact ⟨fun i hi => absurd hi List.not_mem_nil, .nil, e⟩
  · rename_i nd
    split at h
    · cases h
    · rename_i is hs
      split at h
      · rename_i s
        injection h with h
        subst h
        obtain ⟨h8, e⟩ := figs_iff.mp hs
        refine ⟨h8, s, ?_⟩
        have j := spl_joinC (c := 44) w
        rw [e] at j
        unfold lotT
        rw [if_neg fun z => ?_]
        · exact j.symm
        · rw [z] at e
          exact spl_neC (c := 44) (by decide) w e
      · cases h
/-- a look -/
inductive Lk where
  | inn (zs : List Nat)
  | parts (zss : List (List Nat))
  | near (b k : Nat)
def LkOk : Lk → Prop
  | .inn zs => (∀ i ∈ zs, i < 8) ∧ zs.Pairwise (· < ·)
  | .parts zss => (∀ zs ∈ zss, zs ≠ [] ∧ (∀ i ∈ zs, i < 8) ∧ zs.Pairwise (· < ·)) ∧ zss ≠ [] ∧ zss.flatten.Perm (List.range zss.flatten.length)
  | .near b k => b < 8 ∧ k < 8
def wIn : Str := ⟨#[105, 110]⟩
def wParts : Str := ⟨#[112, 97, 114, 116, 115]⟩
def wNear : Str := ⟨#[110, 101, 97, 114]⟩
/-- a look's words -/
def lkW : Lk → List Str
  | .inn zs => [wIn, lotT zs]
  | .parts zss => [wParts, Txt.join bar (zss.map lotT)]
  | .near b k => [wNear, figT b, figT k]
def lkT (L : Lk) : Str := Txt.join sp (lkW L)
def lots : List Str → Option (List (List Nat))
  | [] => some []
  | w :: ws => match lotOf w, lots ws with
    | some i, some is => some (i :: is)
    | _, _ => none
theorem lots_iff : ∀ {ws : List Str} {zss : List (List Nat)}, lots ws = some zss ↔ (∀ zs ∈ zss, (∀ i ∈ zs, i < 8) ∧ zs.Pairwise (· < ·)) ∧ ws = zss.map lotT
  | [], zss => by
    constructor
    · intro h
      injection h with h
      subst h
      exact ⟨fun i hi => absurd hi List.not_mem_nil, rfl⟩
    · rintro ⟨_, h⟩
      cases zss with
      | nil => rfl
      | cons _ _ => cases h
  | w :: ws, zss => by
    constructor
    · intro h
      unfold lots at h
      split at h
      · rename_i i js h1 h2
        injection h with h
        subst h
        obtain ⟨a1, a2, rfl⟩ := lotOf_some h1
        obtain ⟨b1, rfl⟩ := lots_iff.mp h2
        exact ⟨fun k hk => (List.mem_cons.mp hk).elim (fun z => z ▸ ⟨a1, a2⟩) (b1 k), rfl⟩
      · cases h
    · rintro ⟨h8, h⟩
      cases zss with
      | nil => cases h
      | cons i is =>
        injection h with h1 h2
        have a := lotOf_lotT (h8 i List.mem_cons_self).1 (h8 i List.mem_cons_self).2
        rw [← h1] at a
        have b := lots_iff.mpr ⟨fun k hk => h8 k (List.mem_cons_of_mem _ hk), h2⟩
        unfold lots
        rw [a, b]
open Classical in
/-- the look that words tell -/
noncomputable def lkOf : List Str → Option Lk
  | [a, b] => if a = wIn then (lotOf b).map .inn else if a = wParts then (match lots (Txt.split b bar) with
      | none => none
      | some zss => if LkOk (.parts zss) then some (.parts zss) else none) else none
  | [a, b, c] => if a = wNear then (match figN b, figN c with
      | some i, some j => some (.near i j)
      | _, _ => none) else none
  | _ => none
theorem lkOf_some {W : List Str} {L : Lk} (h : lkOf W = some L) : LkOk L ∧ W = lkW L := by
  unfold lkOf at h
  split at h
  · rename_i a b
    split at h
    · rename_i e
      obtain ⟨zs, h1, h2⟩ := Option.map_eq_some_iff.mp h
      subst h2
      obtain ⟨a1, a2, rfl⟩ := lotOf_some h1
      exact ⟨⟨a1, a2⟩, by rw [e]; rfl⟩
    · split at h
      · rename_i e
        split at h
        · cases h
        · rename_i zss hz
          split at h
          · rename_i ok
            injection h with h
            subst h
            refine ⟨ok, ?_⟩
            obtain ⟨_, e2⟩ := lots_iff.mp hz
            have j := spl_joinC (c := 124) b
            rw [e2] at j
            show [a, b] = [wParts, Txt.join bar (zss.map lotT)]
            rw [e, j]
          · cases h
      · cases h
  · rename_i a b c
    split at h
    · rename_i e
      split at h
      · rename_i i j h1 h2
        injection h with h
        subst h
        obtain ⟨i8, rfl⟩ := figN_iff.mp h1
        obtain ⟨j8, rfl⟩ := figN_iff.mp h2
        exact ⟨⟨i8, j8⟩, by rw [e]; rfl⟩
      · cases h
    · cases h
  · cases h
theorem join_clean {c d : Nat} (cd : c ≠ d) : ∀ {ws : List Str}, (∀ w ∈ ws, c ∉ w.cps.toList) → c ∉ (Txt.join (sg d) ws).cps.toList := fun {ws} h => by
  rw [join_jnC]
  have key : ∀ {L : List (List Nat)}, (∀ w ∈ L, c ∉ w) → c ∉ jnC d L := fun {L} => by
    induction L with
    | nil => exact fun _ => List.not_mem_nil
    | cons w r ih =>
      intro h
      cases r with
      | nil => exact h w List.mem_cons_self
      | cons v r =>
        show c ∉ w ++ d :: jnC d (v :: r)
        intro z
        rcases List.mem_append.mp z with z | z
        · exact h w List.mem_cons_self z
        · rcases List.mem_cons.mp z with z | z
          · exact cd z
          · exact ih (fun u hu => h u (List.mem_cons_of_mem _ hu)) z
  exact key fun w hw => by
    obtain ⟨v, hv, rfl⟩ := List.mem_map.mp hw
    exact h v hv
theorem lotT_clean {c : Nat} (hc : c = 124 ∨ c = 32) {zs : List Nat} (h8 : ∀ i ∈ zs, i < 8) : c ∉ (lotT zs).cps.toList := by
  unfold lotT
  split
  · show c ∉ [45]
    simp
    omega
  · exact join_clean (by omega) fun w hw => by
      obtain ⟨i, hi, rfl⟩ := List.mem_map.mp hw
      exact fig_cleanC (h8 i hi) (.inr hc)
theorem lkW_clean {L : Lk} (ok : LkOk L) : ∀ w ∈ lkW L, 32 ∉ w.cps.toList := by
  cases L with
  | inn zs =>
    intro w hw
    rcases List.mem_cons.mp hw with rfl | hw
    · decide
    · rw [List.mem_singleton.mp hw]
      exact lotT_clean (.inr rfl) ok.1
  | parts zss =>
    intro w hw
    rcases List.mem_cons.mp hw with rfl | hw
    · decide
    · rw [List.mem_singleton.mp hw]
      exact join_clean (by decide) fun w hw => by
        obtain ⟨zs, hz, rfl⟩ := List.mem_map.mp hw
        exact lotT_clean (.inr rfl) (ok.1 zs hz).2.1
  | near b k =>
    intro w hw
    rcases List.mem_cons.mp hw with rfl | hw
    · decide
    · rcases List.mem_cons.mp hw with rfl | hw
      · exact fig_cleanC ok.1 (.inr (.inr rfl))
      · rw [List.mem_singleton.mp hw]
        exact fig_cleanC ok.2 (.inr (.inr rfl))
theorem lkT_split {L : Lk} (ok : LkOk L) : Txt.split (lkT L) sp = lkW L := spl_of_join (by cases L <;> exact List.cons_ne_nil _ _) (lkW_clean ok)
open Classical in
theorem lkOf_lkW {L : Lk} (ok : LkOk L) : lkOf (lkW L) = some L := by
  cases L with
  | inn zs =>
    have e : lkOf (lkW (.inn zs)) = (lotOf (lotT zs)).map Lk.inn := by
      show (if wIn = wIn then (lotOf (lotT zs)).map Lk.inn else (if wIn = wParts then (match lots (Txt.split (lotT zs) bar) with
        | none => none
        | some zss => if LkOk (.parts zss) then some (Lk.parts zss) else none) else none)) = _
      exact if_pos rfl
    rw [e, lotOf_lotT ok.1 ok.2]
    rfl
  | parts zss =>
    have ne : ¬ wParts = wIn := by decide
    have sp2 : Txt.split (Txt.join bar (zss.map lotT)) bar = zss.map lotT := spl_of_joinC (c := 124) (by decide) (by simpa using ok.2.1) fun w hw => by
      obtain ⟨zs, hz, rfl⟩ := List.mem_map.mp hw
      exact lotT_clean (.inl rfl) (ok.1 zs hz).2.1
    show (if wParts = wIn then (lotOf (Txt.join bar (zss.map lotT))).map Lk.inn else if wParts = wParts then (match lots (Txt.split (Txt.join bar (zss.map lotT)) bar) with
      | none => none
      | some zss => if LkOk (.parts zss) then some (Lk.parts zss) else none) else none) = _
    rw [if_neg ne, if_pos rfl, sp2, lots_iff.mpr ⟨fun zs hz => (ok.1 zs hz).2, rfl⟩]
    exact if_pos ok
  | near b k =>
    show (if wNear = wNear then (match figN (figT b), figN (figT k) with
      | some i, some j => some (Lk.near i j)
      | _, _ => none) else none) = _
    rw [if_pos rfl, figN_iff.mpr ⟨ok.1, rfl⟩, figN_iff.mpr ⟨ok.2, rfl⟩]
/-- what is written is read -/
theorem lk_read {L : Lk} (ok : LkOk L) : lkOf (Txt.split (lkT L) sp) = some L := by rw [lkT_split ok, lkOf_lkW ok]
end RLT
/-! looks as texts, piece by piece; what words give that tell no look -/
namespace RLT
open PySem StrLaws Builtin Builtin.Str
theorem join_one (c : Nat) (w : Str) : Txt.join (sg c) [w] = w := by
  show glued _ _ = _
  rw [glued_eq_join]
  rfl
theorem join_more (c : Nat) (w v : Str) (r : List Str) : Txt.join (sg c) (w :: v :: r) = w ++ (sg c) ++ Txt.join (sg c) (v :: r) := by
  show glued _ _ = _ ++ glued _ _
  rw [glued_eq_join, glued_eq_join]
  rfl
theorem app_list (a b : Str) : (a ++ b).cps.toList = a.cps.toList ++ b.cps.toList := by
  show (a.cps ++ b.cps).toList = _
  rw [Array.toList_append]
theorem lk_inn (zs : List Nat) : lkT (.inn zs) = ("in " : Str) ++ lotT zs := by
  show Txt.join (sg 32) [wIn, lotT zs] = _
  rw [join_more, join_one, show wIn ++ (sg 32) = ("in " : Str) by decide +kernel]
theorem lk_parts (zss : List (List Nat)) : lkT (.parts zss) = ("parts " : Str) ++ Txt.join bar (zss.map lotT) := by
  show Txt.join (sg 32) [wParts, Txt.join bar (zss.map lotT)] = _
  rw [join_more, join_one, show wParts ++ (sg 32) = ("parts " : Str) by decide +kernel]
theorem lk_near (b k : Nat) : lkT (.near b k) = (("near " : Str) ++ figT b) ++ (" " : Str) ++ figT k := by
  show Txt.join (sg 32) [wNear, figT b, figT k] = _
  rw [join_more, join_more, join_one, show wNear ++ (sg 32) = ("near " : Str) by decide +kernel, show (" " : Str) = sg 32 by decide +kernel]
  refine str_ext ?_
  simp only [app_list, List.append_assoc]
theorem len_list (a : Str) : a.length = a.cps.toList.length := by simp [Str.length]
theorem fig_len (i : Nat) : (figT i).length = 1 := by rw [len_list]; rfl
theorem figs_len (zs : List Nat) : (Txt.join comma (zs.map figT)).length ≤ 2 * zs.length := by
  rw [join_lenC, List.length_map, List.map_map]
  have : ∀ zs : List Nat, (zs.map ((fun w : Str => w.length) ∘ figT)).sum = zs.length := fun zs => by
    induction zs with
    | nil => rfl
    | cons z r ih => rw [List.map_cons, List.sum_cons, ih, List.length_cons, show ((fun w : Str => w.length) ∘ figT) z = 1 from fig_len z]; omega
  rw [show ((zs.map ((·.length) ∘ figT))).sum = zs.length from this zs]
  omega
theorem lot_len (zs : List Nat) : (lotT zs).length ≤ 2 * zs.length + 1 := by
  unfold lotT
  split
  · rw [len_list]
    show 1 ≤ _
    omega
  · have := figs_len zs
    omega
theorem rise_few {n : Nat} {zs : List Nat} (h8 : ∀ i ∈ zs, i < n) (s : zs.Pairwise (· < ·)) : zs.length ≤ n := by
  have nd : zs.Nodup := s.imp fun {a b} h e => by omega
  have := nd.length_le_of_subset (l₂ := List.range n) fun i hi => List.mem_range.mpr (h8 i hi)
  rw [List.length_range] at this
  exact this
theorem part_len : ∀ {zss : List (List Nat)}, (∀ zs ∈ zss, zs ≠ []) → zss.length ≤ zss.flatten.length
  | [], _ => Nat.le_refl _
  | zs :: zss, h => by
    have ih := part_len (zss := zss) fun y hy => h y (List.mem_cons_of_mem _ hy)
    have h1 := List.length_pos_iff.mpr (h zs List.mem_cons_self)
    rw [List.flatten_cons, List.length_append, List.length_cons]
    omega
theorem parts_few {zss : List (List Nat)} (ok : LkOk (.parts zss)) : 1 ≤ zss.flatten.length ∧ zss.flatten.length ≤ 8 ∧ zss.length ≤ 8 := by
  obtain ⟨h1, h2, h3⟩ := ok
  have nd : zss.flatten.Nodup := h3.nodup_iff.mpr List.nodup_range
  have l8 : zss.flatten.length ≤ 8 := by
    have := nd.length_le_of_subset (l₂ := List.range 8) fun i hi => by
      obtain ⟨zs, hz, m⟩ := List.mem_flatten.mp hi
      exact List.mem_range.mpr ((h1 zs hz).2.1 i m)
    rw [List.length_range] at this
    exact this
  have := part_len fun zs hz => (h1 zs hz).1
  have p := List.length_pos_iff.mpr h2
  omega
theorem sum_most {m : Nat} : ∀ {ys : List Str}, (∀ y ∈ ys, y.length ≤ m) → (ys.map (·.length)).sum ≤ ys.length * m
  | [], _ => by simp
  | y :: ys, h => by
    have h1 := h y (List.mem_cons_self ..)
    have h2 := sum_most (ys := ys) fun z hz => h z (List.mem_cons_of_mem _ hz)
    rw [List.map_cons, List.sum_cons, List.length_cons, Nat.succ_mul]
    omega
theorem parts_sum {zss : List (List Nat)} (ok : LkOk (.parts zss)) : ((zss.map lotT).map (·.length)).sum ≤ 136 := by
  have l8 := (parts_few ok).2.2
  have := sum_most (m := 17) (ys := zss.map lotT) fun y hy => by
    obtain ⟨zs, hz, rfl⟩ := List.mem_map.mp hy
    have h1 := rise_few (ok.1 zs hz).2.1 (ok.1 zs hz).2.2
    have h2 := lot_len zs
    omega
  rw [List.length_map] at this
  omega
theorem parts_len {zss : List (List Nat)} (ok : LkOk (.parts zss)) : (Txt.join bar (zss.map lotT)).length ≤ 144 := by
  have l8 := (parts_few ok).2.2
  have := parts_sum ok
  rw [join_lenC, List.length_map]
  omega
theorem range_getD {α β : Type} (xs : List α) (d : α) (f : α → β) : (List.range xs.length).map (fun i => f (xs.getD i d)) = xs.map f := by
  refine List.ext_getElem? fun i => ?_
  rw [List.getElem?_map, List.getElem?_map]
  by_cases hi : i < xs.length
  · rw [List.getElem?_range hi, List.getElem?_eq_getElem hi]
    show some (f (xs.getD i d)) = _
    rw [List.getD_eq_getElem?_getD, List.getElem?_eq_getElem hi]
    rfl
  · rw [List.getElem?_eq_none (by simpa using hi), List.getElem?_eq_none (by simpa using hi)]
    rfl
theorem figs_some : ∀ ws : List Str, (figs ws).isSome = ws.all fun w => (figN w).isSome
  | [] => rfl
  | w :: ws => by
    have ih := figs_some ws
    rw [List.all_cons, ← ih, figs]
    generalize figs ws = x
    generalize figN w = y
    cases y <;> cases x <;> rfl
theorem figs_get : ∀ {ws : List Str} {is : List Nat}, figs ws = some is → ws.map (fun w => (figN w).getD 0) = is
  | [], is, h => by
    exact Option.some.inj h
  | w :: ws, is, h => by
    unfold figs at h
    split at h
    · rename_i i js h1 h2
      injection h with h
      subst h
      rw [List.map_cons, h1, figs_get h2]
      rfl
    · cases h
theorem figs_few {t : Str} {is : List Nat} (h : figs (Txt.split t comma) = some is) : 2 * is.length ≤ t.length + 1 := by
  obtain ⟨_, e⟩ := figs_iff.mp h
  have s := spl_sumC (c := 44) (by decide) t
  have e : Txt.split t (sg 44) = is.map figT := e
  rw [e, List.length_map, List.map_map] at s
  have one : ∀ zs : List Nat, (zs.map ((fun w : Str => w.length) ∘ figT)).sum = zs.length := fun zs => by
    induction zs with
    | nil => rfl
    | cons z r ih => rw [List.map_cons, List.sum_cons, ih, List.length_cons, show ((fun w : Str => w.length) ∘ figT) z = 1 from fig_len z]; omega
  have := one is
  omega
theorem le_sums : ∀ {ws : List Str} {w : Str}, w ∈ ws → w.length ≤ (ws.map (·.length)).sum
  | v :: ws, w, h => by
    rw [List.map_cons, List.sum_cons]
    rcases List.mem_cons.mp h with rfl | h
    · omega
    · have := le_sums h
      omega
theorem spl_le {c : Nat} (hc : c < 256) {t w : Str} (h : w ∈ Txt.split t (sg c)) : w.length ≤ t.length := by
  have s := spl_sumC hc t
  have k := le_sums h
  have := List.length_pos_of_mem h
  omega
theorem rise_ints {zs : List Nat} : (zs.map fun z : Nat => (z : Int)).Pairwise (· < ·) ↔ zs.Pairwise (· < ·) := by
  rw [List.pairwise_map]
  exact ⟨fun h => h.imp fun {a b} k => by omega, fun h => h.imp fun {a b} k => by omega⟩
theorem lotOf_is {t : Str} {is : List Nat} (nd : t ≠ dash) (h : figs (Txt.split t comma) = some is) : lotOf t = if is.Pairwise (· < ·) then some is else none := by
  unfold lotOf
  rw [if_neg nd, h]
theorem lotOf_no {t : Str} (nd : t ≠ dash) (h : figs (Txt.split t comma) = none) : lotOf t = none := by
  unfold lotOf
  rw [if_neg nd, h]
theorem lotOf_dash : lotOf dash = some [] := by
  unfold lotOf
  rw [if_pos rfl]
/-- what the program makes of words: perhaps no look -/
inductive Wd where
  | non
  | inn (o : Option (List Nat))
  | parts (os : List (Option (List Nat)))
  | near (b k : Option Nat)
def wdOf : List Str → Wd
  | [a, b] => if a = wIn then .inn (lotOf b) else if a = wParts then .parts ((Txt.split b bar).map lotOf) else .non
  | [a, b, c] => if a = wNear then .near (figN b) (figN c) else .non
  | _ => .non
/-- it is a look of a board of n places -/
def WdOk (n : Nat) : Wd → Prop
  | .non => False
  | .inn o => ∃ zs : List Nat, o = some zs ∧ ∀ i ∈ zs, i < n
  | .parts os => ∃ zss : List (List Nat), os = zss.map some ∧ (∀ zs ∈ zss, zs ≠ [] ∧ ∀ i ∈ zs, i < n) ∧ zss.flatten.Perm (List.range n)
  | .near b k => ∃ i j : Nat, b = some i ∧ k = some j ∧ i < n ∧ j ≤ 7
def lkWd : Lk → Wd
  | .inn zs => .inn (some zs)
  | .parts zss => .parts (zss.map some)
  | .near b k => .near (some b) (some k)
theorem lots_map : ∀ {ws : List Str} {zss : List (List Nat)}, lots ws = some zss ↔ ws.map lotOf = zss.map some
  | [], zss => by
    cases zss with
    | nil => exact ⟨fun _ => rfl, fun _ => rfl⟩
    | cons _ _ => exact ⟨fun h => (by cases h), fun h => (by cases h)⟩
  | w :: ws, zss => by
    have ih := fun zss => lots_map (ws := ws) (zss := zss)
    cases e1 : lotOf w with
    | none =>
      unfold lots
      rw [e1]
      constructor
      · intro h
        cases h
      · intro h
        rw [List.map_cons, e1] at h
        cases zss with
        | nil => cases h
        | cons _ _ => cases h
    | some i =>
      cases e2 : lots ws with
      | none =>
        unfold lots
        rw [e1, e2]
        constructor
        · intro h
          cases h
        · intro h
          rw [List.map_cons, e1] at h
          cases zss with
          | nil => cases h
          | cons z r =>
            injection h with _ h
            have := (ih r).mpr h
            rw [e2] at this
            cases this
      | some is =>
        have h0 := (ih is).mp e2
        unfold lots
        rw [e1, e2, List.map_cons, e1, h0]
        constructor
        · intro h
          rw [← Option.some.inj h] <;> rfl
        · intro h
          cases zss with
          | nil => cases h
          | cons z r =>
            injection h with h1 h2
            rw [Option.some.inj h1, (List.map_inj_right (fun _ _ e => Option.some.inj e)).mp h2]
theorem lkOf_wd {W : List Str} {L : Lk} (h : lkOf W = some L) : wdOf W = lkWd L := by
  obtain ⟨ok, e⟩ := lkOf_some h
  subst e
  cases L with
  | inn zs =>
    show (if wIn = wIn then Wd.inn (lotOf (lotT zs)) else if wIn = wParts then Wd.parts ((Txt.split (lotT zs) bar).map lotOf) else .non) = _
    rw [if_pos rfl, lotOf_lotT ok.1 ok.2] <;> rfl
  | parts zss =>
    have ne : ¬ wParts = wIn := by decide
    have sp2 : Txt.split (Txt.join bar (zss.map lotT)) bar = zss.map lotT := spl_of_joinC (c := 124) (by decide) (by simpa using ok.2.1) fun w hw => by
      obtain ⟨zs, hz, rfl⟩ := List.mem_map.mp hw
      exact lotT_clean (.inl rfl) (ok.1 zs hz).2.1
    show (if wParts = wIn then Wd.inn (lotOf (Txt.join bar (zss.map lotT))) else if wParts = wParts then Wd.parts ((Txt.split (Txt.join bar (zss.map lotT)) bar).map lotOf) else .non) = _
    rw [if_neg ne, if_pos rfl, sp2, lots_map.mp (lots_iff.mpr ⟨fun zs hz => (ok.1 zs hz).2, rfl⟩)] <;> rfl
  | near b k =>
    show (if wNear = wNear then Wd.near (figN (figT b)) (figN (figT k)) else .non) = _
    rw [if_pos rfl, figN_iff.mpr ⟨ok.1, rfl⟩, figN_iff.mpr ⟨ok.2, rfl⟩] <;> rfl
theorem wd_ok {L : Lk} (ok : LkOk L) : ∃ n, 1 ≤ n ∧ n ≤ 8 ∧ WdOk n (lkWd L) := by
  cases L with
  | inn zs => exact ⟨8, by omega, by omega, zs, rfl, ok.1⟩
  | parts zss =>
    obtain ⟨l1, l8, _⟩ := parts_few ok
    refine ⟨_, l1, l8, zss, rfl, fun zs hz => ⟨(ok.1 zs hz).1, fun i hi => ?_⟩, ok.2.2⟩
    exact List.mem_range.mp (ok.2.2.mem_iff.mp (List.mem_flatten.mpr ⟨zs, hz, hi⟩))
  | near b k => exact ⟨8, by omega, by omega, b, k, rfl, rfl, ok.1, by have := ok.2; omega⟩
open Classical in
theorem wd_none {W : List Str} (h : lkOf W = none) {n : Nat} (n8 : n ≤ 8) (n1 : 1 ≤ n) : ¬ WdOk n (wdOf W) := by
  unfold lkOf at h
  unfold wdOf
  split at h
  · rename_i a b
    try dsimp only
    split at h
    · rename_i e
      rw [if_pos e]
      rintro ⟨zs, e1, _⟩
      rw [e1] at h
      cases h
    · rename_i ne
      rw [if_neg ne]
      split at h
      · rename_i e
        rw [if_pos e]
        rintro ⟨zss, e1, k1, k2⟩
        have e2 := lots_map.mpr e1
        rw [e2] at h
        have h : (if LkOk (.parts zss) then some (Lk.parts zss) else none) = none := h
        obtain ⟨q1, q2⟩ := lots_iff.mp e2
        have ln : zss.flatten.length = n := by rw [k2.length_eq, List.length_range]
        rw [if_pos ⟨fun zs hz => ⟨(k1 zs hz).1, q1 zs hz⟩, fun z => by
          rw [z] at q2
          exact spl_neC (c := 124) (by decide) b q2, by rw [ln]; exact k2⟩] at h
        cases h
      · rename_i ne2
        rw [if_neg ne2]
        exact id
  · rename_i a b c
    try dsimp only
    split at h
    · rename_i e
      rw [if_pos e]
      rintro ⟨i, j, e1, e2, _⟩
      rw [e1, e2] at h
      cases h
    · rename_i ne
      rw [if_neg ne]
      exact id
  · rename_i n2 n3
    first
      | exact id
      | (split
         · exact absurd rfl (n2 _ _)
         · exact absurd rfl (n3 _ _ _)
         · exact id)
/-- its lots are short ones, each with its places in order -/
def ShortO (o : Option (List Nat)) : Prop := ∀ zs, o = some zs → zs.length ≤ 8 ∧ zs.Pairwise (· < ·)
def WdFew : Wd → Prop
  | .non => True
  | .inn o => ShortO o
  | .parts os => os.length ≤ 2001 ∧ (∀ o ∈ os, ShortO o) ∧ ∀ zss : List (List Nat), os = zss.map some → zss.flatten.length ≤ 1001
  | .near _ _ => True
theorem short_lot (w : Str) : ShortO (lotOf w) := fun zs h => by
  obtain ⟨h1, h2, _⟩ := lotOf_some h
  exact ⟨rise_few h1 h2, h2⟩
theorem figs_lenE : ∀ {zs : List Nat}, zs ≠ [] → (Txt.join comma (zs.map figT)).length + 1 = 2 * zs.length := fun {zs} hz => by
  rw [join_lenC, List.length_map, List.map_map]
  have one : ∀ zs : List Nat, (zs.map ((fun w : Str => w.length) ∘ figT)).sum = zs.length := fun zs => by
    induction zs with
    | nil => rfl
    | cons z r ih => rw [List.map_cons, List.sum_cons, ih, List.length_cons, show ((fun w : Str => w.length) ∘ figT) z = 1 from fig_len z]; omega
  rw [show ((zs.map ((·.length) ∘ figT))).sum = zs.length from one zs]
  have := List.length_pos_iff.mpr hz
  omega
theorem lot_lenE (zs : List Nat) : 2 * zs.length ≤ (lotT zs).length + 1 := by
  unfold lotT
  by_cases e : zs = []
  · subst e
    exact Nat.zero_le _
  · rw [if_neg e, figs_lenE e]
    exact Nat.le_refl _
theorem flat_two : ∀ zss : List (List Nat), 2 * zss.flatten.length ≤ ((zss.map lotT).map (·.length)).sum + zss.length
  | [] => Nat.le_refl _
  | zs :: zss => by
    have ih := flat_two zss
    have h1 := lot_lenE zs
    rw [List.flatten_cons, List.length_append, List.map_cons, List.map_cons, List.sum_cons, List.length_cons]
    omega
theorem wd_few {W : List Str} (h : ∀ w ∈ W, w.length ≤ 2000) : WdFew (wdOf W) := by
  unfold wdOf
  split
  · rename_i a b
    split
    · exact short_lot b
    · split
      · have lb := h b (by simp)
        have few : (Txt.split b bar).length ≤ 2001 := by
          have := spl_lenC (c := 124) (by decide) b
          have e : (Txt.split b (sg 124)).length = (Txt.split b bar).length := rfl
          have k := List.count_le_length (a := 124) (l := b.cps.toList)
          rw [← len_list] at k
          omega
        refine ⟨by rw [List.length_map]; exact few, fun o ho => ?_, fun zss e => ?_⟩
        · obtain ⟨w, _, rfl⟩ := List.mem_map.mp ho
          exact short_lot w
        · obtain ⟨_, e2⟩ := lots_iff.mp (lots_map.mpr e)
          have s := spl_sumC (c := 124) (by decide) b
          have e2 : Txt.split b (sg 124) = zss.map lotT := e2
          rw [e2, List.length_map] at s
          have := flat_two zss
          omega
      · trivial
  · split <;> trivial
  · trivial
theorem rise_uniq : ∀ {xs ys : List Int}, xs.Pairwise (· < ·) → ys.Pairwise (· < ·) → (∀ a, a ∈ xs ↔ a ∈ ys) → xs = ys
  | [], [], _, _, _ => rfl
  | [], y :: ys, _, _, h => absurd ((h y).2 (List.mem_cons_self ..)) (by simp)
  | x :: xs, [], _, _, h => absurd ((h x).1 (List.mem_cons_self ..)) (by simp)
  | x :: xs, y :: ys, px, py, h => by
    obtain ⟨p1, p2⟩ := List.pairwise_cons.mp px
    obtain ⟨q1, q2⟩ := List.pairwise_cons.mp py
    have e : x = y := by
      rcases List.mem_cons.mp ((h x).1 (List.mem_cons_self ..)) with e | hx
      · exact e
      · rcases List.mem_cons.mp ((h y).2 (List.mem_cons_self ..)) with e | hy
        · exact e.symm
        · have := p1 y hy
          have := q1 x hx
          omega
    subst e
    refine congrArg (x :: ·) (rise_uniq p2 q2 fun a => ⟨fun ha => ?_, fun ha => ?_⟩)
    · rcases List.mem_cons.mp ((h a).1 (List.mem_cons_of_mem _ ha)) with e | k
      · have := p1 a ha
        omega
      · exact k
    · rcases List.mem_cons.mp ((h a).2 (List.mem_cons_of_mem _ ha)) with e | k
      · have := q1 a ha
        omega
      · exact k
theorem up_strict : ∀ {l : List Int}, l.Pairwise (· ≤ ·) → l.Nodup → l.Pairwise (· < ·)
  | [], _, _ => .nil
  | x :: l, h, d => by
    obtain ⟨h1, h2⟩ := List.pairwise_cons.mp h
    obtain ⟨d1, d2⟩ := List.nodup_cons.mp d
    refine List.pairwise_cons.mpr ⟨fun y hy => ?_, up_strict h2 d2⟩
    have a := h1 y hy
    have b : x ≠ y := fun z => d1 (z ▸ hy)
    omega
theorem back_ints (zs : List Nat) : (zs.map fun z : Nat => (z : Int)).map Int.toNat = zs := by
  rw [List.map_map]
  exact (List.map_congr_left fun z _ => rfl).trans (List.map_id zs)
theorem sorted_range {ms : List Int} {flat : List Nat} {n : Nat} (pm : ms.Perm (flat.map fun z : Nat => (z : Int))) (so : ms.Pairwise (· ≤ ·)) : ms = ((List.range n).map fun z : Nat => (z : Int)) ↔ flat.Perm (List.range n) := by
  constructor
  · intro e
    rw [e] at pm
    have := (pm.map Int.toNat).symm
    rwa [back_ints, back_ints] at this
  · intro p
    have pm2 := pm.trans (p.map fun z : Nat => (z : Int))
    have s2 : ((List.range n).map fun z : Nat => (z : Int)).Pairwise (· < ·) := rise_ints.mpr List.pairwise_lt_range
    exact rise_uniq (up_strict so (pm2.nodup_iff.mpr (s2.imp fun {a b} h e => by omega))) s2 fun a => pm2.mem_iff
theorem all_filled {n : Nat} {os : List (Option (List Nat))} (h : ∀ o ∈ os, ∃ zs : List Nat, o = some zs ∧ zs ≠ [] ∧ ∀ i ∈ zs, i < n) : ∃ zss : List (List Nat), os = zss.map some ∧ ∀ zs ∈ zss, zs ≠ [] ∧ ∀ i ∈ zs, i < n := by
  induction os with
  | nil => exact ⟨[], rfl, fun zs h => absurd h List.not_mem_nil⟩
  | cons o os ih =>
    obtain ⟨zs, e, k⟩ := h o List.mem_cons_self
    obtain ⟨zss, e2, k2⟩ := ih fun o ho => h o (List.mem_cons_of_mem _ ho)
    exact ⟨zs :: zss, by rw [e, e2]; rfl, fun y hy => (List.mem_cons.mp hy).elim (fun z => z ▸ k) (k2 y)⟩
end RLT
/-! figures as texts, sorted -/
namespace RLT
open PySem PySem.Spec PyProof.Rows
theorem fig_lt {i j : Nat} : ltCps (figT i).cps.toList (figT j).cps.toList = decide (i < j) := by
  show ltCps [48 + i] [48 + j] = _
  unfold ltCps
  show (decide (48 + i < 48 + j) || ((48 + i == 48 + j) && false)) = _
  rw [Bool.and_false, Bool.or_false, decide_eq_decide]
  omega
theorem fig_inj {i j : Nat} (h : figT i = figT j) : i = j := by
  have h : (figT i).cps.toList = (figT j).cps.toList := by rw [h]
  have h : [48 + i] = [48 + j] := h
  injection h with h
  omega
theorem figs_up : ∀ {js : List Nat}, sortedS (js.map figT) = true → js.Pairwise (· ≤ ·)
  | [], _ => .nil
  | [j], _ => List.pairwise_singleton ..
  | i :: j :: r, h => by
    have h : (!ltCps (figT j).cps.toList (figT i).cps.toList && risingS (figT j) (r.map figT)) = true := h
    rw [Bool.and_eq_true, fig_lt] at h
    have le : i ≤ j := by
      have := h.1
      simp at this
      omega
    have up := figs_up (js := j :: r) h.2
    refine List.pairwise_cons.mpr ⟨fun k hk => ?_, up⟩
    rcases List.mem_cons.mp hk with rfl | hk
    · exact le
    · exact Nat.le_trans le ((List.pairwise_cons.mp up).1 k hk)
theorem all_figs : ∀ {ys : List Str}, (∀ y ∈ ys, ∃ j, y = figT j) → ∃ js : List Nat, ys = js.map figT
  | [], _ => ⟨[], rfl⟩
  | y :: ys, h => by
    obtain ⟨j, e⟩ := h y List.mem_cons_self
    obtain ⟨js, e2⟩ := all_figs fun z hz => h z (List.mem_cons_of_mem _ hz)
    exact ⟨j :: js, by rw [e, e2]; rfl⟩
/-- figures are as their set, sorted, just where they rise -/
theorem figs_sorted {is : List Nat} {L ys : List Str} (nd : L.Nodup) (m : ∀ z, z ∈ L ↔ z ∈ is.map figT) (pm : ys.Perm L) (so : sortedS ys = true) : is.map figT = ys ↔ is.Pairwise (· < ·) := by
  obtain ⟨js, rfl⟩ := all_figs (ys := ys) fun y hy => by
    obtain ⟨i, _, e⟩ := List.mem_map.mp ((m y).mp (pm.mem_iff.mp hy))
    exact ⟨i, e.symm⟩
  have up := figs_up so
  have ndj : js.Nodup := List.Pairwise.of_map figT (fun a b h e => h (by rw [e])) (pm.nodup_iff.mpr nd)
  have st : js.Pairwise (· < ·) := by
    have := up.and ndj
    exact this.imp fun {a b} h => by omega
  constructor
  · intro e
    rw [(List.map_inj_right (fun _ _ e => fig_inj e)).mp e]
    exact st
  · intro hi
    have mm : ∀ a, a ∈ is ↔ a ∈ js := fun a => by
      have h := (m (figT a)).symm.trans pm.mem_iff.symm
      have inj : ∀ xs : List Nat, figT a ∈ xs.map figT ↔ a ∈ xs := fun xs => by
        rw [List.mem_map]
        exact ⟨fun ⟨b, hb, e⟩ => fig_inj e ▸ hb, fun h => ⟨a, h, rfl⟩⟩
      rw [inj, inj] at h
      exact h
    have e := rise_uniq (rise_ints.mpr hi) (rise_ints.mpr st) fun a => by
      rw [List.mem_map, List.mem_map]
      exact ⟨fun ⟨b, hb, e⟩ => ⟨b, (mm b).mp hb, e⟩, fun ⟨b, hb, e⟩ => ⟨b, (mm b).mpr hb, e⟩⟩
    have e2 := congrArg (List.map Int.toNat) e
    rw [back_ints, back_ints] at e2
    rw [e2]
theorem fig_ok : ∀ i < 8, PyData.strOk (figT i) = true := by decide +kernel
/-- the figures among signs -/
def digP (a : Nat) : Bool := decide (48 ≤ a ∧ a < 56)
theorem filter_jn {c : Nat} (hc : digP c = false) : ∀ L : List (List Nat), (jnC c L).filter digP = (L.map (List.filter digP)).flatten
  | [] => rfl
  | [w] => by
    show w.filter digP = _
    simp
  | w :: v :: r => by
    have ih := filter_jn hc (v :: r)
    show (w ++ c :: jnC c (v :: r)).filter digP = _
    rw [List.filter_append, List.filter_cons, hc, ih, List.map_cons, List.flatten_cons]
    rfl
theorem filter_fig {i : Nat} (h : i < 8) : (figT i).cps.toList.filter digP = [48 + i] := by
  show [48 + i].filter digP = _
  rw [List.filter_cons, show digP (48 + i) = true from decide_eq_true (by omega)]
  rfl
theorem filter_figs : ∀ {zs : List Nat}, (∀ i ∈ zs, i < 8) → (((zs.map figT).map fun w => w.cps.toList).map (List.filter digP)).flatten = zs.map (48 + ·)
  | [], _ => rfl
  | z :: zs, h => by
    have ih := filter_figs (zs := zs) fun i hi => h i (List.mem_cons_of_mem _ hi)
    rw [List.map_cons, List.map_cons, List.map_cons, List.flatten_cons, filter_fig (h z List.mem_cons_self), ih]
    rfl
theorem filter_lot {zs : List Nat} (h : ∀ i ∈ zs, i < 8) : (lotT zs).cps.toList.filter digP = zs.map (48 + ·) := by
  unfold lotT
  split
  · rename_i e
    subst e
    rfl
  · rw [join_jnC, filter_jn (c := 44) (by decide), filter_figs h]
theorem filter_lots : ∀ {zss : List (List Nat)}, (∀ zs ∈ zss, ∀ i ∈ zs, i < 8) → (((zss.map lotT).map fun w => w.cps.toList).map (List.filter digP)).flatten = zss.flatten.map (48 + ·)
  | [], _ => rfl
  | zs :: zss, h => by
    have ih := filter_lots (zss := zss) fun i hi => h i (List.mem_cons_of_mem _ hi)
    rw [List.map_cons, List.map_cons, List.map_cons, List.flatten_cons, filter_lot (h zs List.mem_cons_self), ih, List.flatten_cons, List.map_append]
theorem signs_parts {zss : List (List Nat)} (h : ∀ zs ∈ zss, ∀ i ∈ zs, i < 8) : ((Txt.join bar (zss.map lotT)).cps.toList.filter digP).map (· - 48) = zss.flatten := by
  rw [join_jnC, filter_jn (c := 124) (by decide), filter_lots h, List.map_map]
  have : ∀ l : List Nat, l.map ((fun x => x - 48) ∘ fun x => 48 + x) = l := fun l => by
    induction l with
    | nil => rfl
    | cons a l ih => rw [List.map_cons, ih]; congr 1; show 48 + a - 48 = a; omega
  exact this _
theorem parts_two : ∀ {zss : List (List Nat)}, (∀ zs ∈ zss, zs ≠ []) → ((zss.map lotT).map (·.length)).sum + zss.length = 2 * zss.flatten.length
  | [], _ => rfl
  | zs :: zss, h => by
    have ih := parts_two (zss := zss) fun y hy => h y (List.mem_cons_of_mem _ hy)
    have ne := h zs List.mem_cons_self
    have h1 := figs_lenE ne
    have e : lotT zs = Txt.join comma (zs.map figT) := if_neg ne
    rw [List.flatten_cons, List.length_append, List.map_cons, List.map_cons, List.sum_cons, List.length_cons, e]
    omega
theorem lkT_len {L : Lk} (ok : LkOk L) : (lkT L).length ≤ 22 := by
  have app (a b : Str) : (a ++ b).length = a.length + b.length := by rw [len_list, len_list, len_list, app_list, List.length_append]
  cases L with
  | inn zs =>
    rw [lk_inn, app, show ("in " : Str).length = 3 by decide +kernel]
    have := lot_len zs
    have := rise_few ok.1 ok.2
    omega
  | parts zss =>
    obtain ⟨_, f8, _⟩ := parts_few ok
    have := parts_two fun zs hz => (ok.1 zs hz).1
    rw [lk_parts, app, show ("parts " : Str).length = 6 by decide +kernel, join_lenC, List.length_map]
    omega
  | near b k =>
    rw [lk_near, app, app, app, fig_len, fig_len, show ("near " : Str).length = 5 by decide +kernel, show (" " : Str).length = 1 by decide +kernel]
    omega
/-- surely no look -/
def wdBad : Wd → Bool
  | .non => true
  | .inn o => o.isNone
  | .parts os => os.any (fun o => o.isNone || o == some []) || !((os.filterMap id).flatten.isPerm (List.range (os.filterMap id).flatten.length))
  | .near b k => b.isNone || k.isNone
theorem bad_not {L : Lk} (ok : LkOk L) : wdBad (lkWd L) = false := by
  cases L with
  | inn zs => rfl
  | near b k => rfl
  | parts zss =>
    obtain ⟨h1, _, h3⟩ := ok
    have e : (zss.map some).filterMap id = zss := by
      induction zss with
      | nil => rfl
      | cons z r ih => simp
    show ((zss.map some).any (fun o => o.isNone || o == some []) || !(((zss.map some).filterMap id).flatten.isPerm (List.range ((zss.map some).filterMap id).flatten.length))) = false
    rw [e, List.isPerm_iff.mpr h3, Bool.not_true, Bool.or_false]
    refine Bool.eq_false_iff.mpr fun z => ?_
    obtain ⟨o, ho, q⟩ := List.any_eq_true.mp z
    obtain ⟨zs, hz, rfl⟩ := List.mem_map.mp ho
    have ne := (h1 zs hz).1
    cases zs with
    | nil => exact ne rfl
    | cons a r => cases q
theorem lk_no {W : List Str} (h : wdBad (wdOf W) = true) : lkOf W = none := by
  cases e : lkOf W with
  | none => rfl
  | some L =>
    rw [lkOf_wd e, bad_not (lkOf_some e).1] at h
    cases h
theorem odd_a : wdBad (wdOf (Txt.split ("parts 0|0" : Str) sp)) = true := by decide +kernel
theorem odd_b : wdBad (wdOf (Txt.split ("in 1,0" : Str) sp)) = true := by decide +kernel
end RLT
/-! a set of texts: made of a list, and sorted -/
namespace RLS
open PySem PySem.Spec PyProof.Rows L2
/-- the text of a set's row -/
def txOf (e : Int × Value) : Str := match e.2 with
  | .str z _ => z
  | _ => default
def TxRow (w : World) (e : Int × Value) : Prop := ∃ z tk, e = (hashStr w z, Value.str z tk)
abbrev ledOk (w : World) (t : SetTable) : Prop := w.params.followText "set-order" = true ∨ t.led = true
/-- the rows of a set of texts, and its table -/
structure TxTab (w : World) (L : List Str) (es : Array (Int × Value)) (t : SetTable) : Prop where
  row : ∀ e ∈ es.toList, TxRow w e
  txt : (es.toList.map txOf).Perm L
  few : es.size < scanBound
  fit : t.fits es.size = true
  ris : Ris t.place.toList
  led : ledOk w t
/-- the set of texts at a: L its members -/
structure TxS (w : World) (h : Heap) (a : Addr) (L : List Str) : Prop where
  at_ : ∃ o es ep t, h.get? a = some o ∧ o.ExactSet ∧ o.data = .set es ep t ∧ TxTab w L es t
  nd : L.Nodup
section
variable {P : Program} {w : World} {A : Around} {E : Value → Shared → Prop} {s : Shared} {a : Addr} {L : List Str}
theorem TxS.keep {h h' : Heap} (R : TxS w h a L) (k : ∀ o, h.get? a = some o → h'.get? a = some o) : TxS w h' a L :=
  ⟨R.at_.elim fun o ⟨es, ep, t, ho, r⟩ => ⟨o, es, ep, t, k o ho, r⟩, R.nd⟩
theorem TxTab.elems {es : Array (Int × Value)} {t : SetTable} (T : TxTab w L es t) : ElemsOf (strKind P w) es.toList := fun e he => by
  obtain ⟨z, tk, rfl⟩ := T.row e he
  exact ⟨⟨z, strKind_is P w z tk, rfl⟩, rfl⟩
theorem row_is {e : Int × Value} (g : TxRow w e) (z : Str) : (strKind P w).is z e.2 = true ↔ txOf e = z := by
  obtain ⟨y, tk, rfl⟩ := g
  show (decide (y = z) = true) ↔ y = z
  exact decide_eq_true_iff
theorem TxTab.mem {es : Array (Int × Value)} {t : SetTable} (T : TxTab w L es t) (z : Str) : z ∈ L ↔ ∃ e ∈ es.toList, (strKind P w).is z e.2 = true := by
  rw [← T.txt.mem_iff, List.mem_map]
  exact ⟨fun ⟨e, he, q⟩ => ⟨e, he, (row_is (T.row e he) z).mpr q⟩, fun ⟨e, he, q⟩ => ⟨e, he, (row_is (T.row e he) z).mp q⟩⟩
theorem TxTab.len {es : Array (Int × Value)} {t : SetTable} (T : TxTab w L es t) : es.size = L.length := by
  rw [← T.txt.length_eq, List.length_map, Array.length_toList]
/-- the rows laid down, the table made wider where it is full -/
theorem tx_lay {g : Bool → Sem Unit} (quiet : ∀ (b : Bool) (s1 : Shared) (Q1 : Unit → Shared → Prop), Q1 () s1 → wpAny (model P w) A (g b) Q1 E s1) {o : Obj} {es rs : Array (Int × Value)} {ep : Nat} {t u : SetTable}
    (at0 : s.heap.get? a = some o) (exact_ : o.ExactSet) (dat : o.data = .set es ep t) (T : TxTab w L rs u) (nd : L.Nodup) {was : Bool} {R : Option Bool → Shared → Prop}
    (then_ : ∀ h1, Heap.SameBut a s.heap h1 → TxS w h1 a L → R (some true) { s with heap := h1 }) :
    wpAny (model P w) A (do
        storeSet a rs u
        if (!was && u.tooFull) = true then do
            g (relayAll u rs (SetTable.grown rs.size)).2.2
            storeSet a (relayAll u rs (SetTable.grown rs.size)).1 (relayAll u rs (SetTable.grown rs.size)).2.1
            pure (some true)
          else pure (some true)) R E s := by
  refine wpAny_bind (wpAny_storeSet_of at0 dat ?_ (fits_of_scanBound T.few))
  have at1 := store_at (es' := rs) (t' := u) at0 dat
  have but1 := Heap.SameBut.update s.heap a (Obj.putSet rs u)
  split
  · have p1 := relayAll_perm u rs (SetTable.grown rs.size)
    have p2 := relayAll_fits u rs (SetTable.grown rs.size)
    have p3 := relayAll_ris u rs (SetTable.grown rs.size)
    have p4 := relayAll_led u rs (SetTable.grown rs.size)
    generalize relayAll u rs (SetTable.grown rs.size) = new at p1 p2 p3 p4 ⊢
    obtain ⟨rs2, u2, gave2⟩ := new
    dsimp only at p1 p2 p3 p4 ⊢
    have sz : rs2.size = rs.size := by
      have := p1.length_eq
      rwa [Array.length_toList, Array.length_toList] at this
    have T2 : TxTab w L rs2 u2 := ⟨fun e he => T.row e (p1.mem_iff.mp he), (p1.map txOf).trans T.txt, by rw [sz]; exact T.few, p2, p3, T.led.imp id fun z => p4.trans z⟩
    refine wpAny_bind (quiet _ _ _ (wpAny_bind (wpAny_storeSet_of at1 rfl ?_ (fits_of_scanBound T2.few))))
    exact wpAny_pure (then_ _ (but1.trans (Heap.SameBut.update _ a _)) ⟨⟨_, rs2, _, u2, store_at (es' := rs2) (t' := u2) at1 rfl, exact_, rfl, T2⟩, nd⟩)
  · exact wpAny_pure (then_ _ but1 ⟨⟨_, rs, _, u, at1, exact_, rfl, T⟩, nd⟩)
open Classical in
theorem tx_add {z : Str} {tk : Tok} {Q : Bool → Shared → Prop} (R : TxS w s.heap a L) (room : L.length + 1 < scanBound)
    (then_ : ∀ h1 L1 b, Heap.SameBut a s.heap h1 → TxS w h1 a L1 → (L1 = if z ∈ L then L else z :: L) → Q b { s with heap := h1 }) :
    wpAny (model P w) A (setAddHashed a (.str z tk) ((strKind P w).hash z)) Q E s := by
  obtain ⟨⟨o, es, ep, t, at0, exact_, dat, T⟩, nd⟩ := R
  have is_ : (strKind P w).is z (.str z tk) = true := strKind_is P w z tk
  have scan_ : (Value.str z tk).scannable = true := rfl
  have elems := T.elems (P := P)
  unfold setAddHashed setAddHashedIn
  refine wpAny_holding (wpAny_bind (wpAny_setState_of at0 dat T.fit ?_))
  dsimp only
  rw [byScan_of scan_ T.few elems]
  simp only [↓reduceIte]
  unfold setAddByScan
  refine wpAny_bind (wpAny_bind (wpAny_rule (wpAny_bind (wpAny_setScan_of is_ at0 dat T.fit elems ?_))))
  cases found : List.findIdx? (fun e => (strKind P w).is z e.2) es.toList with
  | some j =>
    dsimp only
    obtain ⟨hj, pj, _⟩ := List.findIdx?_eq_some_iff_getElem.mp found
    have m : z ∈ L := (T.mem (P := P) z).mpr ⟨es.toList[j], List.getElem_mem hj, pj⟩
    exact wpAny_pure (wpAny_pure (then_ s.heap L _ (Heap.SameBut.refl a s.heap) ⟨⟨o, es, ep, t, at0, exact_, dat, T⟩, nd⟩ (if_pos m).symm))
  | none =>
    dsimp only
    have m : z ∉ L := fun y => by
      obtain ⟨e, he, q⟩ := (T.mem (P := P) z).mp y
      rw [List.findIdx?_eq_none_iff.mp found e he] at q
      cases q
    have quiet : ∀ (b : Bool) (s1 : Shared) (Q1 : Unit → Shared → Prop), Q1 () s1 → wpAny (model P w) A (match b with | true => rule "set.scan.the-table-gave-way" | false => pure ()) Q1 E s1 := by
      intro b s1 Q1 q
      cases b <;> first | exact wpAny_pure q | exact wpAny_rule q
    have p1 := layNew_perm t es ((strKind P w).hash z) (.str z tk)
    have p2 := layNew_fits t es ((strKind P w).hash z) (.str z tk)
    have p3 := layNew_ris t es ((strKind P w).hash z) (.str z tk) T.ris
    have p4 := layNew_led t es ((strKind P w).hash z) (.str z tk)
    generalize layNew t es ((strKind P w).hash z) (.str z tk) = new at p1 p2 p3 p4 ⊢
    obtain ⟨rs, u, was, gave⟩ := new
    dsimp only at p1 p2 p3 p4 ⊢
    rw [Array.toList_push] at p1
    have pc := p1.trans (List.perm_append_singleton (((strKind P w).hash z, Value.str z tk)) es.toList)
    have sz : rs.size = L.length + 1 := by
      have := pc.length_eq
      rw [Array.length_toList, List.length_cons, Array.length_toList, T.len] at this
      exact this
    have T1 : TxTab w (z :: L) rs u := ⟨fun e he => (List.mem_cons.mp (pc.mem_iff.mp he)).elim (fun y => ⟨z, tk, y⟩) (T.row e), (pc.map txOf).trans (T.txt.cons z), by rw [sz]; exact room, p2, p3, T.led.imp id fun y => p4.trans y⟩
    have nd1 : (z :: L).Nodup := List.nodup_cons.mpr ⟨m, nd⟩
    have last : ∀ h1, Heap.SameBut a s.heap h1 → TxS w h1 a (z :: L) → Q true { s with heap := h1 } := fun h1 sb r => then_ h1 _ true sb r (if_neg m).symm
    refine wpAny_bind (quiet _ _ _ ?_)
    split
    · refine wpAny_bind ?_
      rw [hashByValue_scannable 8 scan_]
      refine wpAny_pure (tx_lay (fun b s1 Q1 q => ?_) at0 exact_ dat (L := z :: L) ?_ nd1 fun h1 sb r => ?_)
      · cases b <;> first | exact wpAny_pure q | exact wpAny_rule q
      · first
          | exact T1
          | (split <;> first | exact T1 | exact ⟨T1.row, T1.txt, T1.few, SetTable.fits_plain_off T1.fit, T1.ris, T1.led⟩)
      · dsimp only
        exact wpAny_pure (last h1 sb r)
    · refine wpAny_bind (wpAny_pure ?_)
      simp only [↓reduceIte]
      refine tx_lay (fun b s1 Q1 q => ?_) at0 exact_ dat T1 nd1 fun h1 sb r => ?_
      · cases b <;> first | exact wpAny_pure q | exact wpAny_rule q
      · dsimp only
        exact wpAny_pure (last h1 sb r)
/-- a set that has just been made -/
abbrev noneYet (w : World) : Obj := { cls := .type "set", dict := none, data := .set #[] 0 (.fresh 0 0 (!w.params.followText "set-order")) }
theorem tx_fresh {h : Heap} {a : Addr} (at0 : h.get? a = some (noneYet w)) : TxS w h a [] := by
  refine ⟨⟨_, #[], 0, _, at0, ⟨rfl, rfl, rfl⟩, rfl, ⟨fun e he => by simp at he, by simp, by decide, by rfl, List.Pairwise.nil, ?_⟩⟩, .nil⟩
  show _ ∨ (!w.params.followText "set-order") = true
  cases w.params.followText "set-order" <;> simp
open Classical in
theorem tx_fill {I : Addr} {fp wr : List Addr} {G : Array GenState → Array GenState → Prop} {n : Nat} {Pv : Nat → Value → Prop} {St : Nat → Shared → Prop} {R : Result → Shared → Prop}
    (W : WalksS P w A.in1 I fp wr G n Pv St) (a : Addr) (apart : a ∉ fp) (zs : List Str) (len : n = zs.length) (few : zs.length + 1 < scanBound) (item : ∀ i v, Pv i v → ∃ z t, zs[i]? = some z ∧ v = .str z t) :
    ∀ (left i : Nat) (s : Shared), n - i = left → i ≤ n → St i s → (∃ L, L.length ≤ i ∧ (∀ z, z ∈ L ↔ z ∈ zs.take i) ∧ TxS w s.heap a L) →
      (∀ s1 L, Moved (a :: wr) G s s1 → L.length ≤ n → (∀ z, z ∈ L ↔ z ∈ zs) → TxS w s1.heap a L → R (.ok (.ret .none)) s1) →
      codeAny (model P w) A (.builtin "set.update.loop" ⟨[.ref a, .ref I], []⟩) R s := by
  have awr : a ∉ wr := fun y => apart (W.sub _ y)
  have more : ∀ b ∈ wr, b ∈ a :: wr := fun b hb => List.mem_cons_of_mem _ hb
  intro left
  induction left with
  | zero =>
    intro i s e0 le0 st0 ⟨L, l1, l2, T⟩ then_
    obtain rfl : i = n := by omega
    refine codeAny_builtin F.entry_set_update_loop ?_
    rw [Around.under_plainId F.plain_set_update_loop _]
    show wpAny _ A.in1 (pyNext (.ref I) >>= _) _ _ s
    refine wpAny_bind (W.done s _ _ st0 fun s1 mv => ?_)
    show wpAny _ A.in1 (ret Value.none) _ _ s1
    have e1 : zs.take i = zs := List.take_of_length_le (by omega)
    rw [e1] at l2
    exact wpAny_pure (then_ s1 L (mv.mono more) l1 l2 (T.keep fun o e => mv.heap a o awr e))
  | succ left ih =>
    intro i s e0 le0 st0 ⟨L, l1, l2, T⟩ then_
    have lt0 : i < n := by omega
    refine codeAny_builtin F.entry_set_update_loop ?_
    rw [Around.under_plainId F.plain_set_update_loop _]
    show wpAny _ A.in1 (pyNext (.ref I) >>= _) _ _ s
    refine wpAny_bind (W.item i s _ _ lt0 st0 fun v s1 pv st1 mv => ?_)
    obtain ⟨z, tk, hz, rfl⟩ := item i v pv
    have T1 : TxS w s1.heap a L := T.keep fun o e => mv.heap a o awr e
    show wpAny _ A.in1 (holding [Value.str z tk] (setAdd a (.str z tk)) >>= _) _ _ s1
    refine wpAny_bind (wpAny_holding ?_)
    unfold setAdd
    refine wpAny_holding (wpAny_bind ((strKind P w).pyHash (k := z) (strKind_is _ _ _ _) ?_))
    refine tx_add (s := { s1 with toks := s1.toks + 1 }) T1 (by omega) fun h1 L1 b sb T2 eL => ?_
    have m1 : ∀ y, y ∈ L1 ↔ y ∈ zs.take (i + 1) := fun y => by
      rw [List.take_add_one, hz, List.mem_append, ← l2 y, eL]
      split
      · rename_i m
        exact ⟨.inl, fun q => q.elim id fun q => by
          have : y = z := by simpa using q
          rw [this]; exact m⟩
      · simp [or_comm]
    have l3 : L1.length ≤ i + 1 := by
      rw [eL]
      split
      · omega
      · rw [List.length_cons]; omega
    refine wpAny_pure ⟨plainId_quiet F.plain_set_update_loop _, ih (i + 1) _ (by omega) lt0 (W.frame _ s1 _ _ st1 (Nat.le_succ _) fun b hb o e => ?_) ⟨L1, l3, m1, T2⟩ fun s2 L2 mv2 q1 q2 q3 => ?_⟩
    · exact (sb.2 b fun y : b = a => apart (y ▸ hb)).trans e
    · refine then_ s2 L2 (Moved.trans W.gtrans ((mv.mono more).then_heap (Nat.le_succ _) fun b o hb e => ?_) mv2) q1 q2 q3
      exact (sb.2 b fun y : b = a => hb (y ▸ List.mem_cons_self)).trans e
/-- what stands behind the filling -/
def FilledS (w : World) (zs : List Str) (s s2 : Shared) : Prop := ∃ h1 tk L, s2 = { s with heap := h1, toks := tk } ∧ TxS w h1 s.heap.objs.size L ∧ L.length ≤ zs.length ∧ (∀ z, z ∈ L ↔ z ∈ zs) ∧ ∀ b o, s.heap.get? b = some o → h1.get? b = some o
theorem str_at : ∀ {vs : List Value} {zs : List Str}, StrsAre vs zs → ∀ (i : Nat) (v : Value), vs[i]? = some v → ∃ z t, zs[i]? = some z ∧ v = .str z t
  | _, _, .nil, i, v, h => by cases h
  | _, _, .cons z t r, 0, v, h => ⟨z, t, rfl, (Option.some.inj h).symm⟩
  | _, _, .cons z t r, i + 1, v, h => str_at r i v h
theorem strs_len : ∀ {vs : List Value} {zs : List Str}, StrsAre vs zs → vs.length = zs.length
  | _, _, .nil => rfl
  | _, _, .cons _ _ r => congrArg (· + 1) (strs_len r)
set_option maxHeartbeats 3200000 in
theorem set_texts {l : Addr} {its : Array Value} {zs : List Str} {Q : Value → Shared → Prop} (hh : A.handled = none) (hl : s.heap.IsList l its) (hit : StrsAre its.toList zs) (few : zs.length + 1 < scanBound)
    (then_ : ∀ s2, FilledS w zs s s2 → Q (.ref s.heap.objs.size) s2) : wpAny (model P w) A (call (.type "set") [.ref l]) Q E s := by
  have size : its.size = zs.length := by rw [← Array.length_toList, strs_len hit]
  have item : ∀ (i : Nat) (v : Value), its[i]? = some v → ∃ z t, zs[i]? = some z ∧ v = .str z t := fun i v hv => str_at hit i v (by rw [Array.getElem?_toList]; exact hv)
  obtain ⟨o, ho, oc, k, od⟩ := hl
  have ll : l < s.heap.objs.size := Heap.lt_size ho
  have at1 : (s.heap.push (noneYet w)).get? s.heap.objs.size = some (noneYet w) := Heap.get?_push_size _ rfl
  have ty : Shared.TypeIs { s with heap := s.heap.push (noneYet w) } (.ref s.heap.objs.size) "set" := ⟨_, at1, rfl⟩
  have list1 : (s.heap.push (noneYet w)).IsList l its := ⟨o, Heap.get?_push_of_some _ ho, oc, k, od⟩
  have sz1 : (s.heap.push (noneYet w)).objs.size = s.heap.objs.size + 1 := Heap.size_push ..
  obtain ⟨c, tl, hmro⟩ := F.called_set.mro
  have hmade := F.called_set.made
  have hsub := F.called_set.sub
  have n1 := F.called_set.notType
  have n2 := F.called_set.canCreate
  have tc := F.typeCall_set_1 (.ref l)
  have il := F.called_set.init.lookup
  have ib := F.called_set.init.bind (.ref s.heap.objs.size)
  refine wpAny_call (codeAny_of_tree ?_)
  show wpAny _ _ (callAny (.type "set") _) _ _ _
  refine wpAny_pure ⟨Code.quiet_builtin _ (by decide +kernel), codeAny_builtin F.entry_type_call ?_⟩
  rw [Around.under_plain (weight_type_call_type "set" [.ref l] []) rfl]
  repeat (any_goals (first | assumption | wp_step))
  refine codeAny_mono (code_set_led1 (.ref l) (E := E) (Q₁ := fun ob s1 => ob = .ref s.heap.objs.size ∧ s1 = { s with heap := s.heap.push (noneYet w) }) ⟨rfl, rfl⟩) fun r s1 hr => ?_
  match r, hr with
  | .error _, hr => exact hr
  | .ok .next, hr => exact hr.elim
  | .ok .brk, hr => exact hr.elim
  | .ok .cont, hr => exact hr.elim
  | .ok (.ret ob), ⟨e1, e2⟩ =>
    subst e1 e2
    repeat (any_goals (first | assumption | wp_step))
    refine codeAny_mono (codeAny_call_builtin (R := wants (fun r s2 => r = .none ∧ FilledS w zs s s2) E) F.called_set.init.plain F.entry_set_init (check_set_init_1 ty ?_)) fun r2 s2 hr2 => ?_
    · have f1 := F.sub_list_set
      have f2 := F.sub_list_frozenset
      have f3 : (Value.type "list" == Value.type "dict") = false := by decide
      obtain ⟨o1, o2, o3, o4⟩ := o
      simp only at oc od
      subst oc od
      have ho1 : (s.heap.push (noneYet w)).get? l = some { cls := .type "list", dict := o2, data := .seq its k, slots := o4 } := Heap.get?_push_of_some _ ho
      unfold Builtin.«set.__init__» noKeywords Builtin.Frozenset.updateFrom
      generalize hI : pyIter = it
      wp_walk
      subst hI
      refine wpAny_pyIter_list list1 (wpAny_bind (wpAny_runValue ?_))
      have q1 : A.in1.in1.in1.handled = none := by simp [hh]
      have apart : l ≠ (s.heap.push (noneYet w)).objs.size := by rw [sz1]; exact Nat.ne_of_lt (Nat.lt_succ_of_lt ll)
      have out : s.heap.objs.size ∉ [(s.heap.push (noneYet w)).objs.size, l] := by
        rw [sz1]
        simp only [List.mem_cons, List.not_mem_nil, or_false, not_or]
        exact ⟨Nat.ne_of_lt (Nat.lt_succ_self _), Nat.ne_of_gt ll⟩
      refine tx_fill ((Walks.list q1 _ l apart its).toS) s.heap.objs.size out zs size few item (its.size - 0) 0 _ (by omega) (Nat.zero_le _)
        ⟨⟨_, Heap.get?_push_size _ rfl, rfl, rfl⟩, list1.push _⟩ ⟨[], Nat.le_refl _, fun z => by simp, tx_fresh (Heap.get?_push_of_some _ at1)⟩ fun s3 L mv q2 q3 q4 => ?_
      obtain ⟨h3, g3, d3, t3, o3⟩ := s3
      cases (show g3 = s.gens from mv.gens)
      cases (show d3 = s.drawn from mv.drawn)
      cases (show o3 = s.os from mv.os)
      rw [size] at q2
      refine wpAny_pure (wpAny_pure ⟨rfl, h3, t3, L, rfl, q4, q2, q3, fun b u e => ?_⟩)
      have b0 := Heap.lt_size e
      refine mv.heap b u (fun y => ?_) (Heap.get?_push_of_some _ (Heap.get?_push_of_some _ e))
      rcases List.mem_cons.mp y with y | y
      · exact absurd b0 (by rw [y]; exact Nat.lt_irrefl _)
      · have y := List.mem_singleton.mp y
        rw [sz1] at y
        exact absurd b0 (by rw [y]; exact Nat.not_lt_of_le (Nat.le_succ _))
    · match r2, hr2 with
      | .error _, hr2 => exact hr2
      | .ok .next, hr2 => exact hr2.elim
      | .ok .brk, hr2 => exact hr2.elim
      | .ok .cont, hr2 => exact hr2.elim
      | .ok (.ret v), ⟨e3, f⟩ =>
        subst e3
        repeat (any_goals (first | assumption | wp_step))
        exact then_ _ f
/-- sorted of a set of texts -/
theorem rows_strs : ∀ {l : List (Int × Value)}, (∀ e ∈ l, TxRow w e) → StrsAre (l.map (·.2)) (l.map txOf)
  | [], _ => .nil
  | e :: l, h => by
    obtain ⟨z, tk, rfl⟩ := h e List.mem_cons_self
    exact .cons z tk (rows_strs fun u hu => h u (List.mem_cons_of_mem _ hu))
theorem strs_perm {vs us : List Value} (p : vs.Perm us) : ∀ {zs : List Str}, StrsAre us zs → ∃ ys, StrsAre vs ys ∧ ys.Perm zs := by
  induction p with
  | nil => intro zs h; exact ⟨zs, h, .refl _⟩
  | cons x p ih =>
    intro zs h
    cases h with
    | cons z t r =>
      obtain ⟨ys, h1, h2⟩ := ih r
      exact ⟨z :: ys, .cons z t h1, h2.cons z⟩
  | swap x y l =>
    intro zs h
    cases h with
    | cons z t r =>
      cases r with
      | cons z2 t2 r2 => exact ⟨z2 :: z :: _, .cons z2 t2 (.cons z t r2), .swap z z2 _⟩
  | trans p q ih1 ih2 =>
    intro zs h
    obtain ⟨ys, h1, h2⟩ := ih2 h
    obtain ⟨xs, h3, h4⟩ := ih1 h1
    exact ⟨xs, h3, h4.trans h2⟩
theorem sorted_texts {Q : Value → Shared → Prop} (R : TxS w s.heap a L) (hh : A.handled = none) (few : L.length < 64)
    (then_ : ∀ s1 p (out : Array Value) (c : Nat) (ys : List Str), (∀ b o, s.heap.get? b = some o → s1.heap.get? b = some o) → s1.gens = s.gens → s1.os = s.os → s.heap.objs.size ≤ p →
      s1.heap.get? p = some (seqObj "list" out c) → StrsAre out.toList ys → ys.Perm L → sortedS ys = true → Q (.ref p) s1) :
    wpAny (model P w) A (call (.builtin "sorted") [.ref a]) Q E s := by
  obtain ⟨⟨o, es, ep, t, at0, exact_, dat, T⟩, nd⟩ := R
  refine Calls.call_function_entry kind_sorted plain_sorted entry_sorted (args_sorted1 _) ?_
  unfold Builtin.«sorted»
  refine wpAny_bind (m := checkCount "sorted" 1 1 _) (wpAny_pure ?_)
  refine wpAny_bind (collect_set (A := A.in1) hh ⟨o, at0, exact_.1, dat⟩ T.fit T.few T.ris T.led fun s1 vs k1 le1 g1 o1 pm => ?_)
  obtain ⟨zs, S1, pz⟩ := strs_perm pm (rows_strs T.row)
  have pL : zs.Perm L := pz.trans T.txt
  have lv : vs.length = L.length := by rw [strs_len S1, pL.length_eq]
  refine wpAny_bind (wpAny_newList ?_ (by rw [lv, sizeLine_eq]; omega))
  have at1 : (s1.heap.push (seqObj "list" vs.toArray 0)).get? s1.heap.objs.size = some (seqObj "list" vs.toArray 0) := Heap.get?_push_size _ rfl
  refine wpAny_bind (wpAny_holding (wpAny_call_entry slot_list_sort ⟨_, at1, rfl⟩ entry_list_sort
    (list_sort_treeK strKind_oneLt at1 S1.keysOf (fun x1 x2 rest e => keyKind_strs (by rw [← e]; exact S1)) (by rw [lv]; exact few) fun st p1 p2 => ⟨_, rfl, ?_⟩) (args_list_sort _)))
  obtain ⟨ys, r1, r2, r3⟩ := sorted_out_str S1 p1 p2
  obtain ⟨c, hc⟩ := sortedHeap_at (vs := vs) (out := (arrOf st).map (·.2)) at1
  refine wpAny_pure ⟨_, rfl, then_ _ s1.heap.objs.size _ c ys (fun b u e => ?_) g1 o1 le1 hc r1 (r2.trans pL) r3⟩
  have q := k1 b u e
  have lt := Heap.lt_size q
  show (sortedHeap (s1.heap.push (seqObj "list" vs.toArray 0)) s1.heap.objs.size vs _).get? b = some u
  rw [sortedHeap_old (Nat.ne_of_lt lt) (by rw [size_push']; exact Nat.lt_succ_of_lt lt)]
  exact Heap.get?_push_of_some _ q
end
section
variable {X : Cx} {K : PySem.W.Frag}
def SetS (w : World) (a : Addr) (L : List Str) : HO := .ext fun h => TxS w h a L
theorem setS_new {w : World} {P : Program} {H : Hp} {h : Heap} {a : Addr} {L : List Str} (R : TxS w h a L) : ObjOk P w H h a (SetS w a L) := by
  have ⟨⟨o, _, _, _, ho, _⟩, _⟩ := R
  exact ⟨R, ⟨o, ho⟩, fun h1 h2 p k => TxS.keep p k⟩
/-- set(xs), xs a list of texts -/
def rSetS (w : World) (K : PySem.W.Frag) : List V → Hp → VK → Prop := fun vs H Q => ∃ (l : Addr) (zs : List Str), vs = [.ref l] ∧ SqL K H l (zs.map V.str) ∧ zs.length ≤ 1000 ∧
  ∀ (p : Addr) (L : List Str), H p = none → L.Nodup → L.length ≤ zs.length → (∀ z, z ∈ L ↔ z ∈ zs) → Q (.ref p) (upd H p (SetS w p L))
theorem cr_setS (hc : X.calm = true) : CallR X (.type "set") (rSetS X.w X.K) := by
  intro pins s σ H vs us Q I r h
  obtain ⟨l, zs, rfl, hl, few, q⟩ := h
  obtain ⟨its, rv, pl, hz⟩ := I.list hl
  rw [Vals.ref1 r]
  refine set_texts (I.ok.hd hc) pl.isList (zs := zs) (by simpa using rv.strs) (Nat.lt_of_le_of_lt (Nat.succ_le_succ few) (by decide)) fun s2 ⟨h1, tk, L, e, R, l1, m, keep⟩ => ?_
  subst e
  exact ⟨.ref _, _, I.laid keep (Nat.le_refl _) (setS_new R), rfl, q _ L (I.hok.fresh (Nat.le_refl _)) R.nd l1 m⟩
/-- sorted(s), s a set of texts -/
def rSortS (w : World) : List V → Hp → VK → Prop := fun vs H Q => ∃ (a : Addr) (L : List Str), vs = [.ref a] ∧ H a = some (SetS w a L) ∧ L.length < 64 ∧
  ∀ (ys : List Str) (p : Addr), ys.Perm L → sortedS ys = true → H p = none → Q (.ref p) (upd H p (.lst (ys.map V.str)))
theorem cr_sortS (hc : X.calm = true) : CallR X (.builtin "sorted") (rSortS X.w) := by
  intro pins s σ H vs us Q I r h
  obtain ⟨a, L, rfl, ha, few, q⟩ := h
  have R : TxS X.w s.heap a L := (I.hok a _ ha).1
  rw [Vals.ref1 r]
  refine sorted_texts R (I.ok.hd hc) few fun s1 p out c ys keep g o1 hp hg hs pm so => ?_
  have few2 : (ys.map V.str).length ≤ sizeLine := by rw [List.length_map, pm.length_eq, sizeLine_eq]; omega
  have new : H p = none := I.hok.fresh hp
  have J : Inv X pins σ (upd H p (.lst (ys.map V.str))) { s with heap := s1.heap, gens := s1.gens, drawn := s1.drawn, toks := s1.toks } :=
    I.call (ch := []) (Un.laid keep hp new) (I.hok.laid keep hp ⟨few2, out.toList, c, vals_of_strs hs, hg⟩) (by rw [g]; exact I.bare) (fun _ z => nomatch z)
  have e : s1 = { s with heap := s1.heap, gens := s1.gens, drawn := s1.drawn, toks := s1.toks } := by
    cases s1
    cases s
    cases o1
    rfl
  rw [e]
  exact ⟨.ref p, _, J, rfl, q ys p pm so new⟩
theorem setSK {w : World} (hc : X.calm = true := by rfl) (hw : X.w = w := by rfl) (h : X.K = K := by rfl) : CallR X (.type "set") (rSetS w K) := hw ▸ h ▸ cr_setS hc
theorem sortSK {w : World} (hc : X.calm = true := by rfl) (hw : X.w = w := by rfl) : CallR X (.builtin "sorted") (rSortS w) := hw ▸ cr_sortS hc
end
end RLS
/-! the module's own dict of figures -/
namespace RL
open PySem PySem.Spec PyProof.Rows L2
abbrev figKeys : List Str := ["0", "1", "2", "3", "4", "5", "6", "7"]
abbrev Figs (K : PySem.W.Frag) (w : World) : Prop := RLX.Dct K w "FIGURES" figKeys
abbrev figA (K : PySem.W.Frag) : Addr := He.ga K "FIGURES"
/-- the figure that a text is -/
def figOf (z : Str) : Option Nat := match z.cps.toList with
  | [a] => if 48 ≤ a ∧ a < 56 then some (a - 48) else none
  | _ => none
theorem figOf_iff {z : Str} {i : Nat} : figOf z = some i ↔ i < 8 ∧ z = ⟨#[48 + i]⟩ := by
  constructor
  · intro h
    unfold figOf at h
    split at h
    · rename_i a e
      split at h
      · rename_i c
        injection h with h
        subst h
        refine ⟨by omega, RLT.str_ext ?_⟩
        rw [e]
        show [a] = [48 + (a - 48)]
        rw [show 48 + (a - 48) = a by omega]
      · cases h
    · cases h
  · rintro ⟨h, rfl⟩
    show (if 48 ≤ 48 + i ∧ 48 + i < 56 then some (48 + i - 48) else none) = some i
    rw [if_pos (by omega), Nat.add_sub_cancel_left]
theorem fig_keys : figKeys = (List.range 8).map fun i => (⟨#[48 + i]⟩ : Str) := by decide +kernel
theorem fig_mem {z : Str} : z ∈ figKeys ↔ ∃ i, figOf z = some i := by
  rw [fig_keys, List.mem_map]
  constructor
  · rintro ⟨i, hi, rfl⟩
    exact ⟨i, figOf_iff.mpr ⟨List.mem_range.mp hi, rfl⟩⟩
  · rintro ⟨i, h⟩
    obtain ⟨h1, h2⟩ := figOf_iff.mp h
    exact ⟨i, List.mem_range.mpr h1, h2.symm⟩
structure FigOk (K : PySem.W.Frag) (w : World) : Prop where
  kd : ∃ es n, KDict K w (figA K) es n
  some : ∀ z i, figOf z = .some i → ∃ u, PySem.W.nsIn K (figA K) z = .some (.some u) ∧ RelV (.int (i : Nat)) u
  none : ∀ z, figOf z = .none → PySem.W.nsIn K (figA K) z = .some .none
theorem figOk {K : PySem.W.Frag} {mg : Str → Option Value} {w : World} (T : Tx K mg) [D : Figs K w] : FigOk K w := by
  refine ⟨?_, fun z i h => ?_, fun z h => D.lacks fun m => ?_⟩
  · obtain ⟨es, n, k, _⟩ := D.kd
    exact ⟨es, n, k⟩
  · obtain ⟨i8, rfl⟩ := figOf_iff.mp h
    have q := T.vals_FIGURES
    have mem : (((⟨#[48 + i]⟩ : Str), He.Dv.int (i : Nat))) ∈ ([("0", .int 0), ("1", .int 1), ("2", .int 2), ("3", .int 3), ("4", .int 4), ("5", .int 5), ("6", .int 6), ("7", .int 7)] : List (Str × He.Dv)) := by
      have e : ([("0", .int 0), ("1", .int 1), ("2", .int 2), ("3", .int 3), ("4", .int 4), ("5", .int 5), ("6", .int 6), ("7", .int 7)] : List (Str × He.Dv)) = (List.range 8).map fun i => ((⟨#[48 + i]⟩ : Str), He.Dv.int (i : Nat)) := by
        have k := fig_keys
        simp only [figKeys, List.range, List.range.loop, List.map_cons, List.map_nil, List.cons.injEq] at k
        simp [List.range, List.range.loop, k]
      rw [e]
      exact List.mem_map.mpr ⟨i, List.mem_range.mpr i8, rfl⟩
    exact He.valsB_ok q mem
  · obtain ⟨i, e⟩ := fig_mem.mp m
    rw [h] at e
    cases e
section
variable {X : Cx} {K : PySem.W.Frag} {w : World}
def rInFig (K : PySem.W.Frag) : R2 := fun x y H Q => ∃ z : Str, x = .str z ∧ y = .ref (figA K) ∧ Q (.bl (figOf z).isSome) H
theorem inFig (F : FigOk K w) (hK : X.K = K := by rfl) (hw : X.w = w := by rfl) : OpR X (compareOp .In) (rInFig K) := by
  subst hK hw
  obtain ⟨es, n, D⟩ := F.kd
  intro pins s σ H x y v u Q I rx ry h
  obtain ⟨z, rfl, rfl, q⟩ := h
  refine op_in_kd D pins s σ H _ _ v u Q I rx ry ?_
  cases e : figOf z with
  | none => exact ⟨z, _, rfl, rfl, F.none z e, by rw [e] at q; exact q⟩
  | some i =>
    obtain ⟨u0, h1, _⟩ := F.some z i e
    exact ⟨z, _, rfl, rfl, h1, by rw [e] at q; exact q⟩
def rIxFig (K : PySem.W.Frag) : R2 := fun x y H Q => ∃ (z : Str) (i : Nat), x = .ref (figA K) ∧ y = .str z ∧ figOf z = some i ∧ Q (.int (i : Nat)) H
theorem ixFig (F : FigOk K w) (hK : X.K = K := by rfl) (hw : X.w = w := by rfl) : IxR X (rIxFig K) := by
  subst hK hw
  obtain ⟨es, n, D⟩ := F.kd
  intro value slice pins s σ H x y v u Q I rx ry h hs
  obtain ⟨z, i, rfl, rfl, e, q⟩ := h
  obtain ⟨u0, h1, r⟩ := F.some z i e
  exact ix_kdict value slice pins s σ H _ _ v u Q I rx ry ⟨_, z, _, rfl, rfl, ⟨es, n, u0, D.at_, D.lit, h1, r⟩, q⟩ hs
/-- FIGURES.get(x) -/
def tFigGet (K : PySem.W.Frag) (to te : TE) : TE := fun σ H Q => to σ H fun x H1 => x = .ref (figA K) ∧ te σ H1 fun y H2 => ∃ z : Str, y = .str z ∧ Q (match figOf z with
  | some i => .int (i : Nat)
  | none => .non) H2
theorem pe_figGet {o e : Expr} {to te : TE} {apos cpos : Pos} (F : FigOk K w) (ho : PE X o to) (he : PE X e te) (m : M1 X o "get" apos e cpos) (hK : X.K = K := by rfl) (hw : X.w = w := by rfl) : PE X (.Call (.Attribute o "get" apos) [e] [] cpos) (tFigGet K to te) := by
  subst hK hw
  obtain ⟨es, n, D⟩ := F.kd
  refine ⟨fun pins s σ H Q I h => ?_⟩
  refine wpAny_Call_method m.base m.few m.line PySem.F.plainAttrs_dict PySem.F.slot_dict_get PySem.F.type_dict_get (thn (ho.run pins s σ H _ I h) fun u s1 ⟨x, H1, I1, rx, ex, q1⟩ => ?_)
  subst ex
  obtain rfl : u = Value.ref (figA X.K) := rx
  have hm := fun (s : Shared) (k : X.K.In s.heap) => PySem.W.mapOf_K (prog := X.prog) (w := X.w) k D.at_ D.lit
  refine ⟨(hm s1 I1.kIn).typeIs, (hm s1 I1.kIn).noDict, ?_⟩
  rw [m.trees]
  refine Calls.callWith_builtin rfl (Calls.evalArgs_plain (Calls.spliced_cons (thn (he.run pins s1 σ H1 _ I1 q1) fun iv s2 ⟨y, H2, I2, ry, z, ez, q2⟩ => Calls.spliced_nil ?_)))
  subst ez
  obtain ⟨t, rfl⟩ := ry
  have m2 := hm s2 I2.kIn
  refine call_meetsIn PySem.F.slot_dict_get m2.typeIs PySem.F.entry_dict_get (PySem.F.args_dict_get_2 _ _) (meets_dict_get (PySem.strKind X.prog X.w) (figA X.K) (PySem.strKind_is X.prog X.w z t) D.low) ⟨_, m2, ?_⟩
  cases e : figOf z with
  | none =>
    rw [e] at q2
    rw [PySem.W.find_K D.at_ (F.none z e)]
    exact ⟨.non, H2, I2.tok _, (show RelV .non Value.none from rfl), q2⟩
  | some i =>
    rw [e] at q2
    obtain ⟨u0, h1, r⟩ := F.some z i e
    rw [PySem.W.find_K D.at_ h1]
    exact ⟨_, H2, I2.tok _, r, q2⟩
end
end RL
/-! looks written -/
namespace RL
open PySem PySem.Spec PyProof.Rows L2
/-- a look as it stands, its lots as lists -/
def LkAt (H : Hp) (v : V) : RLT.Lk → Prop
  | .inn zs => ∃ t u : Addr, v = .ref t ∧ H t = some (.tup [.str "in", .ref u]) ∧ H u = some (.tup (zs.map vI))
  | .parts zss => ∃ (t u : Addr) (us : List Addr), v = .ref t ∧ H t = some (.tup [.str "parts", .ref u]) ∧ H u = some (.tup (us.map V.ref)) ∧ us.length = zss.length ∧ ∀ (k : Nat) (a : Addr) (zs : List Nat), us[k]? = some a → zss[k]? = some zs → H a = some (.tup (zs.map vI))
  | .near b k => ∃ t : Addr, v = .ref t ∧ H t = some (.tup [.str "near", vI b, vI k])
theorem LkAt.tk {H H' : Hp} {v : V} (k : TK H H') : ∀ {L : RLT.Lk}, LkAt H v L → LkAt H' v L
  | .inn _, ⟨t, u, e, h1, h2⟩ => ⟨t, u, e, k _ _ h1, k _ _ h2⟩
  | .parts _, ⟨t, u, us, e, h1, h2, l, h3⟩ => ⟨t, u, us, e, k _ _ h1, k _ _ h2, l, fun i a p e1 e2 => k _ _ (h3 i a p e1 e2)⟩
  | .near _ _, ⟨t, e, h1⟩ => ⟨t, e, k _ _ h1⟩
section
variable {P : Program} {w : World} {K : PySem.W.Frag} {mg : Str → Option Value} {base : Heap}
theorem figs_list {zs : List Nat} : (List.range zs.length).map (fun i => V.str (RLT.figT (zs.getD i 0))) = (zs.map RLT.figT).map V.str := by
  refine List.ext_getElem? fun i => ?_
  rw [List.getElem?_map, List.getElem?_map, List.getElem?_map]
  by_cases hi : i < zs.length
  · rw [List.getElem?_range hi, List.getElem?_eq_getElem hi]
    show some (V.str (RLT.figT (zs.getD i 0))) = _
    rw [List.getD_eq_getElem?_getD, List.getElem?_eq_getElem hi]
    rfl
  · rw [List.getElem?_eq_none (by simpa using hi), List.getElem?_eq_none (by simpa using hi)]
    rfl
theorem lots_list {zss : List (List Nat)} : (List.range zss.length).map (fun i => V.str (RLT.lotT (zss.getD i []))) = (zss.map RLT.lotT).map V.str := by
  refine List.ext_getElem? fun i => ?_
  rw [List.getElem?_map, List.getElem?_map, List.getElem?_map]
  by_cases hi : i < zss.length
  · rw [List.getElem?_range hi, List.getElem?_eq_getElem hi]
    show some (V.str (RLT.lotT (zss.getD i []))) = _
    rw [List.getD_eq_getElem?_getD, List.getElem?_eq_getElem hi]
    rfl
  · rw [List.getElem?_eq_none (by simpa using hi), List.getElem?_eq_none (by simpa using hi)]
    rfl
theorem log_dig (k : Nat) (hk : k < 100) : (((k : Nat) : Int)).natAbs.log2 < 1920 := by
  rw [Int.natAbs_natCast]
  have := Nat.log2_le_self k
  omega
theorem one_sum : ∀ zs : List Nat, ((zs.map RLT.figT).map (·.length)).sum = zs.length
  | [] => rfl
  | z :: r => by rw [List.map_cons, List.map_cons, List.sum_cons, one_sum r, RLT.fig_len, List.length_cons]; omega
def spFigsT : Sp := fun vs H Q _ => ∃ (a : Addr) (zs : List Nat), vs = [.ref a] ∧ H a = some (.tup (zs.map vI)) ∧ zs.length ≤ 100 ∧ (∀ z ∈ zs, z < 8) ∧ ∀ H', Same H H' → Q (.str (Txt.join RLT.comma (zs.map RLT.figT))) H'
theorem sc_figures_text : FnScope ["numbers", "number"] ["numbers"] (defScope s_figures_text) := ⟨rfl, rfl, rfl, by decide +kernel, rfl, by decide +kernel, by decide +kernel⟩
theorem ok_figsT (T : Tx K mg) : Has P w K mg base (He.ga K "figures_text") 1 ["numbers"] spFigsT := by
  obtain ⟨fd, F⟩ := T.d_figures_text
  refine ⟨⟨fd, F.ok sc_figures_text (fun vs H Q E h => ?_) (fun cdv A outer s H vs Q E hr h => ?_), F.bindsN fun _ _ _ _ _ _ us hl => match us, hl with | [_], _ => rfl⟩, F.kp⟩
  · obtain ⟨a, zs, rfl, _⟩ := h
    rfl
  · obtain ⟨a, zs, rfl, ha, lz, z8, h⟩ := h
    refine ⟨_, PSs.nox (pss_one (ps_ret (pe_join pe_str (pe_lc (own := [("number", 1)]) (g := (gName 1)) (tt := tYes) rfl sc_figures_text.nd (piT (K := K) (pv 0)) (blkOk_by (by kernel_rfl)) (fun _ _ _ _ _ => (pg_name (i := 1) sc_figures_text.nd rfl (Or.inl rfl))) (fun _ _ _ _ _ => pts_nil) (fun _ _ _ _ _ => (pe_callTy call_str_int (by rfl) T.free_str (by decide +kernel) (pa_cons (pv 1) pa_nil))))))), ?_⟩
    refine ⟨⟨_, rfl⟩, _, rfl, a, rfl, ⟨_, SqT.of ha⟩, fun D hD => ?_⟩
    refine lc_val (walk_tup (K := K) (a := a) (xs := zs.map vI)) (fun i => .str (RLT.figT (zs.getD i 0))) (by rw [List.length_map]; omega) hD (fun H1 s1 => SqT.of (s1 _ _ ha)) ?_ ?_
    · rintro i y H1' H1 Nx hi s1 ⟨rfl, hy⟩ k
      obtain ⟨z, hz, rfl⟩ := get_mapV hy
      have l8 := z8 z (List.mem_of_getElem? hz)
      refine ⟨rfl, ?_⟩
      have := k _ (Same.refl _)
      rw [List.getD_eq_getElem?_getD, hz] at this
      refine ⟨_, rfl, _, rfl, log_dig z (by omega), ?_⟩
      rw [RLT.dig z (by omega)]
      exact this
    · intro H1 h1 s1
      rw [List.length_map, figs_list] at h1
      refine ⟨_, D, zs.map RLT.figT, rfl, rfl, .inl (SqL.of h1), ?_, h H1 s1⟩
      rw [one_sum, List.length_map]
      show zs.length + zs.length * 1 ≤ _
      omega
theorem lotT_nil : RLT.lotT [] = ("-" : Str) := by decide +kernel
theorem lotT_cons {z : Nat} {r : List Nat} : RLT.lotT (z :: r) = Txt.join RLT.comma ((z :: r).map RLT.figT) := if_neg (List.cons_ne_nil _ _)
theorem vI_ints (zs : List Nat) : zs.map vI = (zs.map fun z : Nat => (z : Int)).map V.int := by
  rw [List.map_map]
  rfl
def spLotT : Sp := fun vs H Q _ => ∃ (a : Addr) (zs : List Nat), vs = [.ref a] ∧ H a = some (.tup (zs.map vI)) ∧ zs.length ≤ 100 ∧ (∀ z ∈ zs, z < 8) ∧ ∀ H', Same H H' → Q (.str (RLT.lotT zs)) H'
theorem sc_lot_text : FnScope ["lot"] ["lot"] (defScope s_lot_text) := ⟨rfl, rfl, rfl, by decide +kernel, rfl, by decide +kernel, by decide +kernel⟩
theorem ok_lotT (T : Tx K mg) : Has P w K mg base (He.ga K "lot_text") 2 ["lot"] spLotT := by
  obtain ⟨⟨fd_figures_text, F_figures_text, b_figures_text⟩, kp_figures_text⟩ := ok_figsT (P := P) (w := w) (base := base) T
  obtain ⟨fd, F⟩ := T.d_lot_text
  refine ⟨⟨fd, F.ok sc_lot_text (fun vs H Q E h => ?_) (fun cdv A outer s H vs Q E hr h => ?_), F.bindsN fun _ _ _ _ _ _ us hl => match us, hl with | [_], _ => rfl⟩, F.kp⟩
  · obtain ⟨a, zs, rfl, _⟩ := h
    rfl
  · obtain ⟨a, zs, rfl, ha, lz, z8, h⟩ := h
    have hr_figures_text : Room 1 _ := hr.mono (by decide)
    refine ⟨_, PSs.nox (pss_one (ps_ret (pe_ifExp (pt_truth (pv 0) (by intro _; rfl)) (pe_call F_figures_text hr_figures_text rfl T.glo_figures_text kp_figures_text b_figures_text .nil pass0 (pa_cons (pv 0) pa_nil)) pe_str))), ?_⟩
    refine ⟨_, rfl, !(zs.map vI).isEmpty, .inr (.inl ⟨_, SqT.of ha, rfl⟩), ?_⟩
    cases zs with
    | nil =>
      have := h H (Same.refl H)
      rw [lotT_nil] at this
      exact iteF this
    | cons z r =>
      refine iteT ⟨_, rfl, a, z :: r, rfl, ha, lz, z8, fun H1 s1 => ?_⟩
      have := h H1 s1
      rw [lotT_cons] at this
      exact this
theorem sc__law_lot_text : FnScope ["_law_lot_here", "_law_place"] ["_law_lot_here"] (defScope s__law_lot_text) := ⟨rfl, rfl, rfl, by decide +kernel, rfl, by decide +kernel, by decide +kernel⟩
theorem okl_lotT (T : Tx K mg) : Has P w K mg base (He.ga K "_law_lot_text") 1 ["_law_lot_here"] spLotT := by
  obtain ⟨fd, F⟩ := T.d__law_lot_text
  refine ⟨⟨fd, F.ok sc__law_lot_text (fun vs H Q E h => ?_) (fun cdv A outer s H vs Q E hr h => ?_), F.bindsN fun _ _ _ _ _ _ us hl => match us, hl with | [_], _ => rfl⟩, F.kp⟩
  · obtain ⟨a, zs, rfl, _⟩ := h
    rfl
  · obtain ⟨a, zs, rfl, ha, lz, z8, h⟩ := h
    refine ⟨_, PSs.nox (pss_one (ps_ret (pe_ifExp (pt_cmpR (neD (K := K) hr.units) (pv 0) (pe_tup pa_nil) (nomark _)) (pe_join pe_str (pe_lc (own := [("_law_place", 1)]) (g := (gName 1)) (tt := tYes) rfl sc__law_lot_text.nd (piT (K := K) (pv 0)) (blkOk_by (by kernel_rfl)) (fun _ _ _ _ _ => (pg_name (i := 1) sc__law_lot_text.nd rfl (Or.inl rfl))) (fun _ _ _ _ _ => pts_nil) (fun _ _ _ _ _ => (pe_callTy call_str_int (by rfl) T.free_str (by decide +kernel) (pa_cons (pv 1) pa_nil))))) pe_str))), ?_⟩
    refine ⟨_, rfl, ⟨Nat.zero_le _, fun T0 hT0 => ?_⟩⟩
    have s0 := same_upd (o := HO.tup []) hT0
    have ha0 := s0 _ _ ha
    refine ⟨_, _, .tup (SqT.of (by rw [ha0, vI_ints])) (dp_ints _), .tup (SqT.of upd_same) .nil, shaped_tup _, shaped_tup [], _, rfl, ?_⟩
    cases zs with
    | nil =>
      have := h _ s0
      rw [lotT_nil] at this
      show ite (_ = true) _ _
      exact iteF this
    | cons z0 r =>
      refine iteT ?_
      generalize hzs : z0 :: r = zs at *
      have ez : RLT.lotT zs = Txt.join RLT.comma (zs.map RLT.figT) := hzs ▸ lotT_cons
      refine ⟨⟨_, rfl⟩, _, rfl, a, rfl, ⟨_, SqT.of ha0⟩, fun D hD => ?_⟩
      refine lc_val (walk_tup (K := K) (a := a) (xs := zs.map vI)) (fun i => .str (RLT.figT (zs.getD i 0))) (by rw [List.length_map]; omega) hD (fun H1 s1 => SqT.of (s1 _ _ ha0)) ?_ ?_
      · rintro i y H1' H1 Nx hi s1 ⟨rfl, hy⟩ k
        obtain ⟨z, hz, rfl⟩ := get_mapV hy
        have l8 := z8 z (List.mem_of_getElem? hz)
        refine ⟨rfl, ?_⟩
        have := k _ (Same.refl _)
        rw [List.getD_eq_getElem?_getD, hz] at this
        refine ⟨_, rfl, _, rfl, log_dig z (by omega), ?_⟩
        rw [RLT.dig z (by omega)]
        exact this
      · intro H1 h1 s1
        rw [List.length_map, figs_list] at h1
        rw [ez] at h
        refine ⟨_, D, zs.map RLT.figT, rfl, rfl, .inl (SqL.of h1), ?_, h H1 (s0.trans s1)⟩
        rw [one_sum, List.length_map]
        show zs.length + zs.length * 1 ≤ _
        omega
def spLookT : Sp := fun vs H Q _ => ∃ (v : V) (L : RLT.Lk), vs = [v] ∧ LkAt H v L ∧ RLT.LkOk L ∧ ∀ H', Same H H' → Q (.str (RLT.lkT L)) H'
theorem sc_look_text : FnScope ["look", "lots", "lot"] ["look"] (defScope s_look_text) := ⟨rfl, rfl, rfl, by decide +kernel, rfl, by decide +kernel, by decide +kernel⟩
theorem ok_lookT (T : Tx K mg) : Has P w K mg base (He.ga K "look_text") 3 ["look"] spLookT := by
  obtain ⟨⟨fd_lot_text, F_lot_text, b_lot_text⟩, kp_lot_text⟩ := ok_lotT (P := P) (w := w) (base := base) T
  obtain ⟨fd, F⟩ := T.d_look_text
  refine ⟨⟨fd, F.ok sc_look_text (fun vs H Q E h => ?_) (fun cdv A outer s H vs Q E hr h => ?_), F.bindsN fun _ _ _ _ _ _ us hl => match us, hl with | [_], _ => rfl⟩, F.kp⟩
  · obtain ⟨v, L, rfl, _⟩ := h
    rfl
  · obtain ⟨v, L, rfl, hv, ok, h⟩ := h
    have hr_lot_text : Room 2 _ := hr.mono (by decide)
    refine ⟨_, PSs.nox (pss_cons (ps_if (pt_cmpR op_eq (pe_ix (ixT (K := K)) (pv 0) pe_int (fun _ _ => rfl)) pe_str (nomark _)) (pss_one (ps_ret (pe_joined (PJ.cons pe_str (PJ.cons (pe_fmt (pe_call F_lot_text hr_lot_text rfl T.glo_lot_text kp_lot_text b_lot_text .nil pass0 (pa_cons (pe_ix (ixT (K := K)) (pv 0) pe_int (fun _ _ => rfl)) pa_nil))) PJ.nil))))) pss_nil)
      (pss_cons (ps_if (pt_cmpR op_eq (pe_ix (ixT (K := K)) (pv 0) pe_int (fun _ _ => rfl)) pe_str (nomark _)) (pss_cons (ps_set (i := 1) sc_look_text.nd rfl (Or.inl rfl) (pe_join pe_str (pe_lc (own := [("lot", 2)]) (g := (gName 2)) (tt := tYes) rfl sc_look_text.nd (piT (K := K) (pe_ix (ixT (K := K)) (pv 0) pe_int (fun _ _ => rfl))) (blkOk_by (by kernel_rfl)) (fun _ _ _ _ _ => (pg_name (i := 2) sc_look_text.nd rfl (Or.inl rfl))) (fun _ _ _ _ _ => pts_nil) (fun _ _ _ _ _ => (pe_call F_lot_text hr_lot_text rfl T.glo_lot_text kp_lot_text b_lot_text .nil pass0 (pa_cons (pv 2) pa_nil))))))
      (pss_one (ps_ret (pe_joined (PJ.cons pe_str (PJ.cons (pe_fmt (pv 1)) PJ.nil)))))) pss_nil)
      (pss_one (ps_ret (pe_joined (PJ.cons pe_str (PJ.cons (pe_fmt (pe_ix (ixT (K := K)) (pv 0) pe_int (fun _ _ => rfl))) (PJ.cons pe_str (PJ.cons (pe_fmt (pe_ix (ixT (K := K)) (pv 0) pe_int (fun _ _ => rfl))) PJ.nil))))))))), ?_⟩
    have big : ∀ x : Str, x.length ≤ 200 → x.length ≤ sizeLine := fun x hx => Nat.le_trans hx (by decide)
    have w0 : ("in " : Str).length = 3 := by decide +kernel
    have w1 : ("parts " : Str).length = 6 := by decide +kernel
    have w2 : ("near " : Str).length = 5 := by decide +kernel
    have w3 : (" " : Str).length = 1 := by decide +kernel
    cases L with
    | inn zs =>
      obtain ⟨t, u, rfl, ht, hu⟩ := hv
      have l8 := RLT.rise_few ok.1 ok.2
      have tl := RLT.lot_len zs
      refine ⟨_, rfl, t, _, 0, _, rfl, rfl, SqT.of ht, rfl, rfl, _, rfl, iteT ?_⟩
      refine ⟨_, rfl, by rw [app_empty]; exact big _ (by omega), ?_⟩
      refine ⟨_, rfl, t, _, 1, _, rfl, rfl, SqT.of ht, rfl, u, zs, rfl, hu, by omega, ok.1, fun H1 s1 => ?_⟩
      refine .inl ⟨_, rfl, big _ (by omega), _, rfl, by rw [app_empty, len_app]; exact Nat.le_trans (show _ ≤ 200 by omega) (by decide), ?_⟩
      have := h H1 s1
      rw [RLT.lk_inn] at this
      show Q (.str _) H1
      rw [app_empty]
      exact this
    | parts zss =>
      obtain ⟨t, u, us, rfl, ht, hu, lu, hus⟩ := hv
      obtain ⟨f1, f8, l8⟩ := RLT.parts_few ok
      have sl := RLT.parts_sum ok
      have pl := RLT.parts_len ok
      refine ⟨_, rfl, t, _, 0, _, rfl, rfl, SqT.of ht, rfl, rfl, _, rfl, ?_⟩
      rw [decide_eq_false (show ¬ V.str "parts" = V.str "in" from fun e => absurd (V.str.inj e) (by decide +kernel))]
      refine iteF ?_
      refine ⟨_, rfl, t, _, 0, _, rfl, rfl, SqT.of ht, rfl, rfl, _, rfl, iteT ?_⟩
      refine ⟨⟨_, rfl⟩, _, rfl, t, _, 1, _, rfl, rfl, SqT.of ht, rfl, u, rfl, ⟨_, SqT.of hu⟩, fun D hD => ?_⟩
      refine lc_val (walk_tup (K := K) (a := u) (xs := us.map V.ref)) (fun i => .str (RLT.lotT (zss.getD i []))) (by rw [List.length_map]; omega) hD (fun H1 s1 => SqT.of (s1 _ _ hu)) ?_ ?_
      · rintro i y H1' H1 Nx hi s1 ⟨rfl, hy⟩ k
        obtain ⟨a, ha, rfl⟩ := get_mapV hy
        have il : i < zss.length := by
          have := (List.getElem?_eq_some_iff.mp ha).1
          omega
        have hz := List.getElem?_eq_getElem il
        have okz := ok.1 _ (List.getElem_mem il)
        have lz := RLT.rise_few okz.2.1 okz.2.2
        refine ⟨rfl, _, rfl, a, zss[i], rfl, s1 _ _ (hus i a _ ha hz), by omega, okz.2.1, fun H3 s3 => ?_⟩
        have := k H3 s3
        rw [List.getD_eq_getElem?_getD, hz] at this
        exact this
      · intro H1 h1 s1
        rw [List.length_map, lu, lots_list] at h1
        have := h H1 s1
        rw [RLT.lk_parts] at this
        refine ⟨_, D, zss.map RLT.lotT, rfl, rfl, .inl (SqL.of h1), ?_, ?_⟩
        · rw [List.length_map]
          show _ + zss.length * 1 ≤ _
          omega
        refine ⟨_, rfl, by rw [app_empty]; exact big _ (by omega), ?_⟩
        have ebar : ("|" : Str) = RLT.bar := by decide +kernel
        rw [← ebar] at pl this
        refine ⟨_, rfl, .inl ⟨_, rfl, big _ (by omega), _, rfl, by rw [app_empty, len_app]; exact Nat.le_trans (show _ ≤ 200 by omega) (by decide), ?_⟩⟩
        show Q (.str _) H1
        rw [app_empty]
        exact this
    | near b k =>
      obtain ⟨t, rfl, ht⟩ := hv
      obtain ⟨b8, k8⟩ := ok
      refine ⟨_, rfl, t, _, 0, _, rfl, rfl, SqT.of ht, rfl, rfl, _, rfl, ?_⟩
      rw [decide_eq_false (show ¬ V.str "near" = V.str "in" from fun e => absurd (V.str.inj e) (by decide +kernel))]
      refine iteF ?_
      refine ⟨_, rfl, t, _, 0, _, rfl, rfl, SqT.of ht, rfl, rfl, _, rfl, ?_⟩
      rw [decide_eq_false (show ¬ V.str "near" = V.str "parts" from fun e => absurd (V.str.inj e) (by decide +kernel))]
      refine iteF ?_
      have lb := RLT.fig_len b
      have lk := RLT.fig_len k
      have eb : (toString ((b : Nat) : Int) : Str) = RLT.figT b := RLT.dig b (by omega)
      have ek : (toString ((k : Nat) : Int) : Str) = RLT.figT k := RLT.dig k (by omega)
      refine ⟨_, rfl, by rw [app_empty]; exact big _ (by omega), ?_⟩
      refine ⟨_, rfl, t, _, 1, _, rfl, rfl, SqT.of ht, rfl, .inr ⟨_, rfl, log_dig b (by omega), _, rfl, by rw [app_empty, len_app, eb]; exact Nat.le_trans (show _ ≤ 200 by omega) (by decide), ?_⟩⟩
      refine ⟨_, rfl, by rw [app_empty, len_app, len_app, eb]; exact Nat.le_trans (show _ ≤ 200 by omega) (by decide), ?_⟩
      refine ⟨_, rfl, t, _, 2, _, rfl, rfl, SqT.of ht, rfl, .inr ⟨_, rfl, log_dig k (by omega), _, rfl, by rw [app_empty, len_app, len_app, len_app, eb, ek]; exact Nat.le_trans (show _ ≤ 200 by omega) (by decide), ?_⟩⟩
      have := h H (Same.refl H)
      rw [RLT.lk_near] at this
      show Q (.str _) H
      rw [app_empty, eb, ek]
      exact this
theorem sc__law_look_text : FnScope ["_law_look_here", "_law_lot_here"] ["_law_look_here"] (defScope s__law_look_text) := ⟨rfl, rfl, rfl, by decide +kernel, rfl, by decide +kernel, by decide +kernel⟩
theorem okl_lookT (T : Tx K mg) : Has P w K mg base (He.ga K "_law_look_text") 2 ["_law_look_here"] spLookT := by
  obtain ⟨⟨fd_law_lot_text, F_law_lot_text, b_law_lot_text⟩, kp_law_lot_text⟩ := okl_lotT (P := P) (w := w) (base := base) T
  obtain ⟨fd, F⟩ := T.d__law_look_text
  refine ⟨⟨fd, F.ok sc__law_look_text (fun vs H Q E h => ?_) (fun cdv A outer s H vs Q E hr h => ?_), F.bindsN fun _ _ _ _ _ _ us hl => match us, hl with | [_], _ => rfl⟩, F.kp⟩
  · obtain ⟨v, L, rfl, _⟩ := h
    rfl
  · obtain ⟨v, L, rfl, hv, ok, h⟩ := h
    have hr_law_lot_text : Room 1 _ := hr.mono (by decide)
    refine ⟨_, PSs.nox (pss_cons (ps_if (pt_cmpR op_eq (pe_ix (ixT (K := K)) (pv 0) pe_int (fun _ _ => rfl)) pe_str (nomark _)) (pss_one (ps_ret (pe_op op_add_str pe_str (pe_join pe_str (pe_lc (own := [("_law_lot_here", 1)]) (g := (gName 1)) (tt := tYes) rfl sc__law_look_text.nd (piT (K := K) (pe_ix (ixT (K := K)) (pv 0) pe_int (fun _ _ => rfl))) (blkOk_by (by kernel_rfl)) (fun _ _ _ _ _ => (pg_name (i := 1) sc__law_look_text.nd rfl (Or.inl rfl))) (fun _ _ _ _ _ => pts_nil) (fun _ _ _ _ _ => (pe_call F_law_lot_text hr_law_lot_text rfl T.glo_law_lot_text kp_law_lot_text b_law_lot_text .nil pass0 (pa_cons (pv 1) pa_nil)))))))) pss_nil)
      (pss_one (ps_ret (pe_ifExp (pt_cmpR op_eq (pe_ix (ixT (K := K)) (pv 0) pe_int (fun _ _ => rfl)) pe_str (nomark _)) (pe_op op_add_str pe_str (pe_call F_law_lot_text hr_law_lot_text rfl T.glo_law_lot_text kp_law_lot_text b_law_lot_text .nil pass0 (pa_cons (pe_ix (ixT (K := K)) (pv 0) pe_int (fun _ _ => rfl)) pa_nil))) (pe_op op_add_str (pe_op op_add_str (pe_op op_add_str pe_str (pe_callTy call_str_int (by rfl) T.free_str (by decide +kernel) (pa_cons (pe_ix (ixT (K := K)) (pv 0) pe_int (fun _ _ => rfl)) pa_nil))) pe_str) (pe_callTy call_str_int (by rfl) T.free_str (by decide +kernel) (pa_cons (pe_ix (ixT (K := K)) (pv 0) pe_int (fun _ _ => rfl)) pa_nil))))))), ?_⟩
    have w0 : ("in " : Str).length = 3 := by decide +kernel
    have w1 : ("parts " : Str).length = 6 := by decide +kernel
    have w2 : ("near " : Str).length = 5 := by decide +kernel
    have w3 : (" " : Str).length = 1 := by decide +kernel
    cases L with
    | inn zs =>
      obtain ⟨t, u, rfl, ht, hu⟩ := hv
      have l8 := RLT.rise_few ok.1 ok.2
      have tl := RLT.lot_len zs
      refine ⟨_, rfl, t, _, 0, _, rfl, rfl, SqT.of ht, rfl, rfl, _, rfl, ?_⟩
      rw [decide_eq_false (show ¬ V.str "in" = V.str "parts" from fun e => absurd (V.str.inj e) (by decide +kernel))]
      refine iteF ?_
      refine ⟨_, rfl, t, _, 0, _, rfl, rfl, SqT.of ht, rfl, rfl, _, rfl, iteT ?_⟩
      refine ⟨_, rfl, t, _, 1, _, rfl, rfl, SqT.of ht, rfl, u, zs, rfl, hu, by omega, ok.1, fun H1 s1 => ?_⟩
      refine ⟨_, _, rfl, rfl, Nat.le_trans (show _ ≤ 200 by omega) (by decide), ?_⟩
      have := h H1 s1
      rw [RLT.lk_inn] at this
      exact this
    | parts zss =>
      obtain ⟨t, u, us, rfl, ht, hu, lu, hus⟩ := hv
      obtain ⟨f1, f8, l8⟩ := RLT.parts_few ok
      have sl := RLT.parts_sum ok
      have pl := RLT.parts_len ok
      refine ⟨_, rfl, t, _, 0, _, rfl, rfl, SqT.of ht, rfl, rfl, _, rfl, iteT ?_⟩
      refine ⟨⟨_, rfl⟩, _, rfl, t, _, 1, _, rfl, rfl, SqT.of ht, rfl, u, rfl, ⟨_, SqT.of hu⟩, fun D hD => ?_⟩
      refine lc_val (walk_tup (K := K) (a := u) (xs := us.map V.ref)) (fun i => .str (RLT.lotT (zss.getD i []))) (by rw [List.length_map]; omega) hD (fun H1 s1 => SqT.of (s1 _ _ hu)) ?_ ?_
      · rintro i y H1' H1 Nx hi s1 ⟨rfl, hy⟩ k
        obtain ⟨a, ha, rfl⟩ := get_mapV hy
        have il : i < zss.length := by
          have := (List.getElem?_eq_some_iff.mp ha).1
          omega
        have hz := List.getElem?_eq_getElem il
        have okz := ok.1 _ (List.getElem_mem il)
        have lz := RLT.rise_few okz.2.1 okz.2.2
        refine ⟨rfl, _, rfl, a, zss[i], rfl, s1 _ _ (hus i a _ ha hz), by omega, okz.2.1, fun H3 s3 => ?_⟩
        have := k H3 s3
        rw [List.getD_eq_getElem?_getD, hz] at this
        exact this
      · intro H1 h1 s1
        rw [List.length_map, lu, lots_list] at h1
        have := h H1 s1
        rw [RLT.lk_parts] at this
        refine ⟨_, D, zss.map RLT.lotT, rfl, rfl, .inl (SqL.of h1), ?_, ?_⟩
        · rw [List.length_map]
          show _ + zss.length * 1 ≤ _
          omega
        have ebar : ("|" : Str) = RLT.bar := by decide +kernel
        rw [← ebar] at pl this
        exact ⟨_, _, rfl, rfl, Nat.le_trans (show _ ≤ 200 by omega) (by decide), this⟩
    | near b k =>
      obtain ⟨t, rfl, ht⟩ := hv
      obtain ⟨b8, k8⟩ := ok
      refine ⟨_, rfl, t, _, 0, _, rfl, rfl, SqT.of ht, rfl, rfl, _, rfl, ?_⟩
      rw [decide_eq_false (show ¬ V.str "near" = V.str "parts" from fun e => absurd (V.str.inj e) (by decide +kernel))]
      refine iteF ?_
      refine ⟨_, rfl, t, _, 0, _, rfl, rfl, SqT.of ht, rfl, rfl, _, rfl, ?_⟩
      rw [decide_eq_false (show ¬ V.str "near" = V.str "in" from fun e => absurd (V.str.inj e) (by decide +kernel))]
      refine iteF ?_
      have lb := RLT.fig_len b
      have lk := RLT.fig_len k
      have eb : (toString ((b : Nat) : Int) : Str) = RLT.figT b := RLT.dig b (by omega)
      have ek : (toString ((k : Nat) : Int) : Str) = RLT.figT k := RLT.dig k (by omega)
      have := h H (Same.refl H)
      rw [RLT.lk_near] at this
      refine ⟨_, rfl, t, _, 1, _, rfl, rfl, SqT.of ht, rfl, _, rfl, log_dig b (by omega), _, _, rfl, rfl, by rw [eb]; exact Nat.le_trans (show _ ≤ 200 by omega) (by decide), ?_⟩
      rw [eb]
      refine ⟨_, _, rfl, rfl, by rw [len_app]; exact Nat.le_trans (show _ ≤ 200 by omega) (by decide), ?_⟩
      refine ⟨_, rfl, t, _, 2, _, rfl, rfl, SqT.of ht, rfl, _, rfl, log_dig k (by omega), _, _, rfl, rfl, by rw [ek, len_app, len_app]; exact Nat.le_trans (show _ ≤ 200 by omega) (by decide), ?_⟩
      rw [ek]
      exact this
end
end RL
/-! a set of small numbers has few of them; a list of numbers of any length, sorted -/
namespace RLS
open PySem PySem.Spec PyProof.Rows L2
theorem few8 {w : World} {h : Heap} {a : Addr} {S : Int → Bool} {c : Nat} (R : SetR w h a S c) (m : ∀ k, S k = true → 0 ≤ k ∧ k < 8) : c ≤ 8 := by
  obtain ⟨o, es, ep, t, _, _, _, _, nd, hm, _, _, e, _⟩ := R
  have := nd.length_le_of_subset (l₂ := (List.range 8).map fun i : Nat => (i : Int)) fun k hk => by
    have := m k ((hm k).mpr hk)
    exact List.mem_map.mpr ⟨k.toNat, List.mem_range.mpr (by omega), by omega⟩
  rw [List.length_map, List.length_map, List.length_range, Array.length_toList] at this
  omega
section
variable {X : Cx} {K : PySem.W.Frag}
def rSet8 (w : World) (K : PySem.W.Frag) : List V → Hp → VK → Prop := fun vs H Q => ∃ (a : Addr) (ns : List Int), vs = [.ref a] ∧ SqT K H a (ns.map V.int) ∧ ns.length ≤ 1001 ∧ (∀ k ∈ ns, 0 ≤ k ∧ k < 8) ∧
  ∀ (p : Addr) (c : Nat), H p = none → c ≤ 8 → Q (.ref p) (upd H p (SetO w p (fun j => decide (j ∈ ns)) c))
theorem cr_set8 (hc : X.calm = true) : CallR X (.type "set") (rSet8 X.w X.K) := by
  intro pins s σ H vs us Q I r h
  obtain ⟨a, ns, rfl, hs, hz, m, q⟩ := h
  obtain ⟨its, rv, ht, _⟩ := I.tuple hs
  rw [Vals.ref1 r]
  have hi : IntsAre its.toArray.toList ns := by simpa using rv.ints
  refine call_set_tupI ns (I.ok.hd hc) ht hi (Nat.lt_of_le_of_lt (Nat.succ_le_succ hz) (by decide)) fun h1 tk c R _ keep => ?_
  exact ⟨.ref _, _, I.laid keep (Nat.le_refl _) (setO_new R), rfl, q _ c (I.hok.fresh (Nat.le_refl _)) (few8 R fun k hk => m k (of_decide_eq_true hk))⟩
theorem set8K {w : World} (hc : X.calm = true := by rfl) (hw : X.w = w := by rfl) (h : X.K = K := by rfl) : CallR X (.type "set") (rSet8 w K) := hw ▸ h ▸ cr_set8 hc
/-- sorted(xs), xs a list of numbers, many of them perhaps -/
def rSortA (K : PySem.W.Frag) : List V → Hp → VK → Prop := fun vs H Q => ∃ (a : Addr) (ns : List Int), vs = [.ref a] ∧ SqL K H a (ns.map V.int) ∧ ns.length ≤ 100000 ∧
  ∀ (ms : List Int) (p : Addr), ms.Perm ns → ms.Pairwise (· ≤ ·) → H p = none → Q (.ref p) (upd H p (.lst (ms.map V.int)))
theorem cr_sortA : CallR X (.builtin "sorted") (rSortA X.K) := by
  intro pins s σ H vs us Q I r h
  obtain ⟨a, ns, rfl, hs, few, q⟩ := h
  obtain ⟨its, rv, pl, hz⟩ := I.list hs
  rw [Vals.ref1 r]
  have li : its.length = ns.length := by
    have := rv.length
    rw [List.length_map] at this
    exact this.symm
  refine sorted_intsAny pl.isList rv.ints (by rw [li, sizeLine_eq]; omega) fun out ms a1 a2 a3 => ?_
  obtain ⟨ep, he⟩ := sortedAll_at s.heap its out
  have few2 : (ms.map V.int).length ≤ sizeLine := by rw [List.length_map, a2.length_eq, sizeLine_eq]; omega
  exact ⟨.ref (s.heap.objs.size + 1), upd H (s.heap.objs.size + 1) (.lst (ms.map V.int)), I.laid (t' := s.toks) (fun b u e => sortedAll_old e) (Nat.le_succ _) ⟨few2, out.toList, ep, vals_of_ints a1, by simpa using he⟩, rfl, q ms _ a2 a3 (I.hok.fresh (Nat.le_succ _))⟩
theorem sortAK (h : X.K = K := by rfl) : CallR X (.builtin "sorted") (rSortA K) := h ▸ cr_sortA
end
end RLS
namespace RL
open PySem PySem.Spec PyProof.Rows L2 RLM
section
variable {P : Program} {w : World} {K : PySem.W.Frag} {mg : Str → Option Value} {base : Heap}
end
end RL
/-! paces and lots that are none -/
namespace RL
open PySem PySem.Spec PyProof.Rows L2 RLM
open Classical in
noncomputable def decQ (p : Prop) : Bool := decide p
open Classical in
theorem decQ_true {p : Prop} : decQ p = true ↔ p := by
  unfold decQ
  exact decide_eq_true_iff
section
variable {P : Program} {w : World} {K : PySem.W.Frag} {mg : Str → Option Value} {base : Heap}
def Refuse0 (K : PySem.W.Frag) (C : Str) (H : Hp) (X : XK) : Prop := ∀ d H', H' d = some (.xd [("word", .str C)]) → Same H H' → X (.ref (He.ga K C)) (some d) H'
theorem Refuse0.on {C : Str} {H H1 : Hp} {X : XK} (r : Refuse0 K C H X) (s : Same H H1) : Refuse0 K C H1 X := fun d H' hd s' => r d H' hd (s.trans s')
def PaceZ (n : Nat) (zs : List Int) : Prop := zs.length = n ∧ ∀ z ∈ zs, 0 ≤ z ∧ z ≤ 7
def LotZ (n : Nat) (zs : List Int) : Prop := (∀ z ∈ zs, 0 ≤ z ∧ z < (n : Nat)) ∧ zs.Pairwise (· < ·)
theorem get_ints {zs : List Int} {i : Nat} {y : V} (h : (zs.map V.int)[i]? = some y) : ∃ z, zs[i]? = some z ∧ y = V.int z := by
  rw [List.getElem?_map] at h
  cases e : zs[i]? with
  | none => rw [e] at h; cases h
  | some z => rw [e] at h; exact ⟨z, rfl, (Option.some.inj h).symm⟩
/-- a list of truths from what each is -/
theorem bools_of {zs : List Int} {q : Int → Bool} {f : Nat → V} (h : ∀ (i : Nat) z, zs[i]? = some z → f i = V.bl (q z)) : (List.range zs.length).map f = (zs.map q).map V.bl := by
  refine List.ext_getElem? fun i => ?_
  rw [List.getElem?_map, List.getElem?_map, List.getElem?_map]
  by_cases hi : i < zs.length
  · rw [List.getElem?_range hi, List.getElem?_eq_getElem hi]
    exact congrArg some (h i _ (List.getElem?_eq_getElem hi))
  · rw [List.getElem?_eq_none (by simpa using hi), List.getElem?_eq_none (by simpa using hi)]
    rfl
theorem all_map {zs : List Int} {q : Int → Bool} {p : Int → Prop} (h : ∀ z, q z = true ↔ p z) : (zs.map q).all id = true ↔ ∀ z ∈ zs, p z := by
  rw [List.all_eq_true]
  exact ⟨fun k z hz => (h z).1 (k _ (List.mem_map.mpr ⟨z, hz, rfl⟩)), fun k b hb => by
    obtain ⟨z, hz, rfl⟩ := List.mem_map.mp hb
    exact (h z).2 (k z hz)⟩
def spIsPaceZ (K : PySem.W.Frag) : Sp := fun vs H Q _ => ∃ (c x t : Addr) (n : Nat) (E : List (Nat × Nat)) (zs : List Int), vs = [.ref x, .ref t] ∧ BoardAt K c H x n E ∧ H t = some (.tup (zs.map V.int)) ∧ zs.length ≤ 60 ∧ ∀ H', Same H H' → Q (.bl (decQ (PaceZ n zs))) H'
theorem rise_same {n : Nat} {zs ns : List Int} (r : ∀ z ∈ zs, 0 ≤ z ∧ z < (n : Nat)) (hz : zs.Pairwise (· < ·)) (hn : ns.Pairwise (· < ·)) (hm : ∀ k, k ∈ ns ↔ k ∈ zs) : zs = ns := by
  have key : ∀ k : Int, k ∈ zs ↔ ∃ b : Nat, k = nI b ∧ b < n ∧ nI b ∈ zs := fun k => ⟨fun h => by
    have := r k h
    refine ⟨k.toNat, by show k = ((k.toNat : Nat) : Int); omega, by omega, ?_⟩
    rw [show nI k.toNat = k by show ((k.toNat : Nat) : Int) = k; omega]
    exact h, fun ⟨b, e, _, h⟩ => by rw [e]; exact h⟩
  have e := (rise_lot hz key).trans (rise_lot hn fun k => (hm k).trans (key k)).symm
  have inj : ∀ {xs ys : List Int}, xs.map V.int = ys.map V.int → xs = ys := fun {xs} => by
    induction xs with
    | nil => intro ys h; cases ys with
      | nil => rfl
      | cons y ys => cases h
    | cons x xs ih => intro ys h; cases ys with
      | nil => cases h
      | cons y ys =>
        obtain ⟨h1, h2⟩ := List.cons.inj h
        rw [V.int.inj h1, ih h2]
  exact inj e
def spIsLotZ (K : PySem.W.Frag) : Sp := fun vs H Q _ => ∃ (c x t : Addr) (n : Nat) (E : List (Nat × Nat)) (zs : List Int), vs = [.ref x, .ref t] ∧ BoardAt K c H x n E ∧ H t = some (.tup (zs.map V.int)) ∧ zs.length ≤ 60 ∧ ∀ H', Same H H' → Q (.bl (decQ (LotZ n zs))) H'
theorem ok_is_lotZ (T : Tx K mg) : Has P w K mg base (He.ga K "is_lot") 3 ["board", "lot"] (spIsLotZ K) := by
  obtain ⟨⟨fd_is_between, F_is_between, b_is_between⟩, kp_is_between⟩ := ok_is_between (P := P) (w := w) (base := base) T
  obtain ⟨⟨fd_len, F_len, b_len⟩, kp_len⟩ := ok_len (P := P) (w := w) (base := base) T
  obtain ⟨fd, F⟩ := T.d_is_lot
  refine ⟨⟨fd, F.ok sc_is_lot (fun vs H Q E h => ?_) (fun cdv A outer s H vs Q E hr h => ?_), F.bindsN fun _ _ _ _ _ _ us hl => match us, hl with | [_, _], _ => rfl⟩, F.kp⟩
  · obtain ⟨c, x, t, n, E, zs, rfl, _⟩ := h
    rfl
  · obtain ⟨c, x, t, n, E, zs, rfl, B, ht, lz, h⟩ := h
    have hr_is_between : Room 2 _ := hr.mono (by decide)
    have hr_len : Room 2 _ := hr.mono (by decide)
    refine ⟨_, PSs.nox (pss_cons (ps_if (pt_not (pt_val (pe_callB (isiK (K := K)) (by rfl) T.free_isinstance (by decide +kernel) (pa_cons (pv 1) (pa_cons (pe_bltn (v := .ty "tuple") (u := .type "tuple") (by rfl) T.free_tuple (by decide +kernel) rfl) pa_nil))))) (pss_one (ps_ret pe_bl)) pss_nil)
      (pss_cons (ps_if (pt_not (pt_val (pe_callB (allK (K := K)) (by rfl) T.free_all (by decide +kernel) (pa_cons (pe_lc (own := [("place", 2)]) (g := (gName 2)) (tt := tYes) rfl sc_is_lot.nd (piT (K := K) (pv 1)) (blkOk_by (by kernel_rfl)) (fun _ _ _ _ _ => (pg_name (i := 2) sc_is_lot.nd rfl (Or.inl rfl))) (fun _ _ _ _ _ => pts_nil) (fun _ _ _ _ _ => (pe_call F_is_between hr_is_between rfl T.glo_is_between kp_is_between b_is_between .nil pass0 (pa_cons (pv 2) (pa_cons pe_int (pa_cons (pe_op op_sub (pe_callB (call_lenOwn T.m_len F_len b_len hr_len) (by rfl) T.free_len (by decide +kernel) (pa_cons (pv 0) pa_nil)) pe_int) pa_nil)))))) pa_nil)))) (pss_one (ps_ret pe_bl)) pss_nil)
      (pss_one (ps_ret (pe_cmpR (eqD (K := K) hr.units) (pe_callTy (listK (K := K)) (by rfl) T.free_list (by decide +kernel) (pa_cons (pv 1) pa_nil)) (pe_callB (sortS (w := w)) (by rfl) T.free_sorted (by decide +kernel) (pa_cons (pe_callTy (setTK (K := K) (w := w)) (by rfl) T.free_set (by decide +kernel) (pa_cons (pv 1) pa_nil)) pa_nil)) (nomark _)))))), ?_⟩
    have n8 := B.hi
    refine ⟨_, rfl, _, _, _, _, true, rfl, .ty _, .base (.tup ht), kit_ty (by decide +kernel), true, rfl, iteF ?_⟩
    refine ⟨_, rfl, t, rfl, ⟨_, SqT.of ht⟩, fun D hD => ?_⟩
    refine lc_val (walk_tup (K := K) (a := t) (xs := zs.map V.int)) (fun i => .bl (decide (0 ≤ zs.getD i 0 ∧ zs.getD i 0 ≤ (n : Int) - 1))) (by rw [List.length_map]; omega) hD (fun H1 s1 => SqT.of (s1 _ _ ht)) ?_ ?_
    · rintro i y H1' H1 Nx hi s1 ⟨rfl, hy⟩ k
      obtain ⟨z, hz, rfl⟩ := get_ints hy
      have B1 := B.same s1
      obtain ⟨dx, q1, q2, q3, hx⟩ := B1.obj
      refine ⟨rfl, _, rfl, _, rfl, x, dx, _, rfl, hx, c, x, n, E, rfl, B1, (n : Int), rfl, by omega, by omega, _, _, rfl, rfl, _, _, _, rfl, ?_⟩
      have := k _ (Same.refl _)
      rw [List.getD_eq_getElem?_getD, hz] at this
      exact this
    · intro H1 h1 s1
      rw [List.length_map, bools_of (q := fun z => decide (0 ≤ z ∧ z ≤ (n : Int) - 1)) (fun i z hz => by rw [List.getD_eq_getElem?_getD, hz]; rfl)] at h1
      refine ⟨D, _, rfl, SqL.of h1, _, rfl, ?_⟩
      by_cases r : ∀ z ∈ zs, 0 ≤ z ∧ z ≤ (n : Int) - 1
      · rw [show (zs.map fun z => decide (0 ≤ z ∧ z ≤ (n : Int) - 1)).all id = true from (all_map fun z => decide_eq_true_iff).2 r]
        refine iteF ?_
        have r' : ∀ z ∈ zs, 0 ≤ z ∧ z < (n : Nat) := fun z hz => by have := r z hz; omega
        refine ⟨_, rfl, t, _, rfl, .inr (SqT.of (s1 _ _ ht)), fun l1 hl1 => ?_⟩
        have s2 := same_upd (o := HO.lst (zs.map V.int)) hl1
        have ht2 := s2 _ _ (s1 _ _ ht)
        refine ⟨_, rfl, t, zs, rfl, SqT.of ht2, by omega, fun d cc hd hcc => ?_⟩
        refine ⟨d, _, cc, rfl, upd_same, by omega, fun ns l2 h1 h2 h3 hl2 => ?_⟩
        have s3 := same_upd (o := SetO w d (fun j => decide (j ∈ zs)) cc) hd
        have s4 := same_upd (o := HO.lst (ns.map V.int)) hl2
        refine ⟨.list (zs.map .int), .list (ns.map .int), .lst (SqL.of (s4 _ _ (s3 _ _ upd_same))) (dp_ints zs), .lst (SqL.of upd_same) (dp_ints ns), shaped_ints zs, shaped_ints ns, ?_⟩
        rw [PyData.eqv, PySem.W.ked_eqvAll, show decide (zs = ns) = decQ (LotZ n zs) from Bool.eq_iff_iff.mpr (decide_eq_true_iff.trans ⟨fun e => decQ_true.mpr ⟨r', e ▸ h1⟩, fun k => rise_same r' (decQ_true.mp k).2 h1 fun j => (h2 j).trans decide_eq_true_iff⟩)]
        exact h _ (((s1.trans s2).trans s3).trans s4)
      · rw [show (zs.map fun z => decide (0 ≤ z ∧ z ≤ (n : Int) - 1)).all id = false from Bool.eq_false_iff.mpr fun k => r ((all_map fun z => decide_eq_true_iff).1 k)]
        refine iteT ?_
        have := h H1 s1
        rw [show decQ (LotZ n zs) = false from Bool.eq_false_iff.mpr fun k => r fun z hz => by have := (decQ_true.mp k).1 z hz; omega] at this
        exact this

end
end RL
/-! lots and looks read -/
namespace RL
open PySem PySem.Spec PyProof.Rows L2
theorem fig_same (z : Str) : figOf z = RLT.figN z := by
  unfold figOf RLT.figN
  generalize z.cps.toList = l
  match l with
  | [] => rfl
  | [_] => rfl
  | _ :: _ :: _ => rfl
theorem comma_eq : ("," : Str) = RLT.comma := by decide +kernel
theorem bar_eq : ("|" : Str) = RLT.bar := by decide +kernel
theorem dash_eq : ("-" : Str) = RLT.dash := by decide +kernel
theorem split_few {c : Nat} (hc : c < 256) {t : Str} (h : t.length ≤ 2000) : (Txt.split t (RLT.sg c)).length ≤ 2001 := by
  rw [RLT.spl_lenC hc]
  have := List.count_le_length (a := c) (l := t.cps.toList)
  rw [← RLT.len_list] at this
  omega
/-- a lot that was read, or None -/
def LotO (H : Hp) (v : V) : Option (List Nat) → Prop
  | none => v = .non
  | some zs => ∃ a : Addr, v = .ref a ∧ H a = some (.tup (zs.map vI))
theorem LotO.same {H H' : Hp} {v : V} (s : Same H H') : ∀ {o : Option (List Nat)}, LotO H v o → LotO H' v o
  | none, h => h
  | some _, ⟨a, e, h⟩ => ⟨a, e, s _ _ h⟩
theorem LotO.tk {H H' : Hp} {v : V} (s : TK H H') : ∀ {o : Option (List Nat)}, LotO H v o → LotO H' v o
  | none, h => h
  | some _, ⟨a, e, h⟩ => ⟨a, e, s _ _ h⟩
def optV : Option Nat → V
  | none => .non
  | some i => vI i
/-- what was made of words -/
def WdAt (H : Hp) (v : V) : RLT.Wd → Prop
  | .non => v = .non
  | .inn o => ∃ (t : Addr) (y : V), v = .ref t ∧ H t = some (.tup [.str "in", y]) ∧ LotO H y o
  | .parts os => ∃ (t u : Addr) (ys : List V), v = .ref t ∧ H t = some (.tup [.str "parts", .ref u]) ∧ H u = some (.tup ys) ∧ ys.length = os.length ∧ ∀ (k : Nat) (y : V) (o : Option (List Nat)), ys[k]? = some y → os[k]? = some o → LotO H y o
  | .near b k => ∃ t : Addr, v = .ref t ∧ H t = some (.tup [.str "near", optV b, optV k])
section
variable {P : Program} {w : World} {K : PySem.W.Frag} {mg : Str → Option Value} {base : Heap} [Figs K w]
def spFigsR : Sp := fun vs H Q _ => ∃ t : Str, vs = [.str t] ∧ t.length ≤ 2000 ∧ ((RLT.figs (Txt.split t RLT.comma) = none ∧ ∀ H', Same H H' → Q .non H') ∨
  ∃ is, RLT.figs (Txt.split t RLT.comma) = some is ∧ ∀ H' a, H' a = some (.tup (is.map vI)) → Same H H' → Q (.ref a) H')
theorem sc_read_figures : FnScope ["text", "words", "word"] ["text"] (defScope s_read_figures) := ⟨rfl, rfl, rfl, by decide +kernel, rfl, by decide +kernel, by decide +kernel⟩
theorem ok_figsR (T : Tx K mg) : Has P w K mg base (He.ga K "read_figures") 1 ["text"] spFigsR := by
  have FO : FigOk K w := figOk T
  obtain ⟨fd, F⟩ := T.d_read_figures
  refine ⟨⟨fd, F.ok sc_read_figures (fun vs H Q E h => ?_) (fun cdv A outer s H vs Q E hr h => ?_), F.bindsN fun _ _ _ _ _ _ us hl => match us, hl with | [_], _ => rfl⟩, F.kp⟩
  · obtain ⟨t, rfl, _⟩ := h
    rfl
  · obtain ⟨t, rfl, lt, h⟩ := h
    refine ⟨_, PSs.nox (pss_cons (ps_set (i := 1) sc_read_figures.nd rfl (Or.inl rfl) (pe_split (pv 0) pe_str))
      (pss_cons (ps_if (pt_not (pt_val (pe_callB (allK (K := K)) (by rfl) T.free_all (by decide +kernel) (pa_cons (pe_lc (own := [("word", 2)]) (g := (gName 2)) (tt := tYes) rfl sc_read_figures.nd (piL (K := K) (pv 1)) (blkOk_by (by kernel_rfl)) (fun _ _ _ _ _ => (pg_name (i := 2) sc_read_figures.nd rfl (Or.inl rfl))) (fun _ _ _ _ _ => pts_nil) (fun _ _ _ _ _ => (pe_cmpR (inFig (K := K) (w := w) FO) (pv 2) (pe_glob (v := .ref (He.ga K "FIGURES")) rfl T.glo_FIGURES rfl) (by rfl)))) pa_nil)))) (pss_one (ps_ret pe_non)) pss_nil)
      (pss_one (ps_ret (pe_callTy (tupK (K := K)) (by rfl) T.free_tuple (by decide +kernel) (pa_cons (pe_lc (own := [("word", 2)]) (g := (gName 2)) (tt := tYes) rfl sc_read_figures.nd (piL (K := K) (pv 1)) (blkOk_by (by kernel_rfl)) (fun _ _ _ _ _ => (pg_name (i := 2) sc_read_figures.nd rfl (Or.inl rfl))) (fun _ _ _ _ _ => pts_nil) (fun _ _ _ _ _ => (pe_ix (ixFig (K := K) (w := w) FO) (pe_glob (v := .ref (He.ga K "FIGURES")) rfl T.glo_FIGURES rfl) (pv 2) (fun _ _ => rfl)))) pa_nil)))))), ?_⟩
    refine ⟨_, rfl, ⟨_, rfl⟩, _, _, rfl, rfl, by decide +kernel, Nat.le_trans (show _ ≤ 2002 by omega) (by decide), fun l hl => ?_⟩
    rw [comma_eq]
    have few := split_few (c := 44) (by decide) lt
    change (Txt.split t RLT.comma).length ≤ 2001 at few
    generalize Txt.split t RLT.comma = W at h few
    have s1 := same_upd (o := HO.lst (W.map V.str)) hl
    have h1 : (upd H l (.lst (W.map V.str))) l = some (.lst (W.map V.str)) := upd_same
    generalize upd H l (.lst (W.map V.str)) = H1 at s1 h1
    have ef : ∀ i, (i : Nat) < W.length → ∀ z, W[i]? = some z → W.getD i ("" : Str) = z := fun i _ z hz => by rw [List.getD_eq_getElem?_getD, hz]; rfl
    have ea : RLT.figs W = none ∨ ∃ is, RLT.figs W = some is := by
      cases RLT.figs W with
      | none => exact .inl rfl
      | some is => exact .inr ⟨is, rfl⟩
    refine ⟨_, rfl, l, rfl, ⟨_, SqL.of h1⟩, fun D hD => ?_⟩
    refine lc_val (walk_list (K := K) (a := l) (xs := W.map V.str)) (fun i => .bl (figOf (W.getD i "")).isSome) (by rw [List.length_map]; omega) hD (fun H2 s2 => SqL.of (s2 _ _ h1)) ?_ ?_
    · rintro i y H1' H2 Nx hi s2 ⟨rfl, hy⟩ k
      obtain ⟨z, hz, rfl⟩ := get_mapV hy
      have := k H2 (Same.refl _)
      rw [List.getD_eq_getElem?_getD, hz] at this
      exact ⟨rfl, _, rfl, z, rfl, rfl, this⟩
    · intro H2 h2 s2
      rw [List.length_map, RLT.range_getD W "" (fun z => V.bl (figOf z).isSome)] at h2
      have e2 : (W.map fun z => V.bl (figOf z).isSome) = (W.map fun z => (figOf z).isSome).map V.bl := by rw [List.map_map]; rfl
      rw [e2] at h2
      refine ⟨D, _, rfl, SqL.of h2, _, rfl, ?_⟩
      have e3 : (W.map fun z => (figOf z).isSome).all id = (RLT.figs W).isSome := by
        rw [RLT.figs_some, List.all_map]
        congr 1
      rw [e3]
      rcases h with ⟨n0, h⟩ | ⟨is, hs, h⟩
      · rw [n0]
        exact iteT (h H2 (s1.trans s2))
      · rw [hs]
        refine iteF ?_
        have eg := RLT.figs_get hs
        have h12 := s2 _ _ h1
        refine ⟨_, rfl, l, rfl, ⟨_, SqL.of h12⟩, fun D2 hD2 => ?_⟩
        refine lc_val (walk_list (K := K) (a := l) (xs := W.map V.str)) (fun i => vI ((RLT.figN (W.getD i "")).getD 0)) (by rw [List.length_map]; omega) hD2 (fun H3 s3 => SqL.of (s3 _ _ h12)) ?_ ?_
        · rintro i y H1' H3 Nx hi s3 ⟨rfl, hy⟩ k
          obtain ⟨z, hz, rfl⟩ := get_mapV hy
          have := k H3 (Same.refl _)
          rw [List.getD_eq_getElem?_getD, hz] at this
          have all3 : (RLT.figN z).isSome = true := by
            have := RLT.figs_some W
            rw [hs] at this
            exact List.all_eq_true.mp this.symm z (List.mem_of_getElem? hz)
          cases e4 : RLT.figN z with
          | none => rw [e4] at all3; cases all3
          | some j =>
            rw [show (some z).getD ("" : Str) = z from rfl, e4] at this
            exact ⟨rfl, _, rfl, z, j, rfl, rfl, by rw [fig_same]; exact e4, this⟩
        · intro H3 h3 s3
          rw [List.length_map, RLT.range_getD W "" (fun z => vI ((RLT.figN z).getD 0))] at h3
          have e5 : (W.map fun z => vI ((RLT.figN z).getD 0)) = is.map vI := by rw [← eg, List.map_map]; rfl
          rw [e5] at h3
          refine ⟨D2, _, rfl, .inl ⟨SqL.of h3, fun u hu => ?_⟩⟩
          exact h _ u upd_same (((s1.trans s2).trans s3).trans (same_upd hu))
def spLotR : Sp := fun vs H Q _ => ∃ t : Str, vs = [.str t] ∧ t.length ≤ 2000 ∧ ∀ H' v, LotO H' v (RLT.lotOf t) → Same H H' → Q v H'
theorem sc_read_lot : FnScope ["text", "places"] ["text"] (defScope s_read_lot) := ⟨rfl, rfl, rfl, by decide +kernel, rfl, by decide +kernel, by decide +kernel⟩
theorem ok_lotR (T : Tx K mg) : Has P w K mg base (He.ga K "read_lot") 2 ["text"] spLotR := by
  obtain ⟨⟨fd_read_figures, F_read_figures, b_read_figures⟩, kp_read_figures⟩ := ok_figsR (P := P) (w := w) (base := base) T
  obtain ⟨fd, F⟩ := T.d_read_lot
  refine ⟨⟨fd, F.ok sc_read_lot (fun vs H Q E h => ?_) (fun cdv A outer s H vs Q E hr h => ?_), F.bindsN fun _ _ _ _ _ _ us hl => match us, hl with | [_], _ => rfl⟩, F.kp⟩
  · obtain ⟨t, rfl, _⟩ := h
    rfl
  · obtain ⟨t, rfl, lt, h⟩ := h
    have hr_read_figures : Room 1 _ := hr.mono (by decide)
    refine ⟨_, PSs.nox (pss_cons (ps_if (pt_cmpR op_eq (pv 0) pe_str (nomark _)) (pss_one (ps_ret (pe_tup pa_nil))) pss_nil)
      (pss_cons (ps_set (i := 1) sc_read_lot.nd rfl (Or.inl rfl) (pe_call F_read_figures hr_read_figures rfl T.glo_read_figures kp_read_figures b_read_figures .nil pass0 (pa_cons (pv 0) pa_nil)))
      (pss_cons (ps_if (PW.pt (pw_or (pt_cmpR op_isN (pv 1) pe_non (nomark _)) (pw_or1 (pt_cmpR (neD (K := K) hr.units) (pe_callTy (listK (K := K)) (by rfl) T.free_list (by decide +kernel) (pa_cons (pv 1) pa_nil)) (pe_callB (sortS (w := w)) (by rfl) T.free_sorted (by decide +kernel) (pa_cons (pe_callTy (RLS.set8K (K := K) (w := w)) (by rfl) T.free_set (by decide +kernel) (pa_cons (pv 1) pa_nil)) pa_nil)) (nomark _))))) (pss_one (ps_ret pe_non)) pss_nil)
      (pss_one (ps_ret (pv 1)))))), ?_⟩
    refine ⟨_, rfl, rfl, _, rfl, ?_⟩
    rw [dash_eq]
    by_cases nd : t = RLT.dash
    · subst nd
      rw [decide_eq_true rfl]
      refine iteT ⟨Nat.zero_le _, fun u hu => h _ _ ?_ (same_upd hu)⟩
      rw [RLT.lotOf_dash]
      exact ⟨u, rfl, upd_same⟩
    · rw [decide_eq_false fun e => nd (V.str.inj e)]
      refine iteF ⟨_, rfl, t, rfl, by omega, ?_⟩
      cases ef : RLT.figs (Txt.split t RLT.comma) with
      | none =>
        refine .inl ⟨rfl, fun H1 s1 => ?_⟩
        refine ⟨_, rfl, rfl, _, rfl, ?_⟩
        rw [decide_eq_true rfl]
        refine iteT (iteT (h H1 _ ?_ s1))
        rw [RLT.lotOf_no nd ef]
        exact rfl
      | some is =>
        refine .inr ⟨is, rfl, fun H1 a ha s1 => ?_⟩
        have fw := RLT.figs_few ef
        have i8 := (RLT.figs_iff.mp ef).1
        have eL := RLT.lotOf_is nd ef
        rw [vI_ints] at ha
        generalize hz : (is.map fun z : Nat => (z : Int)) = zs at ha
        have lz : zs.length = is.length := by rw [← hz, List.length_map]
        refine ⟨_, rfl, rfl, _, rfl, ?_⟩
        rw [decide_eq_false (show ¬ V.ref a = V.non from fun e => by cases e)]
        refine iteF ?_
        refine ⟨_, rfl, a, _, rfl, .inr (SqT.of ha), fun l1 hl1 => ?_⟩
        have s2 := same_upd (o := HO.lst (zs.map V.int)) hl1
        have ha2 := s2 _ _ ha
        have r' : ∀ z ∈ zs, 0 ≤ z ∧ z < (8 : Nat) := fun z m => by
          rw [← hz] at m
          obtain ⟨i, hi, rfl⟩ := List.mem_map.mp m
          have := i8 i hi
          omega
        refine ⟨_, rfl, a, zs, rfl, SqT.of ha2, by omega, r', fun d cc hd hcc => ?_⟩
        refine ⟨d, _, cc, rfl, upd_same, by omega, fun ns l2 h1 h2 h3 hl2 => ?_⟩
        have s3 := same_upd (o := SetO w d (fun j => decide (j ∈ zs)) cc) hd
        have s4 := same_upd (o := HO.lst (ns.map V.int)) hl2
        refine ⟨.list (zs.map .int), .list (ns.map .int), .lst (SqL.of (s4 _ _ (s3 _ _ upd_same))) (dp_ints zs), .lst (SqL.of upd_same) (dp_ints ns), shaped_ints zs, shaped_ints ns, _, rfl, ?_⟩
        have ok4 := ((s1.trans s2).trans s3).trans s4
        have ha4 := s4 _ _ (s3 _ _ ha2)
        rw [PyData.eqv, PySem.W.ked_eqvAll]
        by_cases sr : is.Pairwise (· < ·)
        · rw [decide_eq_true (show zs = ns from rise_same r' (hz ▸ RLT.rise_ints.mpr sr) h1 fun j => (h2 j).trans decide_eq_true_iff)]
          refine iteF ⟨_, rfl, h _ _ ?_ ok4⟩
          rw [eL, if_pos sr]
          refine ⟨a, rfl, ?_⟩
          rw [ha4, ← hz, ← vI_ints]
        · rw [decide_eq_false (show ¬ zs = ns from fun e => sr (RLT.rise_ints.mp (by rw [hz, e]; exact h1)))]
          refine iteT (h _ _ ?_ ok4)
          rw [eL, if_neg sr]
          exact rfl
def spLookW : Sp := fun vs H Q _ => ∃ (l : Addr) (W : List Str), vs = [.ref l] ∧ H l = some (.lst (W.map V.str)) ∧ W.length ≤ 2001 ∧ (∀ z ∈ W, z.length ≤ 2000) ∧ ∀ H' v, WdAt H' v (RLT.wdOf W) → Same H H' → Q v H'
theorem sc_look_of_words : FnScope ["words", "lot"] ["words"] (defScope s_look_of_words) := ⟨rfl, rfl, rfl, by decide +kernel, rfl, by decide +kernel, by decide +kernel⟩
theorem ok_lookW (T : Tx K mg) : Has P w K mg base (He.ga K "look_of_words") 3 ["words"] spLookW := by
  have FO : FigOk K w := figOk T
  obtain ⟨⟨fd_read_lot, F_read_lot, b_read_lot⟩, kp_read_lot⟩ := ok_lotR (P := P) (w := w) (base := base) T
  obtain ⟨fd, F⟩ := T.d_look_of_words
  refine ⟨⟨fd, F.ok sc_look_of_words (fun vs H Q E h => ?_) (fun cdv A outer s H vs Q E hr h => ?_), F.bindsN fun _ _ _ _ _ _ us hl => match us, hl with | [_], _ => rfl⟩, F.kp⟩
  · obtain ⟨l, W, rfl, _⟩ := h
    rfl
  · obtain ⟨l, W, rfl, hl, lW, zW, h⟩ := h
    have hr_read_lot : Room 2 _ := hr.mono (by decide)
    refine ⟨_, PSs.nox (pss_cons (ps_if (PW.pt (pw_and (pt_cmpR op_eq (pe_callB (lenK (K := K)) (by rfl) T.free_len (by decide +kernel) (pa_cons (pv 0) pa_nil)) pe_int (nomark _)) (pw_and1 (pt_cmpR op_eq (pe_ix (ixL (K := K)) (pv 0) pe_int (fun _ _ => rfl)) pe_str (nomark _))))) (pss_one (ps_ret (pe_tup (pa_cons pe_str (pa_cons (pe_call F_read_lot hr_read_lot rfl T.glo_read_lot kp_read_lot b_read_lot .nil pass0 (pa_cons (pe_ix (ixL (K := K)) (pv 0) pe_int (fun _ _ => rfl)) pa_nil)) pa_nil))))) pss_nil)
      (pss_cons (ps_if (PW.pt (pw_and (pt_cmpR op_eq (pe_callB (lenK (K := K)) (by rfl) T.free_len (by decide +kernel) (pa_cons (pv 0) pa_nil)) pe_int (nomark _)) (pw_and1 (pt_cmpR op_eq (pe_ix (ixL (K := K)) (pv 0) pe_int (fun _ _ => rfl)) pe_str (nomark _))))) (pss_one (ps_ret (pe_tup (pa_cons pe_str (pa_cons (pe_callTy (tupK (K := K)) (by rfl) T.free_tuple (by decide +kernel) (pa_cons (pe_lc (own := [("lot", 1)]) (g := (gName 1)) (tt := tYes) rfl sc_look_of_words.nd (piL (K := K) (pe_split (pe_ix (ixL (K := K)) (pv 0) pe_int (fun _ _ => rfl)) pe_str)) (blkOk_by (by kernel_rfl)) (fun _ _ _ _ _ => (pg_name (i := 1) sc_look_of_words.nd rfl (Or.inl rfl))) (fun _ _ _ _ _ => pts_nil) (fun _ _ _ _ _ => (pe_call F_read_lot hr_read_lot rfl T.glo_read_lot kp_read_lot b_read_lot .nil pass0 (pa_cons (pv 1) pa_nil)))) pa_nil)) pa_nil))))) pss_nil)
      (pss_cons (ps_if (PW.pt (pw_and (pt_cmpR op_eq (pe_callB (lenK (K := K)) (by rfl) T.free_len (by decide +kernel) (pa_cons (pv 0) pa_nil)) pe_int (nomark _)) (pw_and1 (pt_cmpR op_eq (pe_ix (ixL (K := K)) (pv 0) pe_int (fun _ _ => rfl)) pe_str (nomark _))))) (pss_one (ps_ret (pe_tup (pa_cons pe_str (pa_cons (pe_figGet (K := K) (w := w) FO (pe_glob (v := .ref (He.ga K "FIGURES")) rfl T.glo_FIGURES rfl) (pe_ix (ixL (K := K)) (pv 0) pe_int (fun _ _ => rfl)) ⟨by rfl, by rfl, by rfl, by rfl⟩) (pa_cons (pe_figGet (K := K) (w := w) FO (pe_glob (v := .ref (He.ga K "FIGURES")) rfl T.glo_FIGURES rfl) (pe_ix (ixL (K := K)) (pv 0) pe_int (fun _ _ => rfl)) ⟨by rfl, by rfl, by rfl, by rfl⟩) pa_nil)))))) pss_nil)
      (pss_one (ps_ret pe_non))))), ?_⟩
    have e1 : ("in" : Str) = RLT.wIn := by decide +kernel
    have e2 : ("parts" : Str) = RLT.wParts := by decide +kernel
    have e3 : ("near" : Str) = RLT.wNear := by decide +kernel
    have lenW : ((W.map V.str).length : Nat) = W.length := List.length_map ..
    match W, lW, zW, h with
    | [], _, _, h =>
      refine ⟨_, rfl, l, _, rfl, .inl (SqL.of hl), rfl, _, rfl, ?_⟩
      rw [decide_eq_false (show ¬ V.int ((([].map V.str).length : Nat) : Int) = V.int 2 from fun e => absurd (V.int.inj e) (by simp))]
      refine iteF (iteF ?_)
      refine ⟨_, rfl, l, _, rfl, .inl (SqL.of hl), rfl, _, rfl, ?_⟩
      rw [decide_eq_false (show ¬ V.int ((([].map V.str).length : Nat) : Int) = V.int 2 from fun e => absurd (V.int.inj e) (by simp))]
      refine iteF (iteF ?_)
      refine ⟨_, rfl, l, _, rfl, .inl (SqL.of hl), rfl, _, rfl, ?_⟩
      rw [decide_eq_false (show ¬ V.int ((([].map V.str).length : Nat) : Int) = V.int 3 from fun e => absurd (V.int.inj e) (by simp))]
      refine iteF (iteF ?_)
      exact h H _ rfl (Same.refl H)
    | [x], _, _, h =>
      refine ⟨_, rfl, l, _, rfl, .inl (SqL.of hl), rfl, _, rfl, ?_⟩
      rw [decide_eq_false (show ¬ V.int ((([x].map V.str).length : Nat) : Int) = V.int 2 from fun e => absurd (V.int.inj e) (by simp))]
      refine iteF (iteF ?_)
      refine ⟨_, rfl, l, _, rfl, .inl (SqL.of hl), rfl, _, rfl, ?_⟩
      rw [decide_eq_false (show ¬ V.int ((([x].map V.str).length : Nat) : Int) = V.int 2 from fun e => absurd (V.int.inj e) (by simp))]
      refine iteF (iteF ?_)
      refine ⟨_, rfl, l, _, rfl, .inl (SqL.of hl), rfl, _, rfl, ?_⟩
      rw [decide_eq_false (show ¬ V.int ((([x].map V.str).length : Nat) : Int) = V.int 3 from fun e => absurd (V.int.inj e) (by simp))]
      refine iteF (iteF ?_)
      exact h H _ rfl (Same.refl H)
    | [x, y], _, zW, h =>
      have ly := zW y (by simp)
      refine ⟨_, rfl, l, _, rfl, .inl (SqL.of hl), rfl, _, rfl, ?_⟩
      refine iteT ?_
      refine ⟨_, rfl, l, _, 0, _, rfl, rfl, SqL.of hl, rfl, rfl, _, rfl, ?_⟩
      by_cases c1 : x = RLT.wIn
      · rw [decide_eq_true (show V.str x = V.str "in" by rw [c1, e1])]
        refine iteT ?_
        refine ⟨_, rfl, l, _, 1, _, rfl, rfl, SqL.of hl, rfl, y, rfl, ly, fun H1 v hv s1 => ⟨(show 2 ≤ sizeLine by decide), fun u hu => h _ _ ?_ (s1.trans (same_upd hu))⟩⟩
        rw [show RLT.wdOf [x, y] = .inn (RLT.lotOf y) from if_pos c1]
        exact ⟨u, v, rfl, upd_same, hv.same (same_upd hu)⟩
      · rw [decide_eq_false (show ¬ V.str x = V.str "in" from fun e => c1 ((V.str.inj e).trans e1))]
        refine iteF ?_
        refine ⟨_, rfl, l, _, rfl, .inl (SqL.of hl), rfl, _, rfl, ?_⟩
        refine iteT ?_
        refine ⟨_, rfl, l, _, 0, _, rfl, rfl, SqL.of hl, rfl, rfl, _, rfl, ?_⟩
        by_cases c2 : x = RLT.wParts
        · rw [decide_eq_true (show V.str x = V.str "parts" by rw [c2, e2])]
          refine iteT ?_
          refine ⟨_, rfl, l, _, 1, _, rfl, rfl, SqL.of hl, rfl, ⟨_, rfl⟩, _, _, rfl, rfl, by decide +kernel, Nat.le_trans (show _ ≤ 2002 by omega) (by decide), fun p hp => ?_⟩
          have few := split_few (c := 124) (t := y) (by decide) (by omega)
          have zle : ∀ z ∈ Txt.split y RLT.bar, z.length ≤ 2000 := fun z hz => Nat.le_trans (RLT.spl_le (c := 124) (by decide) hz) ly
          have ew : RLT.wdOf [x, y] = .parts ((Txt.split y RLT.bar).map RLT.lotOf) := (if_neg c1).trans (if_pos c2)
          rw [bar_eq]
          change (Txt.split y RLT.bar).length ≤ 2001 at few
          rw [ew] at h
          generalize Txt.split y RLT.bar = Z at h few zle
          have s1 := same_upd (o := HO.lst (Z.map V.str)) hp
          have h1 : (upd H p (.lst (Z.map V.str))) p = some (.lst (Z.map V.str)) := upd_same
          generalize upd H p (.lst (Z.map V.str)) = H1 at s1 h1
          refine ⟨p, rfl, ⟨_, SqL.of h1⟩, fun D hD => ?_⟩
          refine lc_rel (walk_list (K := K) (a := p) (xs := Z.map V.str)) (fun i v H2 => ∀ z, Z[i]? = some z → LotO H2 v (RLT.lotOf z)) (by rw [List.length_map]; omega) hD (fun i v H1 H2 r k z hz => (r z hz).tk k) (fun H2 s2 => SqL.of (s2 _ _ h1)) ?_ ?_
          · rintro i v H1' H2 Nx hi s2 ⟨rfl, hy⟩ k
            obtain ⟨z, hz, rfl⟩ := get_mapV hy
            refine ⟨rfl, _, rfl, z, rfl, zle z (List.mem_of_getElem? hz), fun H3 v hv s3 => k v H3 (fun z2 e => ?_) s3⟩
            rw [hz] at e
            rw [← Option.some.inj e]
            exact hv
          · intro H2 ys h2 ln r s2
            rw [List.length_map] at ln
            refine ⟨D, _, rfl, .inl ⟨SqL.of h2, fun u hu => ?_⟩⟩
            have s3 := same_upd (o := HO.tup ys) hu
            have h3 : (upd H2 u (.tup ys)) u = some (.tup ys) := upd_same
            generalize upd H2 u (.tup ys) = H3 at s3 h3
            refine ⟨(show 2 ≤ sizeLine by decide), fun t ht => h _ _ ?_ (((s1.trans s2).trans s3).trans (same_upd ht))⟩
            have s4 := same_upd (o := HO.tup [V.str "parts", V.ref u]) ht
            refine ⟨t, u, ys, rfl, upd_same, s4 _ _ h3, by rw [ln, List.length_map], fun k v o hv ho => ?_⟩
            rw [List.getElem?_map] at ho
            cases ez : Z[k]? with
            | none => rw [ez] at ho; cases ho
            | some z =>
              rw [ez] at ho
              rw [← Option.some.inj ho]
              exact (r k v hv z ez).same (s3.trans s4)
        · rw [decide_eq_false (show ¬ V.str x = V.str "parts" from fun e => c2 ((V.str.inj e).trans e2))]
          refine iteF ?_
          refine ⟨_, rfl, l, _, rfl, .inl (SqL.of hl), rfl, _, rfl, ?_⟩
          rw [decide_eq_false (show ¬ V.int ((([x, y].map V.str).length : Nat) : Int) = V.int 3 from fun e => absurd (V.int.inj e) (by simp))]
          refine iteF (iteF ?_)
          refine h H _ ?_ (Same.refl H)
          rw [show RLT.wdOf [x, y] = .non from (if_neg c1).trans (if_neg c2)]
          exact rfl
    | [x, y, z], _, _, h =>
      refine ⟨_, rfl, l, _, rfl, .inl (SqL.of hl), rfl, _, rfl, ?_⟩
      rw [decide_eq_false (show ¬ V.int ((([x, y, z].map V.str).length : Nat) : Int) = V.int 2 from fun e => absurd (V.int.inj e) (by simp))]
      refine iteF (iteF ?_)
      refine ⟨_, rfl, l, _, rfl, .inl (SqL.of hl), rfl, _, rfl, ?_⟩
      rw [decide_eq_false (show ¬ V.int ((([x, y, z].map V.str).length : Nat) : Int) = V.int 2 from fun e => absurd (V.int.inj e) (by simp))]
      refine iteF (iteF ?_)
      refine ⟨_, rfl, l, _, rfl, .inl (SqL.of hl), rfl, _, rfl, ?_⟩
      refine iteT ?_
      refine ⟨_, rfl, l, _, 0, _, rfl, rfl, SqL.of hl, rfl, rfl, _, rfl, ?_⟩
      by_cases c1 : x = RLT.wNear
      · rw [decide_eq_true (show V.str x = V.str "near" by rw [c1, e3])]
        refine iteT ?_
        refine ⟨rfl, _, rfl, l, _, 1, _, rfl, rfl, SqL.of hl, rfl, y, rfl, rfl, _, rfl, l, _, 2, _, rfl, rfl, SqL.of hl, rfl, z, rfl, (show 3 ≤ sizeLine by decide), fun u hu => h _ _ ?_ (same_upd hu)⟩
        rw [show RLT.wdOf [x, y, z] = .near (RLT.figN y) (RLT.figN z) from if_pos c1]
        refine ⟨u, rfl, upd_same.trans ?_⟩
        rw [fig_same, fig_same]
        cases RLT.figN y <;> cases RLT.figN z <;> rfl
      · rw [decide_eq_false (show ¬ V.str x = V.str "near" from fun e => c1 ((V.str.inj e).trans e3))]
        refine iteF ?_
        refine h H _ ?_ (Same.refl H)
        rw [show RLT.wdOf [x, y, z] = .non from if_neg c1]
        exact rfl
    | x :: y :: z :: z2 :: r, _, _, h =>
      have big : ∀ m : Int, m ≤ 3 → ¬ V.int ((((x :: y :: z :: z2 :: r).map V.str).length : Nat) : Int) = V.int m := fun m hm e => by
        have := V.int.inj e
        simp at this
        omega
      refine ⟨_, rfl, l, _, rfl, .inl (SqL.of hl), rfl, _, rfl, ?_⟩
      rw [decide_eq_false (big 2 (by omega))]
      refine iteF (iteF ?_)
      refine ⟨_, rfl, l, _, rfl, .inl (SqL.of hl), rfl, _, rfl, ?_⟩
      rw [decide_eq_false (big 2 (by omega))]
      refine iteF (iteF ?_)
      refine ⟨_, rfl, l, _, rfl, .inl (SqL.of hl), rfl, _, rfl, ?_⟩
      rw [decide_eq_false (big 3 (by omega))]
      refine iteF (iteF ?_)
      exact h H _ rfl (Same.refl H)
end
end RL
namespace RL
open PySem PySem.Spec PyProof.Rows L2 RLM
/-- any turns over a walk, whatever is done in a turn -/
theorem it_any {J : It} {n : Nat} {G : Hp → Prop} {Y : Nat → Hp → V → Hp → Prop} (w : Walk J n G Y) {B : (Hp → Prop) → V → Hp → Prop} {H0 : Hp} {Qd : Hp → Prop} (Pv : Nat → Hp → Prop) (h0 : Pv 0 H0) (hG : ∀ i H, i ≤ n → Pv i H → G H)
    (hs : ∀ i x H H', i < n → Pv i H → Y i H x H' → B (Pv (i + 1)) x H') (hd : ∀ H, Pv n H → Qd H) :
    ∃ W : Nat → Nat → Hp → Prop, (∃ m, W 0 m H0) ∧ ∀ i m H, W i m H → (J.stop i H ∧ Qd H) ∨ (J.go i H ∧ ∃ Nx : Hp → Prop, (∀ H', Nx H' → ∃ m', m' < m ∧ W (i + 1) m' H') ∧ ∀ x H', J.yld i H x H' → B Nx x H') := by
  refine ⟨fun i m H => m = n - i ∧ i ≤ n ∧ Pv i H, ⟨n, by simp, Nat.zero_le _, h0⟩, ?_⟩
  rintro i m H ⟨rfl, hi, p⟩
  have q := hG i H hi p
  by_cases lt : i < n
  · exact .inr ⟨w.goes i H lt q, Pv (i + 1), fun H' p' => ⟨n - (i + 1), by omega, rfl, lt, p'⟩, fun x H' y => hs i x H H' lt p (w.yields i H x H' lt q y)⟩
  · have e : i = n := by omega
    subst e
    exact .inl ⟨w.stops H q, hd H p⟩
theorem bf_far (n : Nat) (lp ll lf : Addr) : (bf n lp ll lf).lookup ("far" : Str) = none := by rfl
/-- spans and how far are one up to 8 -/
theorem min_far {n : Nat} {E : List (Nat × Nat)} {M : Nat → Nat → Nat} (S : Spans n E M) {a b k : Nat} (ha : a < n) (hb : b < n) (k7 : k ≤ 7) {d : Option Nat} (h : ∀ m : Int, (∃ j : Nat, d = some j ∧ (j : Int) ≤ m) ↔ Near E m a b) :
    min (M a b) (k + 1) = match d with
      | none => k + 1
      | some j => min j (k + 1) := by
  have key : ∀ m : Nat, m < 99 → (M a b ≤ m ↔ ∃ j, d = some j ∧ j ≤ m) := fun m hm => by
    have h1 := h (m : Int)
    have h2 := S.nr a b m ha hb (by omega)
    constructor
    · intro z
      obtain ⟨j, e, q⟩ := h1.2 (h2.1 (by omega))
      exact ⟨j, e, by omega⟩
    · rintro ⟨j, e, q⟩
      have := h2.2 (h1.1 ⟨j, e, by omega⟩)
      omega
  cases d with
  | none =>
    have : ¬ M a b ≤ k := fun z => by
      obtain ⟨j, e, _⟩ := (key k (by omega)).1 z
      cases e
    show min (M a b) (k + 1) = k + 1
    omega
  | some j =>
    show min (M a b) (k + 1) = min j (k + 1)
    have key2 : ∀ m : Nat, m < 99 → (M a b ≤ m ↔ j ≤ m) := fun m hm => by
      rw [key m hm]
      constructor
      · rintro ⟨i, e, q⟩
        cases e
        exact q
      · exact fun q => ⟨j, rfl, q⟩
    by_cases z : j ≤ k
    · have h1 := (key2 j (by omega)).2 (Nat.le_refl _)
      have h2 := (key2 (M a b) (by omega)).1 (Nat.le_refl _)
      omega
    · have h1 : ¬ M a b ≤ k := fun y => z ((key2 k (by omega)).1 y)
      omega
section
variable {P : Program} {w : World} {K : PySem.W.Frag} {mg : Str → Option Value} {base : Heap}
def spFar (K : PySem.W.Frag) : Sp := fun vs H Q _ => ∃ (c x : Addr) (n a b : Nat) (E : List (Nat × Nat)), vs = [.ref x, vI a, vI b] ∧ BoardAt K c H x n E ∧ a < n ∧ b < n ∧ ∀ d : Option Nat, (∀ m : Int, (∃ j : Nat, d = some j ∧ (j : Int) ≤ m) ↔ Near E m a b) → Q (vO d) H
theorem sc_Board_far : FnScope ["self", "one", "other"] ["self", "one", "other"] (defScope s_Board_far) := ⟨rfl, rfl, rfl, by decide +kernel, rfl, by decide +kernel, by decide +kernel⟩
theorem ok_far (T : Tx K mg) : Has P w K mg base (mB K "far") 4 ["self", "one", "other"] (spFar K) := by
  obtain ⟨⟨fd_check_place, F_check_place, b_check_place⟩, kp_check_place⟩ := ok_check (P := P) (w := w) (base := base) T
  obtain ⟨fd, F⟩ := T.d_Board_far
  refine ⟨⟨fd, F.ok sc_Board_far (fun vs H Q E h => ?_) (fun cdv A outer s H vs Q E hr h => ?_), F.bindsN fun _ _ _ _ _ _ us hl => match us, hl with | [_, _, _], _ => rfl⟩, F.kp⟩
  · obtain ⟨c, x, n, a, b, E, rfl, _⟩ := h
    rfl
  · obtain ⟨c, x, n, a, b, E, rfl, B, an, bn, h⟩ := h
    have hr_check_place : Room 3 _ := hr.mono (by decide)
    refine ⟨_, PSs.nox (pss_cons (ps_expr (pe_meth (pv 0) T.cl T.m_check_place F_check_place hr_check_place b_check_place .nil pass0 (pa_cons (pv 1) pa_nil)))
      (pss_cons (ps_expr (pe_meth (pv 0) T.cl T.m_check_place F_check_place hr_check_place b_check_place .nil pass0 (pa_cons (pv 2) pa_nil)))
      (pss_one (ps_ret (pe_ix (ixL (K := K)) (pe_ix (ixL (K := K)) (fldK (K := K) (pv 0) rfl) (pv 1) (fun _ _ => rfl)) (pv 2) (fun _ _ => rfl)))))), ?_⟩
    obtain ⟨dx, lp, ll, lf, L, ls, U, hx, h2, h3, h4, h5, h6, hlf, lfc, lU, eU⟩ := B.ex
    refine ⟨_, rfl, x, dx, _, rfl, hx, bf_check _ _ _ _, _, rfl, c, x, n, a, E, rfl, B, an, ?_⟩
    refine ⟨_, rfl, x, dx, _, rfl, hx, bf_check _ _ _ _, _, rfl, c, x, n, b, E, rfl, B, bn, ?_⟩
    obtain ⟨u, hu⟩ : ∃ u, U[a]? = some u := ⟨_, List.getElem?_eq_getElem (by rw [lU]; exact an)⟩
    obtain ⟨hul, uc, FF⟩ := eU a u hu
    have hb : u.2[b]? = some (u.2[b]'(by rw [FF.1]; exact bn)) := List.getElem?_eq_getElem _
    refine ⟨_, rfl, x, _, dx, _, _, rfl, hx, T.cl, T.n_fars, bf_fars _ _ _ _, _, rfl, lf, _, _, _, rfl, rfl, SqL.of hlf, atI_nat (get_map hu), ?_⟩
    exact ⟨_, rfl, u.1, _, _, _, rfl, rfl, SqL.of hul, atI_nat (get_map hb), h _ fun m => FF.2 b _ hb m⟩
def spNear (K : PySem.W.Frag) : Sp := fun vs H Q _ => ∃ (c x : Addr) (n a b k : Nat) (E : List (Nat × Nat)) (M : Nat → Nat → Nat), vs = [.ref x, vI a, vI b, vI k] ∧ BoardAt K c H x n E ∧ Spans n E M ∧ a < n ∧ b < n ∧ k ≤ 7 ∧ Q (vI (min (M a b) (k + 1))) H
end
end RL
/-! what was read: a look of a board, or not -/
namespace RL
open PySem PySem.Spec PyProof.Rows L2 RLM
section
variable {P : Program} {w : World} {K : PySem.W.Frag} {mg : Str → Option Value} {base : Heap}
def spNumO : Sp := fun vs H Q _ => ∃ o : Option Nat, vs = [optV o] ∧ Q (.bl o.isSome) H
theorem ok_numO (T : Tx K mg) : Has P w K mg base (He.ga K "is_number") 1 ["thing"] spNumO := by
  obtain ⟨fd, F⟩ := T.d_is_number
  refine ⟨⟨fd, F.ok sc_is_number (fun vs H Q E h => ?_) (fun cdv A outer s H vs Q E hr h => ?_), F.bindsN fun _ _ _ _ _ _ us hl => match us, hl with | [_], _ => rfl⟩, F.kp⟩
  · obtain ⟨o, rfl, _⟩ := h
    rfl
  · obtain ⟨o, rfl, h⟩ := h
    refine ⟨_, PSs.nox (pss_one (ps_ret (pe_and (pe_callB (isiK (K := K)) (by rfl) T.free_isinstance (by decide +kernel) (pa_cons (pv 0) (pa_cons (pe_bltn (v := .ty "int") (u := .type "int") (by rfl) T.free_int (by decide +kernel) rfl) pa_nil))) (pe_one (pe_not (pe_callB (isiK (K := K)) (by rfl) T.free_isinstance (by decide +kernel) (pa_cons (pv 0) (pa_cons (pe_bltn (v := .ty "bool") (u := .type "bool") (by rfl) T.free_bool (by decide +kernel) rfl) pa_nil)))))))), ?_⟩
    cases o with
    | none => exact ⟨_, rfl, _, _, _, _, false, rfl, .ty _, .base .non, kit_ty (by decide +kernel), false, rfl, iteF h⟩
    | some i =>
      refine ⟨_, rfl, _, _, _, _, true, rfl, .ty _, .base (.int i), kit_ty (by decide +kernel), true, rfl, iteT ?_⟩
      exact ⟨_, rfl, _, _, _, _, false, rfl, .ty _, .base (.int i), kit_ty (by decide +kernel), false, rfl, h⟩
def spBetO : Sp := fun vs H Q _ => ∃ (o : Option Nat) (b : Int), vs = [optV o, .int 0, .int b] ∧ Q (.bl (decQ (∃ i : Nat, o = some i ∧ (i : Int) ≤ b))) H
theorem ok_betO (T : Tx K mg) : Has P w K mg base (He.ga K "is_between") 2 ["thing", "least", "most"] spBetO := by
  obtain ⟨⟨fd_is_number, F_is_number, b_is_number⟩, kp_is_number⟩ := ok_numO (P := P) (w := w) (base := base) T
  obtain ⟨fd, F⟩ := T.d_is_between
  refine ⟨⟨fd, F.ok sc_is_between (fun vs H Q E h => ?_) (fun cdv A outer s H vs Q E hr h => ?_), F.bindsN fun _ _ _ _ _ _ us hl => match us, hl with | [_, _, _], _ => rfl⟩, F.kp⟩
  · obtain ⟨o, b, rfl, _⟩ := h
    rfl
  · obtain ⟨o, b, rfl, h⟩ := h
    have hr_is_number : Room 1 _ := hr.mono (by decide)
    refine ⟨_, PSs.nox (pss_one (ps_ret (pe_and (pe_call F_is_number hr_is_number rfl T.glo_is_number kp_is_number b_is_number .nil pass0 (pa_cons (pv 0) pa_nil)) (pe_one (pe_chain op_le op_le (pv 1) (pv 0) (pv 2)))))), ?_⟩
    refine ⟨_, rfl, o, rfl, _, rfl, ?_⟩
    cases o with
    | none =>
      rw [show decQ (∃ i : Nat, (none : Option Nat) = some i ∧ (i : Int) ≤ b) = false from Bool.eq_false_iff.mpr fun z => by
        obtain ⟨i, e, _⟩ := decQ_true.mp z
        cases e] at h
      exact iteF h
    | some i =>
      refine iteT ?_
      refine ⟨_, rfl, _, rfl, _, _, rfl, rfl, _, rfl, ?_⟩
      rw [decide_eq_true (show (0 : Int) ≤ (i : Nat) by omega)]
      refine iteT ⟨_, rfl, _, _, rfl, rfl, ?_⟩
      rw [show decQ (∃ j : Nat, some i = some j ∧ (j : Int) ≤ b) = decide (((i : Nat) : Int) ≤ b) from Bool.eq_iff_iff.mpr (decQ_true.trans ⟨fun ⟨j, e, k⟩ => decide_eq_true (by rw [Option.some.inj e]; exact k), fun z => ⟨i, rfl, of_decide_eq_true z⟩⟩)] at h
      exact h
def spLotU (K : PySem.W.Frag) : Sp := fun vs H Q _ => ∃ (c x : Addr) (v : V) (n : Nat) (E : List (Nat × Nat)) (o : Option (List Nat)), vs = [.ref x, v] ∧ BoardAt K c H x n E ∧ LotO H v o ∧ RLT.ShortO o ∧ ∀ H', Same H H' → Q (.bl (decQ (∃ zs : List Nat, o = some zs ∧ ∀ i ∈ zs, i < n))) H'
theorem ok_lotU (T : Tx K mg) : Has P w K mg base (He.ga K "is_lot") 3 ["board", "lot"] (spLotU K) := by
  obtain ⟨⟨fd_is_between, F_is_between, b_is_between⟩, kp_is_between⟩ := ok_is_between (P := P) (w := w) (base := base) T
  obtain ⟨⟨fd_len, F_len, b_len⟩, kp_len⟩ := ok_len (P := P) (w := w) (base := base) T
  obtain ⟨fd, F⟩ := T.d_is_lot
  refine ⟨⟨fd, F.ok sc_is_lot (fun vs H Q E h => ?_) (fun cdv A outer s H vs Q E hr h => ?_), F.bindsN fun _ _ _ _ _ _ us hl => match us, hl with | [_, _], _ => rfl⟩, F.kp⟩
  · obtain ⟨c, x, v, n, E, o, rfl, _⟩ := h
    rfl
  · obtain ⟨c, x, v, n, Ed, o, rfl, B, hv, sh, h⟩ := h
    have hr_is_between : Room 2 _ := hr.mono (by decide)
    have hr_len : Room 2 _ := hr.mono (by decide)
    refine ⟨_, PSs.nox (pss_cons (ps_if (pt_not (pt_val (pe_callB (isiK (K := K)) (by rfl) T.free_isinstance (by decide +kernel) (pa_cons (pv 1) (pa_cons (pe_bltn (v := .ty "tuple") (u := .type "tuple") (by rfl) T.free_tuple (by decide +kernel) rfl) pa_nil))))) (pss_one (ps_ret pe_bl)) pss_nil)
      (pss_cons (ps_if (pt_not (pt_val (pe_callB (allK (K := K)) (by rfl) T.free_all (by decide +kernel) (pa_cons (pe_lc (own := [("place", 2)]) (g := (gName 2)) (tt := tYes) rfl sc_is_lot.nd (piT (K := K) (pv 1)) (blkOk_by (by kernel_rfl)) (fun _ _ _ _ _ => (pg_name (i := 2) sc_is_lot.nd rfl (Or.inl rfl))) (fun _ _ _ _ _ => pts_nil) (fun _ _ _ _ _ => (pe_call F_is_between hr_is_between rfl T.glo_is_between kp_is_between b_is_between .nil pass0 (pa_cons (pv 2) (pa_cons pe_int (pa_cons (pe_op op_sub (pe_callB (call_lenOwn T.m_len F_len b_len hr_len) (by rfl) T.free_len (by decide +kernel) (pa_cons (pv 0) pa_nil)) pe_int) pa_nil)))))) pa_nil)))) (pss_one (ps_ret pe_bl)) pss_nil)
      (pss_one (ps_ret (pe_cmpR (eqD (K := K) hr.units) (pe_callTy (listK (K := K)) (by rfl) T.free_list (by decide +kernel) (pa_cons (pv 1) pa_nil)) (pe_callB (sortS (w := w)) (by rfl) T.free_sorted (by decide +kernel) (pa_cons (pe_callTy (setTK (K := K) (w := w)) (by rfl) T.free_set (by decide +kernel) (pa_cons (pv 1) pa_nil)) pa_nil)) (nomark _)))))), ?_⟩
    have n8 := B.hi
    cases o with
    | none =>
      obtain rfl : v = .non := hv
      refine ⟨_, rfl, _, _, _, _, false, rfl, .ty _, .base .non, kit_ty (by decide +kernel), false, rfl, iteT ?_⟩
      have := h H (Same.refl H)
      rw [show decQ (∃ zs : List Nat, (none : Option (List Nat)) = some zs ∧ ∀ i ∈ zs, i < n) = false from Bool.eq_false_iff.mpr fun z => by
        obtain ⟨zs, e, _⟩ := decQ_true.mp z
        cases e] at this
      exact this
    | some is =>
      obtain ⟨t, rfl, ht⟩ := hv
      obtain ⟨l8, up⟩ := sh is rfl
      rw [vI_ints] at ht
      have e0 : decQ (∃ zs : List Nat, some is = some zs ∧ ∀ i ∈ zs, i < n) = decQ (LotZ n (is.map fun z : Nat => (z : Int))) := Bool.eq_iff_iff.mpr (decQ_true.trans (Iff.trans ⟨fun ⟨zs, e, k⟩ => ⟨fun z hz => by
        obtain ⟨i, hi, rfl⟩ := List.mem_map.mp hz
        have := k i (Option.some.inj e ▸ hi)
        omega, RLT.rise_ints.mpr up⟩, fun k => ⟨is, rfl, fun i hi => by
        have := k.1 _ (List.mem_map.mpr ⟨i, hi, rfl⟩)
        omega⟩⟩ decQ_true.symm))
      rw [e0] at h
      generalize hz : (is.map fun z : Nat => (z : Int)) = zs at ht h
      have lz : zs.length ≤ 8 := by rw [← hz, List.length_map]; exact l8
      refine ⟨_, rfl, _, _, _, _, true, rfl, .ty _, .base (.tup ht), kit_ty (by decide +kernel), true, rfl, iteF ?_⟩
      refine ⟨_, rfl, t, rfl, ⟨_, SqT.of ht⟩, fun D hD => ?_⟩
      refine lc_val (walk_tup (K := K) (a := t) (xs := zs.map V.int)) (fun i => .bl (decide (0 ≤ zs.getD i 0 ∧ zs.getD i 0 ≤ (n : Int) - 1))) (by rw [List.length_map]; omega) hD (fun H1 s1 => SqT.of (s1 _ _ ht)) ?_ ?_
      · rintro i y H1' H1 Nx hi s1 ⟨rfl, hy⟩ k
        obtain ⟨z, hz, rfl⟩ := get_ints hy
        have B1 := B.same s1
        obtain ⟨dx, q1, q2, q3, hx⟩ := B1.obj
        refine ⟨rfl, _, rfl, _, rfl, x, dx, _, rfl, hx, c, x, n, Ed, rfl, B1, (n : Int), rfl, by omega, by omega, _, _, rfl, rfl, _, _, _, rfl, ?_⟩
        have := k _ (Same.refl _)
        rw [List.getD_eq_getElem?_getD, hz] at this
        exact this
      · intro H1 h1 s1
        rw [List.length_map, bools_of (q := fun z => decide (0 ≤ z ∧ z ≤ (n : Int) - 1)) (fun i z hz => by rw [List.getD_eq_getElem?_getD, hz]; rfl)] at h1
        refine ⟨D, _, rfl, SqL.of h1, _, rfl, ?_⟩
        by_cases r : ∀ z ∈ zs, 0 ≤ z ∧ z ≤ (n : Int) - 1
        · rw [show (zs.map fun z => decide (0 ≤ z ∧ z ≤ (n : Int) - 1)).all id = true from (all_map fun z => decide_eq_true_iff).2 r]
          refine iteF ?_
          have r' : ∀ z ∈ zs, 0 ≤ z ∧ z < (n : Nat) := fun z hz => by have := r z hz; omega
          refine ⟨_, rfl, t, _, rfl, .inr (SqT.of (s1 _ _ ht)), fun l1 hl1 => ?_⟩
          have s2 := same_upd (o := HO.lst (zs.map V.int)) hl1
          have ht2 := s2 _ _ (s1 _ _ ht)
          refine ⟨_, rfl, t, zs, rfl, SqT.of ht2, by omega, fun d cc hd hcc => ?_⟩
          refine ⟨d, _, cc, rfl, upd_same, by omega, fun ns l2 h1 h2 h3 hl2 => ?_⟩
          have s3 := same_upd (o := SetO w d (fun j => decide (j ∈ zs)) cc) hd
          have s4 := same_upd (o := HO.lst (ns.map V.int)) hl2
          refine ⟨.list (zs.map .int), .list (ns.map .int), .lst (SqL.of (s4 _ _ (s3 _ _ upd_same))) (dp_ints zs), .lst (SqL.of upd_same) (dp_ints ns), shaped_ints zs, shaped_ints ns, ?_⟩
          rw [PyData.eqv, PySem.W.ked_eqvAll, show decide (zs = ns) = decQ (LotZ n zs) from Bool.eq_iff_iff.mpr (decide_eq_true_iff.trans ⟨fun e => decQ_true.mpr ⟨r', e ▸ h1⟩, fun k => rise_same r' (decQ_true.mp k).2 h1 fun j => (h2 j).trans decide_eq_true_iff⟩)]
          exact h _ (((s1.trans s2).trans s3).trans s4)
        · rw [show (zs.map fun z => decide (0 ≤ z ∧ z ≤ (n : Int) - 1)).all id = false from Bool.eq_false_iff.mpr fun k => r ((all_map fun z => decide_eq_true_iff).1 k)]
          refine iteT ?_
          have := h H1 s1
          rw [show decQ (LotZ n zs) = false from Bool.eq_false_iff.mpr fun k => r fun z hz => by have := (decQ_true.mp k).1 z hz; omega] at this
          exact this
def FillU (n : Nat) (o : Option (List Nat)) : Prop := ∃ zs : List Nat, o = some zs ∧ zs ≠ [] ∧ ∀ i ∈ zs, i < n
def spFillU (K : PySem.W.Frag) : Sp := fun vs H Q _ => ∃ (c x : Addr) (v : V) (n : Nat) (E : List (Nat × Nat)) (o : Option (List Nat)), vs = [.ref x, v] ∧ BoardAt K c H x n E ∧ LotO H v o ∧ RLT.ShortO o ∧ ∀ H', Same H H' → Q (.bl (decQ (FillU n o))) H'
theorem sc_is_filled_lot : FnScope ["board", "lot"] ["board", "lot"] (defScope s_is_filled_lot) := ⟨rfl, rfl, rfl, by decide +kernel, rfl, by decide +kernel, by decide +kernel⟩
theorem ok_fillU (T : Tx K mg) : Has P w K mg base (He.ga K "is_filled_lot") 4 ["board", "lot"] (spFillU K) := by
  obtain ⟨⟨fd_is_lot, F_is_lot, b_is_lot⟩, kp_is_lot⟩ := ok_lotU (P := P) (w := w) (base := base) T
  obtain ⟨fd, F⟩ := T.d_is_filled_lot
  refine ⟨⟨fd, F.ok sc_is_filled_lot (fun vs H Q E h => ?_) (fun cdv A outer s H vs Q E hr h => ?_), F.bindsN fun _ _ _ _ _ _ us hl => match us, hl with | [_, _], _ => rfl⟩, F.kp⟩
  · obtain ⟨c, x, v, n, E, o, rfl, _⟩ := h
    rfl
  · obtain ⟨c, x, v, n, Ed, o, rfl, B, hv, sh, h⟩ := h
    have hr_is_lot : Room 3 _ := hr.mono (by decide)
    refine ⟨_, PSs.nox (pss_one (ps_ret (pe_and (pe_call F_is_lot hr_is_lot rfl T.glo_is_lot kp_is_lot b_is_lot .nil pass0 (pa_cons (pv 0) (pa_cons (pv 1) pa_nil))) (pe_one (pe_cmpR op_gt (pe_callB (lenK (K := K)) (by rfl) T.free_len (by decide +kernel) (pa_cons (pv 1) pa_nil)) pe_int (nomark _)))))), ?_⟩
    refine ⟨_, rfl, _, rfl, c, x, v, n, Ed, o, rfl, B, hv, sh, fun H1 s1 => ⟨_, rfl, ?_⟩⟩
    by_cases k : ∃ zs : List Nat, o = some zs ∧ ∀ i ∈ zs, i < n
    · rw [decQ_true.mpr k]
      obtain ⟨zs, rfl, k⟩ := k
      obtain ⟨t, rfl, ht⟩ := hv
      refine iteT ?_
      refine ⟨_, rfl, t, _, rfl, .inr (SqT.of (s1 _ _ ht)), _, _, rfl, rfl, ?_⟩
      rw [List.length_map]
      show Q (V.bl (decide ((0 : Int) < ((zs.length : Nat) : Int)))) H1
      rw [show decide ((0 : Int) < ((zs.length : Nat) : Int)) = decQ (FillU n (some zs)) from Bool.eq_iff_iff.mpr (decide_eq_true_iff.trans ⟨fun z => decQ_true.mpr ⟨zs, rfl, List.length_pos_iff.mp (by omega), k⟩, fun z => by
        obtain ⟨ys, e, ne, _⟩ := decQ_true.mp z
        rw [← Option.some.inj e] at ne
        have := List.length_pos_iff.mpr ne
        omega⟩)]
      exact h H1 s1
    · rw [Bool.eq_false_iff.mpr fun z => k (decQ_true.mp z)]
      refine iteF ?_
      have := h H1 s1
      rw [show decQ (FillU n o) = false from Bool.eq_false_iff.mpr fun z => k ((decQ_true.mp z).imp fun zs q => ⟨q.1, q.2.2⟩)] at this
      exact this
def spPartsU (K : PySem.W.Frag) : Sp := fun vs H Q _ => ∃ (c x u : Addr) (ys : List V) (n : Nat) (E : List (Nat × Nat)) (os : List (Option (List Nat))), vs = [.ref x, .ref u] ∧ BoardAt K c H x n E ∧ H u = some (.tup ys) ∧ ys.length = os.length ∧
  (∀ (k : Nat) (y : V) (o : Option (List Nat)), ys[k]? = some y → os[k]? = some o → LotO H y o) ∧ RLT.WdFew (.parts os) ∧ ∀ H', Same H H' → Q (.bl (decQ (RLT.WdOk n (.parts os)))) H'
theorem sc_are_parts : FnScope ["board", "lots", "lot", "place"] ["board", "lots"] (defScope s_are_parts) := ⟨rfl, rfl, rfl, by decide +kernel, rfl, by decide +kernel, by decide +kernel⟩
theorem ok_partsU (T : Tx K mg) : Has P w K mg base (He.ga K "are_parts") 5 ["board", "lots"] (spPartsU K) := by
  obtain ⟨⟨fd_is_filled_lot, F_is_filled_lot, b_is_filled_lot⟩, kp_is_filled_lot⟩ := ok_fillU (P := P) (w := w) (base := base) T
  obtain ⟨⟨fd_len, F_len, b_len⟩, kp_len⟩ := ok_len (P := P) (w := w) (base := base) T
  obtain ⟨fd, F⟩ := T.d_are_parts
  refine ⟨⟨fd, F.ok sc_are_parts (fun vs H Q E h => ?_) (fun cdv A outer s H vs Q E hr h => ?_), F.bindsN fun _ _ _ _ _ _ us hl => match us, hl with | [_, _], _ => rfl⟩, F.kp⟩
  · obtain ⟨c, x, u, ys, n, E, os, rfl, _⟩ := h
    rfl
  · obtain ⟨c, x, u, ys, n, E, os, rfl, B, hu, lu, hys, ⟨f1, f2, f3⟩, h⟩ := h
    have hr_is_filled_lot : Room 4 _ := hr.mono (by decide)
    have hr_len : Room 2 _ := hr.mono (by decide)
    refine ⟨_, PSs.nox (pss_cons (ps_if (pt_not (pt_val (pe_callB (isiK (K := K)) (by rfl) T.free_isinstance (by decide +kernel) (pa_cons (pv 1) (pa_cons (pe_bltn (v := .ty "tuple") (u := .type "tuple") (by rfl) T.free_tuple (by decide +kernel) rfl) pa_nil))))) (pss_one (ps_ret pe_bl)) pss_nil)
      (pss_cons (ps_if (pt_not (pt_val (pe_callB (allK (K := K)) (by rfl) T.free_all (by decide +kernel) (pa_cons (pe_lc (own := [("lot", 2)]) (g := (gName 2)) (tt := tYes) rfl sc_are_parts.nd (piT (K := K) (pv 1)) (blkOk_by (by kernel_rfl)) (fun _ _ _ _ _ => (pg_name (i := 2) sc_are_parts.nd rfl (Or.inl rfl))) (fun _ _ _ _ _ => pts_nil) (fun _ _ _ _ _ => (pe_call F_is_filled_lot hr_is_filled_lot rfl T.glo_is_filled_lot kp_is_filled_lot b_is_filled_lot .nil pass0 (pa_cons (pv 0) (pa_cons (pv 2) pa_nil))))) pa_nil)))) (pss_one (ps_ret pe_bl)) pss_nil)
      (pss_one (ps_ret (pe_cmpR (eqD (K := K) hr.units) (pe_callB (RLS.sortAK (K := K)) (by rfl) T.free_sorted (by decide +kernel) (pa_cons (pe_lc2 (own := [("lot", 2), ("place", 3)]) (vs1 := [3]) (g := (gName 2)) (tt := tYes) (g1 := (gName 3)) (tt1 := tYes) rfl sc_are_parts.nd (piT (K := K) (pv 1)) (blkOk_by (by kernel_rfl)) (by decide) (fun _ _ _ _ _ => (pg_name (i := 2) sc_are_parts.nd rfl (Or.inl rfl))) (fun _ _ _ _ _ => pts_nil) (fun _ _ _ _ _ => (piT (K := K) (pv 2))) (fun _ _ _ _ _ => (pg_name (i := 3) sc_are_parts.nd rfl (Or.inl rfl))) (fun _ _ _ _ _ => pts_nil) (fun _ _ _ _ _ => (pv 3))) pa_nil)) (pe_listRg rfl (by rfl) T.free_list (prg_1 (by rfl) T.free_range (pe_callB (call_lenOwn T.m_len F_len b_len hr_len) (by rfl) T.free_len (by decide +kernel) (pa_cons (pv 0) pa_nil)))) (nomark _)))))), ?_⟩
    have n8 := B.hi
    have at_ : ∀ {i : Nat} {y : V}, ys[i]? = some y → ∃ o, os[i]? = some o ∧ LotO H y o ∧ RLT.ShortO o := fun {i y} hy => by
      have il : i < os.length := by
        have := (List.getElem?_eq_some_iff.mp hy).1
        omega
      exact ⟨_, List.getElem?_eq_getElem il, hys i y _ hy (List.getElem?_eq_getElem il), f2 _ (List.getElem_mem il)⟩
    refine ⟨_, rfl, _, _, _, _, true, rfl, .ty _, .base (.tup hu), kit_ty (by decide +kernel), true, rfl, iteF ?_⟩
    refine ⟨_, rfl, u, rfl, ⟨_, SqT.of hu⟩, fun D hD => ?_⟩
    refine lc_val (walk_tup (K := K) (a := u) (xs := ys)) (fun i => .bl (decQ (FillU n (os.getD i none)))) (by omega) hD (fun H1 s1 => SqT.of (s1 _ _ hu)) ?_ ?_
    · rintro i y H1' H1 Nx hi s1 ⟨rfl, hy⟩ k
      obtain ⟨o, ho, h1, l1⟩ := at_ hy
      refine ⟨rfl, _, rfl, _, rfl, c, x, y, n, E, o, rfl, B.same s1, h1.same s1, l1, fun H3 s3 => ?_⟩
      have := k H3 s3
      rw [List.getD_eq_getElem?_getD, ho] at this
      exact this
    · intro H1 h1 s1
      rw [lu, RLT.range_getD os none (fun o => V.bl (decQ (FillU n o)))] at h1
      have e1 : (os.map fun o => V.bl (decQ (FillU n o))) = (os.map fun o => decQ (FillU n o)).map V.bl := by rw [List.map_map]; rfl
      rw [e1] at h1
      refine ⟨D, _, rfl, SqL.of h1, _, rfl, ?_⟩
      by_cases r : ∀ o ∈ os, FillU n o
      · rw [show (os.map fun o => decQ (FillU n o)).all id = true from List.all_eq_true.mpr fun b hb => by
          obtain ⟨o, ho, rfl⟩ := List.mem_map.mp hb
          exact decQ_true.mpr (r o ho)]
        refine iteF ?_
        obtain ⟨zss, rfl, fz⟩ := RLT.all_filled r
        have fl := f3 zss rfl
        rw [List.length_map] at lu f1
        have row : ∀ {i : Nat} {y : V}, ys[i]? = some y → ∃ (a : Addr) (zs : List Nat), zss[i]? = some zs ∧ y = .ref a ∧ H a = some (.tup (zs.map vI)) := fun {i y} hy => by
          obtain ⟨o, ho, h2, _⟩ := at_ hy
          rw [List.getElem?_map] at ho
          cases e : zss[i]? with
          | none => rw [e] at ho; cases ho
          | some zs =>
            rw [e] at ho
            rw [← Option.some.inj ho] at h2
            obtain ⟨a, e2, ha⟩ := h2
            exact ⟨a, zs, rfl, e2, ha⟩
        have tl : ∀ i, (zss.take i).flatten.length ≤ 1001 := fun i => by
          have e : zss.flatten = (zss.take i).flatten ++ (zss.drop i).flatten := by rw [← List.flatten_append, List.take_append_drop]
          rw [e, List.length_append] at fl
          omega
        have hu1 := s1 _ _ hu
        refine ⟨_, rfl, u, rfl, ⟨_, SqT.of hu1⟩, fun D2 hD2 => ?_⟩
        refine it_any (walk_tup (K := K) (a := u) (xs := ys)) (fun i H2 => H2 D2 = some (.lst ((zss.take i).flatten.map vI)) ∧ Same H1 H2) ⟨upd_same, same_upd hD2⟩ (fun i H2 _ ⟨_, s2⟩ => SqT.of (s2 _ _ hu1)) ?_ ?_
        · rintro i y H2 _ hi ⟨h2, s2⟩ ⟨rfl, hy⟩
          obtain ⟨a, zs, hz, rfl, ha0⟩ := row hy
          have s12 := s1.trans s2
          have hl := s12 _ _ ha0
          have il := (List.getElem?_eq_some_iff.mp hz).1
          have tk : (zss.take (i + 1)).flatten = (zss.take i).flatten ++ zs := by
            rw [List.take_add_one, hz, List.flatten_append]
            simp
          refine ⟨rfl, yesT ?_⟩
          refine ⟨_, rfl, a, rfl, ⟨_, SqT.of hl⟩, ?_⟩
          refine it_any (walk_tup (K := K) (a := a) (xs := zs.map vI)) (fun j H3 => H3 D2 = some (.lst (((zss.take i).flatten ++ zs.take j).map vI)) ∧ Same H1 H3 ∧ H3 a = some (.tup (zs.map vI))) ⟨by rw [List.take_zero, List.append_nil]; exact h2, s2, hl⟩ (fun j H3 _ z => SqT.of z.2.2) ?_ ?_
          · rintro j z H3 _ hj ⟨h3, s3, ha3⟩ ⟨rfl, hz2⟩
            obtain ⟨zz, hb, rfl⟩ := get_mapV hz2
            refine ⟨rfl, yesT ?_⟩
            have le := tl (i + 1)
            rw [tk, List.length_append] at le
            refine ⟨_, rfl, _, h3, ?_, ?_, same_mut s3 hD2, ?_⟩
            · rw [List.length_map, List.length_append, List.length_take]
              exact Nat.lt_of_le_of_lt (show _ ≤ 3000 by omega) (by decide)
            · rw [upd_same, List.take_add_one, hb, ← List.append_assoc, List.map_append (l₁ := (zss.take i).flatten ++ zs.take j)]
              rfl
            · rw [upd_ne (ne_of ha3 h3 (by intro z; cases z))]
              exact ha3
          · rintro H3 ⟨h3, s3, _⟩
            rw [List.length_map, List.take_length, ← tk] at h3
            exact ⟨h3, s3⟩
        · rintro H2 ⟨h2, s2⟩
          rw [lu, List.take_length, vI_ints] at h2
          refine ⟨D2, _, rfl, SqL.of h2, by rw [List.length_map]; omega, fun ms q pm2 so hq => ?_⟩
          have s3 := same_upd (o := HO.lst (ms.map V.int)) hq
          have hq3 : (upd H2 q (.lst (ms.map V.int))) q = some (.lst (ms.map V.int)) := upd_same
          generalize upd H2 q (.lst (ms.map V.int)) = H3 at s3 hq3
          have s13 := (s1.trans s2).trans s3
          have B3 := B.same s13
          obtain ⟨dx, q1, q2, q3, hx⟩ := B3.obj
          refine ⟨_, rfl, x, dx, _, rfl, hx, c, x, n, E, rfl, B3, (n : Int), rfl, by omega, by omega, (n : Int), rfl, RgOk.of_le (by decide) (by omega) (by decide) (by omega), fun r hr => ?_⟩
          have s4 := same_upd (o := HO.lst (rgV 0 (n : Int))) hr
          have er : rgV 0 (n : Int) = ((List.range n).map nI).map V.int := by rw [rg_range, vI_map]
          refine ⟨.list (ms.map .int), .list (((List.range n).map nI).map .int), .lst (SqL.of (s4 _ _ hq3)) (dp_ints _), .lst (SqL.of (by rw [upd_same, er])) (dp_ints _), shaped_ints _, shaped_ints _, ?_⟩
          rw [PyData.eqv, PySem.W.ked_eqvAll, show decide (ms = (List.range n).map nI) = decQ (RLT.WdOk n (.parts (zss.map some))) from Bool.eq_iff_iff.mpr (decide_eq_true_iff.trans ((RLT.sorted_range pm2 so).trans (Iff.trans ⟨fun p => ⟨zss, rfl, fz, p⟩, fun ⟨yss, e, _, p⟩ => by
            rw [(List.map_inj_right (fun _ _ e => Option.some.inj e)).mp e]
            exact p⟩ decQ_true.symm)))]
          exact h _ (s13.trans s4)
      · rw [show (os.map fun o => decQ (FillU n o)).all id = false from Bool.eq_false_iff.mpr fun k => r fun o ho => decQ_true.mp (List.all_eq_true.mp k _ (List.mem_map.mpr ⟨o, ho, rfl⟩))]
        refine iteT ?_
        have := h H1 s1
        rw [show decQ (RLT.WdOk n (.parts os)) = false from Bool.eq_false_iff.mpr fun z => r fun o ho => by
          obtain ⟨zss, e, k, _⟩ := decQ_true.mp z
          subst e
          obtain ⟨zs, hz, rfl⟩ := List.mem_map.mp ho
          exact ⟨zs, rfl, (k zs hz).1, (k zs hz).2⟩] at this
        exact this
def spLookU (K : PySem.W.Frag) : Sp := fun vs H Q _ => ∃ (c x : Addr) (v : V) (n : Nat) (E : List (Nat × Nat)) (u : RLT.Wd), vs = [.ref x, v] ∧ BoardAt K c H x n E ∧ WdAt H v u ∧ RLT.WdFew u ∧ ∀ H', Same H H' → Q (.bl (decQ (RLT.WdOk n u))) H'
theorem sc_is_look : FnScope ["board", "look"] ["board", "look"] (defScope s_is_look) := ⟨rfl, rfl, rfl, by decide +kernel, rfl, by decide +kernel, by decide +kernel⟩
theorem ok_lookU (T : Tx K mg) : Has P w K mg base (He.ga K "is_look") 6 ["board", "look"] (spLookU K) := by
  obtain ⟨⟨fd_is_lot, F_is_lot, b_is_lot⟩, kp_is_lot⟩ := ok_lotU (P := P) (w := w) (base := base) T
  obtain ⟨⟨fd_are_parts, F_are_parts, b_are_parts⟩, kp_are_parts⟩ := ok_partsU (P := P) (w := w) (base := base) T
  obtain ⟨⟨fd_is_between, F_is_between, b_is_between⟩, kp_is_between⟩ := ok_betO (P := P) (w := w) (base := base) T
  obtain ⟨⟨fd_len, F_len, b_len⟩, kp_len⟩ := ok_len (P := P) (w := w) (base := base) T
  obtain ⟨fd, F⟩ := T.d_is_look
  refine ⟨⟨fd, F.ok sc_is_look (fun vs H Q E h => ?_) (fun cdv A outer s H vs Q E hr h => ?_), F.bindsN fun _ _ _ _ _ _ us hl => match us, hl with | [_, _], _ => rfl⟩, F.kp⟩
  · obtain ⟨c, x, v, n, E, u, rfl, _⟩ := h
    rfl
  · obtain ⟨c, x, v, n, E, u, rfl, B, hv, few, h⟩ := h
    have hr_is_lot : Room 3 _ := hr.mono (by decide)
    have hr_are_parts : Room 5 _ := hr.mono (by decide)
    have hr_is_between : Room 2 _ := hr.mono (by decide)
    have hr_len : Room 2 _ := hr.mono (by decide)
    refine ⟨_, PSs.nox (pss_cons (ps_if (PW.pt (pw_or (pt_not (pt_val (pe_callB (isiK (K := K)) (by rfl) T.free_isinstance (by decide +kernel) (pa_cons (pv 1) (pa_cons (pe_bltn (v := .ty "tuple") (u := .type "tuple") (by rfl) T.free_tuple (by decide +kernel) rfl) pa_nil))))) (pw_or1 (pt_cmpR op_eq (pe_callB (lenK (K := K)) (by rfl) T.free_len (by decide +kernel) (pa_cons (pv 1) pa_nil)) pe_int (nomark _))))) (pss_one (ps_ret pe_bl)) pss_nil)
      (pss_cons (ps_if (pt_cmpR op_eq (pe_ix (ixT (K := K)) (pv 1) pe_int (fun _ _ => rfl)) pe_str (nomark _)) (pss_one (ps_ret (pe_and (pe_cmpR op_eq (pe_callB (lenK (K := K)) (by rfl) T.free_len (by decide +kernel) (pa_cons (pv 1) pa_nil)) pe_int (nomark _)) (pe_one (pe_call F_is_lot hr_is_lot rfl T.glo_is_lot kp_is_lot b_is_lot .nil pass0 (pa_cons (pv 0) (pa_cons (pe_ix (ixT (K := K)) (pv 1) pe_int (fun _ _ => rfl)) pa_nil))))))) pss_nil)
      (pss_cons (ps_if (pt_cmpR op_eq (pe_ix (ixT (K := K)) (pv 1) pe_int (fun _ _ => rfl)) pe_str (nomark _)) (pss_one (ps_ret (pe_and (pe_cmpR op_eq (pe_callB (lenK (K := K)) (by rfl) T.free_len (by decide +kernel) (pa_cons (pv 1) pa_nil)) pe_int (nomark _)) (pe_one (pe_call F_are_parts hr_are_parts rfl T.glo_are_parts kp_are_parts b_are_parts .nil pass0 (pa_cons (pv 0) (pa_cons (pe_ix (ixT (K := K)) (pv 1) pe_int (fun _ _ => rfl)) pa_nil))))))) pss_nil)
      (pss_cons (ps_if (pt_cmpR op_eq (pe_ix (ixT (K := K)) (pv 1) pe_int (fun _ _ => rfl)) pe_str (nomark _)) (pss_one (ps_ret (pe_and (pe_cmpR op_eq (pe_callB (lenK (K := K)) (by rfl) T.free_len (by decide +kernel) (pa_cons (pv 1) pa_nil)) pe_int (nomark _)) (pe_and (pe_call F_is_between hr_is_between rfl T.glo_is_between kp_is_between b_is_between .nil pass0 (pa_cons (pe_ix (ixT (K := K)) (pv 1) pe_int (fun _ _ => rfl)) (pa_cons pe_int (pa_cons (pe_op op_sub (pe_callB (call_lenOwn T.m_len F_len b_len hr_len) (by rfl) T.free_len (by decide +kernel) (pa_cons (pv 0) pa_nil)) pe_int) pa_nil)))) (pe_one (pe_call F_is_between hr_is_between rfl T.glo_is_between kp_is_between b_is_between .nil pass0 (pa_cons (pe_ix (ixT (K := K)) (pv 1) pe_int (fun _ _ => rfl)) (pa_cons pe_int (pa_cons (pe_glob (v := .int 7) rfl T.glob_MOST_NEAR.choose_spec ⟨_, rfl⟩) pa_nil))))))))) pss_nil)
      (pss_one (ps_ret pe_bl)))))), ?_⟩
    have n8 := B.hi
    have n1 := B.lo
    have ne1 : ¬ V.str "parts" = V.str "in" := fun e => absurd (V.str.inj e) (by decide +kernel)
    have ne2 : ¬ V.str "near" = V.str "in" := fun e => absurd (V.str.inj e) (by decide +kernel)
    have ne3 : ¬ V.str "near" = V.str "parts" := fun e => absurd (V.str.inj e) (by decide +kernel)
    cases u with
    | non =>
      obtain rfl : v = .non := hv
      refine ⟨_, rfl, _, _, _, _, false, rfl, .ty _, .base .non, kit_ty (by decide +kernel), false, rfl, iteT ?_⟩
      have := h H (Same.refl H)
      rw [show decQ (RLT.WdOk n .non) = false from Bool.eq_false_iff.mpr fun z => decQ_true.mp z] at this
      exact iteT this
    | inn o =>
      obtain ⟨t, y, rfl, ht, hy⟩ := hv
      refine ⟨_, rfl, _, _, _, _, true, rfl, .ty _, .base (.tup ht), kit_ty (by decide +kernel), true, rfl, iteF ?_⟩
      refine ⟨_, rfl, t, _, rfl, .inr (SqT.of ht), rfl, _, rfl, iteF ?_⟩
      refine ⟨_, rfl, t, _, 0, _, rfl, rfl, SqT.of ht, rfl, rfl, _, rfl, iteT ?_⟩
      refine ⟨_, rfl, t, _, rfl, .inr (SqT.of ht), rfl, _, rfl, iteT ?_⟩
      exact ⟨_, rfl, _, rfl, t, _, 1, _, rfl, rfl, SqT.of ht, rfl, c, x, y, n, E, o, rfl, B, hy, few, h⟩
    | parts os =>
      obtain ⟨t, u, ys, rfl, ht, hu, lu, hys⟩ := hv
      refine ⟨_, rfl, _, _, _, _, true, rfl, .ty _, .base (.tup ht), kit_ty (by decide +kernel), true, rfl, iteF ?_⟩
      refine ⟨_, rfl, t, _, rfl, .inr (SqT.of ht), rfl, _, rfl, iteF ?_⟩
      refine ⟨_, rfl, t, _, 0, _, rfl, rfl, SqT.of ht, rfl, rfl, _, rfl, ?_⟩
      rw [decide_eq_false ne1]
      refine iteF ?_
      refine ⟨_, rfl, t, _, 0, _, rfl, rfl, SqT.of ht, rfl, rfl, _, rfl, iteT ?_⟩
      refine ⟨_, rfl, t, _, rfl, .inr (SqT.of ht), rfl, _, rfl, iteT ?_⟩
      exact ⟨_, rfl, _, rfl, t, _, 1, _, rfl, rfl, SqT.of ht, rfl, c, x, u, ys, n, E, os, rfl, B, hu, lu, hys, few, h⟩
    | near b k =>
      obtain ⟨t, rfl, ht⟩ := hv
      refine ⟨_, rfl, _, _, _, _, true, rfl, .ty _, .base (.tup ht), kit_ty (by decide +kernel), true, rfl, iteF ?_⟩
      refine ⟨_, rfl, t, _, rfl, .inr (SqT.of ht), rfl, _, rfl, iteF ?_⟩
      refine ⟨_, rfl, t, _, 0, _, rfl, rfl, SqT.of ht, rfl, rfl, _, rfl, ?_⟩
      rw [decide_eq_false ne2]
      refine iteF ?_
      refine ⟨_, rfl, t, _, 0, _, rfl, rfl, SqT.of ht, rfl, rfl, _, rfl, ?_⟩
      rw [decide_eq_false ne3]
      refine iteF ?_
      refine ⟨_, rfl, t, _, 0, _, rfl, rfl, SqT.of ht, rfl, rfl, _, rfl, iteT ?_⟩
      refine ⟨_, rfl, t, _, rfl, .inr (SqT.of ht), rfl, _, rfl, iteT ?_⟩
      obtain ⟨dx, q1, q2, q3, hx⟩ := B.obj
      refine ⟨_, rfl, t, _, 1, _, rfl, rfl, SqT.of ht, rfl, _, rfl, x, dx, _, rfl, hx, c, x, n, E, rfl, B, (n : Int), rfl, by omega, by omega, _, _, rfl, rfl, b, _, rfl, _, rfl, ?_⟩
      have hq := h H (Same.refl H)
      by_cases c1 : ∃ i : Nat, b = some i ∧ (i : Int) ≤ (n : Int) - 1
      · rw [decQ_true.mpr c1]
        refine iteT ⟨_, rfl, t, _, 2, _, rfl, rfl, SqT.of ht, rfl, k, _, rfl, ?_⟩
        rw [show decQ (RLT.WdOk n (.near b k)) = decQ (∃ i : Nat, k = some i ∧ (i : Int) ≤ 7) from Bool.eq_iff_iff.mpr (decQ_true.trans (Iff.trans ⟨fun ⟨i, j, _, e, _, l⟩ => ⟨j, e, by omega⟩, fun ⟨j, e, l⟩ => by
          obtain ⟨i, e1, l1⟩ := c1
          exact ⟨i, j, e1, e, by omega, by omega⟩⟩ decQ_true.symm))] at hq
        exact hq
      · rw [Bool.eq_false_iff.mpr fun z => c1 (decQ_true.mp z)]
        rw [show decQ (RLT.WdOk n (.near b k)) = false from Bool.eq_false_iff.mpr fun z => by
          obtain ⟨i, j, e1, _, l1, _⟩ := decQ_true.mp z
          exact c1 ⟨i, e1, by omega⟩] at hq
        exact iteF hq
end
end RL
/-! a look read -/
namespace RL
open PySem PySem.Spec PyProof.Rows L2 RLM
/-- what was made of a look's words is that look -/
theorem wd_look {H : Hp} {v : V} : ∀ {L : RLT.Lk}, WdAt H v (RLT.lkWd L) → LkAt H v L
  | .inn zs, ⟨t, y, e, ht, u, ey, hu⟩ => ⟨t, u, e, by rw [ht, ey], hu⟩
  | .parts zss, ⟨t, u, ys, e, ht, hu, lu, hys⟩ => by
    have row : ∀ y ∈ ys, ∃ a : Addr, y = .ref a := fun y hy => by
      obtain ⟨k, hk, e2⟩ := List.getElem_of_mem hy
      have kl : k < zss.length := by rw [lu, List.length_map] at hk; exact hk
      obtain ⟨a, ea, _⟩ := hys k y (some zss[k]) (by rw [List.getElem?_eq_getElem hk, e2]) (by rw [List.getElem?_map, List.getElem?_eq_getElem kl]; rfl)
      exact ⟨a, ea⟩
    have refs : ∀ ys : List V, (∀ y ∈ ys, ∃ a : Addr, y = .ref a) → ∃ us : List Addr, ys = us.map V.ref := fun ys => by
      induction ys with
      | nil => exact fun _ => ⟨[], rfl⟩
      | cons y ys ih =>
        intro h
        obtain ⟨a, ea⟩ := h y List.mem_cons_self
        obtain ⟨us, e⟩ := ih fun z hz => h z (List.mem_cons_of_mem _ hz)
        exact ⟨a :: us, by rw [ea, e]; rfl⟩
    obtain ⟨us, rfl⟩ := refs ys row
    refine ⟨t, u, us, e, ht, hu, by rw [List.length_map, List.length_map] at lu; exact lu, fun k a zs ha hz => ?_⟩
    obtain ⟨b, eb, hb⟩ := hys k (.ref a) (some zs) (by rw [List.getElem?_map, ha]; rfl) (by rw [List.getElem?_map, hz]; rfl)
    cases eb
    exact hb
  | .near b k, ⟨t, e, ht⟩ => ⟨t, e, ht⟩
theorem LkAt.same {H H' : Hp} {v : V} (s : Same H H') {L : RLT.Lk} (h : LkAt H v L) : LkAt H' v L := h.tk fun _ _ e => s _ _ e
theorem WdAt.same {H H' : Hp} {v : V} (s : Same H H') : ∀ {u : RLT.Wd}, WdAt H v u → WdAt H' v u
  | .non, h => h
  | .inn _, ⟨t, y, e, h1, h2⟩ => ⟨t, y, e, s _ _ h1, h2.same s⟩
  | .parts _, ⟨t, u, ys, e, h1, h2, l, h3⟩ => ⟨t, u, ys, e, s _ _ h1, s _ _ h2, l, fun k y o a b => (h3 k y o a b).same s⟩
  | .near _ _, ⟨t, e, h1⟩ => ⟨t, e, s _ _ h1⟩
section
variable {P : Program} {w : World} {K : PySem.W.Frag} {mg : Str → Option Value} {base : Heap} [Figs K w]
def spReadLook (K : PySem.W.Frag) : Sp := fun vs H Q _ => ∃ (t : Str) (c : Addr) (L : RLT.Lk), vs = [.str t] ∧ t.length ≤ 2000 ∧ (∃ ys, H c = some (.lst ys)) ∧ RLT.lkOf (Txt.split t RLT.sp) = some L ∧ ∀ H' v, LkAt H' v L → Same H H' → Q v H'
def spReadLookX (K : PySem.W.Frag) : Sp := fun vs H _ X => ∃ (t : Str) (c : Addr), vs = [.str t] ∧ t.length ≤ 2000 ∧ (∃ ys, H c = some (.lst ys)) ∧ RLT.lkOf (Txt.split t RLT.sp) = none ∧ Refuse K "BadText" "at" 0 H X
theorem sc_read_look : FnScope ["text", "look", "many"] ["text"] (defScope s_read_look) := ⟨rfl, rfl, rfl, by decide +kernel, rfl, by decide +kernel, by decide +kernel⟩
theorem okf_readLook (T : Tx K mg) {fd : FuncData} (F : FnP K "read_look" "read_look" s_read_look [] (He.ga K "read_look") fd) : FnOk P w K mg base CX0 7 (He.ga K "read_look") fd ["text"] (spReadLook K) := by
  obtain ⟨⟨fd_look_of_words, F_look_of_words, b_look_of_words⟩, kp_look_of_words⟩ := ok_lookW (P := P) (w := w) (base := base) T
  obtain ⟨⟨fd_is_look, F_is_look, b_is_look⟩, kp_is_look⟩ := ok_lookU (P := P) (w := w) (base := base) T
  obtain ⟨fd_Board0, ds_Board0, F_Board0, v_Board0, b_Board0⟩ := bd_Board0 (P := P) (w := w) (base := base) T
  refine F.ok sc_read_look (fun vs H Q E h => ?_) (fun cdv A outer s H vs Q E hr h => ?_)
  · obtain ⟨t, c, L, rfl, _⟩ := h
    rfl
  · obtain ⟨t, c, L, rfl, lt, hc, eL, h⟩ := h
    have hr_look_of_words : Room 3 _ := hr.mono (by decide)
    have hr_is_look : Room 6 _ := hr.mono (by decide)
    have hr_Board : Room 5 _ := hr.mono (by decide)
    refine ⟨_, PSs.nox (pss_cons (ps_set (i := 1) sc_read_look.nd rfl (Or.inr rfl) (pe_call F_look_of_words hr_look_of_words rfl T.glo_look_of_words kp_look_of_words b_look_of_words .nil pass0 (pa_cons (pe_split (pv 0) pe_str) pa_nil)))
      (pss_cons (ps_if (pt_not (pt_val (pe_callB (anyK (K := K)) (by rfl) T.free_any (by decide +kernel) (pa_cons (pe_lc (own := [("many", 2)]) (g := (gName 2)) (tt := tYes) rfl sc_read_look.nd (pi_range2 (by rfl) T.free_range (pa_cons pe_int (pa_cons (pe_op op_add (pe_glob (v := .int 8) rfl T.glob_MOST_PLACES.choose_spec ⟨_, rfl⟩) pe_int) pa_nil))) (blkOk_by (by kernel_rfl)) (fun _ _ _ _ _ => (pg_name (i := 2) sc_read_look.nd rfl (Or.inl rfl))) (fun _ _ _ _ _ => pts_nil) (fun _ _ _ _ _ => (pe_call F_is_look hr_is_look rfl T.glo_is_look kp_is_look b_is_look .nil pass0 (pa_cons (pe_make T.mkB F_Board0 hr_Board rfl T.glo_Board b_Board0 v_Board0 pass0 (pa_cons (pv 2) pa_nil)) (pa_cons (pv 1) pa_nil))))) pa_nil)))) (pss_one ps_never) pss_nil)
      (pss_one (ps_ret (pv 1))))), ?_⟩
    have few := split_few (c := 32) (t := t) (by decide) (by omega)
    have zle : ∀ z ∈ Txt.split t RLT.sp, z.length ≤ 2000 := fun z hz => Nat.le_trans (RLT.spl_le (c := 32) (by decide) hz) lt
    refine ⟨_, rfl, ⟨_, rfl⟩, _, _, rfl, rfl, by decide +kernel, Nat.le_trans (show _ ≤ 2002 by omega) (by decide), fun p hp => ?_⟩
    rw [RLT.sp_eq]
    change (Txt.split t RLT.sp).length ≤ 2001 at few
    have wf := RLT.wd_few zle
    have okw := RLT.lkOf_some eL
    generalize Txt.split t RLT.sp = W at eL few zle wf okw
    have s1 := same_upd (o := HO.lst (W.map V.str)) hp
    have h1 : (upd H p (.lst (W.map V.str))) p = some (.lst (W.map V.str)) := upd_same
    generalize upd H p (.lst (W.map V.str)) = H1 at s1 h1
    refine ⟨p, W, rfl, h1, few, zle, fun H2 v hv s2 => ?_⟩
    have s12 := s1.trans s2
    refine ⟨8, 1, rfl, rfl, 1, 8 + 1, rfl, ⟨by decide, by decide, by decide, by decide⟩, fun D hD => ?_⟩
    rw [show ((8 + 1 : Int) - 1).toNat = 8 from rfl]
    refine lc_val (walk_range (lo := 1) (n := 8)) (fun i => .bl (decQ (RLT.WdOk (i + 1) (RLT.wdOf W)))) (by decide) hD (fun _ _ => trivial) ?_ ?_
    · rintro i x H3' H3 Nx hi s3 ⟨rfl, rfl⟩ k
      refine ⟨rfl, _, rfl, fun x dx hx hdx ne => ?_⟩
      have hcx : ∃ ys, H3 c = some (.lst ys) := hc.imp fun _ z => s3 _ _ (s12 _ _ z)
      refine ⟨H3, x, dx, c, _, i + 1, by show [V.ref x, V.int (1 + (i : Int)), V.ref _] = _; rw [show (1 + (i : Int)) = ((i + 1 : Nat) : Int) by omega]; rfl, fun b o e => ?_, hx, upd_same, hcx, fun H' => T.dfl H', by omega, by omega, fun H4 E4 B4 _ _ s4 => ⟨rfl, _, rfl, c, x, v, i + 1, E4, RLT.wdOf W, rfl, B4, hv.same (s3.trans s4), wf, fun H5 s5 => k H5 (s4.trans s5)⟩⟩
      rw [upd_ne (ne_of_none e hx), upd_ne (ne_of_none e hdx)]
      exact e
    · intro H3 h3 s3
      have e1 : (List.range 8).map (fun i => V.bl (decQ (RLT.WdOk (i + 1) (RLT.wdOf W)))) = ((List.range 8).map fun i => decQ (RLT.WdOk (i + 1) (RLT.wdOf W))).map V.bl := by rw [List.map_map]; rfl
      rw [e1] at h3
      refine ⟨D, _, rfl, SqL.of h3, _, rfl, ?_⟩
      rw [RLT.lkOf_wd eL]
      rw [RLT.lkOf_wd eL] at hv
      obtain ⟨m, m1, m8, mok⟩ := RLT.wd_ok okw.1
      rw [show (((List.range 8).map fun i => decQ (RLT.WdOk (i + 1) (RLT.lkWd L))).any id) = true from List.any_eq_true.mpr ⟨_, List.mem_map.mpr ⟨m - 1, List.mem_range.mpr (by omega), rfl⟩, decQ_true.mpr (by rw [Nat.sub_add_cancel m1]; exact mok)⟩]
      exact iteF ⟨_, rfl, h H3 v ((wd_look hv).same s3) (s12.trans s3)⟩
theorem okfx_readLook (T : Tx K mg) {fd : FuncData} (F : FnP K "read_look" "read_look" s_read_look [] (He.ga K "read_look") fd) : FnOk P w K mg base (L2N.CX P w) 7 (He.ga K "read_look") fd ["text"] (spReadLookX K) := by
  obtain ⟨⟨fd_look_of_words, F_look_of_words, b_look_of_words⟩, kp_look_of_words⟩ := ok_lookW (P := P) (w := w) (base := base) T
  obtain ⟨⟨fd_is_look, F_is_look, b_is_look⟩, kp_is_look⟩ := ok_lookU (P := P) (w := w) (base := base) T
  obtain ⟨⟨fd_BadText_init, F_BadText_init, b_BadText_init⟩, kp_BadText_init⟩ := ok_BadText_init (P := P) (w := w) (base := base) T
  obtain ⟨fd_Board0, ds_Board0, F_Board0, v_Board0, b_Board0⟩ := bd_Board0 (P := P) (w := w) (base := base) T
  refine F.ok sc_read_look (fun vs H Q E h => ?_) (fun cdv A outer s H vs Q E hr h => ?_)
  · obtain ⟨t, c, rfl, _⟩ := h
    rfl
  · obtain ⟨t, c, rfl, lt, hc, eL, h⟩ := h
    have hr_look_of_words : Room 3 _ := hr.mono (by decide)
    have hr_is_look : Room 6 _ := hr.mono (by decide)
    have hr_Board : Room 5 _ := hr.mono (by decide)
    have hr_x : Room 3 _ := hr.mono (by decide)
    have XN := T.x_BadText
    refine ⟨_, (pss_cons (ps_set (i := 1) sc_read_look.nd rfl (Or.inr rfl) (pe_call F_look_of_words hr_look_of_words rfl T.glo_look_of_words kp_look_of_words b_look_of_words .nil pass0 (pa_cons (pe_split (pv 0) pe_str) pa_nil)))
      (pss_cons (ps_if (pt_not (pt_val (pe_callB (anyK (K := K)) (by rfl) T.free_any (by decide +kernel) (pa_cons (pe_lc (own := [("many", 2)]) (g := (gName 2)) (tt := tYes) rfl sc_read_look.nd (pi_range2 (by rfl) T.free_range (pa_cons pe_int (pa_cons (pe_op op_add (pe_glob (v := .int 8) rfl T.glob_MOST_PLACES.choose_spec ⟨_, rfl⟩) pe_int) pa_nil))) (blkOk_by (by kernel_rfl)) (fun _ _ _ _ _ => (pg_name (i := 2) sc_read_look.nd rfl (Or.inl rfl))) (fun _ _ _ _ _ => pts_nil) (fun _ _ _ _ _ => (pe_call F_is_look hr_is_look rfl T.glo_is_look kp_is_look b_is_look .nil pass0 (pa_cons (pe_make T.mkB F_Board0 hr_Board rfl T.glo_Board b_Board0 v_Board0 pass0 (pa_cons (pv 2) pa_nil)) (pa_cons (pv 1) pa_nil))))) pa_nil)))) (pss_one (L2N.ps_raise rfl (L2N.takes_of rfl rfl rfl rfl) (RLX.pmkX RLX.exB_V XN.xc XN.ini XN.tin F_BadText_init hr_x b_BadText_init rfl T.glo_BadText (pa_cons pe_int pa_nil)))) pss_nil)
      (pss_one (ps_ret (pv 1))))), ?_⟩
    have few := split_few (c := 32) (t := t) (by decide) (by omega)
    have zle : ∀ z ∈ Txt.split t RLT.sp, z.length ≤ 2000 := fun z hz => Nat.le_trans (RLT.spl_le (c := 32) (by decide) hz) lt
    refine ⟨_, rfl, ⟨_, rfl⟩, _, _, rfl, rfl, by decide +kernel, Nat.le_trans (show _ ≤ 2002 by omega) (by decide), fun p hp => ?_⟩
    rw [RLT.sp_eq]
    change (Txt.split t RLT.sp).length ≤ 2001 at few
    have wf := RLT.wd_few zle
    skip
    generalize Txt.split t RLT.sp = W at eL few zle wf 
    have s1 := same_upd (o := HO.lst (W.map V.str)) hp
    have h1 : (upd H p (.lst (W.map V.str))) p = some (.lst (W.map V.str)) := upd_same
    generalize upd H p (.lst (W.map V.str)) = H1 at s1 h1
    refine ⟨p, W, rfl, h1, few, zle, fun H2 v hv s2 => ?_⟩
    have s12 := s1.trans s2
    refine ⟨8, 1, rfl, rfl, 1, 8 + 1, rfl, ⟨by decide, by decide, by decide, by decide⟩, fun D hD => ?_⟩
    rw [show ((8 + 1 : Int) - 1).toNat = 8 from rfl]
    refine lc_val (walk_range (lo := 1) (n := 8)) (fun i => .bl (decQ (RLT.WdOk (i + 1) (RLT.wdOf W)))) (by decide) hD (fun _ _ => trivial) ?_ ?_
    · rintro i x H3' H3 Nx hi s3 ⟨rfl, rfl⟩ k
      refine ⟨rfl, _, rfl, fun x dx hx hdx ne => ?_⟩
      have hcx : ∃ ys, H3 c = some (.lst ys) := hc.imp fun _ z => s3 _ _ (s12 _ _ z)
      refine ⟨H3, x, dx, c, _, i + 1, by show [V.ref x, V.int (1 + (i : Int)), V.ref _] = _; rw [show (1 + (i : Int)) = ((i + 1 : Nat) : Int) by omega]; rfl, fun b o e => ?_, hx, upd_same, hcx, fun H' => T.dfl H', by omega, by omega, fun H4 E4 B4 _ _ s4 => ⟨rfl, _, rfl, c, x, v, i + 1, E4, RLT.wdOf W, rfl, B4, hv.same (s3.trans s4), wf, fun H5 s5 => k H5 (s4.trans s5)⟩⟩
      rw [upd_ne (ne_of_none e hx), upd_ne (ne_of_none e hdx)]
      exact e
    · intro H3 h3 s3
      have e1 : (List.range 8).map (fun i => V.bl (decQ (RLT.WdOk (i + 1) (RLT.wdOf W)))) = ((List.range 8).map fun i => decQ (RLT.WdOk (i + 1) (RLT.wdOf W))).map V.bl := by rw [List.map_map]; rfl
      rw [e1] at h3
      refine ⟨D, _, rfl, SqL.of h3, _, rfl, ?_⟩
      rw [show (((List.range 8).map fun i => decQ (RLT.WdOk (i + 1) (RLT.wdOf W))).any id) = false from Bool.eq_false_iff.mpr fun z => by
        obtain ⟨b, hb, eb⟩ := List.any_eq_true.mp z
        obtain ⟨j, hj, rfl⟩ := List.mem_map.mp hb
        exact RLT.wd_none eL (by have := List.mem_range.mp hj; omega) (by omega) (decQ_true.mp eb)]
      exact iteT (rmk_BadText T fun d H4 _ hd s4 => h d H4 hd ((s12.trans s3).trans s4))
theorem ok_readLook (T : Tx K mg) : Has P w K mg base (He.ga K "read_look") 7 ["text"] (spReadLook K) := by
  obtain ⟨fd, F⟩ := T.d_read_look
  exact ⟨⟨fd, okf_readLook T F, F.bindsN fun _ _ _ _ _ _ us hl => match us, hl with | [_], _ => rfl⟩, F.kp⟩
theorem okb_readLook (T : Tx K mg) : HasX P w K mg base (He.ga K "read_look") 7 ["text"] (fun vs H Q E => spReadLook K vs H Q E ∨ spReadLookX K vs H Q E) := by
  obtain ⟨fd, F⟩ := T.d_read_look
  exact ⟨⟨fd, fn_or (fn_noX (okf_readLook T F)) (okfx_readLook T F), F.bindsN fun _ _ _ _ _ _ us hl => match us, hl with | [_], _ => rfl⟩, F.kp⟩
end
end RL
/-! a look read by the law -/
namespace RL
open PySem PySem.Spec PyProof.Rows L2 RLM
theorem dp_txts {K : PySem.W.Frag} {H : Hp} : ∀ zs : List Str, DpAll K H (zs.map V.str) (zs.map PyData.str)
  | [] => .nil
  | z :: zs => .cons (.str z) (dp_txts zs)
theorem txts_lay : ∀ {zs : List Str}, (∀ z ∈ zs, PyData.strOk z = true) → PyData.canLayAll0 (zs.map PyData.str) = true
  | [], _ => by simp [PyData.canLayAll0]
  | z :: zs, h => by
    rw [List.map_cons]
    unfold PyData.canLayAll0
    rw [txts_lay fun y hy => h y (List.mem_cons_of_mem _ hy)]
    show (PyData.canLay0 (.str z) && true) = true
    rw [Bool.and_true]
    unfold PyData.canLay0
    exact h z List.mem_cons_self
theorem txts_depth : ∀ zs : List Str, PyData.depthAll (zs.map PyData.str) ≤ 60
  | [] => by simp [PyData.depthAll]
  | z :: zs => by
    have ih := txts_depth zs
    have h : (PyData.str z).depth ≤ 60 := by
      simp [PyData.depth]
    rw [List.map_cons]
    unfold PyData.depthAll
    omega
theorem txts_shaped {zs : List Str} (h : ∀ z ∈ zs, PyData.strOk z = true) : SeqAt.shaped (.list (zs.map PyData.str)) = true := by
  unfold SeqAt.shaped
  rw [Bool.and_eq_true]
  constructor
  · unfold PyData.canLay0
    exact txts_lay h
  · refine decide_eq_true ?_
    unfold PyData.depth
    have := txts_depth zs
    omega
theorem txts_eqv : ∀ xs ys : List Str, PyData.eqvAll (xs.map PyData.str) (ys.map PyData.str) = decide (xs = ys)
  | [], [] => by simp [PyData.eqvAll]
  | [], _ :: _ => by simp [PyData.eqvAll]
  | _ :: _, [] => by simp [PyData.eqvAll]
  | x :: xs, y :: ys => by
    have ih := txts_eqv xs ys
    rw [List.map_cons, List.map_cons]
    unfold PyData.eqvAll
    rw [ih]
    have e : (x == y) = decide (x = y) := Bool.eq_iff_iff.mpr (beq_iff_eq.trans decide_eq_true_iff.symm)
    simp [PyData.eqv, e]
theorem ite_once {b : Bool} {X Y B : Prop} (hx : B → X) (hy : B → Y) (n : B) : if b = true then X else Y := by
  cases b with
  | true => exact hx n
  | false => exact hy n
theorem len_no {xs : List V} {m : Int} (h : ((xs.length : Nat) : Int) ≠ m) : decide (V.int ((xs.length : Nat) : Int) = V.int m) = false := decide_eq_false fun e => h (V.int.inj e)
open Classical in
theorem lk_two (x y : Str) : RLT.lkOf [x, y] = if x = RLT.wIn then (RLT.lotOf y).map .inn else if x = RLT.wParts then (match RLT.lots (Txt.split y RLT.bar) with
      | none => none
      | some zss => if RLT.LkOk (.parts zss) then some (.parts zss) else none) else none := rfl
theorem lk_three (x y z : Str) : RLT.lkOf [x, y, z] = if x = RLT.wNear then (match RLT.figN y, RLT.figN z with
      | some i, some j => some (.near i j)
      | _, _ => none) else none := rfl
theorem atI_0 {v : V} {vs : List V} : atI (v :: vs) 0 = some v := at0 (xs := v :: vs) (j := 0) (show (v :: vs)[0]? = some v from rfl)
/-- a lot that was read, as data -/
def loD : Option (List Nat) → PyData
  | none => .none
  | some zs => .tuple ((zs.map fun z : Nat => (z : Int)).map PyData.int)
theorem dp_lo {K : PySem.W.Frag} {H : Hp} {v : V} : ∀ {o : Option (List Nat)}, LotO H v o → Dp K H v (loD o)
  | none, h => by
    have h : v = .non := h
    rw [h]
    exact .non
  | some zs, ⟨a, e, h⟩ => by
    rw [e]
    rw [vI_ints] at h
    exact .tup (SqT.of h) (dp_ints _)
theorem dp_los {K : PySem.W.Frag} {H : Hp} : ∀ {ys : List V} {os : List (Option (List Nat))}, ys.length = os.length → (∀ (k : Nat) (y : V) (o : Option (List Nat)), ys[k]? = some y → os[k]? = some o → LotO H y o) → DpAll K H ys (os.map loD)
  | [], [], _, _ => .nil
  | [], _ :: _, e, _ => by cases e
  | _ :: _, [], e, _ => by cases e
  | y :: ys, o :: os, e, h => .cons (dp_lo (h 0 y o rfl rfl)) (dp_los (Nat.succ.inj e) fun k => h (k + 1))
theorem lo_lay (o : Option (List Nat)) : (loD o).canLay0 = true := by
  cases o with
  | none => simp [loD, PyData.canLay0]
  | some zs => exact SeqAt.canLay_of_shaped (shaped_tup _)
theorem lo_depth (o : Option (List Nat)) : (loD o).depth ≤ 2 := by
  cases o with
  | none => simp [loD, PyData.depth]
  | some zs =>
    show (PyData.tuple ((zs.map fun z : Nat => (z : Int)).map PyData.int)).depth ≤ 2
    generalize (zs.map fun z : Nat => (z : Int)) = ns
    simp [PyData.depth, PySem.W.ke_depthAll]
theorem los_lay : ∀ os : List (Option (List Nat)), PyData.canLayAll0 (os.map loD) = true
  | [] => by simp [PyData.canLayAll0]
  | o :: os => by
    rw [List.map_cons]
    unfold PyData.canLayAll0
    rw [los_lay os, lo_lay]
    rfl
theorem los_depth : ∀ os : List (Option (List Nat)), PyData.depthAll (os.map loD) ≤ 60
  | [] => by simp [PyData.depthAll]
  | o :: os => by
    have ih := los_depth os
    have h := lo_depth o
    rw [List.map_cons]
    unfold PyData.depthAll
    omega
theorem los_shaped (os : List (Option (List Nat))) : SeqAt.shaped (.list (os.map loD)) = true := by
  unfold SeqAt.shaped
  rw [Bool.and_eq_true]
  constructor
  · unfold PyData.canLay0
    exact los_lay os
  · refine decide_eq_true ?_
    unfold PyData.depth
    have := los_depth os
    omega
theorem los_none (os : List (Option (List Nat))) : ((os.map loD).any fun z => PyData.eqv z .none) = decide (none ∈ os) := by
  rw [List.any_map]
  refine Bool.eq_iff_iff.mpr (List.any_eq_true.trans (Iff.trans ?_ decide_eq_true_iff.symm))
  constructor
  · rintro ⟨o, ho, e⟩
    cases o with
    | none => exact ho
    | some zs =>
      have e : PyData.eqv (.tuple ((zs.map fun z : Nat => (z : Int)).map PyData.int)) .none = true := e
      simp [PyData.eqv] at e
  · exact fun h => ⟨none, h, by show PyData.eqv .none .none = true; simp [PyData.eqv]⟩
theorem los_empty (os : List (Option (List Nat))) : ((os.map loD).any fun z => PyData.eqv z (.tuple [])) = decide (some [] ∈ os) := by
  rw [List.any_map]
  refine Bool.eq_iff_iff.mpr (List.any_eq_true.trans (Iff.trans ?_ decide_eq_true_iff.symm))
  constructor
  · rintro ⟨o, ho, e⟩
    cases o with
    | none =>
      have e : PyData.eqv .none (.tuple []) = true := e
      simp [PyData.eqv] at e
    | some zs =>
      cases zs with
      | nil => exact ho
      | cons z r =>
        have e : PyData.eqv (.tuple (((z :: r).map fun z : Nat => (z : Int)).map PyData.int)) (.tuple []) = true := e
        simp [PyData.eqv, PyData.eqvAll] at e
  · exact fun h => ⟨some [], h, by show PyData.eqv (.tuple []) (.tuple []) = true; simp [PyData.eqv, PyData.eqvAll]⟩
theorem no_lots {os : List (Option (List Nat))} : none ∉ os → ∃ zss : List (List Nat), os = zss.map some := by
  induction os with
  | nil => exact fun _ => ⟨[], rfl⟩
  | cons o os ih =>
    intro h
    obtain ⟨zss, e⟩ := ih fun m => h (List.mem_cons_of_mem _ m)
    cases o with
    | none => exact absurd List.mem_cons_self h
    | some zs => exact ⟨zs :: zss, by rw [e]; rfl⟩
theorem sg_dig (a : Nat) : decide (a ∈ (("01234567" : String) : Str).cps.toList) = RLT.digP a := by
  have e : (("01234567" : String) : Str) = ⟨#[48, 49, 50, 51, 52, 53, 54, 55]⟩ := by decide +kernel
  unfold RLT.digP
  rw [e, decide_eq_decide]
  show a ∈ [48, 49, 50, 51, 52, 53, 54, 55] ↔ _
  simp only [List.mem_cons, List.not_mem_nil, or_false]
  omega
theorem fig_in (y : Str) : inV (.str y) (figKeys.map V.str) = (RLT.figN y).isSome := by
  have e : ∀ k : Str, eqV (.str k) (.str y) = decide (k = y) := fun k => rfl
  have e2 : inV (.str y) (figKeys.map V.str) = decide (y ∈ figKeys) := by
    unfold inV
    rw [List.any_map]
    refine Bool.eq_iff_iff.mpr (List.any_eq_true.trans ?_)
    rw [decide_eq_true_iff]
    exact ⟨fun ⟨k, hk, q⟩ => by
      have : k = y := of_decide_eq_true q
      exact this ▸ hk, fun h => ⟨y, h, decide_eq_true rfl⟩⟩
  rw [e2, ← fig_same]
  refine Bool.eq_iff_iff.mpr (decide_eq_true_iff.trans (fig_mem.trans ?_))
  exact Option.isSome_iff_exists.symm
section
variable {P : Program} {w : World} {K : PySem.W.Frag} {mg : Str → Option Value} {base : Heap}
theorem sc__law_read_lot : FnScope ["_law_word_here", "_law_bits_of", "_law_bit"] ["_law_word_here"] (defScope s__law_read_lot) := ⟨rfl, rfl, rfl, by decide +kernel, rfl, by decide +kernel, by decide +kernel⟩
theorem okl_lotR (T : Tx K mg) : Has P w K mg base (He.ga K "_law_read_lot") 1 ["_law_word_here"] spLotR := by
  obtain ⟨fd, F⟩ := T.d__law_read_lot
  refine ⟨⟨fd, F.ok sc__law_read_lot (fun vs H Q E h => ?_) (fun cdv A outer s H vs Q E hr h => ?_), F.bindsN fun _ _ _ _ _ _ us hl => match us, hl with | [_], _ => rfl⟩, F.kp⟩
  · obtain ⟨t, rfl, _⟩ := h
    rfl
  · obtain ⟨t, rfl, lt, h⟩ := h
    refine ⟨_, PSs.nox (pss_cons (ps_if (pt_cmpR op_eq (pv 0) pe_str (nomark _)) (pss_one (ps_ret (pe_tup pa_nil))) pss_nil)
      (pss_cons (ps_set (i := 1) sc__law_read_lot.nd rfl (Or.inl rfl) (pe_split (pv 0) pe_str))
      (pss_cons (ps_if (pt_not (pt_val (pe_callB (allK (K := K)) (by rfl) T.free_all (by decide +kernel) (pa_cons (pe_lc (own := [("_law_bit", 2)]) (g := (gName 2)) (tt := tYes) rfl sc__law_read_lot.nd (piL (K := K) (pv 1)) (blkOk_by (by kernel_rfl)) (fun _ _ _ _ _ => (pg_name (i := 2) sc__law_read_lot.nd rfl (Or.inl rfl))) (fun _ _ _ _ _ => pts_nil) (fun _ _ _ _ _ => (pe_cmpR (inSq (K := K)) (pv 2) (pe_lst (pa_cons pe_str (pa_cons pe_str (pa_cons pe_str (pa_cons pe_str (pa_cons pe_str (pa_cons pe_str (pa_cons pe_str (pa_cons pe_str pa_nil))))))))) (by rfl)))) pa_nil)))) (pss_one (ps_ret pe_non)) pss_nil)
      (pss_one (ps_ret (pe_ifExp (pt_cmpR (eqD (K := K) hr.units) (pv 1) (pe_callB (RLS.sortSK (w := w)) (by rfl) T.free_sorted (by decide +kernel) (pa_cons (pe_callTy (RLS.setSK (K := K) (w := w)) (by rfl) T.free_set (by decide +kernel) (pa_cons (pv 1) pa_nil)) pa_nil)) (nomark _)) (pe_callTy (tupK (K := K)) (by rfl) T.free_tuple (by decide +kernel) (pa_cons (pe_lc (own := [("_law_bit", 2)]) (g := (gName 2)) (tt := tYes) rfl sc__law_read_lot.nd (piL (K := K) (pv 1)) (blkOk_by (by kernel_rfl)) (fun _ _ _ _ _ => (pg_name (i := 2) sc__law_read_lot.nd rfl (Or.inl rfl))) (fun _ _ _ _ _ => pts_nil) (fun _ _ _ _ _ => (pe_callTy call_int_str (by rfl) T.free_int (by decide +kernel) (pa_cons (pv 2) pa_nil)))) pa_nil)) pe_non)))))), ?_⟩
    refine ⟨_, rfl, rfl, _, rfl, ?_⟩
    rw [dash_eq]
    by_cases nd : t = RLT.dash
    · subst nd
      rw [decide_eq_true rfl]
      refine iteT ⟨Nat.zero_le _, fun u hu => h _ _ ?_ (same_upd hu)⟩
      rw [RLT.lotOf_dash]
      exact ⟨u, rfl, upd_same⟩
    · rw [decide_eq_false fun e => nd (V.str.inj e)]
      refine iteF ?_
      refine ⟨_, rfl, ⟨_, rfl⟩, _, _, rfl, rfl, by decide +kernel, Nat.le_trans (show _ ≤ 2002 by omega) (by decide), fun l hl => ?_⟩
      rw [comma_eq]
      have few := split_few (c := 44) (t := t) (by decide) (by omega)
      change (Txt.split t RLT.comma).length ≤ 2001 at few
      have fw : ∀ is, RLT.figs (Txt.split t RLT.comma) = some is → 2 * is.length ≤ t.length + 1 := fun is e => RLT.figs_few e
      have eY : ∀ is, RLT.figs (Txt.split t RLT.comma) = some is → RLT.lotOf t = if is.Pairwise (· < ·) then some is else none := fun is e => RLT.lotOf_is nd e
      have eN : RLT.figs (Txt.split t RLT.comma) = none → RLT.lotOf t = none := RLT.lotOf_no nd
      generalize Txt.split t RLT.comma = W at few fw eY eN
      have s1 := same_upd (o := HO.lst (W.map V.str)) hl
      have h1 : (upd H l (.lst (W.map V.str))) l = some (.lst (W.map V.str)) := upd_same
      generalize upd H l (.lst (W.map V.str)) = H1 at s1 h1
      refine ⟨_, rfl, l, rfl, ⟨_, SqL.of h1⟩, fun D hD => ?_⟩
      refine lc_val (walk_list (K := K) (a := l) (xs := W.map V.str)) (fun i => .bl (RLT.figN (W.getD i "")).isSome) (by rw [List.length_map]; omega) hD (fun H2 s2 => SqL.of (s2 _ _ h1)) ?_ ?_
      · rintro i y H1' H2 Nx hi s2 ⟨rfl, hy⟩ k
        obtain ⟨z, hz, rfl⟩ := get_mapV hy
        refine ⟨rfl, _, rfl, (show 8 ≤ sizeLine by decide), fun q hq => ⟨q, _, rfl, .inl (SqL.of upd_same), rfl, rfl, ?_⟩⟩
        have := k _ (same_upd (o := HO.lst (figKeys.map V.str)) hq)
        rw [List.getD_eq_getElem?_getD, hz] at this
        have this : Nx (V.bl (RLT.figN z).isSome) (upd H2 q (.lst (figKeys.map V.str))) := this
        rw [← fig_in z] at this
        exact this
      · intro H2 h2 s2
        rw [List.length_map, RLT.range_getD W "" (fun z => V.bl (RLT.figN z).isSome)] at h2
        have e2 : (W.map fun z => V.bl (RLT.figN z).isSome) = (W.map fun z => (RLT.figN z).isSome).map V.bl := by rw [List.map_map]; rfl
        rw [e2] at h2
        refine ⟨D, _, rfl, SqL.of h2, _, rfl, ?_⟩
        have e3 : (W.map fun z => (RLT.figN z).isSome).all id = (RLT.figs W).isSome := by
          rw [RLT.figs_some, List.all_map]
          congr 1
        rw [e3]
        have s12 := s1.trans s2
        have h12 := s2 _ _ h1
        cases ef : RLT.figs W with
        | none =>
          refine iteT (h H2 _ ?_ s12)
          rw [eN ef]
          exact rfl
        | some is =>
          refine iteF ?_
          obtain ⟨i8, eW⟩ := RLT.figs_iff.mp ef
          have fw := fw is ef
          have eY := eY is ef
          have eg := RLT.figs_get ef
          have lW : W.length = is.length := by rw [eW, List.length_map]
          have okW : ∀ z ∈ W, PyData.strOk z = true := fun z hz => by
            rw [eW] at hz
            obtain ⟨i, hi, rfl⟩ := List.mem_map.mp hz
            exact RLT.fig_ok i (i8 i hi)
          refine ⟨_, rfl, _, rfl, l, W, rfl, SqL.of h12, by omega, fun p L hp ndL lL mL => ?_⟩
          have s3 := same_upd (o := RLS.SetS w p L) hp
          have l8 : L.length ≤ 8 := by
            have := ndL.length_le_of_subset (l₂ := figKeys) fun z hz => by
              have hz := (mL z).mp hz
              rw [eW] at hz
              obtain ⟨i, hi, rfl⟩ := List.mem_map.mp hz
              rw [fig_keys]
              exact List.mem_map.mpr ⟨i, List.mem_range.mpr (i8 i hi), rfl⟩
            exact this
          refine ⟨p, L, rfl, upd_same, by omega, fun ys q pm so hq => ?_⟩
          have s4 := same_upd (o := HO.lst (ys.map V.str)) hq
          have okY : ∀ z ∈ ys, PyData.strOk z = true := fun z hz => okW z ((mL z).mp (pm.mem_iff.mp hz))
          have hl4 := s4 _ _ (s3 _ _ h12)
          refine ⟨.list (W.map .str), .list (ys.map .str), .lst (SqL.of hl4) (dp_txts W), .lst (SqL.of upd_same) (dp_txts ys), txts_shaped okW, txts_shaped okY, _, rfl, ?_⟩
          rw [PyData.eqv, txts_eqv]
          have key : W = ys ↔ is.Pairwise (· < ·) := by
            have := RLT.figs_sorted (is := is) ndL (fun z => by rw [← eW]; exact mL z) pm so
            rw [← eW] at this
            exact this
          have s14 := (s12.trans s3).trans s4
          by_cases up : is.Pairwise (· < ·)
          · rw [decide_eq_true (key.mpr up)]
            refine iteT ?_
            refine ⟨_, rfl, l, rfl, ⟨_, SqL.of hl4⟩, fun D2 hD2 => ?_⟩
            refine lc_val (walk_list (K := K) (a := l) (xs := W.map V.str)) (fun i => vI (is.getD i 0)) (by rw [List.length_map]; omega) hD2 (fun H3 s5 => SqL.of (s5 _ _ hl4)) ?_ ?_
            · rintro i y H3' H3 Nx hi s5 ⟨rfl, hy⟩ k
              obtain ⟨z, hz, rfl⟩ := get_mapV hy
              rw [eW, List.getElem?_map] at hz
              cases ei : is[i]? with
              | none => rw [ei] at hz; cases hz
              | some j =>
                rw [ei] at hz
                have ez : RLT.figT j = z := Option.some.inj hz
                have j8 := i8 j (List.mem_of_getElem? ei)
                have := k H3 (Same.refl _)
                rw [List.getD_eq_getElem?_getD, ei] at this
                refine ⟨rfl, _, rfl, z, (j : Nat), rfl, ?_, ?_, this⟩
                · rw [← ez]
                  exact RLT.int_dig j (by omega)
                · rw [← ez, RLT.fig_len]
                  decide
            · intro H3 h3 s5
              rw [List.length_map, lW, RLT.range_getD is 0 vI] at h3
              refine ⟨D2, _, rfl, .inl ⟨SqL.of h3, fun u hu => h _ _ ?_ ((s14.trans s5).trans (same_upd hu))⟩⟩
              rw [eY, if_pos up]
              exact ⟨u, rfl, upd_same⟩
          · rw [decide_eq_false fun e => up (key.mp e)]
            refine iteF (h _ _ ?_ s14)
            rw [eY, if_neg up]
            exact rfl
def spLookR : Sp := fun vs H Q _ => ∃ t : Str, vs = [.str t] ∧ t.length ≤ 2000 ∧ ((RLT.lkOf (Txt.split t RLT.sp) = none ∧ ∀ H', Same H H' → Q .non H') ∨
  ∃ L, RLT.lkOf (Txt.split t RLT.sp) = some L ∧ ∀ H' v, LkAt H' v L → Same H H' → Q v H')
theorem sc__law_read_look : FnScope ["_law_text", "_law_words", "_law_good", "_law_lot_here", "_law_lots", "_law_every", "_law_word_here", "_law_sign"] ["_law_text"] (defScope s__law_read_look) := ⟨rfl, rfl, rfl, by decide +kernel, rfl, by decide +kernel, by decide +kernel⟩
theorem okl_lookR (T : Tx K mg) : Has P w K mg base (He.ga K "_law_read_look") 2 ["_law_text"] spLookR := by
  obtain ⟨⟨fd_law_read_lot, F_law_read_lot, b_law_read_lot⟩, kp_law_read_lot⟩ := okl_lotR (P := P) (w := w) (base := base) T
  obtain ⟨fd, F⟩ := T.d__law_read_look
  refine ⟨⟨fd, F.ok sc__law_read_look (fun vs H Q E h => ?_) (fun cdv A outer s H vs Q E hr h => ?_), F.bindsN fun _ _ _ _ _ _ us hl => match us, hl with | [_], _ => rfl⟩, F.kp⟩
  · obtain ⟨t, rfl, _⟩ := h
    rfl
  · obtain ⟨t, rfl, lt, h⟩ := h
    have hr_law_read_lot : Room 1 _ := hr.mono (by decide)
    refine ⟨_, PSs.nox (pss_cons (ps_set (i := 1) sc__law_read_look.nd rfl (Or.inl rfl) (pe_split (pv 0) pe_str))
      (pss_cons (ps_if (PW.pt (pw_and (pt_cmpR op_eq (pe_ix (ixL (K := K)) (pv 1) pe_int (fun _ _ => rfl)) pe_str (nomark _)) (pw_and1 (pt_cmpR op_eq (pe_callB (lenK (K := K)) (by rfl) T.free_len (by decide +kernel) (pa_cons (pv 1) pa_nil)) pe_int (nomark _))))) (pss_cons (ps_set (i := 2) sc__law_read_look.nd rfl (Or.inl rfl) (pe_callB (allK (K := K)) (by rfl) T.free_all (by decide +kernel) (pa_cons (pe_lc (own := [("_law_word_here", 6)]) (g := (gName 6)) (tt := tYes) rfl sc__law_read_look.nd (piL (K := K) (pe_slice (slL (K := K)) (pv 1) (po_some pe_int) po_none)) (blkOk_by (by kernel_rfl)) (fun _ _ _ _ _ => (pg_name (i := 6) sc__law_read_look.nd rfl (Or.inl rfl))) (fun _ _ _ _ _ => pts_nil) (fun _ _ _ _ _ => (pe_cmpR (inSq (K := K)) (pv 6) (pe_lst (pa_cons pe_str (pa_cons pe_str (pa_cons pe_str (pa_cons pe_str (pa_cons pe_str (pa_cons pe_str (pa_cons pe_str (pa_cons pe_str pa_nil))))))))) (by rfl)))) pa_nil)))
      (pss_one (ps_ret (pe_ifExp (pt_val (pv 2)) (pe_tup (pa_cons pe_str (pa_cons (pe_callTy call_int_str (by rfl) T.free_int (by decide +kernel) (pa_cons (pe_ix (ixL (K := K)) (pv 1) pe_int (fun _ _ => rfl)) pa_nil)) (pa_cons (pe_callTy call_int_str (by rfl) T.free_int (by decide +kernel) (pa_cons (pe_ix (ixL (K := K)) (pv 1) pe_int (fun _ _ => rfl)) pa_nil)) pa_nil)))) pe_non)))) pss_nil)
      (pss_cons (ps_if (PW.pt (pw_and (pt_cmpR op_eq (pe_ix (ixL (K := K)) (pv 1) pe_int (fun _ _ => rfl)) pe_str (nomark _)) (pw_and1 (pt_cmpR op_eq (pe_callB (lenK (K := K)) (by rfl) T.free_len (by decide +kernel) (pa_cons (pv 1) pa_nil)) pe_int (nomark _))))) (pss_cons (ps_set (i := 3) sc__law_read_look.nd rfl (Or.inl rfl) (pe_call F_law_read_lot hr_law_read_lot rfl T.glo_law_read_lot kp_law_read_lot b_law_read_lot .nil pass0 (pa_cons (pe_ix (ixL (K := K)) (pv 1) pe_int (fun _ _ => rfl)) pa_nil)))
      (pss_one (ps_ret (pe_ifExp (pt_cmpR op_isN (pv 3) pe_non (nomark _)) pe_non (pe_tup (pa_cons pe_str (pa_cons (pv 3) pa_nil))))))) pss_nil)
      (pss_cons (ps_if (PW.pt (pw_or (pt_cmpR op_ne (pe_ix (ixL (K := K)) (pv 1) pe_int (fun _ _ => rfl)) pe_str (nomark _)) (pw_or1 (pt_cmpR op_ne (pe_callB (lenK (K := K)) (by rfl) T.free_len (by decide +kernel) (pa_cons (pv 1) pa_nil)) pe_int (nomark _))))) (pss_one (ps_ret pe_non)) pss_nil)
      (pss_cons (ps_setLc (i := 4) (own := [("_law_word_here", 6)]) (g := (gName 6)) (tt := tYes) rfl sc__law_read_look.nd rfl rfl (sw_true rfl rfl rfl (by decide +kernel)) (piL (K := K) (pe_split (pe_ix (ixL (K := K)) (pv 1) pe_int (fun _ _ => rfl)) pe_str)) (blkOk_by (by kernel_rfl)) (fun _ _ _ _ _ => (pg_name (i := 6) sc__law_read_look.nd rfl (Or.inl rfl))) (fun _ _ _ _ _ => pts_nil) (fun _ _ _ _ _ => (pe_call F_law_read_lot hr_law_read_lot rfl T.glo_law_read_lot kp_law_read_lot b_law_read_lot .nil pass0 (pa_cons (pv 6) pa_nil))))
      (pss_cons (ps_if (PW.pt (pw_or (pt_cmpR (inDK (K := K) (hr65 hr)) pe_non (pv 4) (by rfl)) (pw_or1 (pt_cmpR (inDK (K := K) (hr65 hr)) (pe_tup pa_nil) (pv 4) (by rfl))))) (pss_one (ps_ret pe_non)) pss_nil)
      (pss_cons (ps_set (i := 5) sc__law_read_look.nd rfl (Or.inl rfl) (pe_callB (RLS.sortAK (K := K)) (by rfl) T.free_sorted (by decide +kernel) (pa_cons (pe_lc (own := [("_law_sign", 7)]) (g := (gName 7)) rfl sc__law_read_look.nd (pi_str (pe_ix (ixL (K := K)) (pv 1) pe_int (fun _ _ => rfl))) (blkOk_by (by kernel_rfl)) (fun _ _ _ _ _ => (pg_name (i := 7) sc__law_read_look.nd rfl (Or.inl rfl))) (fun _ _ _ _ _ => (pts_one (pt_cmpR (show OpR _ (compareOp .In) _ from op_in_sign) (pv 7) pe_str (by rfl)))) (fun _ _ _ _ _ => (pe_callTy call_int_str (by rfl) T.free_int (by decide +kernel) (pa_cons (pv 7) pa_nil)))) pa_nil)))
      (pss_one (ps_ret (pe_ifExp (pt_cmpR (eqD (K := K) hr.units) (pv 5) (pe_listRg rfl (by rfl) T.free_list (prg_1 (by rfl) T.free_range (pe_callB (lenK (K := K)) (by rfl) T.free_len (by decide +kernel) (pa_cons (pv 5) pa_nil)))) (nomark _)) (pe_tup (pa_cons pe_str (pa_cons (pe_callTy (tupK (K := K)) (by rfl) T.free_tuple (by decide +kernel) (pa_cons (pv 4) pa_nil)) pa_nil))) pe_non)))))))))), ?_⟩
    have few := split_few (c := 32) (t := t) (by decide) (by omega)
    have zle : ∀ z ∈ Txt.split t RLT.sp, z.length ≤ 2000 := fun z hz => Nat.le_trans (RLT.spl_le (c := 32) (by decide) hz) lt
    have wne := RLT.spl_ne t
    refine ⟨_, rfl, ⟨_, rfl⟩, _, _, rfl, rfl, by decide +kernel, Nat.le_trans (show _ ≤ 2002 by omega) (by decide), fun l hl => ?_⟩
    rw [RLT.sp_eq]
    change (Txt.split t RLT.sp).length ≤ 2001 at few
    generalize Txt.split t RLT.sp = W at h few zle wne
    have hN : RLT.lkOf W = none → ∀ H', Same H H' → Q .non H' := fun e => h.elim (fun z => z.2) fun ⟨L, e2, _⟩ => by rw [e] at e2; cases e2
    have hS : ∀ L, RLT.lkOf W = some L → ∀ H' v, LkAt H' v L → Same H H' → Q v H' := fun L e => h.elim (fun z => by rw [e] at z; cases z.1) fun ⟨L2, e2, k⟩ => by rw [e] at e2; rw [Option.some.inj e2]; exact k
    clear h
    have s1 := same_upd (o := HO.lst (W.map V.str)) hl
    have h1 : (upd H l (.lst (W.map V.str))) l = some (.lst (W.map V.str)) := upd_same
    generalize upd H l (.lst (W.map V.str)) = H1 at s1 h1
    match W, few, zle, wne, hN, hS with
    | [], _, _, wne, _, _ => exact absurd rfl wne
    | [x], _, _, _, hN, _ =>
      refine ⟨_, rfl, l, _, 0, _, rfl, rfl, SqL.of h1, rfl, rfl, _, rfl, ?_⟩
      refine ite_once (fun n => ⟨_, rfl, l, _, rfl, .inl (SqL.of h1), rfl, _, rfl, ?_⟩) (fun n => iteF n) ?_
      · rw [len_no (by simp)]
        exact iteF n
      refine ⟨_, rfl, l, _, 0, _, rfl, rfl, SqL.of h1, rfl, rfl, _, rfl, ?_⟩
      refine ite_once (fun n => ⟨_, rfl, l, _, rfl, .inl (SqL.of h1), rfl, _, rfl, ?_⟩) (fun n => iteF n) ?_
      · rw [len_no (by simp)]
        exact iteF n
      refine ⟨_, rfl, l, _, 0, _, rfl, rfl, SqL.of h1, rfl, rfl, _, rfl, ?_⟩
      refine ite_once (fun n => iteT n) (fun n => ⟨_, rfl, l, _, rfl, .inl (SqL.of h1), rfl, _, rfl, ?_⟩) ?_
      · rw [len_no (by simp)]
        exact iteT n
      exact hN rfl H1 s1
    | [x, y], _, zle, _, hN, hS =>
      refine ⟨_, rfl, l, _, 0, _, rfl, rfl, SqL.of h1, rfl, rfl, _, rfl, ?_⟩
      refine ite_once (fun n => ⟨_, rfl, l, _, rfl, .inl (SqL.of h1), rfl, _, rfl, ?_⟩) (fun n => iteF n) ?_
      · rw [len_no (by simp)]
        exact iteF n
      refine ⟨_, rfl, l, _, 0, _, rfl, rfl, SqL.of h1, rfl, rfl, _, rfl, ?_⟩
      by_cases c1 : x = RLT.wIn
      · rw [decide_eq_true (show V.str x = V.str "in" by rw [c1]; exact congrArg V.str (by decide +kernel))]
        refine iteT ⟨_, rfl, l, _, rfl, .inl (SqL.of h1), rfl, _, rfl, ?_⟩
        refine iteT ?_
        refine ⟨_, rfl, l, _, 1, _, rfl, rfl, SqL.of h1, rfl, y, rfl, zle y (by simp), fun H2 v hv s2 => ?_⟩
        have lk := lk_two x y
        rw [if_pos c1] at lk
        refine ⟨_, rfl, rfl, _, rfl, ?_⟩
        cases eo : RLT.lotOf y with
        | none =>
          rw [eo] at hv lk
          obtain rfl : v = .non := hv
          rw [decide_eq_true rfl]
          exact iteT (hN lk H2 (s1.trans s2))
        | some zs =>
          rw [eo] at hv lk
          obtain ⟨a, rfl, ha⟩ := hv
          rw [decide_eq_false (show ¬ V.ref a = V.non from fun e => by cases e)]
          refine iteF ⟨_, rfl, (show 2 ≤ sizeLine by decide), fun u hu => hS (.inn zs) lk _ _ ?_ ((s1.trans s2).trans (same_upd hu))⟩
          exact ⟨u, a, rfl, upd_same, same_upd hu _ _ ha⟩
      · rw [decide_eq_false (show ¬ V.str x = V.str "in" from fun e => c1 ((V.str.inj e).trans (by decide +kernel)))]
        refine iteF (iteF ?_)
        refine ⟨_, rfl, l, _, 0, _, rfl, rfl, SqL.of h1, rfl, rfl, _, rfl, ?_⟩
        have lk := lk_two x y
        rw [if_neg c1] at lk
        by_cases c2 : x = RLT.wParts
        · rw [decide_eq_true (show V.str x = V.str "parts" by rw [c2]; exact congrArg V.str (by decide +kernel))]
          refine iteF ⟨_, rfl, l, _, rfl, .inl (SqL.of h1), rfl, _, rfl, iteF ?_⟩
          rw [if_pos c2] at lk
          have ly := zle y (by simp)
          have wf := RLT.wd_few (W := [x, y]) zle
          rw [show RLT.wdOf [x, y] = .parts ((Txt.split y RLT.bar).map RLT.lotOf) from (if_neg c1).trans (if_pos c2)] at wf
          refine ⟨_, rfl, l, _, 1, _, rfl, rfl, SqL.of h1, rfl, ⟨_, rfl⟩, _, _, rfl, rfl, by decide +kernel, Nat.le_trans (show _ ≤ 2002 by omega) (by decide), fun p hp => ?_⟩
          have few := split_few (c := 124) (t := y) (by decide) (by omega)
          have zle2 : ∀ z ∈ Txt.split y RLT.bar, z.length ≤ 2000 := fun z hz => Nat.le_trans (RLT.spl_le (c := 124) (by decide) hz) ly
          have zne := RLT.spl_neC (c := 124) (by decide) y
          have back := RLT.spl_joinC (c := 124) y
          rw [bar_eq]
          change (Txt.split y RLT.bar).length ≤ 2001 at few
          change Txt.split y RLT.bar ≠ [] at zne
          change Txt.join RLT.bar (Txt.split y RLT.bar) = y at back
          generalize Txt.split y RLT.bar = Z at few zle2 lk wf zne back
          obtain ⟨w1, w2, w3⟩ := wf
          have s2 := same_upd (o := HO.lst (Z.map V.str)) hp
          have h2 : (upd H1 p (.lst (Z.map V.str))) p = some (.lst (Z.map V.str)) := upd_same
          generalize upd H1 p (.lst (Z.map V.str)) = H2 at s2 h2
          refine ⟨p, rfl, ⟨_, SqL.of h2⟩, fun D hD => ?_⟩
          refine lc_rel (walk_list (K := K) (a := p) (xs := Z.map V.str)) (fun i v H3 => ∀ z, Z[i]? = some z → LotO H3 v (RLT.lotOf z)) (by rw [List.length_map]; omega) hD (fun i v H1 H2 r k z hz => (r z hz).tk k) (fun H3 s3 => SqL.of (s3 _ _ h2)) ?_ ?_
          · rintro i v H3' H3 Nx hi s3 ⟨rfl, hy⟩ k
            obtain ⟨z, hz, rfl⟩ := get_mapV hy
            refine ⟨rfl, _, rfl, z, rfl, zle2 z (List.mem_of_getElem? hz), fun H4 v hv s4 => k v H4 (fun z2 e => ?_) s4⟩
            rw [hz] at e
            rw [← Option.some.inj e]
            exact hv
          · intro H3 ys h3 ln r s3
            rw [List.length_map] at ln
            have rows : ∀ (k : Nat) (v : V) (o : Option (List Nat)), ys[k]? = some v → (Z.map RLT.lotOf)[k]? = some o → LotO H3 v o := fun k v o hv ho => by
              rw [List.getElem?_map] at ho
              cases ez : Z[k]? with
              | none => rw [ez] at ho; cases ho
              | some z =>
                rw [ez] at ho
                rw [← Option.some.inj ho]
                exact r k v hv z ez
            have lno : ys.length = (Z.map RLT.lotOf).length := by rw [ln, List.length_map]
            have s13 := (s1.trans s2).trans s3
            refine ⟨_, rfl, .none, (Z.map RLT.lotOf).map loD, .non, .lst (SqL.of h3) (dp_los lno rows), by decide, los_shaped _, _, rfl, ?_⟩
            rw [los_none]
            by_cases m1 : none ∈ Z.map RLT.lotOf
            · rw [decide_eq_true m1]
              refine iteT (iteT (hN ?_ H3 s13))
              rw [lk]
              cases el : RLT.lots Z with
              | none => rfl
              | some zss =>
                have := RLT.lots_map.mp el
                rw [this] at m1
                obtain ⟨_, _, e⟩ := List.mem_map.mp m1
                cases e
            · rw [decide_eq_false m1]
              refine iteF ⟨Nat.zero_le _, fun T0 hT0 => ?_⟩
              have s4 := same_upd (o := HO.tup []) hT0
              have rows4 : ∀ (k : Nat) (v : V) (o : Option (List Nat)), ys[k]? = some v → (Z.map RLT.lotOf)[k]? = some o → LotO (upd H3 T0 (.tup [])) v o := fun k v o a b => (rows k v o a b).same s4
              refine ⟨_, rfl, .tuple [], (Z.map RLT.lotOf).map loD, .tup (SqT.of upd_same) .nil, .lst (SqL.of (s4 _ _ h3)) (dp_los lno rows4), shaped_tup [], los_shaped _, _, rfl, ?_⟩
              rw [los_empty]
              obtain ⟨zss, ez⟩ := no_lots m1
              have el : RLT.lots Z = some zss := RLT.lots_map.mpr ez
              rw [el] at lk
              obtain ⟨q1, q2⟩ := RLT.lots_iff.mp el
              rw [ez] at rows4 lno ⊢
              have s14 := s13.trans s4
              by_cases m2 : some [] ∈ zss.map some
              · rw [decide_eq_true m2]
                refine iteT (hN ?_ _ s14)
                rw [lk]
                obtain ⟨zs, hz, e⟩ := List.mem_map.mp m2
                exact if_neg fun k => (k.1 zs hz).1 (Option.some.inj e)
              · rw [decide_eq_false m2]
                refine iteF ?_
                have fl := w3 zss ez
                have g8 : ∀ zs ∈ zss, ∀ i ∈ zs, i < 8 := fun zs hz => (q1 zs hz).1
                have sgn : (y.cps.toList.filter RLT.digP).map (· - 48) = zss.flatten := by rw [← back, q2]; exact RLT.signs_parts g8
                have h14 := s4 _ _ (s3 _ _ (s2 _ _ h1))
                have h34 := s4 _ _ h3
                generalize upd H3 T0 (.tup []) = H4 at s4 rows4 s14 h14 h34
                refine ⟨_, rfl, l, _, 1, _, rfl, rfl, SqL.of h14, rfl, y, rfl, fun D2 hD2 => ?_⟩
                refine lc_relF (walk_str (z := y)) y.cps.toList RLT.digP (fun a v _ => v = vI (a - 48)) (by simp) (by
                  have := RLT.len_list y
                  have e : y.cps.size = y.cps.toList.length := by simp
                  omega) hD2 (fun _ _ _ _ h _ => h) (fun _ _ => trivial) ?_ ?_
                · rintro i b v H5' H5 N1 N0 hb s5 ⟨rfl, c, hc, rfl⟩ k1 k0
                  have ec : c = b := by
                    rw [Array.getElem?_toList] at hb
                    rw [hb] at hc
                    exact (Option.some.inj hc).symm
                  subst ec
                  refine ⟨rfl, _, rfl, c, _, rfl, rfl, _, rfl, ?_⟩
                  rw [sg_dig]
                  cases ed : RLT.digP c with
                  | false => exact iteF (k0 H5 ed (Same.refl _))
                  | true =>
                    have cr : 48 ≤ c ∧ c < 56 := of_decide_eq_true ed
                    have e48 : c = 48 + (c - 48) := by omega
                    have it : PySem.intText? ⟨#[c]⟩ = some ((c - 48 : Nat) : Int) := by
                      have := RLT.int_dig (c - 48) (by omega)
                      rw [← e48] at this
                      exact this
                    exact iteT ⟨_, rfl, ⟨#[c]⟩, _, rfl, it, (show 1 ≤ 640 by decide), k1 _ H5 ed rfl (Same.refl _)⟩
                · intro H5 vs h5 ev rv s5
                  have e5 : vs.map (·.1) = (zss.flatten.map fun z : Nat => (z : Int)).map V.int := by
                    rw [← sgn, ← ev, ← vI_ints, List.map_map, List.map_map]
                    exact List.map_congr_left fun q hq => rv q hq
                  rw [e5] at h5
                  refine ⟨D2, _, rfl, SqL.of h5, by rw [List.length_map]; omega, fun ms q pm so hq => ?_⟩
                  have s6 := same_upd (o := HO.lst (ms.map V.int)) hq
                  have h6 : (upd H5 q (.lst (ms.map V.int))) q = some (.lst (ms.map V.int)) := upd_same
                  generalize upd H5 q (.lst (ms.map V.int)) = H6 at s6 h6
                  have lm : (ms.map V.int).length = zss.flatten.length := by rw [List.length_map, pm.length_eq, List.length_map]
                  refine ⟨_, rfl, _, rfl, q, _, rfl, .inl (SqL.of h6), ?_⟩
                  rw [lm]
                  refine ⟨_, rfl, RgOk.of_le (by decide) (by omega) (by decide) (by omega), fun r hr => ?_⟩
                  have s7 := same_upd (o := HO.lst (rgV 0 ((zss.flatten.length : Nat) : Int))) hr
                  have er : rgV 0 ((zss.flatten.length : Nat) : Int) = ((List.range zss.flatten.length).map nI).map V.int := by rw [rg_range, vI_map]
                  refine ⟨.list (ms.map .int), .list (((List.range zss.flatten.length).map nI).map .int), .lst (SqL.of (s7 _ _ h6)) (dp_ints _), .lst (SqL.of (by rw [upd_same, er])) (dp_ints _), shaped_ints _, shaped_ints _, _, rfl, ?_⟩
                  rw [PyData.eqv, PySem.W.ked_eqvAll]
                  have s57 := (s5.trans s6).trans s7
                  have key : ms = (List.range zss.flatten.length).map nI ↔ zss.flatten.Perm (List.range zss.flatten.length) := RLT.sorted_range pm so
                  by_cases pr : zss.flatten.Perm (List.range zss.flatten.length)
                  · rw [decide_eq_true (key.mpr pr)]
                    have okl : RLT.LkOk (.parts zss) := ⟨fun zs hz => ⟨fun e => m2 (List.mem_map.mpr ⟨zs, hz, by rw [e]⟩), q1 zs hz⟩, fun e => zne (by rw [q2, e]; rfl), pr⟩
                    have lk2 : RLT.lkOf [x, y] = some (.parts zss) := lk.trans (if_pos okl)
                    refine iteT ⟨_, rfl, D, _, rfl, .inl ⟨SqL.of (s57 _ _ h34), fun u hu => ⟨(show 2 ≤ sizeLine by decide), fun t2 ht2 => hS _ lk2 _ _ (wd_look ?_) (((s14.trans s57).trans (same_upd hu)).trans (same_upd ht2))⟩⟩⟩
                    exact ⟨t2, u, ys, rfl, upd_same, same_upd ht2 _ _ upd_same, lno, fun k v o a b => (rows4 k v o a b).same ((s57.trans (same_upd hu)).trans (same_upd ht2))⟩
                  · rw [decide_eq_false fun e => pr (key.mp e)]
                    refine iteF (hN ?_ _ (s14.trans s57))
                    exact lk.trans (if_neg fun k => pr k.2.2)
        · rw [decide_eq_false (show ¬ V.str x = V.str "parts" from fun e => c2 ((V.str.inj e).trans (by decide +kernel)))]
          rw [if_neg c2] at lk
          exact iteT (iteT (hN lk H1 s1))
    | [x, y, z], _, _, _, hN, hS =>
      refine ⟨_, rfl, l, _, 0, _, rfl, rfl, SqL.of h1, rfl, rfl, _, rfl, ?_⟩
      by_cases c1 : x = RLT.wNear
      · rw [decide_eq_true (show V.str x = V.str "near" by rw [c1]; exact congrArg V.str (by decide +kernel))]
        refine iteT ⟨_, rfl, l, _, rfl, .inl (SqL.of h1), rfl, _, rfl, ?_⟩
        refine iteT ?_
        have lk := lk_three x y z
        rw [if_pos c1] at lk
        refine ⟨_, rfl, _, rfl, l, _, rfl, SqL.of h1, fun p hp => ?_⟩
        have ecut : cutV ([x, y, z].map V.str) (some 1) none = [y, z].map V.str := cut_from7 1
        rw [ecut]
        have s2 := same_upd (o := HO.lst ([y, z].map V.str)) hp
        have h2 : (upd H1 p (.lst ([y, z].map V.str))) p = some (.lst ([y, z].map V.str)) := upd_same
        generalize upd H1 p (.lst ([y, z].map V.str)) = H2 at s2 h2
        refine ⟨p, rfl, ⟨_, SqL.of h2⟩, fun D hD => ?_⟩
        refine lc_val (walk_list (K := K) (a := p) (xs := [y, z].map V.str)) (fun i => .bl (RLT.figN ([y, z].getD i "")).isSome) (show 2 ≤ 100000 by decide) hD (fun H3 s3 => SqL.of (s3 _ _ h2)) ?_ ?_
        · rintro i v H3' H3 Nx hi s3 ⟨rfl, hy⟩ k
          obtain ⟨z0, hz, rfl⟩ := get_mapV hy
          refine ⟨rfl, _, rfl, (show 8 ≤ sizeLine by decide), fun q hq => ⟨q, _, rfl, .inl (SqL.of upd_same), rfl, rfl, ?_⟩⟩
          have := k _ (same_upd (o := HO.lst (figKeys.map V.str)) hq)
          rw [List.getD_eq_getElem?_getD, hz] at this
          have this : Nx (V.bl (RLT.figN z0).isSome) (upd H3 q (.lst (figKeys.map V.str))) := this
          rw [← fig_in z0] at this
          exact this
        · intro H3 h3 s3
          refine ⟨D, [(RLT.figN y).isSome, (RLT.figN z).isSome], rfl, SqL.of h3, ?_⟩
          have h13 := s3 _ _ (s2 _ _ h1)
          have s13 := (s1.trans s2).trans s3
          cases ey : RLT.figN y with
          | none =>
            rw [ey] at lk
            exact ⟨_, rfl, _, rfl, iteF (hN lk H3 s13)⟩
          | some i =>
            cases ez : RLT.figN z with
            | none =>
              rw [ey, ez] at lk
              exact ⟨_, rfl, _, rfl, iteF (hN lk H3 s13)⟩
            | some j =>
              rw [ey, ez] at lk
              obtain ⟨i8, ei⟩ := RLT.figN_iff.mp ey
              obtain ⟨j8, ej⟩ := RLT.figN_iff.mp ez
              refine ⟨_, rfl, _, rfl, iteT ?_⟩
              have ty : PySem.intText? y = some ((i : Nat) : Int) := by rw [ei]; exact RLT.int_dig i (by omega)
              have tz : PySem.intText? z = some ((j : Nat) : Int) := by rw [ej]; exact RLT.int_dig j (by omega)
              have ly : y.length ≤ 640 := by rw [ei, RLT.fig_len]; decide
              have lz : z.length ≤ 640 := by rw [ej, RLT.fig_len]; decide
              exact ⟨_, rfl, l, _, 1, _, rfl, rfl, SqL.of h13, rfl, y, _, rfl, ty, ly, _, rfl, l, _, 2, _, rfl, rfl, SqL.of h13, rfl, z, _, rfl, tz, lz, (show 3 ≤ sizeLine by decide), fun u hu => hS (.near i j) lk _ _ ⟨u, rfl, upd_same⟩ (s13.trans (same_upd hu))⟩
      · rw [decide_eq_false (show ¬ V.str x = V.str "near" from fun e => c1 ((V.str.inj e).trans (by decide +kernel)))]
        refine iteF (iteF ?_)
        refine ⟨_, rfl, l, _, 0, _, rfl, rfl, SqL.of h1, rfl, rfl, _, rfl, ?_⟩
        refine ite_once (fun n => ⟨_, rfl, l, _, rfl, .inl (SqL.of h1), rfl, _, rfl, ?_⟩) (fun n => iteF n) ?_
        · rw [len_no (by simp)]
          exact iteF n
        refine ⟨_, rfl, l, _, 0, _, rfl, rfl, SqL.of h1, rfl, rfl, _, rfl, ?_⟩
        refine ite_once (fun n => iteT n) (fun n => ⟨_, rfl, l, _, rfl, .inl (SqL.of h1), rfl, _, rfl, ?_⟩) ?_
        · rw [len_no (by simp)]
          exact iteT n
        exact hN (by rw [lk_three, if_neg c1]) H1 s1
    | x :: y :: z :: z2 :: r, _, _, _, hN, _ =>
      refine ⟨_, rfl, l, _, 0, _, rfl, rfl, SqL.of h1, atI_0, rfl, _, rfl, ?_⟩
      refine ite_once (fun n => ⟨_, rfl, l, _, rfl, .inl (SqL.of h1), rfl, _, rfl, ?_⟩) (fun n => iteF n) ?_
      · rw [len_no (by simp <;> omega)]
        exact iteF n
      refine ⟨_, rfl, l, _, 0, _, rfl, rfl, SqL.of h1, atI_0, rfl, _, rfl, ?_⟩
      refine ite_once (fun n => ⟨_, rfl, l, _, rfl, .inl (SqL.of h1), rfl, _, rfl, ?_⟩) (fun n => iteF n) ?_
      · rw [len_no (by simp <;> omega)]
        exact iteF n
      refine ⟨_, rfl, l, _, 0, _, rfl, rfl, SqL.of h1, atI_0, rfl, _, rfl, ?_⟩
      refine ite_once (fun n => iteT n) (fun n => ⟨_, rfl, l, _, rfl, .inl (SqL.of h1), rfl, _, rfl, ?_⟩) ?_
      · rw [len_no (by simp <;> omega)]
        exact iteT n
      exact hN rfl H1 s1
end
end RL
/-! a look that the law has made, its lots as lists -/
namespace RL
open PySem PySem.Spec PyProof.Rows L2 RLM
noncomputable def lkL (n : Nat) : Look → RLT.Lk
  | .lot p => .inn (lotP n p)
  | .parts ps => .parts (ps.map (lotP n))
  | .near b k => .near b k
theorem lotP_lt {n : Nat} (n8 : n ≤ 8) {p : Nat → Prop} : ∀ i ∈ lotP n p, i < 8 := fun i h => by
  have := (mem_lotP.mp h).1
  omega
theorem parts_perm {n : Nat} {ps : List (Nat → Prop)} (h : LookOk n (.parts ps)) : (ps.map (lotP n)).flatten.Perm (List.range n) := by
  obtain ⟨_, cov, dis, _⟩ := h
  have nd : (ps.map (lotP n)).flatten.Nodup := by
    refine List.pairwise_flatten.mpr ⟨fun l hl => ?_, ?_⟩
    · obtain ⟨p, _, rfl⟩ := List.mem_map.mp hl
      exact (lotP_sorted n p).imp fun z => Nat.ne_of_lt z
    · rw [List.pairwise_iff_getElem]
      intro i j hi hj ij a ha b hb e
      subst e
      rw [List.length_map] at hi hj
      rw [List.getElem_map] at ha hb
      have h1 := mem_lotP.mp ha
      have h2 := mem_lotP.mp hb
      have := dis i j _ _ a (List.getElem?_eq_getElem hi) (List.getElem?_eq_getElem hj) h1.1 h1.2 h2.2
      omega
  refine (List.perm_ext_iff_of_nodup nd List.nodup_range).mpr fun b => ?_
  rw [List.mem_range, List.mem_flatten]
  constructor
  · rintro ⟨l, hl, hb⟩
    obtain ⟨p, _, rfl⟩ := List.mem_map.mp hl
    exact (mem_lotP.mp hb).1
  · intro bn
    obtain ⟨k, p, e, pb⟩ := cov b bn
    exact ⟨_, List.mem_map.mpr ⟨p, List.mem_of_getElem? e, rfl⟩, mem_lotP.mpr ⟨bn, pb⟩⟩
theorem lkL_ok {n : Nat} (n1 : 1 ≤ n) (n8 : n ≤ 8) : ∀ {L : Look}, LookOk n L → RLT.LkOk (lkL n L)
  | .lot p, _ => ⟨lotP_lt n8, lotP_sorted n p⟩
  | .parts ps, h => by
    have pm := parts_perm h
    have ln := pm.length_eq
    rw [List.length_range] at ln
    obtain ⟨_, cov, _, ne⟩ := h
    refine ⟨fun zs hz => ?_, fun e => ?_, by rw [ln]; exact pm⟩
    · obtain ⟨p, hp, rfl⟩ := List.mem_map.mp hz
      obtain ⟨b, bn, pb⟩ := ne p hp
      refine ⟨fun e => ?_, lotP_lt n8, lotP_sorted n p⟩
      have := mem_lotP.mpr ⟨bn, pb⟩
      rw [e] at this
      exact absurd this List.not_mem_nil
    · obtain ⟨k, p, e2, _⟩ := cov 0 (by omega)
      have := List.mem_of_getElem? e2
      rw [List.map_eq_nil_iff.mp e] at this
      exact absurd this List.not_mem_nil
  | .near b k, h => ⟨by have := h.1; omega, by have := h.2; omega⟩
theorem lkL_at {n : Nat} {H : Hp} {v : V} : ∀ {L : Look}, LookAt n H v L → LkAt H v (lkL n L)
  | .lot p, h => h
  | .parts ps, ⟨t, u, us, e, ht, hu, lu, h⟩ => ⟨t, u, us, e, ht, hu, by rw [lu, List.length_map], fun k a zs ha hz => by
    rw [List.getElem?_map] at hz
    cases e2 : ps[k]? with
    | none => rw [e2] at hz; cases hz
    | some p =>
      rw [e2] at hz
      rw [← Option.some.inj hz]
      exact h k a p ha e2⟩
  | .near b k, h => h
end RL
/-! list(text): its signs -/
namespace RL
open PySem PySem.Spec PyProof.Rows L2
def rListS : List V → Hp → VK → Prop := fun xs H Q => ∃ z : Str, xs = [.str z] ∧ z.length ≤ sizeLine ∧ ∀ q, H q = none → Q (.ref q) (upd H q (.lst (z.cps.toList.map fun c => V.str ⟨#[c]⟩)))
theorem listStrK {X : Cx} (hc : X.calm = true := by rfl) : CallR X (.type "list") rListS := by
  intro pins s σ H xs us Q I r h
  obtain ⟨z, e, lz, q⟩ := h
  subst e
  obtain ⟨u, eu, rx⟩ := vals1 r
  subst eu
  obtain ⟨t, rfl⟩ := rx
  refine call_list_str (I.ok.hd hc) z t (fun h' tk acc' c' hkeep hS hacc => ?_) lz
  refine ⟨.ref s.heap.objs.size, upd H s.heap.objs.size (.lst (z.cps.toList.map fun c => V.str ⟨#[c]⟩)), I.laid hkeep (Nat.le_refl _) (show ObjOk X.prog X.w _ _ _ (.lst (z.cps.toList.map fun c => V.str ⟨#[c]⟩)) from ⟨?_, acc'.toList, c', ?_, ?_⟩), rfl, q _ (I.hok.fresh (Nat.le_refl _))⟩
  · rw [List.length_map, Array.length_toList]; exact lz
  · have el : acc'.toList.length = acc'.size := by simp
    refine vals_of_at (by rw [List.length_map, el, hacc.1, Array.length_toList]) fun j x w h1 h2 => ?_
    have hi := hacc.2 j w (by rw [← Array.getElem?_toList]; exact h2)
    obtain ⟨c, u, hc1, hw⟩ := hi
    rw [List.getElem?_map, Array.getElem?_toList, hc1] at h1
    injection h1 with h1
    rw [← h1, hw]
    exact ⟨_, rfl⟩
  · simpa using hS
end RL
/-! the law bends a text -/
namespace RL
open PySem PySem.Spec PyProof.Rows L2
section
variable {P : Program} {w : World} {K : PySem.W.Frag} {mg : Str → Option Value} {base : Heap}
theorem cut_strs {W : List Str} (lo hi : Option Int) : ∃ ys : List Str, cutV (W.map V.str) lo hi = ys.map V.str ∧ ys.Sublist W := by
  refine ⟨(W.drop (HT.sIx (W.map V.str).length 0 lo)).take (HT.sIx (W.map V.str).length (W.map V.str).length hi - HT.sIx (W.map V.str).length 0 lo), ?_, (List.take_sublist _ _).trans (List.drop_sublist _ _)⟩
  unfold cutV
  rw [List.map_take, List.map_drop]
/-- all that the words weigh -/
def wt (W : List Str) : Nat := (W.map (·.length)).sum + W.length
theorem wt_app (A B : List Str) : wt (A ++ B) = wt A + wt B := by
  unfold wt
  rw [List.map_append, List.sum_append, List.length_append]
  omega
theorem wt_sub {A B : List Str} (h : A.Sublist B) : wt A ≤ wt B := by
  induction h with
  | slnil => exact Nat.le_refl _
  | cons a _ ih => unfold wt at *; rw [List.map_cons, List.sum_cons, List.length_cons]; omega
  | cons_cons a _ ih => unfold wt at *; rw [List.map_cons, List.sum_cons, List.length_cons, List.map_cons, List.sum_cons, List.length_cons]; omega
theorem wt_rev (A : List Str) : wt A.reverse = wt A := by
  unfold wt
  rw [List.map_reverse, List.sum_reverse, List.length_reverse]
theorem wt_join (A : List Str) : (Txt.join RLT.sp A).length ≤ wt A := by
  rw [RLT.join_len]
  unfold wt
  omega
theorem wt_split (t : Str) : wt (Txt.split t RLT.sp) = t.length + 1 := RLT.spl_sum t
theorem pick3 {a e : Str} {k : Int} (h0 : 0 ≤ k) (h3 : k < 3) (la : a.length ≤ 1) (le : e.length ≤ 1) : ∃ u : Str, atI [V.str a, V.str e, V.str a] k = some (V.str u) ∧ u.length ≤ 1 := by
  have : k = 0 ∨ k = 1 ∨ k = 2 := by omega
  rcases this with rfl | rfl | rfl
  · exact ⟨a, rfl, la⟩
  · exact ⟨e, rfl, le⟩
  · exact ⟨a, rfl, la⟩
theorem pick4 {p q r u : Addr} {k : Int} (h0 : 0 ≤ k) (h4 : k < 4) : ∃ v : Addr, atI [V.ref p, V.ref q, V.ref r, V.ref u] k = some (V.ref v) ∧ (v = p ∨ v = q ∨ v = r ∨ v = u) := by
  have : k = 0 ∨ k = 1 ∨ k = 2 ∨ k = 3 := by omega
  rcases this with rfl | rfl | rfl | rfl
  · exact ⟨p, rfl, .inl rfl⟩
  · exact ⟨q, rfl, .inr (.inl rfl)⟩
  · exact ⟨r, rfl, .inr (.inr (.inl rfl))⟩
  · exact ⟨u, rfl, .inr (.inr (.inr rfl))⟩
theorem len_cat (a b : Str) : (a ++ b).length = a.length + b.length := Str.length_append a b
def spBentT : Sp := fun vs H Q _ => ∃ (b c : Addr) (t : Str), vs = [.ref b, .str t] ∧ Box b c H ∧ t.length ≤ 2500 ∧ ∀ H' t', Kc c H H' → Box b c H' → t'.length ≤ 3 * t.length + 8 → Q (.str t') H'
end
end RL
/-! x(lambda: ..) within a comprehension's block: the lambda's name told apart from the block -/
namespace RL
open PySem PySem.Spec PyProof.Rows L2 RLX LamX HotX
theorem pe_lamLq {X : Cx} {T : List (Addr × Str)} {TT : TTL} {x : Str} {g c Pt : Addr} {k kl kb : Nat} {params : Arguments} {body : Expr} {scope : Scope} {t : XK → TE} {p lpos pos : Pos} (q : Str) (hq : X.env.qual ++ "<lambda>" = q) (Fn : FnL X.prog X.w X.K X.mg X.base k kl g TT) (hkl : kb + 1 ≤ kl) (hr : Room k X.A) (hg : Gl X x) (hm : X.mg x = some (.ref g)) (hk : PySem.W.keepIn X.K (.ref g) = true)
    (TB : TabB X.base X.mg c Pt) (hcode : X.env.code = .ref c) (hmT : (Pt, q) ∈ T) (hu : ∀ p ∈ T, p.1 = Pt → p.2 = q) (L : LamS X.env.scope scope) (hdef : defaultsOf params X.env = ([], []))
    (hbind : ∀ (q : Str) (cl : List (Str × Addr)) (pm cv ctv : Value), bindArgs (PySem.W.kla_fn "<lambda>" q params body scope cl pm cv ctv) ⟨[], []⟩ = pure [])
    (hbody : ∀ (A : Around) (outer : List Env) (s : Shared) (H : Hp) (E : XK) (f c' : Addr), Room kb (A.deeper (lamEnv X scope s.heap.objs.size f c')) → PE (lamX X A outer s H E scope f c') body (t E)) (hdb : (x == ("__debug__" : Str)) = false := by decide)
    (he : starEach [.Lambda params body scope lpos] X.env = (false, eval (.Lambda params body scope lpos) X.env) :: starEach [] X.env := by rfl) :
    PE X (.Call (.Name x p) [.Lambda params body scope lpos] [] pos) (tLamL T q TT t) := by
  subst hq
  exact pe_lamL Fn hkl hr hg hm hk TB hcode hmT hu L hdef hbind hbody hdb he
end RL
namespace RL
open PySem PySem.Spec PyProof.Rows L2 RLM
section
variable {J : It} {n : Nat} {G : Hp → Prop} {Y : Nat → Hp → V → Hp → Prop} {g : TG} {te : TE} {vs : List Nat} {σ : L2.St} {H : Hp} {D : Addr} {Qd : Hp → Prop} {TT : List (Addr × Str)}
/-- [f(x) for x in ..] where making an item adds to the law's tables -/
theorem lc_extT (w : Walk J n G Y) (R : Nat → V → Hp → Prop) (hn : n ≤ 100000) (hD : H D = none) (hT : LamX.Tabs TT H) (tk : ∀ k v H1 H2, R k v H1 → TK H1 H2 → R k v H2) (hG : ∀ H1, LamX.ExtN H H1 → G H1)
    (hs : ∀ i x H1 H2 (Nx : V → Hp → Prop), i < n → LamX.ExtN H H1 → LamX.Tabs TT H1 → Y i H1 x H2 → (∀ y H4, R i y H4 → LamX.ExtN H1 H4 → LamX.Tabs TT H4 → Nx y H4) → g x (wipe σ vs) H2 fun σ2 H3 => wipe σ2 vs = wipe σ vs ∧ te σ2 H3 Nx)
    (hd : ∀ H1 ys, H1 D = some (.lst ys) → ys.length = n → (∀ k y, ys[k]? = some y → R k y H1) → LamX.ExtN H H1 → LamX.Tabs TT H1 → Qd H1) :
    ∃ W : Nat → Nat → Hp → Prop, (∃ m, W 0 m (upd H D (.lst []))) ∧ ∀ i m H, W i m H →
      (J.stop i H ∧ Qd H) ∨ (J.go i H ∧ ∃ Nx : Hp → Prop, (∀ H', Nx H' → ∃ m', m' < m ∧ W (i + 1) m' H') ∧ ∀ x H', J.yld i H x H' → g x (wipe σ vs) H' fun σ2 H2 => wipe σ2 vs = wipe σ vs ∧ tYes σ2 H2 fun b H3 =>
        if b = true then te σ2 H3 fun y H4 => ∃ acc, H4 D = some (.lst acc) ∧ acc.length < sizeLine ∧ Nx (upd H4 D (.lst (acc ++ [y]))) else Nx H3) := by
  refine lc_it w (fun i H1 => ∃ ys, H1 D = some (.lst ys) ∧ ys.length = i ∧ (∀ k y, ys[k]? = some y → R k y H1) ∧ LamX.ExtN H H1 ∧ LamX.Tabs TT H1) ⟨[], upd_same, rfl, fun k y e => (by simp at e), LamX.ExtN.of (same_upd hD), tabs_same (same_upd hD) hT⟩ (fun i H1 _ ⟨_, _, _, _, s1, _⟩ => hG H1 s1) ?_ (fun H1 ⟨ys, h1, h2, h3, h4, h5⟩ => hd H1 ys h1 h2 h3 h4 h5)
  rintro i x H1 H2 hi ⟨ys, h1, h2, h3, s1, t1⟩ hY
  refine hs i x H1 H2 (fun y H4 => ∃ acc, H4 D = some (.lst acc) ∧ acc.length < sizeLine ∧ ∃ zs, (upd H4 D (.lst (acc ++ [y]))) D = some (.lst zs) ∧ zs.length = i + 1 ∧ (∀ k y', zs[k]? = some y' → R k y' (upd H4 D (.lst (acc ++ [y])))) ∧ LamX.ExtN H (upd H4 D (.lst (acc ++ [y]))) ∧ LamX.Tabs TT (upd H4 D (.lst (acc ++ [y])))) hi s1 t1 hY fun y H4 r s4 t4 => ?_
  have h4 := ext_lst s4 h1
  refine ⟨ys, h4, ?_, ys ++ [y], upd_same, by simp [h2], fun k y' e => ?_, fun b u h n => ?_, tabs_kc kc_grow ⟨_, h4⟩ t4⟩
  · rw [h2]
    exact Nat.lt_of_lt_of_le hi (Nat.le_trans hn (by decide))
  · by_cases hk : k < ys.length
    · rw [List.getElem?_append_left hk] at e
      exact tk _ _ _ _ (h3 k y' e) (TK.trans (fun a xs h => ext_tup s4 h) (tk_lst h4))
    · rw [List.getElem?_append_right (by omega)] at e
      have ek : k = ys.length := by
        obtain ⟨z1, _⟩ := List.getElem?_eq_some_iff.mp e
        simp at z1
        omega
      rw [ek, Nat.sub_self] at e
      cases e
      rw [ek, h2]
      exact tk _ _ _ _ r (tk_lst h4)
  · rw [upd_ne (ne_of_none h hD)]
    exact (s1.trans s4) b u h n
end
theorem row_same {H : Hp} {a b : Addr} {zs : List Nat} (l : zs.length ≤ 1000) (ha : H a = some (.tup (zs.map vI))) (hb : H b = some (.tup (zs.map vI))) : SameV 1 H (.ref a) (.ref b) := nums_sameT l ha hb
/-- two looks that are the same look are alike -/
theorem lk_same {H : Hp} {v v' : V} : ∀ {L : RLT.Lk}, RLT.LkOk L → LkAt H v L → LkAt H v' L → SameV 3 H v v'
  | .inn zs, ok, ⟨t, u, e, ht, hu⟩, ⟨t', u', e', ht', hu'⟩ => by
    subst e e'
    have l8 := RLT.rise_few ok.1 ok.2
    refine .inr ⟨t, t', _, _, rfl, rfl, .inr ⟨.inl ht, .inl ht'⟩, rfl, (by show 2 ≤ 1000; decide), fun k x y e1 e2 => ?_⟩
    match k, e1, e2 with
    | 0, rfl, rfl => exact .inl ⟨rfl, .inr (.inr (.inr ⟨_, rfl⟩))⟩
    | 1, rfl, rfl => exact (row_same (by omega) hu hu').up
  | .parts zss, ok, ⟨t, u, us, e, ht, hu, lu, h⟩, ⟨t', u', us', e', ht', hu', lu', h'⟩ => by
    subst e e'
    obtain ⟨_, _, l8⟩ := RLT.parts_few ok
    refine .inr ⟨t, t', _, _, rfl, rfl, .inr ⟨.inl ht, .inl ht'⟩, rfl, (by show 2 ≤ 1000; decide), fun k x y e1 e2 => ?_⟩
    match k, e1, e2 with
    | 0, rfl, rfl => exact .inl ⟨rfl, .inr (.inr (.inr ⟨_, rfl⟩))⟩
    | 1, rfl, rfl =>
      refine .inr ⟨u, u', _, _, rfl, rfl, .inr ⟨.inl hu, .inl hu'⟩, by rw [List.length_map, List.length_map, lu, lu'], by rw [List.length_map]; omega, fun j x y e1 e2 => ?_⟩
      obtain ⟨a, ha, rfl⟩ := get_mapV e1
      obtain ⟨b, hb, rfl⟩ := get_mapV e2
      have jl : j < zss.length := by
        have := (List.getElem?_eq_some_iff.mp ha).1
        omega
      have hz := List.getElem?_eq_getElem jl
      have okz := ok.1 _ (List.getElem_mem jl)
      have lz := RLT.rise_few okz.2.1 okz.2.2
      exact row_same (by omega) (h j a _ ha hz) (h' j b _ hb hz)
  | .near b k, _, ⟨t, e, ht⟩, ⟨t', e', ht'⟩ => by
    subst e e'
    refine .inr ⟨t, t', _, _, rfl, rfl, .inr ⟨.inl ht, .inl ht'⟩, rfl, (by show 3 ≤ 1000; decide), fun k x y e1 e2 => ?_⟩
    match k, e1, e2 with
    | 0, rfl, rfl => exact .inl ⟨rfl, .inr (.inr (.inr ⟨_, rfl⟩))⟩
    | 1, rfl, rfl => exact .inl ⟨rfl, .inl ⟨_, rfl⟩⟩
    | 2, rfl, rfl => exact .inl ⟨rfl, .inl ⟨_, rfl⟩⟩
/-- the texts that are none -/
def odds : List V := [V.str (("" : String) : Str), V.str (("in" : String) : Str), V.str (("in " : String) : Str), V.str (("in  -" : String) : Str), V.str (("near 0" : String) : Str), V.str (("near 0 8" : String) : Str), V.str (("near 0 1 " : String) : Str), V.str (("parts" : String) : Str), V.str (("parts -" : String) : Str), V.str (("parts 1" : String) : Str), V.str (("parts 0|0" : String) : Str), V.str (("In 0" : String) : Str), V.str (("in 1,0" : String) : Str), V.str (("in 0,0" : String) : Str), V.str (("near 00 1" : String) : Str)]
theorem odds_at {i : Nat} {x : V} (h : odds[i]? = some x) : ∃ t : Str, x = .str t ∧ t.length ≤ 2000 ∧ RLT.lkOf (Txt.split t RLT.sp) = none := by
  match i, h with
  | 0, rfl => exact ⟨_, rfl, by decide +kernel, RLT.lk_no (by decide +kernel)⟩
  | 1, rfl => exact ⟨_, rfl, by decide +kernel, RLT.lk_no (by decide +kernel)⟩
  | 2, rfl => exact ⟨_, rfl, by decide +kernel, RLT.lk_no (by decide +kernel)⟩
  | 3, rfl => exact ⟨_, rfl, by decide +kernel, RLT.lk_no (by decide +kernel)⟩
  | 4, rfl => exact ⟨_, rfl, by decide +kernel, RLT.lk_no (by decide +kernel)⟩
  | 5, rfl => exact ⟨_, rfl, by decide +kernel, RLT.lk_no (by decide +kernel)⟩
  | 6, rfl => exact ⟨_, rfl, by decide +kernel, RLT.lk_no (by decide +kernel)⟩
  | 7, rfl => exact ⟨_, rfl, by decide +kernel, RLT.lk_no (by decide +kernel)⟩
  | 8, rfl => exact ⟨_, rfl, by decide +kernel, RLT.lk_no (by decide +kernel)⟩
  | 9, rfl => exact ⟨_, rfl, by decide +kernel, RLT.lk_no (by decide +kernel)⟩
  | 10, rfl => exact ⟨_, rfl, by decide +kernel, RLT.lk_no (by decide +kernel)⟩
  | 11, rfl => exact ⟨_, rfl, by decide +kernel, RLT.lk_no (by decide +kernel)⟩
  | 12, rfl => exact ⟨_, rfl, by decide +kernel, RLT.lk_no (by decide +kernel)⟩
  | 13, rfl => exact ⟨_, rfl, by decide +kernel, RLT.lk_no (by decide +kernel)⟩
  | 14, rfl => exact ⟨_, rfl, by decide +kernel, RLT.lk_no (by decide +kernel)⟩
section
variable {P : Program} {w : World} {K : PySem.W.Frag} {mg : Str → Option Value} {base : Heap} [Figs K w]
def spLaw (K : PySem.W.Frag) : Sp := fun vs H Q _ => ∃ (a : Addr) (ns : List Int), vs = [.ref a] ∧ SqL K H a (ns.map V.int) ∧ ns.length ≤ 63 ∧ H (He.cT K ("law", none)).2 = some (.tbl #[]) ∧ ∀ H', Q (.bl true) H'
theorem sc_law : FnScope ["_law_script", "_law_box_here", "_law_turn", "_law_look_here", "_law_text", "_law_bending", "_law_at", "_law_how", "_law_sign", "_law_due", "_law_odd"] ["_law_script"] (defScope s_law) := ⟨rfl, rfl, rfl, by decide +kernel, rfl, by decide +kernel, by decide +kernel⟩
theorem ok_law (T : Tx K mg) (TB : LamX.TabB base mg (He.cT K ("law", none)).1 (He.cT K ("law", none)).2) {fd : FuncData} (F : FnP K "law" "law" s_law [] (He.ga K "law") fd) : FnOk P w K mg base CX0 11 (He.ga K "law") fd ["_law_script"] (spLaw K) := by
  obtain ⟨⟨fd_law_box, F_law_box, b_law_box⟩, kp_law_box⟩ := ok_box (P := P) (w := w) (base := base) T
  obtain ⟨⟨fd_law_pick, F_law_pick, b_law_pick⟩, kp_law_pick⟩ := ok_pick (P := P) (w := w) (base := base) T
  obtain ⟨⟨fd_law_from, F_law_from, b_law_from⟩, kp_law_from⟩ := ok_from (P := P) (w := w) (base := base) T
  obtain ⟨⟨fd_law_look, F_law_look, b_law_look⟩, kp_law_look⟩ := ok_look (P := P) (w := w) (base := base) T
  obtain ⟨⟨fd_law_look_text, F_law_look_text, b_law_look_text⟩, kp_law_look_text⟩ := okl_lookT (P := P) (w := w) (base := base) T
  obtain ⟨⟨fd_law_read_look, F_law_read_look, b_law_read_look⟩, kp_law_read_look⟩ := okl_lookR (P := P) (w := w) (base := base) T
  obtain ⟨⟨fd_look_text, F_look_text, b_look_text⟩, kp_look_text⟩ := ok_lookT (P := P) (w := w) (base := base) T
  obtain ⟨⟨fd_read_look, F_read_look, b_read_look⟩, kp_read_look⟩ := ok_readLook (P := P) (w := w) (base := base) T
  obtain ⟨⟨fd_law_same, F_law_same, b_law_same⟩, kp_law_same⟩ := ok_same (P := P) (w := w) (base := base) T 5
  obtain ⟨⟨fd_readx, F_readx, b_readx⟩, kp_readx⟩ := okb_readLook (P := P) (w := w) (base := base) T
  have kp_refused : PySem.W.keepIn K (.ref (He.ga K "_law_refused")) = true := by
    obtain ⟨_, F'⟩ := T.d__law_refused
    exact F'.kp
  have kp_tried : PySem.W.keepIn K (.ref (He.ga K "_law_tried")) = true := by
    obtain ⟨_, F'⟩ := T.d__law_tried
    exact F'.kp
  obtain ⟨oc, od, dV, kV, doc, pm, an, cdv, ct, osl, rfl, lk, hcd, _, _⟩ := F.ex
  obtain ⟨cc, rfl⟩ := He.codeIn_ref hcd
  have ecc : (He.cT K ("law", none)).1 = cc := He.codeOf_eq lk rfl
  rw [ecc] at TB
  refine fn_of lk hcd sc_law (fun vs H Q E h => ?_) (fun A outer s H vs Q E hr h => ?_)
  · obtain ⟨a, ns, rfl, _⟩ := h
    rfl
  · obtain ⟨a, ns, rfl, hS, hl, hTab, h⟩ := h
    have hr_law_box : Room 1 _ := hr.mono (by decide)
    have hr_law_pick : Room 1 _ := hr.mono (by decide)
    have hr_law_from : Room 2 _ := hr.mono (by decide)
    have hr_law_look : Room 3 _ := hr.mono (by decide)
    have hr_law_look_text : Room 2 _ := hr.mono (by decide)
    have hr_law_read_look : Room 2 _ := hr.mono (by decide)
    have hr_look_text : Room 3 _ := hr.mono (by decide)
    have hr_read_look : Room 7 _ := hr.mono (by decide)
    have hr_law_same : Room 6 _ := hr.mono (by decide)
    have hr_refused : Room 10 _ := hr
    have hr_tried : Room 9 _ := hr.mono (by decide)
    refine ⟨_, PSs.nox (pss_cons (ps_set (i := 1) sc_law.nd rfl (Or.inl rfl) (pe_call F_law_box hr_law_box rfl T.glo_law_box kp_law_box b_law_box .nil pass0 (pa_cons (pv 0) pa_nil)))
      (pss_cons (ps_for PassesOwn.never rfl (pi_range1 (by rfl) T.free_range (pa_cons pe_int pa_nil)) (pg_name (i := 2) sc_law.nd rfl (Or.inl rfl)) (pss_cons (ps_set (i := 3) sc_law.nd rfl (Or.inl rfl) (pe_call F_law_look hr_law_look rfl T.glo_law_look kp_law_look b_law_look .nil pass0 (pa_cons (pv 1) (pa_cons (pe_op op_add pe_int (pe_call F_law_pick hr_law_pick rfl T.glo_law_pick kp_law_pick b_law_pick .nil pass0 (pa_cons (pv 1) (pa_cons pe_int pa_nil)))) pa_nil))))
      (pss_cons (ps_set (i := 4) sc_law.nd rfl (Or.inr rfl) (pe_call F_law_look_text hr_law_look_text rfl T.glo_law_look_text kp_law_look_text b_law_look_text .nil pass0 (pa_cons (pv 3) pa_nil)))
      (pss_cons (ps_if (pt_not (pt_val (pe_call F_law_same hr_law_same rfl T.glo_law_same kp_law_same b_law_same .nil pass0 (pa_cons (pe_lst (pa_cons (pe_call F_look_text hr_look_text rfl T.glo_look_text kp_look_text b_look_text .nil pass0 (pa_cons (pv 3) pa_nil)) (pa_cons (pe_call F_read_look hr_read_look rfl T.glo_read_look kp_read_look b_read_look .nil pass0 (pa_cons (pv 4) pa_nil)) pa_nil))) (pa_cons (pe_lst (pa_cons (pv 4) (pa_cons (pv 3) pa_nil))) pa_nil))))) (pss_one (ps_ret pe_bl)) pss_nil)
      (pss_cons (ps_for PassesOwn.never rfl (pi_range1 (by rfl) T.free_range (pa_cons (pe_call F_law_pick hr_law_pick rfl T.glo_law_pick kp_law_pick b_law_pick .nil pass0 (pa_cons (pv 1) (pa_cons pe_int pa_nil))) pa_nil)) (pg_name (i := 5) sc_law.nd rfl (Or.inl rfl)) (pss_cons (ps_par (i := 6) (j := 7) rfl sc_law.nd rfl rfl (by decide) rfl rfl (pa_cons (pe_call F_law_pick hr_law_pick rfl T.glo_law_pick kp_law_pick b_law_pick .nil pass0 (pa_cons (pv 1) (pa_cons (pe_op op_add (pe_callB call_len_str (by rfl) T.free_len (by decide +kernel) (pa_cons (pv 4) pa_nil)) pe_int) pa_nil))) (pa_cons (pe_call F_law_pick hr_law_pick rfl T.glo_law_pick kp_law_pick b_law_pick .nil pass0 (pa_cons (pv 1) (pa_cons pe_int pa_nil))) pa_nil)) (by rfl))
      (pss_cons (ps_set (i := 8) sc_law.nd rfl (Or.inl rfl) (pe_call F_law_from hr_law_from rfl T.glo_law_from kp_law_from b_law_from .nil pass0 (pa_cons (pv 1) (pa_cons (pe_callTy listStrK (by rfl) T.free_list (by decide +kernel) (pa_cons pe_str pa_nil)) pa_nil))))
      (pss_one (ps_set (i := 4) sc_law.nd rfl (Or.inr rfl) (pe_op op_add_str (pe_op op_add_str (pe_slice C8.sl_txt (pv 4) po_none (po_some (pv 6))) (pe_ix (ixL (K := K)) (pe_lst (pa_cons (pv 8) (pa_cons pe_str (pa_cons (pv 8) pa_nil)))) (pv 7) (fun _ _ => rfl))) (pe_slice C8.sl_txt (pv 4) (po_some (pe_op op_add (pv 6) (pe_callTy call_int1 (by rfl) T.free_int (by decide +kernel) (pa_cons (pe_cmpR op_gt (pv 7) pe_int (nomark _)) pa_nil)))) po_none)))))))
      (pss_cons (ps_set (i := 9) sc_law.nd rfl (Or.inl rfl) (pe_call F_law_read_look hr_law_read_look rfl T.glo_law_read_look kp_law_read_look b_law_read_look .nil pass0 (pa_cons (pv 4) pa_nil)))
      (pss_cons (ps_set (i := 9) sc_law.nd rfl (Or.inl rfl) (pe_ifExp (pt_cmpR op_isN (pv 9) pe_non (nomark _)) (pe_tup (pa_cons pe_non (pa_cons pe_str (pa_cons pe_int pa_nil)))) (pe_tup (pa_cons (pv 9) (pa_cons pe_str (pa_cons pe_non pa_nil))))))
      (pss_one (ps_if (pt_not (pt_val (pe_call F_law_same hr_law_same rfl T.glo_law_same kp_law_same b_law_same .nil pass0 (pa_cons (RLX.pe_lamL (T := [((He.cT K ("law", none)).2, "law.<locals>.<lambda>")]) (kl := 8) (kb := 7) (okl_tried (P := P) (w := w) (base := base) (mg := mg) (K := K) T) (by decide) hr_tried rfl T.glo_law_tried kp_tried TB rfl List.mem_cons_self (fun p hp _ => by rw [List.mem_singleton.mp hp]; rfl) (LamX.lamS_by (by kernel_rfl)) rfl (fun _ _ _ _ _ => rfl) (fun A outer s H E f c' hr2 => pe_call F_readx (hr2.mono (by decide)) rfl T.glo_read_look kp_readx b_readx .nil (L2N.passes_call RLX.lam_takes (fun _ _ _ _ h => h)) (pa_cons (pv 4) pa_nil))) (pa_cons (pv 9) pa_nil))))) (pss_one (ps_ret pe_bl)) pss_nil)))))))))
      (pss_cons (ps_set (i := 10) sc_law.nd rfl (Or.inl rfl) (pe_lst (pa_cons pe_str (pa_cons pe_str (pa_cons pe_str (pa_cons pe_str (pa_cons pe_str (pa_cons pe_str (pa_cons pe_str (pa_cons pe_str (pa_cons pe_str (pa_cons pe_str (pa_cons pe_str pa_nil)))))))))))))
      (pss_cons (ps_set (i := 10) sc_law.nd rfl (Or.inl rfl) (pe_op op_cat (pv 10) (pe_lst (pa_cons pe_str (pa_cons pe_str (pa_cons pe_str (pa_cons pe_str pa_nil)))))))
      (pss_one (ps_ret (pe_callB (allK (K := K)) (by rfl) T.free_all (by decide +kernel) (pa_cons (pe_lc (own := [("_law_text", 4)]) (g := (gName 4)) (tt := tYes) rfl sc_law.nd (piL (K := K) (pv 10)) (blkOk_by (by kernel_rfl)) (fun _ _ _ _ _ => (pg_name (i := 4) sc_law.nd rfl (Or.inr rfl))) (fun _ _ _ _ _ => pts_nil) (fun _ _ _ _ _ => (pe_call F_law_same hr_law_same rfl T.glo_law_same kp_law_same b_law_same .nil pass0 (pa_cons (pe_lamLq (q := "law.<locals>.<lambda>") (hq := by kernel_rfl) (T := [((He.cT K ("law", none)).2, "law.<locals>.<lambda>")]) (kl := 8) (kb := 7) (okl_refused (P := P) (w := w) (base := base) (mg := mg) (K := K) T) (by decide) hr_refused rfl T.glo_law_refused kp_refused TB rfl List.mem_cons_self (fun p hp _ => by rw [List.mem_singleton.mp hp]) (LamX.lamS_by (by kernel_rfl)) rfl (fun _ _ _ _ _ => rfl) (fun A outer s H E f c' hr2 => pe_call F_readx (hr2.mono (by decide)) rfl T.glo_read_look kp_readx b_readx .nil (L2N.passes_call RLX.lam_takes (fun _ _ _ _ h => h)) (pa_cons (pv 4) pa_nil))) (pa_cons (pe_tup (pa_cons pe_str (pa_cons pe_int pa_nil))) pa_nil))))) pa_nil)))))))), ?_⟩
    have hT0 : LT K H := fun q hq => by
      rw [List.mem_singleton.mp hq]
      exact LamX.TabS.nil hTab
    refine ⟨_, rfl, a, ns, rfl, hS, hl, fun H1 b c s1 B1 => ?_⟩
    refine ⟨8, rfl, by decide, by decide, for_range (lo := 0) (n := 8) (fun i σ H2 => (∃ (v2 v3 v4 v5 v6 v7 v8 v9 : Option V), σ = [some (.ref a), some (.ref b), v2, v3, v4, v5, v6, v7, v8, v9, none]) ∧ Box b c H2 ∧ LT K H2)
      ⟨⟨none, none, none, none, none, none, none, none, rfl⟩, B1, tabs_same s1 hT0⟩ ?_ ?_⟩
    · rintro i σ H2 hi ⟨⟨v2, v3, v4, v5, v6, v7, v8, v9, rfl⟩, B2, T2⟩
      refine ⟨_, rfl, _, rfl, b, c, 8, rfl, B2, by decide, by decide, fun H3 k k3 B3 k0 k8 => ⟨1, k, rfl, rfl, ?_⟩⟩
      obtain ⟨m, rfl⟩ : ∃ m : Nat, k = (m : Nat) := ⟨k.toNat, by omega⟩
      have T3 := tabs_kc k3 B2.lst T2
      refine ⟨b, c, 1 + m, by show [V.ref b, V.int (1 + (m : Int))] = _; rw [show (1 + (m : Int)) = ((1 + m : Nat) : Int) by omega]; rfl, B3, by omega, by omega, fun H4 v LL LA LO k4 B4 => ?_⟩
      have T4 := tabs_kc k4 B3.lst T3
      have ok := lkL_ok (by omega) (by omega) LO
      have at4 := lkL_at LA
      generalize lkL (1 + m) LL = L at ok at4
      clear LA LO k4 B3 T3 k3 T2 B2
      refine ⟨_, rfl, v, L, rfl, at4, ok, fun H5 s5 => ?_⟩
      have tl := RLT.lkT_len ok
      have rd := RLT.lk_read ok
      generalize hbt : RLT.lkT L = tx at tl rd
      have B5 := B4.same s5
      have T5 := tabs_same s5 T4
      have at5 := at4.same s5
      clear B4 T4 at4 s5
      refine ⟨_, rfl, v, L, rfl, at5, ok, fun H6 s6 => ?_⟩
      rw [hbt]
      refine ⟨_, rfl, tx, c, L, rfl, by omega, (B5.same s6).lst, rd, fun H7 v' at7 s7 => ⟨(by show 2 ≤ sizeLine; decide), fun p1 hp1 => ?_⟩⟩
      have s8 := same_upd (o := HO.lst [V.str tx, v']) hp1
      have h8 : (upd H7 p1 (.lst [V.str tx, v'])) p1 = some (.lst [V.str tx, v']) := upd_same
      generalize upd H7 p1 (.lst [V.str tx, v']) = H8 at s8 h8
      refine ⟨_, rfl, _, rfl, (by show 2 ≤ sizeLine; decide), fun p2 hp2 => ?_⟩
      have s9 := same_upd (o := HO.lst [V.str tx, v]) hp2
      have h9 : (upd H8 p2 (.lst [V.str tx, v])) p2 = some (.lst [V.str tx, v]) := upd_same
      generalize upd H8 p2 (.lst [V.str tx, v]) = H9 at s9 h9
      have s59 := s6.trans (s7.trans (s8.trans s9))
      refine ⟨_, _, rfl, .inr ⟨p1, p2, _, _, rfl, rfl, .inl ⟨.inl (s9 _ _ h8), .inl h9⟩, rfl, (by show 2 ≤ 1000; decide), fun q x y e1 e2 => ?_⟩, fun H10 s10 => ⟨_, rfl, iteF ?_⟩⟩
      · match q, e1, e2 with
        | 0, rfl, rfl => exact .inl ⟨rfl, .inr (.inr (.inr ⟨_, rfl⟩))⟩
        | 1, rfl, rfl => exact lk_same ok (at7.same (s8.trans s9)) (at5.same s59)
      have s510 := s59.trans s10
      have B10 := B5.same s510
      have T10 := tabs_same s510 T5
      clear B5 T5 at5 at7 s6 s7 s8 h8 s9 h9 s59 s10 s510 ok rd hbt hp1 hp2
      -- the text is bent
      refine ⟨_, rfl, b, c, 3, rfl, B10, by decide, by decide, fun H14 k k14 B14 k0 k3 => ⟨k, rfl, by omega, by omega, ?_⟩⟩
      have T14 := tabs_kc k14 B10.lst T10
      refine for_it (walk_range (lo := 0) (n := k.toNat)) (fun j σ H' => ∃ (tx' : Str) (v5 v6 v7 v8 : Option V), σ = [some (.ref a), some (.ref b), some (.int (0 + (i : Nat))), some v, some (.str tx'), v5, v6, v7, v8, v9, none] ∧ Box b c H' ∧ LT K H' ∧ (j = 0 → tx'.length ≤ 22) ∧ (j = 1 → tx'.length ≤ 45) ∧ tx'.length ≤ 91)
        ⟨tx, v5, v6, v7, v8, rfl, B14, T14, fun _ => tl, fun z => absurd z (by decide), by omega⟩ (fun _ _ _ _ _ => trivial) ?_ ?_
      · rintro j y σ H15 H15' hj ⟨tx', w5, w6, w7, w8, rfl, B15, T15, l0, l1, l2⟩ ⟨rfl, rfl⟩
        have j2 : j < 2 := by omega
        have lz : tx'.length ≤ sizeLine := Nat.le_trans l2 (by decide)
        refine ⟨_, rfl, _, rfl, tx', rfl, lz, _, _, rfl, rfl, b, c, _, rfl, B15, by omega, by omega, fun H16 at_ k16 B16 a0 a1 => ?_⟩
        refine ⟨_, rfl, b, c, 3, rfl, B16, by decide, by decide, fun H17 how k17 B17 w0 w3 => ⟨_, _, rfl, ?_⟩⟩
        refine ⟨_, rfl, _, rfl, (by decide +kernel), fun q hq => ?_⟩
        have sq := same_upd (o := HO.lst ((("0123789,|- inear" : Str).cps.toList.map fun c => V.str ⟨#[c]⟩))) hq
        refine ⟨b, c, q, _, rfl, B17.same sq, upd_same, (B17.new hq).1, (by decide +kernel), (by decide +kernel), fun H18 x k18 B18 hx => ?_⟩
        obtain ⟨sg, _, rfl⟩ := List.mem_map.mp hx
        obtain ⟨u, hu, lu⟩ := pick3 (a := (⟨#[sg]⟩ : Str)) (e := (("" : String) : Str)) w0 w3 (show 1 ≤ 1 by decide) (by decide +kernel)
        have g1 := Txt.slice_le tx' none (some at_)
        have g2 := Txt.slice_le tx' (some (at_ + (if decide (0 < how) = true then 1 else 0))) none
        have big : ∀ k : Nat, k ≤ 9000 → k ≤ sizeLine := fun k hk => Nat.le_trans hk (by decide)
        have T18 := tabs_kc k18 (B17.same sq).lst (tabs_same sq (tabs_kc k17 B16.lst (tabs_kc k16 B15.lst T15)))
        refine ⟨_, rfl, _, rfl, _, rfl, tx', rfl, lz, _, rfl, _, rfl, (by show 3 ≤ sizeLine; decide), fun p hp => ?_⟩
        have s6 := same_upd (o := HO.lst [V.str ⟨#[sg]⟩, V.str "", V.str ⟨#[sg]⟩]) hp
        refine ⟨_, rfl, p, _, how, _, rfl, rfl, SqL.of upd_same, hu, _, _, rfl, rfl, big _ (by omega), ?_⟩
        refine ⟨_, rfl, _, rfl, _, rfl, _, _, rfl, rfl, .inr ⟨_, rfl, _, _, rfl, rfl, _, rfl, tx', rfl, lz, _, _, rfl, rfl, big _ (by rw [len_cat]; omega), ?_⟩⟩
        refine ⟨_, _, _, _, _, rfl, B18.same s6, tabs_same s6 T18, fun z => absurd z (by omega), fun z => ?_, ?_⟩
        · have := l0 (by omega)
          rw [len_cat, len_cat]
          omega
        · rw [len_cat, len_cat]
          by_cases c : j = 0
          · have := l0 c
            omega
          · have := l1 (by omega)
            omega
      rintro σ H15 ⟨tx', w5, w6, w7, w8, rfl, B15, T15, _, _, l2⟩
      clear tl B14 T14 k14 B10 T10
      have XS := T.x_BadText
      have lt9 : tx'.length ≤ 2000 := by omega
      refine ⟨_, rfl, tx', rfl, lt9, ?_⟩
      cases eL : RLT.lkOf (Txt.split tx' RLT.sp) with
      | none =>
        refine .inl ⟨rfl, fun H16 s16 => ?_⟩
        refine ⟨_, rfl, rfl, _, rfl, ?_⟩
        rw [decide_eq_true rfl]
        refine iteT ⟨(by show 3 ≤ sizeLine; decide), fun d hd => ?_⟩
        have s17 := same_upd (o := HO.tup [V.non, V.str "BadText", V.int 0]) hd
        have h17 : (upd H16 d (.tup [V.non, V.str "BadText", V.int 0])) d = some (.tup [V.non, V.str "BadText", V.int 0]) := upd_same
        have s117 := s16.trans s17
        have B17 := B15.same s117
        have T17 := tabs_same s117 T15
        generalize upd H16 d (.tup [V.non, V.str "BadText", V.int 0]) = H17 at h17 B17 T17
        refine ⟨T17, fun H18 c' e18 T18 hc H19 E' Q' s19 hE hQ => ⟨s19 _ _ hc, _, rfl, .inr ⟨tx', c, rfl, lt9, ((B17.ext e18).same s19).lst, eL, fun dd H20 hd s20 => hE _ _ _ ⟨"BadText", dd, _, .int 0, rfl, rfl, by decide, ⟨rfl, XS.ec, XS.no _ (by decide), fun f hf => XS.no f hf, XS.kit, hd⟩, XS.exm, rfl, rfl, fun H21 s21 t3 ht3 => ?_⟩⟩⟩⟩
        have s22 := same_upd (o := HO.tup [V.non, V.str "BadText", V.int 0]) ht3
        have h22 : (upd H21 t3 (.tup [V.non, V.str "BadText", V.int 0])) t3 = some (.tup [V.non, V.str "BadText", V.int 0]) := upd_same
        have sAll := s19.trans (s20.trans (s21.trans s22))
        have T22 := tabs_same sAll T18
        have B22 := (B17.ext e18).same sAll
        have d22 := sAll _ _ (ext_tup e18 h17)
        generalize upd H21 t3 (.tup [V.non, V.str "BadText", V.int 0]) = H22 at h22 T22 B22 d22
        refine ⟨_, rfl, _, _, rfl, .inr ⟨t3, d, _, _, rfl, rfl, .inr ⟨.inl h22, .inl d22⟩, rfl, (by show 3 ≤ 1000; decide), fun q u v e1 e2 => ?_⟩, fun H25 s25 => ⟨_, rfl, iteF ?_⟩⟩
        · match q, e1, e2 with
          | 0, rfl, rfl => exact .inl ⟨rfl, .inr (.inr (.inl rfl))⟩
          | 1, rfl, rfl => exact .inl ⟨rfl, .inr (.inr (.inr ⟨_, rfl⟩))⟩
          | 2, rfl, rfl => exact .inl ⟨rfl, .inl ⟨_, rfl⟩⟩
        exact ⟨⟨_, _, _, _, _, _, _, _, rfl⟩, B22.same s25, tabs_same s25 T22⟩
      | some L2 =>
        have ok2 := (RLT.lkOf_some eL).1
        refine .inr ⟨L2, rfl, fun H16 y at16 s16 => ?_⟩
        refine ⟨_, rfl, rfl, _, rfl, ?_⟩
        obtain ⟨yr, rfl⟩ : ∃ r : Addr, y = .ref r := by
          cases L2 with
          | inn zs => exact at16.imp fun t h => h.choose_spec.1
          | parts zss => exact at16.imp fun t h => h.choose_spec.choose_spec.1
          | near b k => exact at16.imp fun t h => h.1
        rw [decide_eq_false (show ¬ V.ref yr = V.non from fun e => by cases e)]
        refine iteF ⟨_, rfl, (by show 3 ≤ sizeLine; decide), fun d hd => ?_⟩
        have s17 := same_upd (o := HO.tup [V.ref yr, V.str "", V.non]) hd
        have h17 : (upd H16 d (.tup [V.ref yr, V.str "", V.non])) d = some (.tup [V.ref yr, V.str "", V.non]) := upd_same
        have s117 := s16.trans s17
        have B17 := B15.same s117
        have T17 := tabs_same s117 T15
        have at17 := at16.same s17
        generalize upd H16 d (.tup [V.ref yr, V.str "", V.non]) = H17 at h17 B17 T17 at17
        refine ⟨T17, fun H18 c' e18 T18 hc H19 E' Q' s19 hE hQ => ⟨s19 _ _ hc, _, rfl, .inl ⟨tx', c, L2, rfl, lt9, ((B17.ext e18).same s19).lst, eL, fun H20 z at20 s20 => hQ _ _ fun t3 ht3 => ?_⟩⟩⟩
        have s22 := same_upd (o := HO.tup [z, V.str "", V.non]) ht3
        have h22 : (upd H20 t3 (.tup [z, V.str "", V.non])) t3 = some (.tup [z, V.str "", V.non]) := upd_same
        have sAll := s19.trans (s20.trans s22)
        have T22 := tabs_same sAll T18
        have B22 := (B17.ext e18).same sAll
        have d22 := sAll _ _ (ext_tup e18 h17)
        have y22 := (at17.tk fun a xs h => ext_tup e18 h).same sAll
        have z22 := at20.same s22
        generalize upd H20 t3 (.tup [z, V.str "", V.non]) = H22 at h22 T22 B22 d22 y22 z22
        refine ⟨_, rfl, _, _, rfl, .inr ⟨t3, d, _, _, rfl, rfl, .inr ⟨.inl h22, .inl d22⟩, rfl, (by show 3 ≤ 1000; decide), fun q u v e1 e2 => ?_⟩, fun H25 s25 => ⟨_, rfl, iteF ?_⟩⟩
        · match q, e1, e2 with
          | 0, rfl, rfl => exact lk_same ok2 z22 y22
          | 1, rfl, rfl => exact .inl ⟨rfl, .inr (.inr (.inr ⟨_, rfl⟩))⟩
          | 2, rfl, rfl => exact .inl ⟨rfl, .inr (.inr (.inl rfl))⟩
        exact ⟨⟨_, _, _, _, _, _, _, _, rfl⟩, B22.same s25, tabs_same s25 T22⟩
    · rintro σ H2 ⟨⟨v2, v3, v4, v5, v6, v7, v8, v9, rfl⟩, B2, T2⟩
      refine ⟨(by show 11 ≤ sizeLine; decide), fun p1 hp1 => ?_⟩
      have s3 := same_upd (o := HO.lst [V.str "", V.str "in", V.str "in ", V.str "in  -", V.str "near 0", V.str "near 0 8", V.str "near 0 1 ", V.str "parts", V.str "parts -", V.str "parts 1", V.str "parts 0|0"]) hp1
      have h3 : (upd H2 p1 (.lst [V.str "", V.str "in", V.str "in ", V.str "in  -", V.str "near 0", V.str "near 0 8", V.str "near 0 1 ", V.str "parts", V.str "parts -", V.str "parts 1", V.str "parts 0|0"])) p1 = some (.lst [V.str "", V.str "in", V.str "in ", V.str "in  -", V.str "near 0", V.str "near 0 8", V.str "near 0 1 ", V.str "parts", V.str "parts -", V.str "parts 1", V.str "parts 0|0"]) := upd_same
      generalize upd H2 p1 (.lst [V.str "", V.str "in", V.str "in ", V.str "in  -", V.str "near 0", V.str "near 0 8", V.str "near 0 1 ", V.str "parts", V.str "parts -", V.str "parts 1", V.str "parts 0|0"]) = H3 at s3 h3
      refine ⟨_, rfl, (by show 4 ≤ sizeLine; decide), fun p2 hp2 => ?_⟩
      have s4 := same_upd (o := HO.lst [V.str "In 0", V.str "in 1,0", V.str "in 0,0", V.str "near 00 1"]) hp2
      have h4 : (upd H3 p2 (.lst [V.str "In 0", V.str "in 1,0", V.str "in 0,0", V.str "near 00 1"])) p2 = some (.lst [V.str "In 0", V.str "in 1,0", V.str "in 0,0", V.str "near 00 1"]) := upd_same
      have h34 := s4 _ _ h3
      generalize upd H3 p2 (.lst [V.str "In 0", V.str "in 1,0", V.str "in 0,0", V.str "near 00 1"]) = H4 at s4 h4 h34
      refine ⟨p1, p2, _, _, rfl, rfl, h34, h4, (by show 15 ≤ sizeLine; decide), fun ol hol => ?_⟩
      have s5 := same_upd (o := HO.lst ([V.str "", V.str "in", V.str "in ", V.str "in  -", V.str "near 0", V.str "near 0 8", V.str "near 0 1 ", V.str "parts", V.str "parts -", V.str "parts 1", V.str "parts 0|0"] ++ [V.str "In 0", V.str "in 1,0", V.str "in 0,0", V.str "near 00 1"])) hol
      have h5 : (upd H4 ol (.lst ([V.str "", V.str "in", V.str "in ", V.str "in  -", V.str "near 0", V.str "near 0 8", V.str "near 0 1 ", V.str "parts", V.str "parts -", V.str "parts 1", V.str "parts 0|0"] ++ [V.str "In 0", V.str "in 1,0", V.str "in 0,0", V.str "near 00 1"]))) ol = some (.lst odds) := upd_same
      have s25 := s3.trans (s4.trans s5)
      have B5 := B2.same s25
      have T5 := tabs_same s25 T2
      generalize upd H4 ol (.lst ([V.str "", V.str "in", V.str "in ", V.str "in  -", V.str "near 0", V.str "near 0 8", V.str "near 0 1 ", V.str "parts", V.str "parts -", V.str "parts 1", V.str "parts 0|0"] ++ [V.str "In 0", V.str "in 1,0", V.str "in 0,0", V.str "near 00 1"])) = H5 at h5 B5 T5
      have XS := T.x_BadText
      refine ⟨_, rfl, ol, rfl, ⟨_, SqL.of h5⟩, fun D hD => ?_⟩
      refine lc_extT (walk_list (K := K) (a := ol) (xs := odds)) (fun _ v _ => v = .bl true) (show 15 ≤ 100000 by decide) hD T5 (fun _ _ _ _ e _ => e) (fun G1 e1 => SqL.of (ext_lst e1 h5)) ?_ ?_
      · rintro i x G1 G1' Nx hi e1 T6 ⟨rfl, hx⟩ k
        obtain ⟨tx, rfl, ltx, bz⟩ := odds_at hx
        refine ⟨rfl, T6, fun G2 c' e2 T7 hc G3 E' Q' s6 hE => ⟨s6 _ _ hc, _, rfl, .inr ⟨tx, c, rfl, ltx, ((B5.ext (e1.trans e2)).same s6).lst, bz, fun dd G4 hd s7 => hE _ _ _ ⟨"BadText", dd, _, .int 0, rfl, rfl, by decide, ⟨rfl, XS.ec, XS.no _ (by decide), fun f hf => XS.no f hf, XS.kit, hd⟩, XS.exm, rfl, rfl, fun G5 s8 G6 tr htr s9 => ⟨(by show 2 ≤ sizeLine; decide), fun o ho => ?_⟩⟩⟩⟩⟩
        have s10 := same_upd (o := HO.tup [V.str "BadText", V.int 0]) ho
        refine ⟨_, _, rfl, .inr ⟨tr, o, _, _, rfl, rfl, .inr ⟨.inl (s10 _ _ htr), .inl upd_same⟩, rfl, (by show 2 ≤ 1000; decide), fun q u v e1 e2 => ?_⟩, fun G7 s11 => ?_⟩
        · match q, e1, e2 with
          | 0, rfl, rfl => exact .inl ⟨rfl, .inr (.inr (.inr ⟨_, rfl⟩))⟩
          | 1, rfl, rfl => exact .inl ⟨rfl, .inl ⟨_, rfl⟩⟩
        have sAll := s6.trans (s7.trans (s8.trans (s9.trans (s10.trans s11))))
        exact k _ _ rfl (e2.trans (LamX.ExtN.of sAll)) (tabs_same sAll T7)
      · intro G1 ys hys lys rys e1 T6
        have ey : ys = (List.replicate 15 true).map V.bl := by
          rw [List.map_replicate]
          refine List.eq_replicate_iff.mpr ⟨lys, fun y hy => ?_⟩
          obtain ⟨k, hk⟩ := List.getElem?_of_mem hy
          exact rys k y hk
        rw [ey] at hys
        exact ⟨D, _, rfl, SqL.of hys, h G1⟩
end
end RL
namespace RL
open PySem PySem.Spec PyProof.Rows L2
theorem law_facts {P : Program} {w : World} {K : PySem.W.Frag} {h : Heap} {mg : Str → Option Value} {f : Addr} (X : K.In h) (G : h.Ns mainGlobals mg) (hfa : mg ("law" : Str) = some (.ref f)) (c : RLX.SaysLT fa fn tf exF tsD w h K) :
    ∃ fd : FuncData, (∀ (s : Shared) (v : Value), BindsTo s fd ⟨[v], []⟩ [("_law_script", v)]) ∧ ∀ base : Heap, K.In base → base.Ns mainGlobals mg → (∀ p ∈ [He.cT K ("law", none)], LamX.TabB base mg p.1 p.2) → FnOk P w K mg base CX0 11 f fd ["_law_script"] (spLaw K) := by
  have T : Tx K mg := ⟨c.d, fun x z => He.glo_ok X G z, fun x z => He.free_ok X G z, fun x i z => He.int_ok X G z, c.more⟩
  haveI D : Figs K w := ⟨c.tab 0⟩
  obtain ⟨fd, F⟩ := T.d_law
  have e := hfa.symm.trans T.glo_law
  cases e
  have b := FunD.bindsA (ps := ["_law_script"]) F fun _ _ _ _ _ _ us hl => match us, hl with | [_], _ => rfl
  exact ⟨fd, fun s v => b s [v] rfl, fun base _ _ tb => ok_law T (tb _ List.mem_cons_self) F⟩
end RL
open PySem PySem.W PySem.Calls PyProof.Rows
theorem PySem.Challenge.cw_roamlook_k09_looks_written_and_read_holds : PySem.Challenge.rw_roamlook_k09_looks_written_and_read.Holds := by
  w_on; o_law
  refine HandSHeadRun.head_any (r := OpenLaw.row PySem.Challenge.rw_roamlook_k09_looks_written_and_read) (q := view (OpenLaw.row PySem.Challenge.rw_roamlook_k09_looks_written_and_read).prog [78]) (H := RL.hkD) (ob := RL.obD) (M := 14000) (loose := RL.loose) (d := HandSHeadRun.topDef (OpenLaw.row PySem.Challenge.rw_roamlook_k09_looks_written_and_read).prog 78) (kwd := []) RL.obD_eq
    (by kernel_rfl) (fun s => by kernel_rfl) RL.run (by kernel_rfl) (by kernel_rfl) (by kernel_rfl) (by rfl) (by first | assumption | decide +kernel) (by decide +kernel) ⟨rfl, rfl, rfl, rfl, rfl, by decide +kernel⟩ ?hw ?hc
  case hw => w_witness2
  case hc =>
    refine LamX.walk_ofTsE (l := PySem.Challenge.rw_roamlook_k09_looks_written_and_read) (n := 63) (k := 11) (x := "_law_script") (CX := fun _ => L2.CX0) rfl (by decide) (by kernel_rfl) ⟨rfl, by decide, by decide⟩ ?F (fun _ _ _ _ _ z => z)
    intro w mg fa h Y G hmg0
    obtain ⟨K, KX, c⟩ := Y
    have hmg : mg ("law" : PySem.Str) = some (.ref fa) := by
      have e : (HandSHeadRun.topDef (OpenLaw.row PySem.Challenge.rw_roamlook_k09_looks_written_and_read).prog 78).name = ("law" : PySem.Str) := by kernel_rfl
      rw [← e]
      exact hmg0
    obtain ⟨fd, hb, hF⟩ := RL.law_facts (P := (PySem.Challenge.rw_roamlook_k09_looks_written_and_read).prog) (w := w) KX G hmg c
    have one : ∀ {p : Addr × Addr}, p ∈ [He.cT K ("law", none)] → p = He.cT K ("law", none) := fun hp => by simpa using hp
    have mem : (("law", none) : He.Defn) ∈ RL.tf := by decide
    exact ⟨K, KX, fd, [He.cT K ("law", none)], RL.spLaw K, fun p hp => by rw [one hp]; exact c.empty _ mem, fun p hp => by rw [one hp]; exact c.out _ mem, fun p hp => by rw [one hp]; exact PySem.W.codeHd_of_K KX (c.hd _ mem), hb, fun H a ns hl _ hT hS => ⟨a, ns, rfl, hS, hl, hT _ List.mem_cons_self, fun _ => rfl⟩, hF⟩
