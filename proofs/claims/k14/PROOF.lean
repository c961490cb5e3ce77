import PyProof.Rows.All
import Wide.All
import OpenK.AllK
import Wide.FinOn
import HandS.ForMost
import HandS.TupMul
import HandS.TupAny
import HandS.TupSets
import HandS.DictTup
import HandS.DictComp
import HandS.Conv
import HandS.Style
import HandS.IsInst
import HandS.Wide
import HandS.SortInts
import HandS.SortRule
import HandS.Zip
import HandS.TupLen
import HandS.Deep
import HandS.Evl
import KE.KSortTupG
import KE.KSortTupUse
import KE.KDictDisplayH
import KE.KDictCopyH
import KE.KDictZip
import KE.KDictSum
import PyProof.Rows.StrMeet
import PySem.Challenge.RW_asmany_k14_whole_shares_of_sums_of_ways
set_option Elab.async false
set_option linter.all false
set_option maxRecDepth 100000
/-! VRules -/
namespace Vf
open PySem PySem.Spec PyProof.Rows L2

/-! text * int -/
def rRepS : R2 := fun x y H Q => ∃ z k, x = .str z ∧ y = .int k ∧ 0 ≤ k ∧ k ≤ 1000 ∧ z.length ≤ 1000 ∧ Q (.str (Txt.mul z k)) H
theorem mulOk_small {z : Str} {k : Int} (h0 : 0 ≤ k) (h1 : k ≤ 1000) (hz : z.length ≤ 1000) : MulOk z k := by
  refine ⟨?_, fun h _ => ?_, fun h _ => ?_⟩
  · rw [decide_eq_false (by omega), decide_eq_false (by omega)]
    rfl
  · have h2 : (9000000000000000 : Int) ≤ (2 ^ 63 - 1) / k := by
      refine Int.le_ediv_of_mul_le (by omega) ?_
      have : (9000000000000000 : Int) * k ≤ 9000000000000000 * 1000 := Int.mul_le_mul_of_nonneg_left h1 (by omega)
      omega
    omega
  · unfold PySem.Builtin.Str.tooLong
    have : z.length * k.toNat ≤ 1000 * 1000 := Nat.mul_le_mul hz (by omega)
    first
      | exact decide_eq_false (by rw [sizeLine_eq]; omega)
      | (simp only [sizeLine_eq, decide_eq_false_iff_not]; omega)
      | (rw [decide_eq_false]; omega)
theorem op_repS {X : Cx} : OpR X (binaryOp .Mult) rRepS := by
  intro pins s σ H x y v u Q I rx ry h
  obtain ⟨z, k, rfl, rfl, h0, h1, hz, q⟩ := h
  obtain ⟨t, rfl⟩ := rx
  obtain ⟨t', rfl⟩ := ry
  exact SB.mul (mulOk_small h0 h1 hz) fun t' tk => ⟨.str (Txt.mul z k), H, I.tok _, ⟨_, rfl⟩, q⟩

/-! tuple * int, the int from 1 on -/
theorem tuple_mul1 (l : Addr) (items : Array Value) (n : Nat) (sl : Array (Option Value)) (dd : Option Addr) (x : Int) (u : Tok) (c0 : (decide (x < -(2 ^ 63)) || decide (x ≥ 2 ^ 63)) = false) (c1 : (items.isEmpty || x == 1) = true) :
    Meets (Builtin.«tuple.__mul__» ⟨[.ref l, .int x u], []⟩) (fun _ R s => s.heap.get? l = some { cls := .type "tuple", dict := dd, data := .seq items n, slots := sl } ∧
      R (.ok (.ret (Value.ref l))) s) :=
  .of_wp fun prog w A R s h => by
    obtain ⟨hp, g, d, tk, os⟩ := s
    obtain ⟨hl, h⟩ := h
    have f1 := AutoSeq1.idx_int
    wp_walk using wpAny_loadPart' hl
    repeat (first
      | (refine wpAny_ite_false (decide_eq_false (by rw [c0]; exact Bool.false_ne_true)) ?_; wp_walk using wpAny_loadPart' hl)
      | (refine wpAny_ite_true (decide_eq_true (by rw [c1])) ?_; wp_walk using wpAny_loadPart' hl))
    all_goals exact ⟨_, rfl, h⟩
end Vf
/-! VRules2 -/
namespace Vf
open PySem PySem.Spec PyProof.Rows PyProof.Rows.G L2

/-! sorted(a list of tuples of ints), of any length: some arrangement -/
def rSortTT (K : PySem.W.Frag) : List V → Hp → VK → Prop := fun vs H Q => ∃ (a : Addr) (xs : List V), vs = [V.ref a] ∧ SqL K H a xs ∧
  (∀ x ∈ xs, ∃ (t : Addr) (ns : List Int), x = V.ref t ∧ H t = some (.tup (ns.map V.int)) ∧ ns ≠ []) ∧
  ∀ (ys : List V) (p : Addr), ys.Perm xs → H p = none → Q (.ref p) (upd H p (.lst ys))
def flatShape : Nat → Bool := fun _ => false
theorem tupItems_ints : ∀ (ns : List Int) (us : List Value) (i : Nat), Vals (ns.map V.int) us → tupItems flatShape i us = some (ns.map Sum.inl)
  | [], us, i, r => by
    cases r
    rfl
  | n :: ns, us, i, r => by
    rw [List.map_cons] at r
    cases r with
    | @cons _ u _ us' h t =>
      obtain ⟨tk, rfl⟩ := h
      have ih := tupItems_ints ns us' (i + 1) t
      show (if flatShape i = true then none else (tupItems flatShape (i + 1) us').map (Sum.inl n :: ·)) = _
      rw [ih]
      rfl
theorem firsts_ints {P : Program} {w : World} {H : Hp} {h : Heap} (ok : HOk P w H h) : ∀ (us : List Value), (∀ u ∈ us, ∃ (t : Addr) (ns : List Int), u = Value.ref t ∧ H t = some (.tup (ns.map V.int)) ∧ ns ≠ []) →
    (∃ fs, TupsOf h flatShape us fs) ∧ ∀ v ∈ us, ∃ l, tupKeyC h flatShape v = some l
  | [], _ => ⟨⟨[], .nil⟩, fun v hv => absurd hv List.not_mem_nil⟩
  | u :: us, hu => by
    obtain ⟨⟨fs, tf⟩, hk⟩ := firsts_ints ok us fun v hv => hu v (List.mem_cons_of_mem _ hv)
    obtain ⟨t, ns, rfl, ht, hne⟩ := hu u List.mem_cons_self
    obtain ⟨_, its, r, o, ho, hc, n, hd⟩ := ok _ _ ht
    obtain ⟨m, ms, rfl⟩ : ∃ m ms, ns = m :: ms := by
      cases ns with
      | nil => exact absurd rfl hne
      | cons m ms => exact ⟨m, ms, rfl⟩
    have r0 := r
    rw [List.map_cons] at r
    cases r with
    | @cons _ f _ its' h1 h2 =>
      obtain ⟨tk, rfl⟩ := h1
      have hi := tupItems_ints (m :: ms) _ 0 r0
      refine ⟨⟨Value.int m tk :: fs, .cons ⟨t, o, _, n, rfl, ho, hc, hd, rfl, fun _ => ⟨m, tk, rfl⟩, fun z => nomatch z⟩ tf⟩, fun v hv => ?_⟩
      rcases List.mem_cons.mp hv with e | hv
      · subst e
        exact ⟨_, tupKeyC_of ho hc hd hi⟩
      · exact hk v hv
theorem zip_snd {α : Type} : ∀ l : List α, (l.zip l).map (fun x : α × α => x.2) = l
  | [] => rfl
  | a :: l => by
    rw [List.zip_cons_cons, List.map_cons, zip_snd l]
theorem cr_sortTT {X : Cx} : CallR X (.builtin "sorted") (rSortTT X.K) := by
  intro pins s σ H vs us Q I r h
  obtain ⟨a, xs, rfl, hs, hx, q⟩ := h
  obtain ⟨its, rv, hl, hz⟩ := I.list hs
  obtain ⟨u, rfl, ru⟩ := vals1 r
  obtain rfl : u = Value.ref a := ru
  obtain ⟨e1, e2⟩ := refs_back rv fun x m => by
    obtain ⟨t, _, e, _⟩ := hx x m
    exact ⟨t, e⟩
  have hu : ∀ u ∈ its, ∃ (t : Addr) (ns : List Int), u = Value.ref t ∧ H t = some (.tup (ns.map V.int)) ∧ ns ≠ [] := fun v hv => by
    obtain ⟨t, rfl⟩ := e2 v hv
    have hm : V.ref t ∈ xs := by rw [e1]; exact List.mem_map.mpr ⟨_, hv, rfl⟩
    obtain ⟨t', ns, e, ht, hn⟩ := hx _ hm
    cases e
    exact ⟨t, ns, rfl, ht, hn⟩
  obtain ⟨⟨fs, tf⟩, hk⟩ := firsts_ints I.hok its hu
  refine sorted_tups (shape := flatShape) hl.isList tf hk (by rw [← rv.length]; exact hz) fun st' hp _ _ => ?_
  have hpl : ((arrOf st').map (·.2)).toList.Perm its := by
    have q1 : (arrOf st').toList.Perm (its.zip its) := by rw [← pairsOf_toList]; exact Array.perm_iff_toList_perm.mp hp
    have q2 := q1.map (fun x : Value × Value => x.2)
    rw [zip_snd its] at q2
    rw [Array.toList_map]
    exact q2
  have h3 : ∀ u ∈ ((arrOf st').map (·.2)).toList, ∃ a, u = Value.ref a := fun u hm => e2 u (hpl.mem_iff.mp hm)
  obtain ⟨n, hn⟩ := PyProof.Rows.sortedAll_at s.heap its ((arrOf st').map (·.2))
  have hd : s.heap.objs.size ≤ s.heap.objs.size + 1 := Nat.le_succ _
  refine ⟨.ref (s.heap.objs.size + 1), upd H (s.heap.objs.size + 1) (.lst (((arrOf st').map (·.2)).toList.map backV)), I.laid (t' := s.toks) (fun b o e => PyProof.Rows.sortedAll_old e) hd ⟨?_, _, n, vals_back h3, hn⟩, rfl, q _ _ ?_ (I.hok.fresh hd)⟩
  · rw [List.length_map, hpl.length_eq, ← rv.length]; exact hz
  · rw [e1]; exact hpl.map backV
end Vf
/-! VRules3 -/
namespace Vf
open PySem PySem.Spec PyProof.Rows PySem.W L2

/-! tuple(d), d a dict with ints and texts as keys -/
section
variable {prog : Program} {w : World} {A : Around} {E : Value → Shared → Prop} {s : Shared} {T : String} {r d : Addr} {n : Nat} {P : Nat → Value → Prop} {OK : Heap → Prop}
theorem tupleNew_src {Qn : Value → Shared → Prop} (S : KdlSrc prog w T r d n P OK) (hA : A.handled = none) (ok : OK s.heap) (hn : n ≤ sizeLine)
    (h : ∀ (h' : Heap) (tk : Nat) (acc : Array Value), (∀ (b : Addr) (o : Obj), s.heap.get? b = some o → h'.get? b = some o) → ItemsOf P acc n →
      Qn (.ref h'.objs.size) { s with heap := h'.push { cls := .type "tuple", data := .seq acc }, toks := tk }) :
    codeAny (model prog w) A (.call (.builtin "tuple.__new__") ⟨[.type "tuple", .ref r], []⟩) (wants Qn E) s := by
  refine codeAny_of_tree ?_
  show wpAny _ A.in1 (checkBuiltinCall "tuple.__new__" ⟨[.type "tuple", .ref r], []⟩ >>= fun _ => again (.builtin "tuple.__new__" ⟨[.type "tuple", .ref r], []⟩)) _ _ s
  refine wpAny_bind (wpAny_of_eq (PySem.F.newCall_tuple_1 _) (wpAny_pure ⟨plainId_quiet PySem.F.plain_tuple_new _, codeAny_builtin PySem.F.entry_tuple_new ?_⟩))
  rw [Around.under_plainId PySem.F.plain_tuple_new _]
  have g1 := sub_tuple_self
  have g2 := init_tuple_lookup
  have g3 := madeHere_tuple
  have g4 : s.TypeIs (.ref r) T := S.type s ok
  have nl := S.notList
  have nt := S.notTuple
  have g5 : A.in1.handled = none := hA
  wp_walk using wpAny_typeOf g4, kdu_collect (A := A.in1) S g5 ok hn
  intro h' tk acc hk hacc
  show wpAny _ _ (Builtin.Tuple.tupleExact acc.toList.toArray >>= fun v => ret v) _ _ _
  unfold Builtin.Tuple.tupleExact
  refine wpAny_bind (wpAny_newObj_type ?_ (by
    show acc.toList.toArray.size ≤ sizeLine
    rw [Array.toArray_toList, hacc.1]
    exact hn))
  refine wpAny_pure ?_
  rw [Array.toArray_toList]
  exact h h' tk acc hk hacc
theorem call_tuple_src {Q : Value → Shared → Prop} (S : KdlSrc prog w T r d n P OK) (hA : A.handled = none) (ok : OK s.heap) (hn : n ≤ sizeLine)
    (h : ∀ (h' : Heap) (tk : Nat) (acc : Array Value), (∀ (b : Addr) (o : Obj), s.heap.get? b = some o → h'.get? b = some o) → ItemsOf P acc n →
      Q (.ref h'.objs.size) { s with heap := h'.push { cls := .type "tuple", data := .seq acc }, toks := tk }) :
    wpAny (model prog w) A (call (.type "tuple") [.ref r]) Q E s := by
  refine callType_codes (Q₁ := fun obj s₁ => s₁.TypeIs obj "tuple" ∧ Q obj s₁) PySem.F.called_tuple (PySem.F.typeCall_tuple_1 _) PySem.F.entry_object_init
    (tupleNew_src (A := A.in1) S hA ok hn fun h' tk acc hk hacc => ⟨⟨_, Heap.get?_push_size _ rfl, rfl⟩, h h' tk acc hk hacc⟩) fun obj s₁ h₁ => ?_
  refine ⟨h₁.1, PySem.F.args_object_init_2 obj _, ?_⟩
  exact object_init_meets PySem.F.called_tuple.init.lookup PySem.F.called_tuple.made (by decide) prog w A.in1 _ s₁ ⟨h₁.1, rfl, h₁.2⟩
end
def rTupD : List V → Hp → VK → Prop := fun xs H Q => ∃ (p : Addr) (kvs : List (Key × V)), xs = [.ref p] ∧ H p = some (.dK kvs) ∧ ∀ q, H q = none → Q (.ref q) (upd H q (.tup (kvs.map fun kv => kV kv.1)))
theorem call_tuple_dK {X : Cx} (hc : X.calm = true) : CallR X (.type "tuple") rTupD := by
  intro pins s σ H xs us Q I r h
  obtain ⟨p, kvs, rfl, hk, q⟩ := h
  obtain ⟨u, rfl, rx⟩ := vals1 r
  obtain rfl : u = Value.ref p := rx
  obtain ⟨z, lo, vs, rk, hd⟩ := (show ObjOk X.prog X.w H s.heap p (.dK kvs) from I.hok p _ hk)
  obtain ⟨ep, hat⟩ := hd.dictAt
  have hl : kvs.length = vs.length := Paired.length rk
  refine call_tuple_src (kdl_dict (knd := mixKind X.prog X.w) (kvs := vs) (ep := ep) lo) (I.ok.hd hc) hat (by rw [← hl]; exact z) fun h' tk acc hk' hacc => ?_
  have I2 : Inv X pins σ H { s with heap := h', toks := tk } := I.kept hk'
  refine ⟨.ref h'.objs.size, upd H h'.objs.size (.tup (kvs.map fun kv => kV kv.1)), I2.laid (t' := tk) (fun b o e => Heap.get?_push_of_some _ e) (Nat.le_refl _) ?_, rfl, q _ (I2.hok.fresh (Nat.le_refl _))⟩
  refine ⟨by rw [List.length_map]; exact z, acc.toList, ?_, by rw [Array.toArray_toList]; exact IsTup.new _ _⟩
  have el : acc.toList.length = acc.size := Array.length_toList
  refine vals_of_at (by rw [List.length_map, el, hacc.1, hl]) fun j x y h1 h2 => ?_
  obtain ⟨k, z, hky, hi⟩ := hacc.2 j y (by rw [← Array.getElem?_toList]; exact h2)
  have e1 : (kvs.map (·.1))[j]? = some k := by
    rw [KV.keys rk, List.getElem?_map, hky]
    rfl
  have e2 : (kvs.map fun kv => kV kv.1)[j]? = some (kV k) := by
    rw [show (kvs.map fun kv => kV kv.1) = (kvs.map (·.1)).map kV by rw [List.map_map]; rfl, List.getElem?_map, e1]
    rfl
  rw [e2] at h1
  cases h1
  exact keyIs_rel hi
end Vf
/-! VRules4 -/
namespace Vf
open PySem PySem.Spec PyProof.Rows L2

/-! dicts whose keys are tuples: one put into another one; displays -/
def mergeT (kvs more : List (List Key × V)) : List (List Key × V) := more.foldl (fun acc kv => putK acc kv.1 kv.2) kvs
theorem mergeT_len : ∀ (more kvs : List (List Key × V)), (mergeT kvs more).length ≤ kvs.length + more.length
  | [], kvs => by
    show kvs.length ≤ kvs.length + 0
    omega
  | p :: r, kvs => by
    have h1 := mergeT_len r (putK kvs p.1 p.2)
    have h2 := length_putK kvs p.1 p.2
    show (mergeT (putK kvs p.1 p.2) r).length ≤ _
    rw [List.length_cons]
    omega
theorem KT.merge {H : Hp} : ∀ {more : List (List Key × V)} {ms : List (List Key × Addr × Value)} {kvs : List (List Key × V)} {xs : List (List Key × Addr × Value)}, KT H more ms → KT H kvs xs → KT H (mergeT kvs more) (storedAllH xs ms) := by
  intro more ms kvs xs r
  induction r generalizing kvs xs with
  | nil => exact id
  | @cons p q ps qs h t ih =>
    intro r0
    obtain ⟨h1, h2, h3⟩ := h
    have e : KT H (putK kvs p.1 p.2) (storedH xs q.1 q.2.1 q.2.2) := by
      rw [← h1]
      exact r0.put p.1 h2 h3
    exact ih e
theorem obj_dT {P : Program} {w : World} {H' : Hp} {h' : Heap} {a : Addr} {kvs : List (List Key × V)} {xs : List (List Key × Addr × Value)} (z : kvs.length ≤ sizeLine) (hd : (a == sysModules) = false) (r : KT H' kvs xs)
    (dd : h'.DictOfH (tupleKind (mixKind P w)) a xs) : ObjOk P w H' h' a (.dT kvs) := by
  obtain ⟨o, es, ep, e1, e2, e3, e4, _, e5⟩ := dd
  exact ⟨z, hd, xs, r, o, es, ep, e1, e2, e3, e4, e5⟩
def rUpdT : V → List V → Hp → VK → Prop := fun x xs H Q => ∃ (a b : Addr) (kvs more : List (List Key × V)), x = .ref a ∧ xs = [.ref b] ∧ H a = some (.dT kvs) ∧ H b = some (.dT more) ∧ a ≠ b ∧ kvs ≠ [] ∧
  kvs.length + more.length ≤ sizeLine ∧ Q .non (upd H a (.dT (mergeT kvs more)))
theorem mt_updT {X : Cx} (hu : X.A.units + 1 < cLine) : MtR X "dict.update" rUpdT := by
  intro pins s σ H x xs v us Q I rx r h
  obtain ⟨a, b, kvs, more, rfl, rfl, ha, hb, hab, hne, hz, q⟩ := h
  obtain rfl : v = Value.ref a := rx
  obtain ⟨u, rfl, ru⟩ := vals1 r
  obtain rfl : u = Value.ref b := ru
  obtain ⟨z1, l1, xs1, r1, d1⟩ := dt_of I.hok ha
  obtain ⟨z2, l2, xs2, r2, d2⟩ := dt_of I.hok hb
  have n1 := Paired.length r1
  have n2 := Paired.length r2
  have hne' : xs1 ≠ [] := fun e => hne (List.length_eq_zero_iff.mp (by rw [n1, e]; rfl))
  refine call_update_dictH (tupleKind_room_in1 hu) hab l2 d1 d2 (.inl hne') (by rw [← n1, ← n2]; exact hz) fun h' d1' d2' hs => ?_
  have hl : (mergeT kvs more).length ≤ sizeLine := Nat.le_trans (mergeT_len more kvs) hz
  have ex : ∃ q, h'.get? a = some q := let ⟨o, _, _, ho, _⟩ := d1'; ⟨o, ho⟩
  refine ⟨.non, _, d_write (t' := s.toks) I (by rw [ha]; exact True.intro) hs ex (obj_dT hl l1 ?_ d1'), rfl, q⟩
  refine (KT.merge r2 r1).keeps fun c ys ec => ?_
  rw [upd_ne (ne_of ec ha (fun z => nomatch z))]
  exact ec
theorem tyV_dT {K : PySem.W.Frag} {H : Hp} {a : Addr} {kvs : List (List Key × V)} (h : H a = some (.dT kvs)) : tyV K "dict" (.ref a) H := .inr (.inr (.inl ⟨rfl, .inr ⟨kvs, h⟩⟩))

/-! {k: v}, k a tuple of ints and texts -/
def tDisp1T (tk tv : TE) : TE := fun σ H Q => ∀ p, H p = none → tk σ (upd H p (.dT [])) fun x H1 => tv σ H1 fun y H2 => H2 p = some (.dT []) ∧ ∃ (a : Addr) (k : List Key), x = .ref a ∧ H2 a = some (.tup (k.map kV)) ∧ Q (.ref p) (upd H2 p (.dT [(k, y)]))
def endT (Q : VK) (p : Addr) : List (V × V) → Hp → Prop
  | [(x, y)], H2 => H2 p = some (.dT []) ∧ ∃ (a : Addr) (k : List Key), x = .ref a ∧ H2 a = some (.tup (k.map kV)) ∧ Q (.ref p) (upd H2 p (.dT [(k, y)]))
  | _, _ => False
theorem endT_at {Q : VK} {p : Addr} : ∀ {ps : List (V × V)} {H2 : Hp}, endT Q p ps H2 → ∃ x y, ps = [(x, y)] ∧ H2 p = some (.dT []) ∧ ∃ (a : Addr) (k : List Key), x = .ref a ∧ H2 a = some (.tup (k.map kV)) ∧ Q (.ref p) (upd H2 p (.dT [(k, y)]))
  | [(x, y)], H2, h => ⟨x, y, rfl, h⟩
  | [], _, h => h.elim
  | _ :: _ :: _, _, h => h.elim
theorem obj_dT_new {P : Program} {w : World} {H' : Hp} {h : Heap} (big : sysModules < h.objs.size) : ObjOk P w H' (h.push { cls := .type "dict", data := .dict #[] }) h.objs.size (.dT []) := by
  refine obj_dT (xs := []) (Nat.zero_le _) ?_ .nil (Heap.DictOfH.new h)
  exact beq_eq_false_iff_ne.mpr (Nat.ne_of_gt big)
theorem pe_disp1T {X : Cx} {k v : Expr} {pos : Pos} {tk tv : TE} (hu : X.A.units + 1 < cLine) (hk : PE X k tk) (hv : PE X v tv) : PE X (.Dict [some k] [v] pos) (tDisp1T tk tv) := by
  refine ⟨fun pins s σ H Q I q => ?_⟩
  have hn := I.hok.fresh (Nat.le_refl s.heap.objs.size)
  have I1 := I.laid (a := s.heap.objs.size) (o := .dT []) (h' := s.heap.push { cls := .type "dict", data := .dict #[] }) (t' := s.toks) (fun _ _ q => Heap.get?_push_of_some _ q) (Nat.le_refl _) (obj_dT_new I.big)
  have hp := PPs.run (pps_cons (pos := pos) hk hv pps_nil) pins _ σ _ (endT Q s.heap.objs.size) I1 ?_
  · have hlen : (pairTrees [some k] [v] X.env pos).length ≤ 15 := show 1 ≤ 15 by decide
    rw [arm_eval_Dict, show (evalEachOpt [some k] X.env).zip ((evalEach [v] X.env).map fun v => do let x ← v; standAt pos; pure x) = (pairTrees [some k] [v] X.env pos).map fun p => (some p.1, p.2) from rfl,
      dictDisplay_pairs (pairTrees [some k] [v] X.env pos) (fun z => by cases z) (show 1 < 17 by decide)]
    refine wpAny_bind (wpAny_standAt (wpAny_bind (wpAny_subDictH (knd := tupleKind (mixKind X.prog X.w)) (Q := fun d s' => wpAny (model X.prog X.w) X.A (pure (Value.ref d)) (EP X pins σ Q) X.xe s') (show X.A.units < cLine by omega) hlen (thn hp fun ws s2 hq => ?_))))
    obtain ⟨ps, H2, I2, rel, qe⟩ := hq
    obtain ⟨x, y, rfl, e, a, kk, rfl, ea, q2⟩ := endT_at qe
    obtain ⟨z0, l0, xs0, r0, d0⟩ := dt_of I2.hok e
    cases r0
    cases rel with
    | @cons _ wp _ ws' hw ht =>
      cases ht
      obtain ⟨w1, w2⟩ := wp
      obtain ⟨hw1, hw2⟩ := hw
      obtain rfl : w1 = Value.ref a := hw1
      refine ⟨[(kk, a, w2)], ⟨rfl, rfl, key_of I2.hok ea, trivial⟩, d0, fun h' tk' dk hs => wpAny_pure ?_⟩
      have dk' : h'.DictOfH (tupleKind (mixKind X.prog X.w)) s.heap.objs.size [(kk, a, w2)] := dk
      have ex : ∃ q, h'.get? s.heap.objs.size = some q := let ⟨o, _, _, ho, _⟩ := dk'; ⟨o, ho⟩
      refine ⟨.ref s.heap.objs.size, _, d_write (t' := tk') I2 (by rw [e]; exact True.intro) hs ex (obj_dT (kvs := [(kk, y)]) (show 1 ≤ sizeLine by decide) l0 ?_ dk'), rfl, q2⟩
      refine .cons ⟨rfl, ?_, hw2⟩ .nil
      rw [upd_ne (ne_of ea e (fun z => nomatch z))]
      exact ea
  · exact q _ hn

/-! f(k = v, ..): a def called by keywords alone -/
def tCallK0 (sp : Sp) (gV : List V → List V → List V) (E : XK) (tk : TA) : TE := fun σ H Q => tk σ H fun zs H1 => sp (gV [] zs) H1 Q E
theorem pe_callK0 {X : Cx} {CX : CXT} {k : Nat} {f : Addr} {fd : FuncData} {ps ks : List Str} {sp : Sp} {E : XK} {x : Str} {p pos : Pos} {kws : List Keyword} {tk : TA} {g : List Value → List Value → List Value} {gV : List V → List V → List V}
    (F : FnOk X.prog X.w X.K X.mg X.base CX k f fd ps sp) (hr : Room k X.A) (hg : Gl X x) (hm : X.mg x = some (.ref f)) (hk : PySem.W.keepIn X.K (.ref f) = true) (hb : KBinds X.K fd ps ks g gV) (hx : Passes CX X E) (hkw : PK X kws tk)
    (hall : (backToKw pos (keywordEach kws X.env)).all (·.1.isSome) = true := by rfl) (hks : (backToKw pos (keywordEach kws X.env)).filterMap (·.1) = ks := by rfl) (hdb : (x == ("__debug__" : Str)) = false := by decide)
    (hpl : ((backTo pos (starEach [] X.env)).any (·.1) || (backToKw pos (keywordEach kws X.env)).any (·.1.isNone)) = false := by rfl) :
    PE X (.Call (.Name x p) [] kws pos) (tCallK0 sp gV E tk) := by
  refine ⟨fun pins s σ H Q I h => wpAny_Call_Name_kw (ld_glob I hg hm ?_ hdb)⟩
  refine PySem.W.callWith_KW0 (h₀ := X.base) I.ok.mod.kin hk hall (thn (hkw.run pos pins s σ H _ I h) fun ws s2 ⟨zs, H2, I2, rz, q2⟩ => ⟨I2.kIn, ?_⟩) hpl
  rw [hks]
  exact run_fnk (us := []) (vs := []) F hr hb hx I2 .nil rz q2
end Vf
/-! VZip -/
set_option maxHeartbeats 1000000
namespace Vf
open PySem
open PySem.Sem (wp)
/-! dict(zip(a, b)) of two tuples -/
section
variable {prog : Program} {w : World} {A : Around} {E : Value → Shared → Prop} {s : Shared}
theorem zt_item {z TI TO T i1 i2 l1 l2 : Addr} {f : Bool} {oT : Obj} {k1 k2 : Nat} {xs ys : Array Value} {x y : Value} {Q : Value → Shared → Prop} (D : ZipApart z TI TO i1 i2 l1 l2)
    (iz : IsZipHeld s.heap z TI TO T f) (iT : s.heap.get? T = some oT) (iTI : IsPair s.heap TI (.ref i1) (.ref i2))
    (t1 : s.heap.IsTupleIter i1 l1 k1) (t2 : s.heap.IsTupleIter i2 l2 k2) (s1 : s.heap.IsTuple l1 xs) (s2 : s.heap.IsTuple l2 ys) (ex : xs[k1]? = some x) (ey : ys[k2]? = some y)
    (q : ∀ h', IsZipHeld h' z TI TO T true → h'.IsTupleIter i1 l1 (k1 + 1) → h'.IsTupleIter i2 l2 (k2 + 1) → IsPair h' s.heap.objs.size x y → h'.objs.size = s.heap.objs.size + 1 →
      (∀ c o, c ≠ z → c ≠ i1 → c ≠ i2 → s.heap.get? c = some o → h'.get? c = some o) → Q (.ref s.heap.objs.size) { s with heap := h' }) :
    wpAny (model prog w) A (Builtin.«zip.__next__» ⟨[.ref z], []⟩) (fun fin s' => ∃ v, fin = .done (.ret v) ∧ Q v s') E s := by
  show wpAny _ _ (field (.ref z) 2 >>= _) _ _ _
  refine wpAny_bind (wpAny_field iz rfl (x := .bool false) rfl ?_)
  show wpAny _ _ (field (.ref z) 3 >>= _) _ _ _
  refine wpAny_bind (wpAny_field iz rfl (x := .ref TI) rfl ?_)
  refine wpAny_bind (wpAny_seqItems iTI rfl ?_)
  show wpAny _ _ (Builtin.SmallTypes.ownedTupleIsFree (.ref z) >>= _) _ _ _
  refine wpAny_bind (wpAny_tupleHeld_zip iz iT fun h₁ iz₁ b₁ => ?_)
  rw [if_neg Bool.false_ne_true]
  refine wpAny_bind ?_
  rw [← Array.forIn_toList]
  simp only [List.forIn_cons, List.forIn_nil]
  refine wpAny_bind (wpAny_bind (wpAny_holding ?_))
  show wpAny _ _ (Builtin.SmallTypes.nextOf (.ref i1) >>= _) _ _ _
  refine wpAny_bind (RZ.nextOf_tuple_item (s := { s with heap := h₁ }) (t1.extBut b₁.extBut D.i1z) (s1.extBut b₁.extBut D.l1z) ex fun h₂ t1₂ b₂ => wpAny_pure (wpAny_pure ?_))
  refine wpAny_bind (wpAny_bind (wpAny_holding ?_))
  show wpAny _ _ (Builtin.SmallTypes.nextOf (.ref i2) >>= _) _ _ _
  refine wpAny_bind (RZ.nextOf_tuple_item (s := { s with heap := h₂ }) ((t2.extBut b₁.extBut D.i2z).extBut b₂.extBut D.i12.symm) ((s2.extBut b₁.extBut D.l2z).extBut b₂.extBut D.l2i1) ey fun h₃ t2₃ b₃ => wpAny_pure (wpAny_pure (wpAny_pure ?_)))
  show wpAny _ _ (newTuple [x, y] >>= _) _ _ _
  refine wpAny_bind (wpAny_newTuple ?_)
  have sz : h₃.objs.size = s.heap.objs.size := by rw [b₃.1, b₂.1, b₁.1]
  have iz₃ : IsZipHeld h₃ z TI TO T true := b₃.extBut _ _ D.i2z.symm (b₂.extBut _ _ D.i1z.symm iz₁)
  have kk : ∀ c o, c ≠ z → c ≠ i1 → c ≠ i2 → s.heap.get? c = some o → h₃.get? c = some o := fun c o c1 c2 c3 e => b₃.extBut _ _ c3 (b₂.extBut _ _ c2 (b₁.extBut _ _ c1 e))
  have t1₃ : h₃.IsTupleIter i1 l1 (k1 + 1) := t1₂.extBut b₃.extBut D.i12
  refine wpAny_pure ⟨_, rfl, ?_⟩
  show Q (.ref h₃.objs.size) _
  have pr : IsPair (h₃.push { cls := .type "tuple", data := .seq #[x, y] }) h₃.objs.size x y := Heap.get?_push_size _ rfl
  have sz4 : (h₃.push { cls := .type "tuple", data := .seq #[x, y] }).objs.size = h₃.objs.size + 1 := Heap.size_push ..
  rw [sz] at pr sz4 ⊢
  refine q _ (Heap.get?_push_of_some _ iz₃) (t1₃.at fun o e => Heap.get?_push_of_some _ e) (t2₃.at fun o e => Heap.get?_push_of_some _ e) pr sz4 ?_
  intro c o c1 c2 c3 e
  exact Heap.get?_push_of_some _ (kk c o c1 c2 c3 e)
theorem zt_end {z TI TO T i1 i2 l1 l2 : Addr} {f : Bool} {oT : Obj} {k1 k2 : Nat} {xs ys : Array Value} {Q : Fin → Shared → Prop} (hA : A.handled = none) (D : ZipApart z TI TO i1 i2 l1 l2)
    (iz : IsZipHeld s.heap z TI TO T f) (iT : s.heap.get? T = some oT) (iTI : IsPair s.heap TI (.ref i1) (.ref i2))
    (t1 : s.heap.IsTupleIter i1 l1 k1) (t2 : s.heap.IsTupleIter i2 l2 k2) (s1 : s.heap.IsTuple l1 xs) (s2 : s.heap.IsTuple l2 ys) (over : xs[k1]? = none ∨ ys[k2]? = none)
    (q : ∀ h' e, (∀ c o, c ≠ z → c ≠ i1 → c ≠ i2 → s.heap.get? c = some o → h'.get? c = some o) → (∃ o, h'.get? e = some o ∧ o.cls = .type "StopIteration") → E (.ref e) { s with heap := h' }) :
    wpAny (model prog w) A (Builtin.«zip.__next__» ⟨[.ref z], []⟩) Q E s := by
  show wpAny _ _ (field (.ref z) 2 >>= _) _ _ _
  refine wpAny_bind (wpAny_field iz rfl (x := .bool false) rfl ?_)
  show wpAny _ _ (field (.ref z) 3 >>= _) _ _ _
  refine wpAny_bind (wpAny_field iz rfl (x := .ref TI) rfl ?_)
  refine wpAny_bind (wpAny_seqItems iTI rfl ?_)
  show wpAny _ _ (Builtin.SmallTypes.ownedTupleIsFree (.ref z) >>= _) _ _ _
  refine wpAny_bind (wpAny_tupleHeld_zip iz iT fun h₁ iz₁ b₁ => ?_)
  rw [if_neg Bool.false_ne_true]
  refine wpAny_bind ?_
  rw [← Array.forIn_toList]
  simp only [List.forIn_cons, List.forIn_nil]
  refine wpAny_bind (wpAny_bind (wpAny_holding ?_))
  show wpAny _ _ (Builtin.SmallTypes.nextOf (.ref i1) >>= _) _ _ _
  cases ex : xs[k1]? with
  | none =>
    refine wpAny_bind (RZ.nextOf_tuple_end (s := { s with heap := h₁ }) hA (t1.extBut b₁.extBut D.i1z) (s1.extBut b₁.extBut D.l1z) ex fun h₂ e b₂ he => ?_)
    exact q h₂ e (fun c o c1 c2 _ x => b₂ _ _ c2 (b₁.extBut _ _ c1 x)) he
  | some x =>
    have ey : ys[k2]? = none := over.resolve_left fun h => by
      rw [ex] at h
      cases h
    refine wpAny_bind (RZ.nextOf_tuple_item (s := { s with heap := h₁ }) (t1.extBut b₁.extBut D.i1z) (s1.extBut b₁.extBut D.l1z) ex fun h₂ t1₂ b₂ => wpAny_pure (wpAny_pure ?_))
    refine wpAny_bind (wpAny_bind (wpAny_holding ?_))
    show wpAny _ _ (Builtin.SmallTypes.nextOf (.ref i2) >>= _) _ _ _
    refine wpAny_bind (RZ.nextOf_tuple_end (s := { s with heap := h₂ }) hA ((t2.extBut b₁.extBut D.i2z).extBut b₂.extBut D.i12.symm) ((s2.extBut b₁.extBut D.l2z).extBut b₂.extBut D.l2i1) ey fun h₃ e b₃ he => ?_)
    exact q h₃ e (fun c o c1 c2 c3 x => b₃ _ _ c3 (b₂.extBut _ _ c2 (b₁.extBut _ _ c1 x))) he
theorem zt_next_item {z TI TO T i1 i2 l1 l2 : Addr} {f : Bool} {oT : Obj} {k1 k2 : Nat} {xs ys : Array Value} {x y : Value} {Q : Option Value → Shared → Prop} (D : ZipApart z TI TO i1 i2 l1 l2)
    (iz : IsZipHeld s.heap z TI TO T f) (iT : s.heap.get? T = some oT) (iTI : IsPair s.heap TI (.ref i1) (.ref i2))
    (t1 : s.heap.IsTupleIter i1 l1 k1) (t2 : s.heap.IsTupleIter i2 l2 k2) (s1 : s.heap.IsTuple l1 xs) (s2 : s.heap.IsTuple l2 ys) (ex : xs[k1]? = some x) (ey : ys[k2]? = some y)
    (q : ∀ h', IsZipHeld h' z TI TO T true → h'.IsTupleIter i1 l1 (k1 + 1) → h'.IsTupleIter i2 l2 (k2 + 1) → IsPair h' s.heap.objs.size x y → h'.objs.size = s.heap.objs.size + 1 →
      (∀ c o, c ≠ z → c ≠ i1 → c ≠ i2 → s.heap.get? c = some o → h'.get? c = some o) → Q (some (.ref s.heap.objs.size)) { s with heap := h' }) :
    wpAny (model prog w) A (pyNext (.ref z)) Q E s := by
  have ty : s.TypeIs (.ref z) "zip" := ⟨_, iz, rfl⟩
  unfold pyNext
  refine wpAny_bind (wpAny_attempt (wpAny_callSpecial?_slot (name := Str.ofString "__next__") ty F.slot_zip_next (wpAny_call_entry F.slot_zip_next ty F.entry_zip_next ?_ (F.args_zip_next_1 _))))
  exact zt_item D iz iT iTI t1 t2 s1 s2 ex ey fun h' a1 a3 a4 a5 a6 a7 => wpAny_pure (q h' a1 a3 a4 a5 a6 a7)
theorem zt_next_end {z TI TO T i1 i2 l1 l2 : Addr} {f : Bool} {oT : Obj} {k1 k2 : Nat} {xs ys : Array Value} {Q : Option Value → Shared → Prop} (hA : A.handled = none) (D : ZipApart z TI TO i1 i2 l1 l2)
    (iz : IsZipHeld s.heap z TI TO T f) (iT : s.heap.get? T = some oT) (iTI : IsPair s.heap TI (.ref i1) (.ref i2))
    (t1 : s.heap.IsTupleIter i1 l1 k1) (t2 : s.heap.IsTupleIter i2 l2 k2) (s1 : s.heap.IsTuple l1 xs) (s2 : s.heap.IsTuple l2 ys) (over : xs[k1]? = none ∨ ys[k2]? = none)
    (q : ∀ h', (∀ c o, c ≠ z → c ≠ i1 → c ≠ i2 → s.heap.get? c = some o → h'.get? c = some o) → Q none { s with heap := h' }) : wpAny (model prog w) A (pyNext (.ref z)) Q E s := by
  have ty : s.TypeIs (.ref z) "zip" := ⟨_, iz, rfl⟩
  unfold pyNext
  refine wpAny_bind (wpAny_attempt (wpAny_callSpecial?_slot (name := Str.ofString "__next__") ty F.slot_zip_next (wpAny_call_entry F.slot_zip_next ty F.entry_zip_next ?_ (F.args_zip_next_1 _))))
  refine zt_end hA D iz iT iTI t1 t2 s1 s2 over fun h' e hk he => ?_
  obtain ⟨o, ho, hc⟩ := he
  exact wpAny_bind (wpAny_isInstance (T := "StopIteration") (b := true) ⟨o, ho, hc⟩ isSubtype_stop (wpAny_pure (q _ hk)))
end
end Vf
/-! VZip2 -/
set_option maxHeartbeats 1000000
namespace Vf
open PySem
section
variable {prog : Program} {w : World}
/-- how a zip of two tuples stands while it is read -/
def ZtSt (z TI TO i1 i2 l1 l2 d : Addr) (xs ys : Array Value) (i : Nat) (h : Heap) : Prop :=
  IsPair h TI (.ref i1) (.ref i2) ∧ h.IsTupleIter i1 l1 i ∧ h.IsTupleIter i2 l2 i ∧ h.IsTuple l1 xs ∧ h.IsTuple l2 ys ∧
    ((IsZip h z TI TO .none ∧ ∃ a b, IsPair h TO a b) ∨ ∃ T f oT, IsZipHeld h z TI TO T f ∧ h.get? T = some oT ∧ T ≠ z ∧ T ≠ i1 ∧ T ≠ i2 ∧ T ≠ d)
theorem no4 {a b c d x : Addr} (h : x ∉ [a, b, c, d]) : x ≠ a ∧ x ≠ b ∧ x ≠ c ∧ x ≠ d := by
  simp only [List.mem_cons, List.not_mem_nil, or_false, not_or] at h
  exact h
theorem zt_src {A : Around} (hA : A.handled = none) {z TI TO i1 i2 l1 l2 d : Addr} (D : ZipApart z TI TO i1 i2 l1 l2) (xs ys : Array Value) (dn : d ∉ [z, TI, TO, i1, i2, l1, l2]) :
    PairSrc prog w A z d [z, TO, i1, i2] (min xs.size ys.size) (fun i k v => xs[i]? = some k ∧ ys[i]? = some v) (ZtSt z TI TO i1 i2 l1 l2 d xs ys) := by
  simp only [List.mem_cons, List.not_mem_nil, or_false, not_or] at dn
  obtain ⟨nz, nTI, nTO, n1, n2, nl1, nl2⟩ := dn
  refine ⟨?_, ?_, ?_, ?_⟩
  · intro hm
    simp only [List.mem_cons, List.not_mem_nil, or_false] at hm
    rcases hm with e | e | e | e
    · exact nz e
    · exact nTO e
    · exact n1 e
    · exact n2 e
  · rintro i h₁ h₂ ⟨a1, a2, a3, a4, a5, a6⟩ k
    refine ⟨k _ _ (Ne.symm nTI) a1, a2.at fun o e => k _ o (Ne.symm n1) e, a3.at fun o e => k _ o (Ne.symm n2) e, a4.at fun o e => k _ o (Ne.symm nl1) e, a5.at fun o e => k _ o (Ne.symm nl2) e, ?_⟩
    rcases a6 with ⟨a6, p, q, a7⟩ | ⟨T, f, oT, a6, a7, r1, r2, r3, r4⟩
    · exact .inl ⟨k _ _ (Ne.symm nz) a6, p, q, k _ _ (Ne.symm nTO) a7⟩
    · exact .inr ⟨T, f, oT, k _ _ (Ne.symm nz) a6, k _ _ r4 a7, r1, r2, r3, r4⟩
  · rintro i s Q E hi ⟨a1, a2, a3, a4, a5, a6⟩ hd q
    have hx : xs[i]? = some (xs[i]'(by omega)) := Array.getElem?_eq_getElem _
    have hy : ys[i]? = some (ys[i]'(by omega)) := Array.getElem?_eq_getElem _
    have gt : ∀ {c o}, s.heap.get? c = some o → s.heap.objs.size ≠ c := fun e => Nat.ne_of_gt (Heap.lt_size e)
    have m1 : s.heap.objs.size ≠ i1 := let ⟨_, e, _⟩ := a2; gt e
    have m2 : s.heap.objs.size ≠ i2 := let ⟨_, e, _⟩ := a3; gt e
    rcases a6 with ⟨a6, p, r, a7⟩ | ⟨T, f, oT, a6, a7, r1, r2, r3, r4⟩
    · refine RZ.pyNext_zipT_item D a6 a1 a7 a2 a3 a4 a5 hx hy fun h' b1 b2 b3 b4 b5 b6 k => ?_
      refine q s.heap.objs.size _ _ h' s.toks ⟨hx, hy⟩ (.inl ⟨_, b5, rfl, _, rfl⟩) ⟨k _ _ D.TIz D.TITO D.TIi1 D.TIi2 a1, b3, b4, a4.at fun o e => k _ o D.l1z D.l1TO D.l1i1 D.l1i2 e, a5.at fun o e => k _ o D.l2z D.l2TO D.l2i1 D.l2i2 e,
        .inr ⟨s.heap.objs.size, false, _, b1, b5, gt a6, m1, m2, Nat.ne_of_gt hd⟩⟩ fun c o hc e => ?_
      obtain ⟨c1, c2, c3, c4⟩ := no4 hc
      exact k c o c1 c2 c3 c4 e
    · refine zt_next_item D a6 a7 a1 a2 a3 a4 a5 hx hy fun h' b1 b3 b4 b5 b6 k => ?_
      refine q s.heap.objs.size _ _ h' s.toks ⟨hx, hy⟩ (.inl ⟨_, b5, rfl, _, rfl⟩) ⟨k _ _ D.TIz D.TIi1 D.TIi2 a1, b3, b4, a4.at fun o e => k _ o D.l1z D.l1i1 D.l1i2 e, a5.at fun o e => k _ o D.l2z D.l2i1 D.l2i2 e,
        .inr ⟨T, true, oT, b1, k _ _ r1 r2 r3 a7, r1, r2, r3, r4⟩⟩ fun c o hc e => ?_
      obtain ⟨c1, c2, c3, c4⟩ := no4 hc
      exact k c o c1 c3 c4 e
  · rintro s Q E ⟨a1, a2, a3, a4, a5, a6⟩ q
    have over : xs[min xs.size ys.size]? = none ∨ ys[min xs.size ys.size]? = none := by
      by_cases hh : xs.size ≤ ys.size
      · exact .inl (Array.getElem?_eq_none (by omega))
      · exact .inr (Array.getElem?_eq_none (by omega))
    rcases a6 with ⟨a6, p, r, a7⟩ | ⟨T, f, oT, a6, a7, r1, r2, r3, r4⟩
    · refine RZ.pyNext_zipT_end hA D a6 a1 a7 a2 a3 a4 a5 over fun h' k => q h' s.toks fun c o hc e => ?_
      obtain ⟨c1, c2, c3, c4⟩ := no4 hc
      exact k c o c1 c2 c3 c4 e
    · refine zt_next_end hA D a6 a7 a1 a2 a3 a4 a5 over fun h' k => q h' s.toks fun c o hc e => ?_
      obtain ⟨c1, c2, c3, c4⟩ := no4 hc
      exact k c o c1 c3 c4 e
theorem zt_arg (z TI TO i1 i2 l1 l2 : Addr) (D : ZipApart z TI TO i1 i2 l1 l2) (xs ys : Array Value) :
    PairArg prog w "zip" z [z, TI, TO, i1, i2, l1, l2] [z, TO, i1, i2] (min xs.size ys.size) (fun i k v => xs[i]? = some k ∧ ys[i]? = some v)
      (fun h => IsZip h z TI TO .none ∧ IsPair h TI (.ref i1) (.ref i2) ∧ (∃ a b, IsPair h TO a b) ∧ h.IsTupleIter i1 l1 0 ∧ h.IsTupleIter i2 l2 0 ∧ h.IsTuple l1 xs ∧ h.IsTuple l2 ys) := by
  refine ⟨fun s ok => ⟨_, ok.1, rfl⟩, by decide, ?_, ?_, ?_, ?_, ?_⟩
  · rintro h h' ⟨a1, a2, ⟨p, q, a3⟩, a4, a5, a6, a7⟩ k
    exact ⟨k _ _ a1, k _ _ a2, ⟨p, q, k _ _ a3⟩, a4.at fun o e => k _ o e, a5.at fun o e => k _ o e, a6.at fun o e => k _ o e, a7.at fun o e => k _ o e⟩
  · rintro h ⟨a1, a2, ⟨p, q, a3⟩, ⟨o1, a4, _⟩, ⟨o2, a5, _⟩, ⟨o3, a6, _⟩, ⟨o4, a7, _⟩⟩ b hb
    simp only [List.mem_cons, List.not_mem_nil, or_false] at hb
    rcases hb with e | e | e | e | e | e | e
    · exact ⟨_, e ▸ a1⟩
    · exact ⟨_, e ▸ a2⟩
    · exact ⟨_, e ▸ a3⟩
    · exact ⟨_, e ▸ a4⟩
    · exact ⟨_, e ▸ a5⟩
    · exact ⟨_, e ▸ a6⟩
    · exact ⟨_, e ▸ a7⟩
  · intro b hb
    simp only [List.mem_cons, List.not_mem_nil, or_false] at hb ⊢
    rcases hb with e | e | e | e
    · exact .inl e
    · exact .inr (.inr (.inl e))
    · exact .inr (.inr (.inr (.inl e)))
    · exact .inr (.inr (.inr (.inr (.inl e))))
  · intro A s Q E hA ok h
    exact getAttrOr_miss_zip ok.1 rfl rfl rfl zip_no_keys (by decide +kernel) hA h
  · rintro A s d Q E hA ⟨a1, a2, ⟨p, q, a3⟩, a4, a5, a6, a7⟩ hd dn h
    refine wpAny_pyIter_zip a1 (h z [z, TO, i1, i2] (ZtSt z TI TO i1 i2 l1 l2 d xs ys) s.heap s.toks (zt_src hA D xs ys dn) ?_ (fun _ _ e => e) fun b hb => .inl hb)
    exact ⟨a2, a4, a5, a6, a7, .inl ⟨a1, p, q, a3⟩⟩
end
open PySem.Spec PyProof.Rows L2
/-- two tuples, the first one of texts or ints: the dict of their pairs -/
def rDictZip (K : PySem.W.Frag) : List V → Hp → VK → Prop := fun vs H Q => ∃ (a b : Addr) (ks : List Key) (ys : List V), vs = [.ref a, .ref b] ∧ H a = some (.tup (ks.map kV)) ∧ H b = some (.tup ys) ∧ ks.length = ys.length ∧
  ∀ p, H p = none → Q (.ref p) (upd H p (.dK (mergeK [] (ks.zip ys))))
theorem kv_zip {ys : List V} {us : List Value} (r : Vals ys us) : ∀ {ks : List Key}, KV (ks.zip ys) (ks.zip us) := by
  induction r with
  | nil =>
    intro ks
    rw [List.zip_nil_right, List.zip_nil_right]
    exact .nil
  | cons h t ih =>
    intro ks
    cases ks with
    | nil => exact .nil
    | cons k ks => exact .cons ⟨rfl, h⟩ ih
theorem pe_dictzip {X : Cx} {e e2 : Expr} {ta : TA} {p p2 pos pos2 : Pos} (hc : X.calm = true) (hg : Gl X "dict") (hm : X.mg "dict" = none) (hg2 : Gl X "zip") (hm2 : X.mg "zip" = none) (ha : PA X [e, e2] ta)
    (hs : starEach [e, e2] X.env = (false, eval e X.env) :: starEach [e2] X.env := by rfl) (hpl : (backTo pos2 (starEach [e2] X.env)).any (·.1) = false := by rfl)
    (hs1 : starEach [Expr.Call (.Name "zip" p2) [e, e2] [] pos2] X.env = (false, eval (Expr.Call (.Name "zip" p2) [e, e2] [] pos2) X.env) :: starEach [] X.env := by rfl) :
    PE X (.Call (.Name "dict" p) [.Call (.Name "zip" p2) [e, e2] [] pos2] [] pos) (fun σ H Q => ta σ H fun vs H1 => rDictZip X.K vs H1 Q) := by
  refine ⟨fun pins s σ H Q I h => ?_⟩
  refine Call_ (ld_blt I hg hm (show bootBuiltins "dict" = some (.type "dict") by decide +kernel) (PyProof.Rows.callWith_type1 (args_cons ?_ hs1) hs1))
  refine Call_ (ld_blt I hg2 hm2 PyProof.Rows.boot_zip (PyProof.Rows.callWith_type1 (thn (ha.run pos2 pins s σ H _ I h) fun us s1 hq => ?_) hs hpl))
  obtain ⟨vs, H1, I1, r1, a, b, ks, ys, rfl, ea, eb, hl, q⟩ := hq
  obtain ⟨u1, u2, rfl, ra, rb⟩ := vals2 r1
  obtain rfl : u1 = Value.ref a := ra
  obtain rfl : u2 = Value.ref b := rb
  obtain ⟨z1, its1, v1, p1⟩ := I1.hok _ _ ea
  obtain ⟨z2, its2, v2, p2'⟩ := I1.hok _ _ eb
  obtain ⟨o1, ho1, _⟩ := id p1
  obtain ⟨o2, ho2, _⟩ := id p2'
  refine RZ.call_zipT (show s1.heap.IsTuple a its1.toArray from p1) (show s1.heap.IsTuple b its2.toArray from p2') fun h' hz hTI hTO t1 t2 hsz hk => args_nil ?_
  have n1 : its1.length = ks.length := by rw [← v1.length, List.length_map]
  have n2 : its2.length = ks.length := by rw [← v2.length, hl]
  have D : ZipApart (s1.heap.objs.size + 4) (s1.heap.objs.size + 2) (s1.heap.objs.size + 3) s1.heap.objs.size (s1.heap.objs.size + 1) a b := PySem.W.ktu_apart s1.heap.objs.size a b (Heap.lt_size ho1) (Heap.lt_size ho2)
  have old : ∀ c o, s1.heap.get? c = some o → c ∉ [s1.heap.objs.size + 4, s1.heap.objs.size + 3, s1.heap.objs.size, s1.heap.objs.size + 1] := fun c o e hm => by
    have lt := Heap.lt_size e
    simp only [List.mem_cons, List.not_mem_nil, or_false] at hm
    rcases hm with e | e | e | e
    · exact Nat.lt_irrefl _ (Nat.lt_of_le_of_lt (Nat.le_add_right _ 4) (e ▸ lt))
    · exact Nat.lt_irrefl _ (Nat.lt_of_le_of_lt (Nat.le_add_right _ 3) (e ▸ lt))
    · exact Nat.lt_irrefl _ (e ▸ lt)
    · exact Nat.lt_irrefl _ (Nat.lt_of_le_of_lt (Nat.le_add_right _ 1) (e ▸ lt))
  refine PySem.call_dict_pairs (knd := mixKind X.prog X.w) (kvs := ks.zip its2) (zt_arg _ _ _ _ _ a b D its1.toArray its2.toArray) (I1.ok.hd hc) ⟨hz, hTI, ⟨_, _, hTO⟩, t1, t2, (show s1.heap.IsTuple a its1.toArray from p1).at fun o e => hk _ o e, (show s1.heap.IsTuple b its2.toArray from p2').at fun o e => hk _ o e⟩ ⟨?_, ?_⟩ ?_ fun h2 tk dd k2 => ?_
  · rw [List.length_zip, List.size_toArray, List.size_toArray, n1, n2]
  · rintro i key v ⟨e1, e2⟩
    rw [List.getElem?_toArray] at e1 e2
    have hi : i < ks.length := by
      have := (List.getElem?_eq_some_iff.mp e1).1
      omega
    refine ⟨ks[i], ?_, ?_⟩
    · rw [List.getElem?_zip_eq_some]
      exact ⟨List.getElem?_eq_getElem hi, e2⟩
    · obtain ⟨u, hu, ru⟩ := v1.get (i := i) (x := kV ks[i]) (by rw [List.getElem?_map, List.getElem?_eq_getElem hi]; rfl)
      rw [hu] at e1
      cases e1
      exact kV_is ru
  · rw [List.size_toArray, n1]
    rw [List.length_map] at z1
    exact Nat.le_trans (Nat.min_le_left _ _) z1
  · have rk : KV (ks.zip ys) (ks.zip its2) := kv_zip v2
    have ho : ∀ c o, s1.heap.get? c = some o → h2.get? c = some o := fun c o e => k2 c o (old c o e) (hk c o e)
    have hle : s1.heap.objs.size ≤ h'.objs.size := by omega
    refine ⟨.ref h'.objs.size, upd H1 h'.objs.size (.dK (mergeK [] (ks.zip ys))), I1.laid (t' := tk) ho hle ⟨?_, ?_, _, rk.merge .nil, dd⟩, rfl, q _ (I1.hok.fresh hle)⟩
    · refine Nat.le_trans (length_mergeK _ _) ?_
      rw [List.length_map] at z1
      rw [List.length_zip, List.length_nil]
      omega
    · exact beq_eq_false_iff_ne.mpr (Nat.ne_of_gt (Nat.lt_of_lt_of_le I1.big hle))
end Vf
/-! VRules5 -/
namespace Vf
open PySem PySem.Spec PyProof.Rows L2
def rRepT1 (K : PySem.W.Frag) : R2 := fun x y H Q => ∃ l k xs, x = .ref l ∧ y = .int k ∧ SqT K H l xs ∧ xs ≠ [] ∧ 1 ≤ k ∧ k ≤ 1000 ∧ xs.length ≤ 1000 ∧ (k = 1 → Q (.ref l) H) ∧ (2 ≤ k → ∀ p, H p = none → Q (.ref p) (upd H p (.tup (List.replicate k.toNat xs).flatten)))
theorem op_repT1 {X : Cx} : OpR X (binaryOp .Mult) (rRepT1 X.K) := by
  intro pins s σ H x y v u Q I rx ry h
  obtain ⟨l, k, xs, rfl, rfl, hT, hne, h1, h2, hz, qa, qb⟩ := h
  by_cases hk : k = 1
  · subst hk
    cases rx
    obtain ⟨t, rfl⟩ := ry
    obtain ⟨its, r, ⟨⟨cls, dd, data, sl⟩, ho, hc, n, hd⟩, hs⟩ := I.tuple hT
    simp only at hc hd
    subst hc hd
    have c0 : (decide ((1 : Int) < -(2 ^ 63)) || decide ((1 : Int) ≥ 2 ^ 63)) = false := by decide
    have c1 : (its.toArray.isEmpty || (1 : Int) == 1) = true := by
      rw [show ((1 : Int) == 1) = true from rfl, Bool.or_true]
    refine wpAny_binaryOp_repeat_ref (T := "tuple") (U := "int") (by decide) ⟨_, ho, rfl⟩ (fun s' => typeIs_int s' 1 t) noFill_tuple_mul F.fills_int_mul F.slot_int_rmul repeat_tuple F.slot_int_index.lookup
      (call_meets F.slot_int_rmul (typeIs_int s 1 t) F.entry_int_rmul (F.args_int_rmul_2 _ _) (int_rmul_tuple 1 t l its.toArray n dd sl)
        ⟨ho, rfl, ⟨_, ho, rfl⟩, call_meets F.slot_tuple_mul ⟨_, ho, rfl⟩ F.entry_tuple_mul (F.args_tuple_mul_2 _ _) (tuple_mul1 l its.toArray n sl dd 1 t c0 c1) ⟨ho, ?_⟩⟩)
    exact ⟨.ref l, H, I, rfl, qa rfl⟩
  · have hk2 : 2 ≤ k := by omega
    exact op_repT pins s σ H _ _ v u Q I rx ry ⟨l, k, xs, rfl, rfl, hT, hne, hk2, h2, hz, qb hk2⟩
end Vf
namespace Vf
open PySem PySem.Spec PyProof.Rows L2
/-! the same rules, the written part named: within a comprehension -/
theorem ix_listK {X : Cx} {K : PySem.W.Frag} (e : X.K = K) : IxR X (rIxL K) := e ▸ ix_list
theorem ix_tupK {X : Cx} {K : PySem.W.Frag} (e : X.K = K) : IxR X (rIxT K) := e ▸ ix_tup
theorem pe_bmK {X : Cx} {K : PySem.W.Frag} (eK : X.K = K) {T name : String} {o e : Expr} {es : List Expr} {apos cpos : Pos} {to : TE} {t : TA} {r : V → List V → Hp → VK → Prop} (h : PE X (.Call (.Attribute o name apos) (e :: es) [] cpos) (tBM X.K T r to t)) :
    PE X (.Call (.Attribute o name apos) (e :: es) [] cpos) (tBM K T r to t) := eK ▸ h
end Vf
/-! VLay -/
namespace Vf
open PySem PySem.Spec PyProof.Rows L2

/-! ### heaps: what stands as before but for the objects at W -/
structure Sw (W : List Addr) (H H' : Hp) : Prop where
  keep : ∀ a o, a ∉ W → H a = some o → H' a = some o
  tup : ∀ a xs, H a = some (.tup xs) → H' a = some (.tup xs)
  neu : ∀ a, H' a = none → H a = none
theorem Sw.refl (W : List Addr) (H : Hp) : Sw W H H := ⟨fun _ _ _ h => h, fun _ _ h => h, fun _ h => h⟩
theorem Sw.trans {W : List Addr} {H H1 H2 : Hp} (a : Sw W H H1) (b : Sw W H1 H2) : Sw W H H2 :=
  ⟨fun x o n h => b.keep x o n (a.keep x o n h), fun x xs h => b.tup x xs (a.tup x xs h), fun x h => a.neu x (b.neu x h)⟩
theorem Sw.wide {W W' : List Addr} {H H' : Hp} (a : Sw W H H') (h : ∀ x ∈ W, x ∈ W') : Sw W' H H' :=
  ⟨fun x o n e => a.keep x o (fun m => n (h x m)) e, a.tup, a.neu⟩
theorem Sw.any {W : List Addr} {H H' : Hp} (a : Sw [] H H') : Sw W H H' := a.wide fun x h => absurd h List.not_mem_nil
theorem Sw.new {W : List Addr} {H : Hp} {p : Addr} {o : HO} (h : H p = none) : Sw W H (upd H p o) :=
  ⟨fun a u _ e => by rw [upd_ne (ne_of_none e h)]; exact e, fun a xs e => by rw [upd_ne (ne_of_none e h)]; exact e,
    fun a e => by
      by_cases q : a = p
      · rw [q]; exact h
      · rw [upd_ne q] at e; exact e⟩
def HO.noTup : HO → Prop
  | .tup _ => False
  | _ => True
theorem Sw.put {W : List Addr} {H : Hp} {p : Addr} {o u : HO} (h : H p = some o) (n : HO.noTup o) (m : p ∈ W) : Sw W H (upd H p u) :=
  ⟨fun a x na e => by
      have q : a ≠ p := fun z => na (by rw [z]; exact m)
      rw [upd_ne q]
      exact e,
    fun a xs e => by
      have q : a ≠ p := fun z => by
        subst z
        rw [h] at e
        cases e
        exact n
      rw [upd_ne q]
      exact e,
    fun a e => by
      by_cases q : a = p
      · subst q
        rw [upd_same] at e
        cases e
      · rw [upd_ne q] at e
        exact e⟩
theorem Sw.put1 {H : Hp} {p : Addr} {o u : HO} (h : H p = some o) (n : HO.noTup o) : Sw [p] H (upd H p u) := Sw.put h n List.mem_cons_self
theorem Sw.same {W : List Addr} {H H' : Hp} (a : Sw W H H') {p : Addr} {o : HO} (n : p ∉ W) (h : H p = some o) : H' p = some o := a.keep p o n h
theorem Sw.seq {K : PySem.W.Frag} {W : List Addr} {H H' : Hp} (e : Sw W H H') {a : Addr} {xs : List V} (n : a ∉ W) (h : SqL K H a xs) : SqL K H' a xs := by
  rcases h with (h | ⟨o, h⟩) | h
  · exact .inl (.inl (e.keep _ _ n h))
  · exact .inl (.inr ⟨o, e.keep _ _ n h⟩)
  · exact .inr h
theorem not0 {a : Addr} : a ∉ ([] : List Addr) := List.not_mem_nil
theorem not1 {a b : Addr} (h : a ≠ b) : a ∉ [b] := fun m => h (List.mem_singleton.mp m)
theorem not2 {a b c : Addr} (h : a ≠ b) (k : a ≠ c) : a ∉ [b, c] := fun m => by
  rcases List.mem_cons.mp m with e | e
  · exact h e
  · exact k (List.mem_singleton.mp e)
theorem not3 {a b c d : Addr} (h : a ≠ b) (k : a ≠ c) (l : a ≠ d) : a ∉ [b, c, d] := fun m => by
  rcases List.mem_cons.mp m with e | e
  · exact h e
  · exact not2 k l e
theorem neAt {H : Hp} {a b : Addr} {o u : HO} (h : H a = some o) (h' : H b = some u) (d : o = u → False) : a ≠ b := ne_of h h' d
end Vf
local macro_rules | `(tactic| walk_at "ne") => `(tactic| first | assumption | exact Ne.symm (by assumption))
local macro_rules | `(tactic| walk_at "nm") => `(tactic| first | exact Vf.not0 | exact Vf.not1 (by walk_at "ne") | exact Vf.not2 (by walk_at "ne") (by walk_at "ne") | exact Vf.not3 (by walk_at "ne") (by walk_at "ne") (by walk_at "ne"))
local macro_rules | `(tactic| walk_at "up") => `(tactic| first | assumption | (refine Vf.Sw.tup (by assumption) _ _ ?_; walk_at "up") | (refine Vf.Sw.keep (by assumption) _ _ (by walk_at "nm") ?_; walk_at "up"))
namespace Vf
open PySem PySem.Spec PyProof.Rows L2
section
variable {σ : L2.St} {H : Hp} {Q : VK} {D : Ends} {K : PySem.W.Frag} {ta tb te : TE} {t u : TS} {x y v : V} {i j : Int} {p l : Addr} {xs : List V}
/-! ### expressions -/
theorem r_v0 (q : Q v H) : tVar 0 (some v :: σ) H Q := ⟨v, rfl, q⟩
theorem r_vs {n : Nat} {a : Option V} (q : tVar n σ H Q) : tVar (n + 1) (a :: σ) H Q := q
theorem r_c (q : Q v H) : tC v σ H Q := q
theorem r_op {r : R2} (q : ta σ H fun x H1 => tb σ H1 fun y H2 => r x y H2 Q) : tOp r ta tb σ H Q := q
theorem r_un {r : V → Hp → VK → Prop} (q : ta σ H fun x H1 => r x H1 Q) : tUn r ta σ H Q := q
theorem r_I0 {g : Int → Int → V} (q : Q (g i j) H) : rI0 g (.int i) (.int j) H Q := ⟨i, j, rfl, rfl, q⟩
theorem r_I {C : Int → Int → Prop} {g : Int → Int → V} (c : C i j) (q : Q (g i j) H) : rI C g (.int i) (.int j) H Q := ⟨i, j, rfl, rfl, c, q⟩
theorem r_neg {g : Int → V} (q : Q (g i) H) : rU g (.int i) H Q := ⟨i, rfl, q⟩
theorem r_eq (h : scal x y = true) (q : Q (.bl (decide (x = y))) H) : rEq x y H Q := ⟨h, q⟩
theorem r_ne (h : scal x y = true) (q : Q (.bl (!decide (x = y))) H) : rNe x y H Q := ⟨h, q⟩
theorem r_eqI (q : Q (.bl (decide (i = j))) H) : rEq (.int i) (.int j) H Q := ⟨rfl, by
  have e : decide (V.int i = V.int j) = decide (i = j) := decide_eq_decide.mpr ⟨fun z => V.int.inj z, fun z => by rw [z]⟩
  rw [e]
  exact q⟩
theorem r_neI (q : Q (.bl (!decide (i = j))) H) : rNe (.int i) (.int j) H Q := ⟨rfl, by
  have e : decide (V.int i = V.int j) = decide (i = j) := decide_eq_decide.mpr ⟨fun z => V.int.inj z, fun z => by rw [z]⟩
  rw [e]
  exact q⟩
theorem r_eqS {a b : Str} (q : Q (.bl (decide (a = b))) H) : rEq (.str a) (.str b) H Q := ⟨rfl, by
  have e : decide (V.str a = V.str b) = decide (a = b) := decide_eq_decide.mpr ⟨fun z => V.str.inj z, fun z => by rw [z]⟩
  rw [e]
  exact q⟩
theorem r_ixL {n : Nat} (h : H p = some (.lst xs)) (ha : xs[n]? = some v) (q : Q v H) : rIxL K (.ref p) (.int (n : Int)) H Q := ⟨p, xs, n, v, rfl, rfl, SqL.of h, atI_nat ha, q⟩
theorem r_ixL' (h : H p = some (.lst xs)) (ha : atI xs i = some v) (q : Q v H) : rIxL K (.ref p) (.int i) H Q := ⟨p, xs, i, v, rfl, rfl, SqL.of h, ha, q⟩
theorem r_ixT (h : H p = some (.tup xs)) (ha : atI xs i = some v) (q : Q v H) : rIxT K (.ref p) (.int i) H Q := ⟨p, xs, i, v, rfl, rfl, SqT.of h, ha, q⟩
theorem r_ixS {z : Str} {c : Nat} (hz : z.length ≤ sizeLine) (ha : atI z.cps.toList i = some c) (q : Q (.str ⟨#[c]⟩) H) : rIxS (.str z) (.int i) H Q := ⟨z, i, c, rfl, rfl, hz, ha, q⟩

/-! new objects: what follows is named, so that the heap behind it may be named -/
def kTup (Q : VK) (xs : List V) (H : Hp) : Prop := xs.length ≤ sizeLine ∧ ∀ p, H p = none → Q (.ref p) (upd H p (.tup xs))
def kLst (Q : VK) (xs : List V) (H : Hp) : Prop := xs.length ≤ sizeLine ∧ ∀ p, H p = none → Q (.ref p) (upd H p (.lst xs))
theorem r_tup {ta : TA} (q : ta σ H (kTup Q)) : tTup ta σ H Q := q
theorem r_lst {ta : TA} (q : ta σ H (kLst Q)) : tLst ta σ H Q := q
theorem r_kTup (h : xs.length ≤ sizeLine) (q : ∀ p H', H p = none → Sw [] H H' → H' p = some (.tup xs) → Q (.ref p) H') : kTup Q xs H := ⟨h, fun p n => q p _ n (Sw.new n) upd_same⟩
theorem r_kLst (h : xs.length ≤ sizeLine) (q : ∀ p H', H p = none → Sw [] H H' → H' p = some (.lst xs) → Q (.ref p) H') : kLst Q xs H := ⟨h, fun p n => q p _ n (Sw.new n) upd_same⟩
theorem r_cons {tr : TA} {R : List V → Hp → Prop} (q : ta σ H fun x H1 => tr σ H1 fun xs H2 => R (x :: xs) H2) : tCons ta tr σ H R := q
theorem r_nil {R : List V → Hp → Prop} (q : R [] H) : tNil σ H R := q
theorem r_CB {r : List V → Hp → VK → Prop} {ta : TA} (q : ta σ H fun vs H1 => r vs H1 Q) : tCB r ta σ H Q := q
theorem r_call {sp : Sp} {dvs : List V} {E : XK} {ta : TA} (q : ta σ H fun vs H1 => sp (vs ++ dvs) H1 Q E) : tCall sp dvs E ta σ H Q := q
theorem r_BM {T : String} {r : V → List V → Hp → VK → Prop} {ta : TA} {to : TE} (q : to σ H fun x H1 => tyV K T x H1 ∧ ta σ H1 fun xs H2 => r x xs H2 Q) : tBM K T r to ta σ H Q := q
theorem r_BM0 {T : String} {r : V → List V → Hp → VK → Prop} {to : TE} (q : to σ H fun x H1 => tyV K T x H1 ∧ r x [] H1 Q) : tBM0 K T r to σ H Q := q
theorem r_ty (h : H l = some (.lst xs)) {A : Prop} (q : A) : tyV K "list" (.ref l) H ∧ A := ⟨.inl ⟨rfl, xs, SqL.of h⟩, q⟩
theorem r_append (h : H l = some (.lst xs)) (z : xs.length < sizeLine) (q : ∀ H', Sw [l] H H' → H' l = some (.lst (xs ++ [y])) → Q .non H') : rAppend (.ref l) [y] H Q := ⟨l, xs, y, rfl, rfl, h, z, q _ (Sw.put1 h trivial) upd_same⟩
theorem r_pop (h : H l = some (.lst (xs ++ [y]))) (q : ∀ H', Sw [l] H H' → H' l = some (.lst xs) → Q y H') : rPop (.ref l) [] H Q := by
  refine ⟨l, xs ++ [y], y, rfl, rfl, h, ?_, ?_⟩
  · rw [List.length_append, List.length_singleton, Nat.add_sub_cancel, List.getElem?_concat_length]
  · rw [List.dropLast_concat]
    exact q _ (Sw.put1 h trivial) upd_same
theorem r_popAt {k : Nat} (h : H l = some (.lst xs)) (hk : xs[k]? = some y) (hz : xs.length ≤ 1000000) (q : ∀ H', Sw [l] H H' → H' l = some (.lst (xs.eraseIdx k)) → Q y H') : rPopAt (.ref l) [.int (k : Int)] H Q := by
  have lt : k < xs.length := (List.getElem?_eq_some_iff.mp hk).1
  have e : ixN xs.length (k : Int) = some k := by
    unfold ixN
    rw [if_pos (by omega), if_pos (by omega), Int.toNat_natCast]
  exact ⟨l, xs, k, k, y, rfl, rfl, h, by omega, by omega, (ixN_seq e).1, hk, q _ (Sw.put1 h trivial) upd_same⟩
theorem r_setL {R : Hp → Prop} {k : Nat} (h : H l = some (.lst xs)) (hk : k < xs.length) (q : ∀ H', Sw [l] H H' → H' l = some (.lst (xs.set k v)) → R H') : rSetL (.ref l) (.int (k : Int)) v H R := by
  have e : ixN xs.length (k : Int) = some k := by
    unfold ixN
    rw [if_pos (by omega), if_pos (by omega), Int.toNat_natCast]
  exact ⟨l, xs, k, k, rfl, rfl, h, e, q _ (Sw.put1 h trivial) upd_same⟩
/-! tests -/
theorem r_test {R : Bool → Hp → Prop} (q : ta σ H fun x H' => ∃ k, x = .bl k ∧ R k H') : tTest ta σ H R := q
theorem r_tB {R : Bool → Hp → Prop} (q : ta σ H fun x H' => ∃ k, x = .bl k ∧ R k H') : tB ta σ H R := q
theorem r_bl {b : Bool} {A : Bool → Prop} (q : A b) : ∃ k, V.bl b = .bl k ∧ A k := ⟨b, rfl, q⟩
theorem r_and {tt uu : TT} {R : Bool → Hp → Prop} (q : tt σ H fun c H1 => if c = true then uu σ H1 R else R false H1) : tAnd tt uu σ H R := q
theorem r_or {tt uu : TT} {R : Bool → Hp → Prop} (q : tt σ H fun c H1 => if c = true then R true H1 else uu σ H1 R) : tOr tt uu σ H R := q
theorem r_not {tt : TT} {R : Bool → Hp → Prop} (q : tt σ H fun c H1 => R (!c) H1) : tNot tt σ H R := q
theorem r_notV (q : ta σ H fun x H1 => ∃ c, x = .bl c ∧ Q (.bl (!c)) H1) : tNotV ta σ H Q := q
theorem r_andV (q : ta σ H fun x H1 => ∃ c, x = .bl c ∧ if c = true then tb σ H1 Q else Q (.bl false) H1) : tAndV ta tb σ H Q := q
theorem r_orV (q : ta σ H fun x H1 => ∃ c, x = .bl c ∧ if c = true then Q (.bl true) H1 else tb σ H1 Q) : tOrV ta tb σ H Q := q
theorem r_ifE {tt : TT} (q : tt σ H fun c H1 => if c = true then ta σ H1 Q else tb σ H1 Q) : tIf tt ta tb σ H Q := q
/-! statements -/
theorem r_seq (q : t { D with nx := u D } σ H) : tSeq t u D σ H := q
theorem r_cut {M : L2.St → Hp → Prop} (q : t { D with nx := M } σ H) (k : ∀ σ' H', M σ' H' → u D σ' H') : Evl.tCut t u D σ H := ⟨M, q, k⟩
theorem r_set {n : Nat} (q : ta σ H fun x H1 => D.nx (σ.set n (some x)) H1) : tAsg ta (gName n) D σ H := q
theorem r_asg {g : TG} (q : ta σ H fun x H1 => g x σ H1 D.nx) : tAsg ta g D σ H := q
theorem r_sub {R : L2.St → Hp → Prop} {s : TSet} (q : ta σ H fun o H1 => tb σ H1 fun i H2 => s o i v H2 fun H3 => R σ H3) : gSub ta tb s v σ H R := q
theorem r_drop (q : ta σ H fun _ H1 => D.nx σ H1) : tDrop ta D σ H := q
theorem r_ret (q : ta σ H D.rt) : tRet ta D σ H := q
theorem r_ifS {tt : TT} (q : tt σ H fun b H1 => if b = true then t D σ H1 else u D σ H1) : tIfS tt t u D σ H := q
theorem r_next (q : D.nx σ H) : tNext D σ H := q
theorem r_par {n m : Nat} {ta : TA} (q : ta σ H fun vs H1 => ∃ v w, vs = [v, w] ∧ D.nx ((σ.set n (some v)).set m (some w)) H1) : tPar n m ta D σ H := q
theorem r_two {v w : V} {A : V → V → Prop} (q : A v w) : ∃ a b, [v, w] = [a, b] ∧ A a b := ⟨v, w, rfl, q⟩
theorem r_gName {n : Nat} {R : L2.St → Hp → Prop} (q : R (σ.set n (some v)) H) : gName n v σ H R := q
end
end Vf
/-! VNames -/
namespace Vf
open PySem PySem.Spec PyProof.Rows L2
/-! ### the built-ins' rules, their readings named -/
def nInt : List V → Hp → VK → Prop := fun xs H Q => (∃ i, xs = [.int i] ∧ Q (.int i) H) ∨ ∃ k, xs = [.bl k] ∧ Q (.int (if k then 1 else 0)) H
theorem cn_int {X : Cx} : CallR X (.type "int") nInt := call_int1
def nAbs : List V → Hp → VK → Prop := fun xs H Q => ∃ i, xs = [.int i] ∧ Q (.int (if i < 0 then -i else i)) H
theorem cn_abs {X : Cx} : CallR X (.builtin "abs") nAbs := call_abs
def nMax2 : List V → Hp → VK → Prop := fun xs H Q => ∃ i j, xs = [.int i, .int j] ∧ Q (.int (if j > i then j else i)) H
theorem cn_max2 {X : Cx} (hc : X.calm = true) : CallR X (.builtin "max") nMax2 := call_max2 hc
def nMin2 : List V → Hp → VK → Prop := fun xs H Q => ∃ i j, xs = [.int i, .int j] ∧ Q (.int (if j < i then j else i)) H
theorem cn_min2 {X : Cx} (hc : X.calm = true) : CallR X (.builtin "min") nMin2 := call_min2 hc
def nLen (K : PySem.W.Frag) : List V → Hp → VK → Prop := fun xs H Q => ∃ p ys, xs = [.ref p] ∧ (SqL K H p ys ∨ SqT K H p ys) ∧ Q (.int ys.length) H
theorem cn_len {X : Cx} : CallR X (.builtin "len") (nLen X.K) := call_len_seq
theorem cn_lenK {X : Cx} {K : PySem.W.Frag} (e : X.K = K) : CallR X (.builtin "len") (nLen K) := e ▸ cn_len
def nLenS : List V → Hp → VK → Prop := fun xs H Q => ∃ z, xs = [.str z] ∧ z.length ≤ sizeLine ∧ Q (.int z.length) H
theorem cn_lenS {X : Cx} : CallR X (.builtin "len") nLenS := call_len_str
def nList (K : PySem.W.Frag) : List V → Hp → VK → Prop := fun xs H Q => ∃ p ys, xs = [.ref p] ∧ (SqL K H p ys ∨ SqT K H p ys) ∧ ∀ l, H l = none → Q (.ref l) (upd H l (.lst ys))
theorem cn_list {X : Cx} : CallR X (.type "list") (nList X.K) := call_list_of
def nTuple (K : PySem.W.Frag) : List V → Hp → VK → Prop := fun xs H Q => ∃ p ys, xs = [.ref p] ∧ ((SqL K H p ys ∧ ∀ l, H l = none → Q (.ref l) (upd H l (.tup ys))) ∨ (SqT K H p ys ∧ Q (.ref p) H))
theorem cn_tuple {X : Cx} : CallR X (.type "tuple") (nTuple X.K) := call_tuple_of
theorem cn_tupleK {X : Cx} {K : PySem.W.Frag} (e : X.K = K) : CallR X (.type "tuple") (nTuple K) := e ▸ cn_tuple
def nListT : List V → Hp → VK → Prop := fun xs H Q => ∃ d kvs, xs = [V.ref d] ∧ Rd H d (.dT kvs) ∧ ∀ p bs, H p = none → IsKeys H kvs bs → Q (.ref p) (upd H p (.lst (bs.map V.ref)))
theorem cn_listT {X : Cx} (hc : X.calm = true) : CallR X (.type "list") nListT := call_list_dT hc
def nSortD : List V → Hp → VK → Prop := fun xs H Q => ∃ (a : Addr) (kvs : List (Key × V)) (ks : List Str), xs = [.ref a] ∧ Rd H a (.dK kvs) ∧ kvs.map (·.1) = ks.map Sum.inr ∧ ks.length < 64 ∧ ∀ ys p, ys.Perm ks → sortedS ys = true → H p = none → Q (.ref p) (upd H p (.lst (ys.map V.str)))
theorem cn_sortD {X : Cx} (hc : X.calm = true) : CallR X (.builtin "sorted") nSortD := call_sortedD hc
def nAddS : R2 := fun x y H Q => ∃ i j, x = .str i ∧ y = .str j ∧ i.length + j.length ≤ sizeLine ∧ Q (.str (i ++ j)) H
theorem on_addS {X : Cx} : OpR X (binaryOp .Add) nAddS := op_add_str
def nIsN : R2 := fun x y H Q => y = .non ∧ Q (.bl (decide (x = .non))) H
theorem on_isN {X : Cx} : OpR X (compareOp .Is) nIsN := op_isN
def nNotN : R2 := fun x y H Q => y = .non ∧ Q (.bl (!decide (x = .non))) H
theorem on_notN {X : Cx} : OpR X (compareOp .IsNot) nNotN := op_notN
def nPow : R2 := rI (fun i j => 0 ≤ j ∧ j ≤ 1000000 ∧ i.natAbs < 2 ^ 64) fun i j => .int (i ^ j.toNat)
theorem cn_sumK {X : Cx} {K : PySem.W.Frag} (e : X.K = K) (hc : X.calm = true) : CallR X (.builtin "sum") (rSum K) := e ▸ cr_sum hc
theorem cn_isiK {X : Cx} {K : PySem.W.Frag} (e : X.K = K) : CallR X (.builtin "isinstance") (rIsi K) := e ▸ call_isi
theorem on_inK {X : Cx} {K : PySem.W.Frag} (e : X.K = K) : OpR X (compareOp .In) (rIn K false) := e ▸ op_in_seq
theorem mn_indexK {X : Cx} {K : PySem.W.Frag} (e : X.K = K) : MtR X "list.index" (rIndex K) := e ▸ mt_index
def nJoin (K : PySem.W.Frag) : V → List V → Hp → VK → Prop := fun x xs H Q => ∃ a p, ∃ ys : List Str, x = .str a ∧ xs = [.ref p] ∧ (SqL K H p (ys.map V.str) ∨ SqT K H p (ys.map V.str)) ∧ (ys.map (·.length)).sum + ys.length * a.length ≤ 16777216 ∧ Q (.str (Txt.join a ys)) H
section
variable {σ : L2.St} {H : Hp} {Q : VK} {K : PySem.W.Frag} {i j : Int} {p l : Addr} {xs : List V} {x : V}
theorem r_intI (q : Q (.int i) H) : nInt [.int i] H Q := .inl ⟨i, rfl, q⟩
theorem r_intB {b : Bool} (q : Q (.int (if b then 1 else 0)) H) : nInt [.bl b] H Q := .inr ⟨b, rfl, q⟩
theorem r_abs (q : Q (.int (if i < 0 then -i else i)) H) : nAbs [.int i] H Q := ⟨i, rfl, q⟩
theorem r_max2 (q : Q (.int (if j > i then j else i)) H) : nMax2 [.int i, .int j] H Q := ⟨i, j, rfl, q⟩
theorem r_min2 (q : Q (.int (if j < i then j else i)) H) : nMin2 [.int i, .int j] H Q := ⟨i, j, rfl, q⟩
theorem r_lenL (h : H p = some (.lst xs)) (q : Q (.int (xs.length : Int)) H) : nLen K [.ref p] H Q := ⟨p, xs, rfl, .inl (SqL.of h), q⟩
theorem r_lenT (h : H p = some (.tup xs)) (q : Q (.int (xs.length : Int)) H) : nLen K [.ref p] H Q := ⟨p, xs, rfl, .inr (SqT.of h), q⟩
theorem r_lenS {z : Str} (h : z.length ≤ sizeLine) (q : Q (.int (z.length : Int)) H) : nLenS [.str z] H Q := ⟨z, rfl, h, q⟩
theorem r_listL (h : H p = some (.lst xs)) (q : ∀ l H', H l = none → Sw [] H H' → H' l = some (.lst xs) → Q (.ref l) H') : nList K [.ref p] H Q := ⟨p, xs, rfl, .inl (SqL.of h), fun l n => q l _ n (Sw.new n) upd_same⟩
theorem r_listT (h : H p = some (.tup xs)) (q : ∀ l H', H l = none → Sw [] H H' → H' l = some (.lst xs) → Q (.ref l) H') : nList K [.ref p] H Q := ⟨p, xs, rfl, .inr (SqT.of h), fun l n => q l _ n (Sw.new n) upd_same⟩
theorem r_tupL (h : H p = some (.lst xs)) (q : ∀ l H', H l = none → Sw [] H H' → H' l = some (.tup xs) → Q (.ref l) H') : nTuple K [.ref p] H Q := ⟨p, xs, rfl, .inl ⟨SqL.of h, fun l n => q l _ n (Sw.new n) upd_same⟩⟩
theorem r_addS {a b : Str} (h : a.length + b.length ≤ sizeLine) (q : Q (.str (a ++ b)) H) : nAddS (.str a) (.str b) H Q := ⟨a, b, rfl, rfl, h, q⟩
theorem r_isN (q : Q (.bl (decide (x = .non))) H) : nIsN x .non H Q := ⟨rfl, q⟩
theorem r_notN (q : Q (.bl (!decide (x = .non))) H) : nNotN x .non H Q := ⟨rfl, q⟩
theorem r_slL {lo hi : Option Int} (h : SqL K H p xs) (q : ∀ l H', H l = none → Sw [] H H' → H' l = some (.lst (cutV xs lo hi)) → Q (.ref l) H') : rSlL K (.ref p) lo hi H Q := ⟨p, xs, rfl, h, fun l n => q l _ n (Sw.new n) upd_same⟩
theorem r_slS {z : Str} {lo hi : Option Int} (h : z.length ≤ sizeLine) (q : Q (.str (cutS z lo hi)) H) : rSlS (.str z) lo hi H Q := ⟨z, rfl, h, q⟩
theorem r_sl {r : V → Option Int → Option Int → Hp → VK → Prop} {te : TE} {tl th : TO} (q : te σ H fun x H1 => tl σ H1 fun l H2 => th σ H2 fun u H3 => r x l u H3 Q) : L2.tSl r te tl th σ H Q := q
theorem r_noPart {R : Option Int → Hp → Prop} (q : R none H) : tNoPart σ H R := q
theorem r_part {t : TE} {R : Option Int → Hp → Prop} (q : t σ H fun x H1 => ∃ i, x = .int i ∧ R (some i) H1) : tPart t σ H R := q
theorem r_exI {A : Int → Prop} (q : A i) : ∃ a, V.int i = .int a ∧ A a := ⟨i, rfl, q⟩
def kRev (K : PySem.W.Frag) (Q : VK) (x : V) (H : Hp) : Prop := ∃ a xs, x = .ref a ∧ SqL K H a xs ∧ ∀ p, H p = none → Q (.ref p) (upd H p (.lst xs.reverse))
theorem r_revL {te : TE} (q : te σ H (kRev K Q)) : tRevL K te σ H Q := q
theorem r_kRev (h : H p = some (.lst xs)) (q : ∀ l H', H l = none → Sw [] H H' → H' l = some (.lst xs.reverse) → Q (.ref l) H') : kRev K Q (.ref p) H := ⟨p, xs, rfl, SqL.of h, fun l n => q l _ n (Sw.new n) upd_same⟩
theorem r_m1 {r : V → List V → Hp → VK → Prop} {to te : TE} (q : to σ H fun x H1 => (∃ a, x = .str a) ∧ te σ H1 fun y H2 => r x [y] H2 Q) : tM1 r to te σ H Q := q
theorem r_exS {a : Str} {A : Prop} (q : A) : (∃ b, V.str a = .str b) ∧ A := ⟨⟨a, rfl⟩, q⟩
theorem r_all {bs : List Bool} (h : H p = some (.lst (bs.map V.bl))) (q : Q (.bl (bs.all id)) H) : rAll K [.ref p] H Q := ⟨p, bs, rfl, SqL.of h, q⟩
theorem r_any {bs : List Bool} (h : H p = some (.lst (bs.map V.bl))) (q : Q (.bl (bs.any id)) H) : rAny K [.ref p] H Q := ⟨p, bs, rfl, SqL.of h, q⟩
theorem r_sum {ns : List Int} (h : H p = some (.lst (ns.map V.int))) (q : Q (.int ns.sum) H) : rSum K [.ref p] H Q := ⟨p, ns, rfl, SqL.of h, q⟩
theorem r_max {ns : List Int} (h : H p = some (.lst (ns.map V.int))) (n : 0 < ns.length) (q : ∀ m, m ∈ ns → (∀ y, y ∈ ns → y ≤ m) → Q (.int m) H) : rMax K [.ref p] H Q := ⟨p, ns, rfl, SqL.of h, n, q⟩
theorem r_min {ns : List Int} (h : H p = some (.lst (ns.map V.int))) (n : 0 < ns.length) (q : ∀ m, m ∈ ns → (∀ y, y ∈ ns → m ≤ y) → Q (.int m) H) : rMin K [.ref p] H Q := ⟨p, ns, rfl, SqL.of h, n, q⟩
theorem r_lenDT {kvs : List (List Key × V)} (h : H p = some (.dT kvs)) (q : Q (.int (kvs.length : Int)) H) : rLenT [.ref p] H Q := ⟨p, kvs, rfl, h, q⟩
theorem r_inL {neg : Bool} (h : H p = some (.lst xs)) (f : flatV x = true) (a : xs.all flatV = true) (q : Q (.bl (if neg then !inV x xs else inV x xs)) H) : rIn K neg x (.ref p) H Q := ⟨p, xs, rfl, .inl (SqL.of h), f, a, q⟩
/-- isinstance of a value whose class is a built-in one -/
theorem r_isi {T U : String} {b : Bool} (t : TyX K H x (.type T)) (k : kitB T U = some b) (q : Q (.bl b) H) : rIsi K [x, .ty U] H Q := ⟨x, .ty U, .type T, .type U, b, rfl, by first | exact .ty | exact rfl | constructor, t, kit_ty k, q⟩
end
end Vf
/-! VDraw -/
namespace Vf
open PySem PySem.Spec PyProof.Rows L2
/-! ### the source of draws -/
structure DSn (h c : Addr) (cells : List Int) (stir : Int) (H : Hp) : Prop where
  ne : h ≠ c
  hh : H h = some (.lst [.ref c, .int stir])
  hc : H c = some (.lst (cells.map V.int))
  len : cells.length ≤ 60
  lo : 0 ≤ stir
  hi : stir < 2147483647
def DS (h c : Addr) (H : Hp) : Prop := ∃ cells stir, DSn h c cells stir H
theorem DSn.sw0 {h c : Addr} {cells : List Int} {stir : Int} {H H' : Hp} (d : DSn h c cells stir H) (s : Sw [] H H') : DSn h c cells stir H' := ⟨d.ne, s.keep _ _ not0 d.hh, s.keep _ _ not0 d.hc, d.len, d.lo, d.hi⟩
theorem DS.sw0 {h c : Addr} {H H' : Hp} (d : DS h c H) (s : Sw [] H H') : DS h c H' := let ⟨cs, st, x⟩ := d; ⟨cs, st, x.sw0 s⟩
theorem DSn.sw {W : List Addr} {h c : Addr} {cells : List Int} {stir : Int} {H H' : Hp} (d : DSn h c cells stir H) (s : Sw W H H') (a : h ∉ W) (b : c ∉ W) : DSn h c cells stir H' := ⟨d.ne, s.keep _ _ a d.hh, s.keep _ _ b d.hc, d.len, d.lo, d.hi⟩
theorem DS.sw {W : List Addr} {h c : Addr} {H H' : Hp} (d : DS h c H) (s : Sw W H H') (a : h ∉ W) (b : c ∉ W) : DS h c H' := let ⟨cs, st, x⟩ := d; ⟨cs, st, x.sw s a b⟩
theorem DS.newH {h c p : Addr} {H : Hp} (d : DS h c H) (n : H p = none) : p ≠ h := let ⟨_, _, x⟩ := d; Ne.symm (ne_of_none x.hh n)
theorem DS.newC {h c p : Addr} {H : Hp} (d : DS h c H) (n : H p = none) : p ≠ c := let ⟨_, _, x⟩ := d; Ne.symm (ne_of_none x.hc n)
def spDraw : Sp := fun vs H Q _ => ∃ (h c : Addr) (n : Int), vs = [.ref h, .int n] ∧ DS h c H ∧ 0 < n ∧ n < 2 ^ 100 ∧ ∀ (r : Int) (H' : Hp), 0 ≤ r → r < n → DS h c H' → Sw [h, c] H H' → Q (.int r) H'
theorem dp_ints {K : PySem.W.Frag} {H : Hp} : ∀ ns : List Int, DpAll K H (ns.map V.int) (ns.map PyData.int)
  | [] => .nil
  | n :: ns => .cons (.int n) (dp_ints ns)
theorem lay_ints : ∀ ns : List Int, PyData.canLayAll0 (ns.map PyData.int) = true
  | [] => rfl
  | n :: ns => by
    show (PyData.canLay0 (.int n) && PyData.canLayAll0 (ns.map PyData.int)) = true
    rw [lay_ints ns]
    rfl
theorem depth_ints : ∀ ns : List Int, PyData.depthAll (ns.map PyData.int) ≤ 1
  | [] => by decide
  | n :: ns => by
    have ih := depth_ints ns
    have e : PyData.depthAll (PyData.int n :: ns.map PyData.int) = max (PyData.depth (.int n)) (PyData.depthAll (ns.map PyData.int)) := by simp only [PyData.depthAll]
    show PyData.depthAll (PyData.int n :: ns.map PyData.int) ≤ 1
    rw [e]
    have e2 : PyData.depth (.int n) ≤ 1 := by simp [PyData.depth]
    omega
theorem shaped_ints (ns : List Int) : SeqAt.shaped (.list (ns.map PyData.int)) = true := by
  unfold SeqAt.shaped
  have e : PyData.canLay0 (.list (ns.map PyData.int)) = true := by
    simp only [PyData.canLay0]
    exact lay_ints ns
  have d : PyData.depth (.list (ns.map PyData.int)) ≤ 64 := by
    have := depth_ints ns
    simp only [PyData.depth]
    omega
  rw [e, decide_eq_true d]
  rfl
theorem r_neNil {K : PySem.W.Frag} {Q : VK} {H : Hp} {p l : Addr} {ns : List Int} (hp : H p = some (.lst (ns.map V.int))) (hl : H l = some (.lst [])) (q : Q (.bl (!ns.isEmpty)) H) : rNeD K (.ref p) (.ref l) H Q := by
  refine ⟨_, _, .lst (SqL.of hp) (dp_ints ns), .lst (SqL.of hl) .nil, shaped_ints ns, shaped_ints [], ?_⟩
  have e : PyData.eqv (.list (ns.map PyData.int)) (.list []) = ns.isEmpty := by
    cases ns with
    | nil => simp [PyData.eqv, PyData.eqvAll]
    | cons a b => simp [PyData.eqv, PyData.eqvAll]
  rw [e]
  exact q
theorem map_last {ns : List Int} (h : ns ≠ []) : ∃ m x, ns = m ++ [x] ∧ m.length + 1 = ns.length := by
  refine ⟨ns.dropLast, ns.getLast h, (List.dropLast_concat_getLast h).symm, ?_⟩
  rw [List.length_dropLast]
  cases ns with
  | nil => exact absurd rfl h
  | cons a b =>
    rw [List.length_cons]
    omega
end Vf
namespace Vf
open PySem PySem.Spec PyProof.Rows L2
theorem fmod_bd (i : Int) {n : Int} (h : 0 < n) : 0 ≤ i.fmod n ∧ i.fmod n < n := by
  rw [Int.fmod_eq_emod_of_nonneg i (by omega)]
  exact ⟨Int.emod_nonneg i (by omega), Int.emod_lt_of_pos i h⟩
theorem fmod_emod (i : Int) {n : Int} (h : 0 ≤ n) : i.fmod n = i % n := Int.fmod_eq_emod_of_nonneg i h
theorem small_log {n : Int} (h : n < 2 ^ 100) (h0 : 0 < n) : n.natAbs.log2 < 9000 := by
  have a : n.natAbs < 2 ^ 100 := by omega
  exact Nat.lt_of_lt_of_le (PySem.Flt.log2_lt_of (by decide) a) (by decide)
end Vf
/-! VLoops -/
namespace Vf
open PySem PySem.Spec PyProof.Rows L2
section
variable {σ : L2.St} {H : Hp} {Q : VK} {D : Ends} {K : PySem.W.Frag} {tt : TT} {te tl : TE} {tb : TS} {g : TG} {vs : List Nat} {j : Nat} {a : Addr} {xs : List V}
/-! ### what is walked: what follows is named -/
def kIL (K : PySem.W.Frag) (R : It → Hp → Prop) (x : V) (H : Hp) : Prop := ∃ a, x = .ref a ∧ (∃ xs, SqL K H a xs) ∧ R (Itl K a) H
def kIT (K : PySem.W.Frag) (R : It → Hp → Prop) (x : V) (H : Hp) : Prop := ∃ a, x = .ref a ∧ (∃ xs, SqT K H a xs) ∧ R (Itt K a) H
def kIR (R : It → Hp → Prop) (vs : List V) (H : Hp) : Prop := ∃ n : Int, vs = [.int n] ∧ -(2 ^ 62) ≤ n ∧ n < 2 ^ 62 ∧ R (Itr 0 n.toNat) H
def kIR2 (R : It → Hp → Prop) (vs : List V) (H : Hp) : Prop := ∃ i n : Int, vs = [.int i, .int n] ∧ (-(2 ^ 62) ≤ i ∧ i < 2 ^ 62 ∧ -(2 ^ 62) ≤ n ∧ n < 2 ^ 62) ∧ R (Itr i (n - i).toNat) H
def kLc (g : TG) (tt : TT) (te : TE) (vs : List Nat) (σ : L2.St) (Q : VK) (J : It) (H1 : Hp) : Prop := ∀ D, H1 D = none → ∃ W : Nat → Nat → Hp → Prop, (∃ m, W 0 m (upd H1 D (.lst []))) ∧ ∀ i m H, W i m H →
  (J.stop i H ∧ Q (.ref D) H) ∨ (J.go i H ∧ ∃ Nx : Hp → Prop, (∀ H', Nx H' → ∃ m', m' < m ∧ W (i + 1) m' H') ∧ ∀ x H', J.yld i H x H' → g x (wipe σ vs) H' fun σ2 H2 => wipe σ2 vs = wipe σ vs ∧ tt σ2 H2 fun b H3 =>
    if b = true then te σ2 H3 fun y H4 => ∃ acc, H4 D = some (.lst acc) ∧ acc.length < sizeLine ∧ Nx (upd H4 D (.lst (acc ++ [y]))) else Nx H3)
def kFor (g : TG) (tb : TS) (D : Ends) (σ : L2.St) (J : It) (H1 : Hp) : Prop := ∃ W : Nat → Nat → L2.St → Hp → Prop, (∃ m, W 0 m σ H1) ∧ ∀ i m σ H, W i m σ H →
  (J.stop i H ∧ D.nx σ H) ∨ (J.go i H ∧ ∃ N : L2.St → Hp → Prop, (∀ σ' H', N σ' H' → ∃ m', m' < m ∧ W (i + 1) m' σ' H') ∧ ∀ x H', J.yld i H x H' → g x σ H' fun σ2 H2 => tb { D with nx := N, ct := N, bk := D.nx } σ2 H2)
theorem r_lcL (q : tl σ H (kIL K (kLc g tt te vs σ Q))) : tLc (iList K tl) g tt te vs σ H Q := q
theorem r_lcT (q : tl σ H (kIT K (kLc g tt te vs σ Q))) : tLc (iTup K tl) g tt te vs σ H Q := q
theorem r_lcR {ta : TA} (q : ta σ H (kIR (kLc g tt te vs σ Q))) : tLc (iRng1 ta) g tt te vs σ H Q := q
theorem r_forL (q : tl σ H (kIL K (kFor g tb D σ))) : tFor (iList K tl) g tb D σ H := q
theorem r_forT (q : tl σ H (kIT K (kFor g tb D σ))) : tFor (iTup K tl) g tb D σ H := q
theorem r_forR {ta : TA} (q : ta σ H (kIR (kFor g tb D σ))) : tFor (iRng1 ta) g tb D σ H := q
theorem r_forR2 {ta : TA} (q : ta σ H (kIR2 (kFor g tb D σ))) : tFor (iRng2 ta) g tb D σ H := q
/-! ### comprehensions -/
/-- one turn's end: the new item is put behind -/
def Put (D : Addr) (acc : List V) (N : List V → Hp → Prop) (y : V) (H4 : Hp) : Prop := H4 D = some (.lst acc) ∧ acc.length < sizeLine ∧ ∀ H5, Sw [D] H4 H5 → H5 D = some (.lst (acc ++ [y])) → N (acc ++ [y]) H5
def kPut (D : Addr) (Nx : Hp → Prop) (y : V) (H4 : Hp) : Prop := ∃ acc, H4 D = some (.lst acc) ∧ acc.length < sizeLine ∧ Nx (upd H4 D (.lst (acc ++ [y])))
def kTurn (te : TE) (D : Addr) (σ2 : L2.St) (Nx : Hp → Prop) (b : Bool) (H3 : Hp) : Prop := if b = true then te σ2 H3 (kPut D Nx) else Nx H3
/-- what a comprehension's list D holds, with what else holds, behind i turns -/
def CW (Pv : Nat → List V → Hp → Prop) (D : Addr) (i : Nat) (H : Hp) : Prop := ∃ acc, H D = some (.lst acc) ∧ Pv i acc H
theorem kPut_of {Pv : Nat → List V → Hp → Prop} {Dl : Addr} {i : Nat} {y : V} {H4 : Hp} (acc : List V) (h : H4 Dl = some (.lst acc)) (z : acc.length < sizeLine) (k : ∀ H5, Sw [Dl] H4 H5 → H5 Dl = some (.lst (acc ++ [y])) → Pv (i + 1) (acc ++ [y]) H5) :
    kPut Dl (CW Pv Dl (i + 1)) y H4 := ⟨acc, h, z, acc ++ [y], upd_same, k _ (Sw.put1 h trivial) upd_same⟩
theorem r_kILc (hx : SqL K H a xs) (Pv : Addr → Nat → List V → Hp → Prop) (σw : V → L2.St) (hσ : ∀ x, (wipe σ vs).set j (some x) = σw x) (hw : ∀ x, wipe (σw x) vs = wipe σ vs)
    (h0 : ∀ Dl H1, H Dl = none → Sw [] H H1 → Pv Dl 0 [] H1) (hs : ∀ Dl i acc H1, H Dl = none → H1 Dl = some (.lst acc) → Pv Dl i acc H1 → SqL K H1 a xs)
    (turn : ∀ Dl i x acc H1, H Dl = none → xs[i]? = some x → H1 Dl = some (.lst acc) → Pv Dl i acc H1 → tt (σw x) H1 (kTurn te Dl (σw x) (CW (Pv Dl) Dl (i + 1))))
    (done : ∀ Dl acc H1, H Dl = none → H1 Dl = some (.lst acc) → Pv Dl xs.length acc H1 → Q (.ref Dl) H1) : kIL K (kLc (gName j) tt te vs σ Q) (.ref a) H := by
  refine ⟨a, rfl, ⟨xs, hx⟩, fun Dl hD => ?_⟩
  refine lc_list (K := K) (a := a) (xs := xs) (σ := σ) (vs := vs) (CW (Pv Dl) Dl) ⟨[], upd_same, h0 Dl _ hD (Sw.new hD)⟩ (fun i H1 _ p => let ⟨acc, e, p⟩ := p; hs Dl i acc H1 hD e p) (fun i x H1 hi p => ?_) (fun H1 p => let ⟨acc, e, p⟩ := p; done Dl acc H1 hD e p)
  obtain ⟨acc, e, p⟩ := p
  have q := turn Dl i x acc H1 hD hi e p
  rw [← hσ] at q
  exact ⟨by rw [hσ]; exact hw x, q⟩
theorem r_kITc (hx : SqT K H a xs) (Pv : Addr → Nat → List V → Hp → Prop) (σw : V → L2.St) (hσ : ∀ x, (wipe σ vs).set j (some x) = σw x) (hw : ∀ x, wipe (σw x) vs = wipe σ vs)
    (h0 : ∀ Dl H1, H Dl = none → Sw [] H H1 → Pv Dl 0 [] H1) (hs : ∀ Dl i acc H1, H Dl = none → H1 Dl = some (.lst acc) → Pv Dl i acc H1 → SqT K H1 a xs)
    (turn : ∀ Dl i x acc H1, H Dl = none → xs[i]? = some x → H1 Dl = some (.lst acc) → Pv Dl i acc H1 → tt (σw x) H1 (kTurn te Dl (σw x) (CW (Pv Dl) Dl (i + 1))))
    (done : ∀ Dl acc H1, H Dl = none → H1 Dl = some (.lst acc) → Pv Dl xs.length acc H1 → Q (.ref Dl) H1) : kIT K (kLc (gName j) tt te vs σ Q) (.ref a) H := by
  refine ⟨a, rfl, ⟨xs, hx⟩, fun Dl hD => ?_⟩
  refine lc_tup (K := K) (a := a) (xs := xs) (σ := σ) (vs := vs) (CW (Pv Dl) Dl) ⟨[], upd_same, h0 Dl _ hD (Sw.new hD)⟩ (fun i H1 _ p => let ⟨acc, e, p⟩ := p; hs Dl i acc H1 hD e p) (fun i x H1 hi p => ?_) (fun H1 p => let ⟨acc, e, p⟩ := p; done Dl acc H1 hD e p)
  obtain ⟨acc, e, p⟩ := p
  have q := turn Dl i x acc H1 hD hi e p
  rw [← hσ] at q
  exact ⟨by rw [hσ]; exact hw x, q⟩
theorem r_kIRc {n : Int} (hn : 0 ≤ n ∧ n < 2 ^ 62) (Pv : Addr → Nat → List V → Hp → Prop) (σw : V → L2.St) (hσ : ∀ x, (wipe σ vs).set j (some x) = σw x) (hw : ∀ x, wipe (σw x) vs = wipe σ vs)
    (h0 : ∀ Dl H1, H Dl = none → Sw [] H H1 → Pv Dl 0 [] H1)
    (turn : ∀ Dl (i : Nat) acc H1, H Dl = none → (i : Int) < n → H1 Dl = some (.lst acc) → Pv Dl i acc H1 → tt (σw (.int (i : Int))) H1 (kTurn te Dl (σw (.int (i : Int))) (CW (Pv Dl) Dl (i + 1))))
    (done : ∀ Dl acc H1, H Dl = none → H1 Dl = some (.lst acc) → Pv Dl n.toNat acc H1 → Q (.ref Dl) H1) : kIR (kLc (gName j) tt te vs σ Q) [.int n] H := by
  refine ⟨n, rfl, by omega, by omega, fun Dl hD => ?_⟩
  refine lc_range (lo := 0) (n := n.toNat) (σ := σ) (vs := vs) (CW (Pv Dl) Dl) ⟨[], upd_same, h0 Dl _ hD (Sw.new hD)⟩ (fun i H1 hi p => ?_) (fun H1 p => let ⟨acc, e, p⟩ := p; done Dl acc H1 hD e p)
  obtain ⟨acc, e, p⟩ := p
  have e0 : (0 : Int) + (i : Int) = (i : Int) := Int.zero_add _
  rw [e0]
  have q := turn Dl i acc H1 hD (by omega) e p
  rw [← hσ] at q
  exact ⟨by rw [hσ]; exact hw _, q⟩
theorem r_yes {te : TE} {Dl : Addr} {N : Hp → Prop} {σ2 : L2.St} (q : te σ2 H (kPut Dl N)) : tYes σ2 H (kTurn te Dl σ2 N) := by
  show (if true = true then te σ2 H (kPut Dl N) else N H)
  rw [if_pos rfl]
  exact q
theorem r_turn {te : TE} {Dl : Addr} {N : Hp → Prop} {σ2 : L2.St} {b : Bool} (h1 : b = true → te σ2 H (kPut Dl N)) (h2 : b = false → N H) : kTurn te Dl σ2 N b H := by
  unfold kTurn
  cases b with
  | true => exact iteT (h1 rfl)
  | false => exact iteF (h2 rfl)
/-! ### loops -/
theorem r_kFL (hx : SqL K H a xs) (Pv : Nat → L2.St → Hp → Prop) (h0 : Pv 0 σ H) (hl : ∀ i σ' H', i ≤ xs.length → Pv i σ' H' → SqL K H' a xs)
    (hs : ∀ i x σ' H', xs[i]? = some x → Pv i σ' H' → g x σ' H' fun σ2 H2 => tb { D with nx := Pv (i + 1), ct := Pv (i + 1), bk := D.nx } σ2 H2) (hd : ∀ σ' H', Pv xs.length σ' H' → D.nx σ' H') : kIL K (kFor g tb D σ) (.ref a) H :=
  ⟨a, rfl, ⟨xs, hx⟩, for_list (xs := xs) Pv h0 hl hs hd⟩
theorem r_kFT (hx : SqT K H a xs) (Pv : Nat → L2.St → Hp → Prop) (h0 : Pv 0 σ H) (hl : ∀ i σ' H', i ≤ xs.length → Pv i σ' H' → SqT K H' a xs)
    (hs : ∀ i x σ' H', xs[i]? = some x → Pv i σ' H' → g x σ' H' fun σ2 H2 => tb { D with nx := Pv (i + 1), ct := Pv (i + 1), bk := D.nx } σ2 H2) (hd : ∀ σ' H', Pv xs.length σ' H' → D.nx σ' H') : kIT K (kFor g tb D σ) (.ref a) H :=
  ⟨a, rfl, ⟨xs, hx⟩, for_tup (xs := xs) Pv h0 hl hs hd⟩
theorem r_kFR {n : Int} (hn : 0 ≤ n ∧ n < 2 ^ 62) (Pv : Nat → L2.St → Hp → Prop) (h0 : Pv 0 σ H)
    (hs : ∀ (i : Nat) σ' H', (i : Int) < n → Pv i σ' H' → tb { D with nx := Pv (i + 1), ct := Pv (i + 1), bk := D.nx } (σ'.set j (some (.int (i : Int)))) H') (hd : ∀ σ' H', Pv n.toNat σ' H' → D.nx σ' H') : kIR (kFor (gName j) tb D σ) [.int n] H := by
  refine ⟨n, rfl, by omega, by omega, for_range (lo := 0) (n := n.toNat) Pv h0 (fun i σ' H' hi p => ?_) hd⟩
  have e0 : (0 : Int) + (i : Int) = (i : Int) := Int.zero_add _
  rw [e0]
  exact hs i σ' H' (by omega) p
theorem r_kFR2 {lo n : Int} (hn : 0 ≤ lo ∧ lo < 2 ^ 60 ∧ -(2 ^ 60) ≤ n ∧ n < 2 ^ 60) (Pv : Nat → L2.St → Hp → Prop) (h0 : Pv 0 σ H)
    (hs : ∀ (i : Nat) σ' H', lo + (i : Int) < n → Pv i σ' H' → tb { D with nx := Pv (i + 1), ct := Pv (i + 1), bk := D.nx } (σ'.set j (some (.int (lo + (i : Int))))) H') (hd : ∀ σ' H', Pv (n - lo).toNat σ' H' → D.nx σ' H') : kIR2 (kFor (gName j) tb D σ) [.int lo, .int n] H :=
  ⟨lo, n, rfl, by omega, for_range (lo := lo) (n := (n - lo).toNat) Pv h0 (fun i σ' H' hi p => hs i σ' H' (by omega) p) hd⟩
end
end Vf
namespace Vf
open PySem PySem.Spec PyProof.Rows L2
def spPick : Sp := fun vs H Q _ => ∃ (h c l : Addr) (xs : List V), vs = [.ref h, .ref l] ∧ DS h c H ∧ H l = some (.lst xs) ∧ l ≠ h ∧ l ≠ c ∧ 0 < xs.length ∧ xs.length < 2 ^ 60 ∧
  ∀ (i : Nat) (v : V) (H' : Hp), xs[i]? = some v → DS h c H' → Sw [h, c] H H' → Q v H'
def spHeap (K : PySem.W.Frag) : Sp := fun vs H Q _ => ∃ (a : Addr) (ns : List Int), vs = [.ref a] ∧ SqL K H a (ns.map V.int) ∧ ns.length ≤ 63 ∧
  ∀ (h c : Addr) (H' : Hp), H h = none → H c = none → Sw [] H H' → DS h c H' → Q (.ref h) H'
theorem cut60 {ns : List Int} : ∃ ms : List Int, cutV (ns.map V.int) none (some 60) = ms.map V.int ∧ ms.length ≤ 60 := by
  unfold cutV
  rw [HT.sIx_none]
  have e : HT.sIx (ns.map V.int).length (ns.map V.int).length (some 60) = min 60 (ns.map V.int).length := HT.sIx_nat (ns.map V.int).length _ 60
  rw [e]
  refine ⟨ns.take 60, ?_, ?_⟩
  · rw [List.drop_zero, Nat.sub_zero, ← List.map_take]
    rw [List.length_map]
    congr 1
    rw [List.take_eq_take_iff]
    omega
  · rw [List.length_take]
    omega
end Vf
namespace Vf
open PySem PySem.Spec PyProof.Rows L2
/-- what is new to the first heap may change in the second -/
theorem Sw.over {W W' : List Addr} {H H1 H2 : Hp} (a : Sw W H H1) (b : Sw W' H1 H2) (h : ∀ x ∈ W', x ∈ W ∨ H x = none) : Sw W H H2 :=
  ⟨fun x o n e => b.keep x o (fun m => by
      rcases h x m with q | q
      · exact n q
      · rw [q] at e
        cases e) (a.keep x o n e), fun x xs e => b.tup x xs (a.tup x xs e), fun x e => a.neu x (b.neu x e)⟩
theorem Sw.over1 {W : List Addr} {H H1 H2 : Hp} {p : Addr} (a : Sw W H H1) (b : Sw [p] H1 H2) (h : H p = none) : Sw W H H2 := a.over b fun x m => .inr (by rw [List.mem_singleton.mp m]; exact h)
end Vf
namespace Vf
open PySem PySem.Spec PyProof.Rows L2
theorem start_is {N : List Str} {vs : List V} {σ' : L2.St} {D : Ends} {t : TS} {H : Hp} (e : L2.start N vs = σ') (q : t D σ' H) : t D (L2.start N vs) H := e ▸ q
end Vf
/-! VNm -/
namespace Vf
open PySem PySem.Spec PyProof.Rows L2
/-! ### names: texts of one to five small letters -/
def codes (z : Str) : List Nat := z.cps.toList
theorem codes_len (z : Str) : z.length = (codes z).length := by
  unfold codes
  rw [Array.length_toList]
  rfl
theorem codes_inj {a b : Str} (h : codes a = codes b) : a = b := ext_toList h
theorem codes_app (a b : Str) : codes (a ++ b) = codes a ++ codes b := Array.toList_append ..
theorem codes_one (c : Nat) : codes ⟨#[c]⟩ = [c] := rfl
theorem codes_cut (z : Str) (k : Nat) : codes (cutS z none (some (k : Int))) = (codes z).take k := by
  unfold cutS codes
  rw [HT.sIx_none, HT.sIx_nat, List.drop_zero, Nat.sub_zero]
  show ((z.cps.toList.take (min k z.length)).toArray).toList = _
  rw [List.toList_toArray]
  have e : z.length = z.cps.toList.length := by rw [Array.length_toList]; rfl
  rw [List.take_eq_take_iff]
  omega
def Small (l : List Nat) : Prop := ∀ c ∈ l, 97 ≤ c ∧ c ≤ 122
def IsName (z : Str) : Prop := 1 ≤ (codes z).length ∧ (codes z).length ≤ 5 ∧ Small (codes z)
theorem Small.app {a b : List Nat} (x : Small a) (y : Small b) : Small (a ++ b) := fun c h => by
  rcases List.mem_append.mp h with h | h
  · exact x c h
  · exact y c h
theorem Small.one {c : Nat} (h : 97 ≤ c ∧ c ≤ 122) : Small [c] := fun d m => by rw [List.mem_singleton.mp m]; exact h
theorem Small.take {l : List Nat} (h : Small l) (n : Nat) : Small (l.take n) := fun c m => h c (List.mem_of_mem_take m)
/-- the alphabet, by its places -/
def abc : Str := "abcdefghijklmnopqrstuvwxyz"
theorem abc_codes : codes abc = (List.range 26).map (· + 97) := by decide +kernel
theorem abc_at {i : Nat} (h : i < 26) : (codes abc)[i]? = some (i + 97) := by
  rw [abc_codes, List.getElem?_map, List.getElem?_range h]
  rfl
theorem atI_abc {i : Int} (h0 : 0 ≤ i) (h : i < 26) : atI abc.cps.toList i = some (i.toNat + 97) := by
  obtain ⟨n, rfl⟩ := Int.eq_ofNat_of_zero_le h0
  have hn : n < 26 := by omega
  exact atI_nat (abc_at hn)
/-! no more different things than there are -/
theorem pigeon {α : Type} [DecidableEq α] : ∀ (l m : List α), l.Nodup → (∀ x ∈ l, x ∈ m) → l.length ≤ m.length
  | [], m, _, _ => Nat.zero_le _
  | a :: l, m, nd, h => by
    obtain ⟨na, nd⟩ := List.nodup_cons.mp nd
    have ha : a ∈ m := h a List.mem_cons_self
    have ih := pigeon l (m.erase a) nd fun x hx => (List.mem_erase_of_ne (fun e => na (by rw [← e]; exact hx))).mpr (h x (List.mem_cons_of_mem _ hx))
    rw [List.length_erase_of_mem ha] at ih
    have : 0 < m.length := List.length_pos_of_mem ha
    rw [List.length_cons]
    omega
/-! the words that are tried: the first three letters, then two that number the trials -/
def two (k : Nat) : List Nat := [k / 26 + 97, k % 26 + 97]
def tried (w0 : List Nat) : Nat → List Nat
  | 0 => w0
  | k + 1 => (tried w0 k).take 3 ++ two k
theorem two_inj {j k : Nat} (h : two j = two k) : j = k := by
  unfold two at h
  injection h with h1 h2
  injection h2 with h2
  omega
theorem tried_one {w0 : List Nat} (h : 1 ≤ w0.length) : 3 ≤ (tried w0 1).length := by
  show 3 ≤ (w0.take 3 ++ two 0).length
  rw [List.length_append, List.length_take]
  show 3 ≤ min 3 w0.length + 2
  omega
theorem tried_take {w0 : List Nat} (h : 1 ≤ w0.length) : ∀ k, (tried w0 (k + 1)).take 3 = (tried w0 1).take 3
  | 0 => rfl
  | k + 1 => by
    have ih := tried_take h k
    have l1 := tried_one h
    show ((tried w0 (k + 1)).take 3 ++ two (k + 1)).take 3 = _
    rw [ih, List.take_append_of_le_length (by rw [List.length_take]; omega), List.take_take]
    rfl
theorem tried_form {w0 : List Nat} (h : 1 ≤ w0.length) (k : Nat) : tried w0 (k + 2) = (tried w0 1).take 3 ++ two (k + 1) := by
  show (tried w0 (k + 1)).take 3 ++ two (k + 1) = _
  rw [tried_take h]
theorem tried_inj {w0 : List Nat} (h : 1 ≤ w0.length) {j k : Nat} (e : tried w0 (j + 1) = tried w0 (k + 1)) : j = k := by
  have key : ∀ {a : Nat}, tried w0 1 = tried w0 (a + 2) → False := fun {a} e => by
    have e' := e
    rw [tried_form h] at e
    have l : (tried w0 1).length = min 3 w0.length + 2 := by
      show (w0.take 3 ++ two 0).length = _
      rw [List.length_append, List.length_take]
      rfl
    have l2 : ((tried w0 1).take 3 ++ two (a + 1)).length = 5 := by
      rw [List.length_append, List.length_take, Nat.min_eq_left (tried_one h)]
      rfl
    have l3 : (tried w0 1).length = 5 := by
      rw [e']
      rw [tried_form h]
      exact l2
    have w3 : 3 ≤ w0.length := by omega
    have e2 : tried w0 1 = (tried w0 1).take 3 ++ two 0 := by
      have : (tried w0 1).take 3 = w0.take 3 := by
        show (w0.take 3 ++ two 0).take 3 = _
        rw [List.take_append_of_le_length (by rw [List.length_take]; omega), List.take_take]
        rfl
      rw [this]
      rfl
    have e3 := List.append_cancel_left (e2.symm.trans e)
    have := two_inj e3
    omega
  cases j with
  | zero =>
    cases k with
    | zero => rfl
    | succ k => exact (key e).elim
  | succ j =>
    cases k with
    | zero => exact (key e.symm).elim
    | succ k =>
      rw [tried_form h, tried_form h] at e
      have := two_inj (List.append_cancel_left e)
      omega
theorem nodup_map_on {α β : Type} {f : α → β} : ∀ {l : List α}, (∀ a ∈ l, ∀ b ∈ l, f a = f b → a = b) → l.Nodup → (l.map f).Nodup
  | [], _, _ => List.nodup_nil
  | a :: l, h, nd => by
    obtain ⟨na, nd⟩ := List.nodup_cons.mp nd
    rw [List.map_cons, List.nodup_cons]
    refine ⟨fun m => ?_, nodup_map_on (fun x hx y hy e => h x (List.mem_cons_of_mem _ hx) y (List.mem_cons_of_mem _ hy) e) nd⟩
    obtain ⟨b, hb, e⟩ := List.mem_map.mp m
    have := h b (List.mem_cons_of_mem _ hb) a List.mem_cons_self e
    rw [this] at hb
    exact na hb
/-- not all trials are there already -/
theorem tried_new {w0 : List Nat} (h : 1 ≤ w0.length) {found : List (List Nat)} {n : Nat} (hn : found.length < n) (all : ∀ k, k ≤ n → tried w0 k ∈ found) : False := by
  have nd : ((List.range n).map fun k => tried w0 (k + 1)).Nodup := nodup_map_on (fun a _ b _ e => tried_inj h e) List.nodup_range
  have := pigeon _ found nd fun x hx => by
    obtain ⟨k, hk, rfl⟩ := List.mem_map.mp hx
    exact all (k + 1) (by have := List.mem_range.mp hk; omega)
  rw [List.length_map, List.length_range] at this
  omega
theorem two_small {k : Nat} (h : k < 676) : Small (two k) := fun c m => by
  unfold two at m
  rcases List.mem_cons.mp m with e | m
  · omega
  · have e := List.mem_singleton.mp m
    omega
theorem tried_name {w0 : List Nat} (h : 1 ≤ w0.length ∧ w0.length ≤ 5 ∧ Small w0) : ∀ {k : Nat}, k ≤ 600 → 1 ≤ (tried w0 k).length ∧ (tried w0 k).length ≤ 5 ∧ Small (tried w0 k)
  | 0, _ => h
  | k + 1, hk => by
    have ih := tried_name h (k := k) (by omega)
    refine ⟨?_, ?_, (ih.2.2.take 3).app (two_small (by omega))⟩
    · show 1 ≤ ((tried w0 k).take 3 ++ two k).length
      rw [List.length_append]
      have : (two k).length = 2 := rfl
      omega
    · show ((tried w0 k).take 3 ++ two k).length ≤ 5
      rw [List.length_append, List.length_take]
      have : (two k).length = 2 := rfl
      omega
/-! sorted texts -/
theorem inV_strs (z : Str) : ∀ fs : List Str, inV (.str z) (fs.map V.str) = decide (z ∈ fs)
  | [] => rfl
  | a :: fs => by
    have ih := inV_strs z fs
    unfold inV at ih ⊢
    rw [List.map_cons, List.any_cons, ih]
    show (a == z || decide (z ∈ fs)) = _
    by_cases e : a = z
    · subst e
      simp
    · have e2 : (a == z) = false := beq_eq_false_iff_ne.mpr e
      rw [e2, Bool.false_or]
      have : (z ∈ a :: fs) = (z ∈ fs) := by
        rw [List.mem_cons]
        exact propext ⟨fun h => h.resolve_left (fun q => e q.symm), .inr⟩
      simp only [this]
theorem flat_strs : ∀ fs : List Str, (fs.map V.str).all flatV = true
  | [] => rfl
  | a :: fs => by
    rw [List.map_cons, List.all_cons, flat_strs fs]
    rfl
end Vf
namespace Vf
open PySem PySem.Spec PyProof.Rows L2
def SortedNames (ns : List Str) : Prop := ns.Nodup ∧ (∀ z ∈ ns, IsName z) ∧ sortedS ns = true
def spNames : Sp := fun vs H Q _ => ∃ (h c : Addr) (n : Int), vs = [.ref h, .int n] ∧ DS h c H ∧ 1 ≤ n ∧ n ≤ 60 ∧
  ∀ (p : Addr) (ns : List Str) (H' : Hp), H p = none → Sw [h, c] H H' → DS h c H' → H' p = some (.lst (ns.map V.str)) → (ns.length : Int) = n → SortedNames ns → p ≠ h → p ≠ c → Q (.ref p) H'
section
variable {σ : L2.St} {H : Hp} {K : PySem.W.Frag} {a : Addr} {xs : List V} {n : Nat} {R : L2.St → Hp → Prop}
theorem r_gTup {t : TGs} (h : H a = some (.tup xs)) (e : xs.length = n) (q : t xs σ H R) : gTup K n t (.ref a) σ H R := ⟨a, xs, rfl, SqT.of h, e, q⟩
theorem r_gCons {t : TG} {u : TGs} {v : V} {r : List V} (q : t v σ H fun σ' H' => u r σ' H' R) : gCons t u (v :: r) σ H R := ⟨v, r, rfl, q⟩
theorem r_gNil (q : R σ H) : gNil [] σ H R := ⟨rfl, q⟩
theorem r_join {Q : VK} {z : Str} {ys : List Str} (h : H a = some (.lst (ys.map V.str))) (l : (ys.map (·.length)).sum + ys.length * z.length ≤ 16777216) (q : Q (.str (Txt.join z ys)) H) :
    ∃ b p, ∃ zs : List Str, V.str z = .str b ∧ [V.ref a] = [.ref p] ∧ (SqL K H p (zs.map V.str) ∨ SqT K H p (zs.map V.str)) ∧ (zs.map (·.length)).sum + zs.length * b.length ≤ 16777216 ∧ Q (.str (Txt.join b zs)) H :=
  ⟨z, a, ys, rfl, rfl, .inl (SqL.of h), l, q⟩
end
theorem codes_join : ∀ (ys : List Str), codes (Txt.join Str.empty ys) = (ys.map codes).flatten := by
  have go : ∀ (rest : List Str) (acc : Array Nat), (rest.foldl (fun acc p => acc ++ Str.empty.cps ++ p.cps) acc).toList = acc.toList ++ (rest.map codes).flatten := by
    intro rest
    induction rest with
    | nil =>
      intro acc
      simp
    | cons p r ih =>
      intro acc
      rw [List.foldl_cons, ih, List.map_cons, List.flatten_cons]
      have e : (Str.empty.cps : Array Nat) = #[] := rfl
      rw [e, Array.append_empty, Array.toList_append, List.append_assoc]
      rfl
  intro ys
  cases ys with
  | nil => rfl
  | cons y r =>
    rw [List.map_cons, List.flatten_cons]
    exact go r y.cps
theorem flat_ones {ys : List Str} (h : ∀ y ∈ ys, ∃ c, codes y = [c] ∧ 97 ≤ c ∧ c ≤ 122) : (ys.map codes).flatten.length = ys.length ∧ Small (ys.map codes).flatten ∧ (ys.map (·.length)).sum = ys.length := by
  induction ys with
  | nil => exact ⟨rfl, fun _ m => absurd m List.not_mem_nil, rfl⟩
  | cons y r ih =>
    obtain ⟨i1, i2, i3⟩ := ih fun z hz => h z (List.mem_cons_of_mem _ hz)
    obtain ⟨c, e, hc⟩ := h y List.mem_cons_self
    rw [List.map_cons, List.flatten_cons, List.map_cons, List.sum_cons, e]
    refine ⟨by rw [List.length_append, i1]; show 1 + r.length = r.length + 1; omega, (Small.one hc).app i2, ?_⟩
    rw [i3, codes_len, e]
    show 1 + r.length = r.length + 1
    omega
theorem codes_mul2 (c : Nat) : codes (Txt.mul ⟨#[c]⟩ 2) = [c, c] := rfl
end Vf
namespace Vf
open PySem PySem.Spec PyProof.Rows L2
section
variable {h c : Addr} {H : Hp} {Q : VK} {E : XK}
theorem use_draw {n : Int} (d : DS h c H) (n0 : 0 < n) (n1 : n < 2 ^ 100) (k : ∀ (r : Nat) (H' : Hp), (r : Int) < n → DS h c H' → Sw [h, c] H H' → Q (.int (r : Int)) H') : spDraw [.ref h, .int n] H Q E :=
  ⟨h, c, n, rfl, d, n0, n1, fun r H' r0 r1 d1 s1 => by
    obtain ⟨m, rfl⟩ := Int.eq_ofNat_of_zero_le r0
    exact k m H' r1 d1 s1⟩
theorem use_pick {l : Addr} {xs : List V} (d : DS h c H) (hl : H l = some (.lst xs)) (n1 : l ≠ h) (n2 : l ≠ c) (z0 : 0 < xs.length) (z1 : xs.length < 2 ^ 60)
    (k : ∀ (i : Nat) (v : V) (H' : Hp), xs[i]? = some v → DS h c H' → Sw [h, c] H H' → Q v H') : spPick [.ref h, .ref l] H Q E := ⟨h, c, l, xs, rfl, d, hl, n1, n2, z0, z1, k⟩
end
end Vf
/-! VTv -/
namespace Vf
open PySem PySem.Spec PyProof.Rows L2
theorem perm_eraseIdx {α : Type} : ∀ (l : List α) (i : Nat) (x : α), l[i]? = some x → (x :: l.eraseIdx i).Perm l
  | [], i, x, h => by simp at h
  | a :: l, 0, x, h => by
    rw [List.getElem?_cons_zero] at h
    rw [← Option.some.inj h]
    exact List.Perm.refl _
  | a :: l, i + 1, x, h => by
    rw [List.getElem?_cons_succ] at h
    rw [List.eraseIdx_cons_succ]
    exact (List.Perm.swap _ _ _).trans ((perm_eraseIdx l i x h).cons a)
/-- amounts, one for each name -/
def tv (ns : List Str) (u : Str → Int) : List V := ns.map fun z => .int (u z)
theorem tv_len (ns : List Str) (u : Str → Int) : (tv ns u).length = ns.length := List.length_map ..
theorem tv_get {ns : List Str} {u : Str → Int} {i : Nat} {z : Str} (h : ns[i]? = some z) : (tv ns u)[i]? = some (.int (u z)) := by
  unfold tv
  rw [List.getElem?_map, h]
  rfl
theorem tv_set {ns : List Str} (nd : ns.Nodup) {u : Str → Int} {i : Nat} {z : Str} (h : ns[i]? = some z) (k : Int) : (tv ns u).set i (.int k) = tv ns (fun y => if y = z then k else u y) := by
  induction ns generalizing i with
  | nil => simp at h
  | cons a ns ih =>
    obtain ⟨na, nd⟩ := List.nodup_cons.mp nd
    cases i with
    | zero =>
      rw [List.getElem?_cons_zero] at h
      have e := Option.some.inj h
      subst e
      show V.int k :: tv ns u = V.int (if a = a then k else u a) :: tv ns (fun y => if y = a then k else u y)
      rw [if_pos rfl]
      congr 1
      unfold tv
      refine List.map_congr_left fun y hy => ?_
      show V.int (u y) = V.int (if y = a then k else u y)
      rw [if_neg fun e : y = a => na (by rw [← e]; exact hy)]
    | succ i =>
      rw [List.getElem?_cons_succ] at h
      show V.int (u a) :: (tv ns u).set i (.int k) = V.int (if a = z then k else u a) :: tv ns _
      rw [ih nd h]
      show _ = V.int (if a = z then k else u a) :: _
      rw [if_neg fun e : a = z => na (by rw [e]; exact List.mem_of_getElem? h)]
theorem tv_congr {ns : List Str} {u v : Str → Int} (h : ∀ z ∈ ns, u z = v z) : tv ns u = tv ns v := List.map_congr_left fun z hz => by rw [h z hz]
theorem tv_inj {ns : List Str} {u v : Str → Int} (h : tv ns u = tv ns v) : ∀ z ∈ ns, u z = v z := by
  intro z hz
  have := List.map_inj_left.mp h z hz
  exact V.int.inj this
def spMixed : Sp := fun vs H Q _ => ∃ (h c l : Addr) (xs : List V), vs = [.ref h, .ref l] ∧ DS h c H ∧ H l = some (.lst xs) ∧ l ≠ h ∧ l ≠ c ∧ xs.length ≤ 60 ∧
  ∀ (p : Addr) (ys : List V) (H' : Hp), H p = none → Sw [h, c] H H' → DS h c H' → H' p = some (.lst ys) → ys.Perm xs → Q (.ref p) H'
def spBeside : Sp := fun vs H Q _ => ∃ (a b : Addr) (ns : List Str) (u v : Str → Int) (m : Int), vs = [.ref a, .ref b, .int m] ∧ H a = some (.tup (tv ns u)) ∧ H b = some (.tup (tv ns v)) ∧ ns.length ≤ 60 ∧ -(2 ^ 64) < m ∧ m < 2 ^ 64 ∧
  ∀ (p : Addr) (H' : Hp), H p = none → Sw [] H H' → H' p = some (.tup (tv ns fun z => u z + m * v z)) → Q (.ref p) H'
def spTurned : Sp := fun vs H Q _ => ∃ (h c a : Addr) (ns : List Str) (u : Str → Int), vs = [.ref h, .ref a] ∧ DS h c H ∧ H a = some (.tup (tv ns u)) ∧ ns.Nodup ∧ 0 < ns.length ∧ ns.length ≤ 60 ∧ (∀ z ∈ ns, 0 ≤ u z) ∧
  ∀ (p : Addr) (t : Str → Int) (z1 : Str) (H' : Hp), H p = none → Sw [h, c] H H' → DS h c H' → H' p = some (.tup (tv ns t)) → z1 ∈ ns → (∀ z ∈ ns, 0 ≤ t z ∧ t z ≤ u z + if z = z1 then 1 else 0) → Q (.ref p) H'
end Vf
namespace Vf
open PySem PySem.Spec PyProof.Rows L2
theorem r_par3 {σ : L2.St} {H : Hp} {D : Ends} {n m l : Nat} {ta : TA} (q : ta σ H fun vs H1 => ∃ u v w, vs = [u, v, w] ∧ D.nx (((σ.set n (some u)).set m (some v)).set l (some w)) H1) : tPar3 n m l ta D σ H := q
theorem r_three {u v w : V} {A : V → V → V → Prop} (q : A u v w) : ∃ a b c, [u, v, w] = [a, b, c] ∧ A a b c := ⟨u, v, w, rfl, q⟩
end Vf
/-! VFm -/
namespace Vf
open PySem PySem.Spec PyProof.Rows L2
/-! ### formulas -/
inductive Fm where
  | kind (z : Str) : Fm
  | many (n : Nat) (f : Fm) : Fm
  | node (w : Bool) (fs : List Fm) : Fm
mutual
def leaves : Fm → List Str
  | .kind z => [z]
  | .many _ f => leaves f
  | .node _ fs => leavesL fs
def leavesL : List Fm → List Str
  | [] => []
  | f :: fs => leaves f ++ leavesL fs
end
mutual
def dep : Fm → Nat
  | .kind _ => 1
  | .many _ f => dep f + 1
  | .node _ fs => depL fs + 1
def depL : List Fm → Nat
  | [] => 0
  | f :: fs => max (dep f) (depL fs)
end
mutual
def WfF : Nat → Fm → Prop
  | _, .kind _ => True
  | r, .many n f => 2 ≤ n ∧ n ≤ r ∧ WfF (r / n) f
  | r, .node _ fs => fs ≠ [] ∧ WfL r fs
def WfL : Nat → List Fm → Prop
  | _, [] => True
  | r, f :: fs => WfF r f ∧ WfL r fs
end
mutual
def OkF : Fm → Prop
  | .kind _ => True
  | .many n f => 1 ≤ n ∧ n < 2 ^ 60 ∧ OkF f
  | .node _ fs => fs ≠ [] ∧ OkL fs
def OkL : List Fm → Prop
  | [] => True
  | f :: fs => OkF f ∧ OkL fs
end
def word (w : Bool) : Str := if w then "and" else "or"
mutual
def IsF (H : Hp) : Fm → V → Prop
  | .kind z, v => ∃ a, v = .ref a ∧ H a = some (.tup [.str "kind", .str z])
  | .many n f, v => ∃ a b, v = .ref a ∧ H a = some (.tup [.str "many", .int (n : Int), b]) ∧ IsF H f b
  | .node w fs, v => ∃ a b bs, v = .ref a ∧ H a = some (.tup [.str (word w), .ref b]) ∧ H b = some (.tup bs) ∧ IsFL H fs bs
def IsFL (H : Hp) : List Fm → List V → Prop
  | [], bs => bs = []
  | f :: fs, bs => ∃ b r, bs = b :: r ∧ IsF H f b ∧ IsFL H fs r
end
mutual
theorem IsF.up {H H' : Hp} (t : ∀ a xs, H a = some (.tup xs) → H' a = some (.tup xs)) : ∀ {f : Fm} {v : V}, IsF H f v → IsF H' f v
  | .kind z, v, h => by
    unfold IsF at h ⊢
    obtain ⟨a, e, x⟩ := h
    exact ⟨a, e, t _ _ x⟩
  | .many n f, v, h => by
    unfold IsF at h ⊢
    obtain ⟨a, b, e, x, y⟩ := h
    exact ⟨a, b, e, t _ _ x, IsF.up t y⟩
  | .node w fs, v, h => by
    unfold IsF at h ⊢
    obtain ⟨a, b, bs, e, x, y, z⟩ := h
    exact ⟨a, b, bs, e, t _ _ x, t _ _ y, IsFL.up t z⟩
theorem IsFL.up {H H' : Hp} (t : ∀ a xs, H a = some (.tup xs) → H' a = some (.tup xs)) : ∀ {fs : List Fm} {bs : List V}, IsFL H fs bs → IsFL H' fs bs
  | [], bs, h => by
    unfold IsFL at h ⊢
    exact h
  | f :: fs, bs, h => by
    unfold IsFL at h ⊢
    obtain ⟨b, r, e, x, y⟩ := h
    exact ⟨b, r, e, IsF.up t x, IsFL.up t y⟩
end
theorem IsF.sw {W : List Addr} {H H' : Hp} {f : Fm} {v : V} (h : IsF H f v) (s : Sw W H H') : IsF H' f v := h.up s.tup
theorem IsFL.sw {W : List Addr} {H H' : Hp} {f : List Fm} {v : List V} (h : IsFL H f v) (s : Sw W H H') : IsFL H' f v := h.up s.tup
theorem IsFL.add {H : Hp} : ∀ {fs : List Fm} {bs : List V} {f : Fm} {b : V}, IsFL H fs bs → IsF H f b → IsFL H (fs ++ [f]) (bs ++ [b])
  | [], bs, f, b, h, g => by
    unfold IsFL at h
    rw [h]
    show IsFL H [f] [b]
    unfold IsFL
    exact ⟨b, [], rfl, g, by unfold IsFL; rfl⟩
  | x :: fs, bs, f, b, h, g => by
    unfold IsFL at h
    obtain ⟨y, r, e, p, q⟩ := h
    rw [e]
    show IsFL H (x :: (fs ++ [f])) (y :: (r ++ [b]))
    unfold IsFL
    exact ⟨y, r ++ [b], rfl, p, IsFL.add q g⟩
theorem IsFL.len {H : Hp} : ∀ {fs : List Fm} {bs : List V}, IsFL H fs bs → bs.length = fs.length
  | [], bs, h => by
    unfold IsFL at h
    rw [h]
    rfl
  | x :: fs, bs, h => by
    unfold IsFL at h
    obtain ⟨y, r, e, p, q⟩ := h
    rw [e, List.length_cons, List.length_cons, IsFL.len q]
theorem IsFL.at {H : Hp} : ∀ {fs : List Fm} {bs : List V} {i : Nat} {b : V}, IsFL H fs bs → bs[i]? = some b → ∃ f, fs[i]? = some f ∧ IsF H f b
  | [], bs, i, b, h, e => by
    unfold IsFL at h
    rw [h] at e
    simp at e
  | x :: fs, bs, i, b, h, e => by
    unfold IsFL at h
    obtain ⟨y, r, e', p, q⟩ := h
    rw [e'] at e
    cases i with
    | zero =>
      rw [List.getElem?_cons_zero] at e
      rw [← Option.some.inj e]
      exact ⟨x, rfl, p⟩
    | succ i =>
      rw [List.getElem?_cons_succ] at e
      obtain ⟨f, a, b⟩ := IsFL.at q e
      exact ⟨f, by rw [List.getElem?_cons_succ]; exact a, b⟩
theorem leavesL_add (fs gs : List Fm) : leavesL (fs ++ gs) = leavesL fs ++ leavesL gs := by
  induction fs with
  | nil => simp [leavesL]
  | cons f fs ih => simp [leavesL, ih, List.append_assoc]
theorem leavesL_one (f : Fm) : leavesL [f] = leaves f := by simp [leavesL]
theorem depL_add (fs : List Fm) (f : Fm) : depL (fs ++ [f]) = max (depL fs) (dep f) := by
  induction fs with
  | nil => simp [depL]
  | cons g fs ih => simp [depL, ih, Nat.max_assoc]
theorem WfL_add {r : Nat} {fs : List Fm} {f : Fm} (h : WfL r fs) (g : WfF r f) : WfL r (fs ++ [f]) := by
  induction fs with
  | nil => exact ⟨g, trivial⟩
  | cons x fs ih => exact ⟨h.1, ih h.2⟩
theorem depL_mem {fs : List Fm} {f : Fm} (h : f ∈ fs) : dep f ≤ depL fs := by
  induction fs with
  | nil => exact absurd h List.not_mem_nil
  | cons g fs ih =>
    unfold depL
    rcases List.mem_cons.mp h with rfl | h
    · omega
    · have := ih h
      omega
mutual
theorem WfF.ok : ∀ {f : Fm} {r : Nat}, r < 2 ^ 60 → WfF r f → OkF f
  | .kind z, r, b, h => by
    unfold OkF
    trivial
  | .many n f, r, b, h => by
    unfold WfF at h
    unfold OkF
    exact ⟨by omega, by omega, WfF.ok (Nat.lt_of_le_of_lt (Nat.div_le_self _ _) b) h.2.2⟩
  | .node w fs, r, b, h => by
    unfold WfF at h
    unfold OkF
    exact ⟨h.1, WfL.ok b h.2⟩
theorem WfL.ok : ∀ {f : List Fm} {r : Nat}, r < 2 ^ 60 → WfL r f → OkL f
  | [], r, b, h => by
    unfold OkL
    trivial
  | f :: fs, r, b, h => by
    unfold WfL at h
    unfold OkL
    exact ⟨WfF.ok b h.1, WfL.ok b h.2⟩
end
theorem cutV_take (xs : List V) (k : Nat) : cutV xs none (some (k : Int)) = xs.take k := by
  unfold cutV
  rw [HT.sIx_none, HT.sIx_nat, List.drop_zero, Nat.sub_zero, List.take_eq_take_iff]
  omega
theorem cutV_drop (xs : List V) (k : Nat) : cutV xs (some (k : Int)) none = xs.drop k := by
  unfold cutV
  rw [HT.sIx_none, HT.sIx_nat]
  rcases Nat.le_total k xs.length with h | h
  · rw [Nat.min_eq_left h, List.take_of_length_le]
    rw [List.length_drop]
    omega
  · rw [Nat.min_eq_right h, Nat.sub_self, List.take_zero, List.drop_eq_nil_of_le h]
def spForm (μ : Nat) : Sp := fun vs H Q _ => ∃ (h c l : Addr) (ns : List Str) (r : Nat), vs = [.ref h, .ref l, .int (r : Int)] ∧ DS h c H ∧ H l = some (.lst (ns.map V.str)) ∧ l ≠ h ∧ l ≠ c ∧ 0 < ns.length ∧ ns.length ≤ 60 ∧ r < 2 ^ 60 ∧ ns.length + r ≤ μ ∧
  ∀ (v : V) (f : Fm) (H' : Hp), Sw [h, c] H H' → DS h c H' → IsF H' f v → leaves f = ns → WfF r f → dep f ≤ μ → Q v H'
end Vf
namespace Vf
open PySem PySem.Spec PyProof.Rows L2
theorem word_kind : ∀ w : Bool, word w ≠ "kind" := by decide +kernel
theorem word_many : ∀ w : Bool, word w ≠ "many" := by decide +kernel
theorem word_or : ∀ w : Bool, word w = "or" → w = false := by decide +kernel
theorem word_nor : ∀ w : Bool, ¬ word w = "or" → w = true := by decide +kernel
theorem word_and : ∀ w : Bool, word w = "and" → w = true := by decide +kernel
theorem word_nand : ∀ w : Bool, ¬ word w = "and" → w = false := by decide +kernel
theorem OkL.mem : ∀ {fs : List Fm} {f : Fm}, OkL fs → f ∈ fs → OkF f
  | [], f, h, m => absurd m List.not_mem_nil
  | g :: fs, f, h, m => by
    unfold OkL at h
    rcases List.mem_cons.mp m with rfl | m
    · exact h.1
    · exact OkL.mem h.2 m
theorem WfL.mem : ∀ {fs : List Fm} {f : Fm} {r : Nat}, WfL r fs → f ∈ fs → WfF r f
  | [], f, r, h, m => absurd m List.not_mem_nil
  | g :: fs, f, r, h, m => by
    unfold WfL at h
    rcases List.mem_cons.mp m with rfl | m
    · exact h.1
    · exact WfL.mem h.2 m
theorem leavesL_take {fs : List Fm} {i : Nat} {f : Fm} (h : fs[i]? = some f) : leavesL (fs.take (i + 1)) = leavesL (fs.take i) ++ leaves f := by
  rw [List.take_add_one, h, leavesL_add]
  show _ ++ leavesL [f] = _
  rw [leavesL_one]
theorem leavesL_pre (fs : List Fm) (i : Nat) : ∃ r, leavesL fs = leavesL (fs.take i) ++ r := ⟨leavesL (fs.drop i), by rw [← leavesL_add, List.take_append_drop]⟩
end Vf
/-! VProg -/
namespace Vf
open PySem PySem.Spec PyProof.Rows L2
/-! sorted texts, all different: one row alone -/
theorem risingS_cons {p x : Str} {r : List Str} (h : risingS p (x :: r) = true) : codes p ≤ codes x ∧ risingS x r = true := by
  unfold risingS at h
  rw [Bool.and_eq_true] at h
  refine ⟨?_, h.2⟩
  have := h.1
  rw [ltCps_eq] at this
  intro l
  have l2 : x.cps.toList < p.cps.toList := l
  rw [decide_eq_true l2] at this
  cases this
theorem risingS_all : ∀ {l : List Str} {p : Str}, risingS p l = true → ∀ x ∈ l, codes p ≤ codes x
  | [], p, h, x, m => absurd m List.not_mem_nil
  | y :: l, p, h, x, m => by
    obtain ⟨a, b⟩ := risingS_cons h
    rcases List.mem_cons.mp m with rfl | m
    · exact a
    · exact List.le_trans a (risingS_all b x m)
theorem pw_rising : ∀ {l : List Str} {p : Str}, risingS p l = true → (p :: l).Pairwise fun a b => codes a ≤ codes b
  | [], p, h => List.pairwise_singleton _ _
  | y :: l, p, h => List.pairwise_cons.mpr ⟨risingS_all h, pw_rising (risingS_cons h).2⟩
theorem pw_sorted : ∀ {l : List Str}, sortedS l = true → l.Pairwise fun a b => codes a ≤ codes b
  | [], h => List.Pairwise.nil
  | y :: l, h => pw_rising h
theorem sorted_uniq {xs ys : List Str} (p : ys.Perm xs) (a : sortedS ys = true) (b : sortedS xs = true) : ys = xs :=
  List.Perm.eq_of_pairwise (le := fun a b => codes a ≤ codes b) (fun x y _ _ h k => codes_inj (List.le_antisymm h k)) (pw_sorted a) (pw_sorted b) p
/-! dict steps -/
section
variable {σ : L2.St} {H : Hp} {Q : VK} {D : Ends} {K : PySem.W.Frag} {td ty tv : TE} {d : Addr} {v y : V}
def kDGet (Q : VK) (x y : V) (H : Hp) : Prop := ∃ a v, x = .ref a ∧ DGet H a y (some v) ∧ Q v H
theorem r_dget (q : td σ H fun x H1 => ty σ H1 fun y H2 => kDGet Q x y H2) : tDGet td ty σ H Q := q
theorem r_kDGetK {kvs : List (Key × V)} {k : Key} (h : H d = some (.dK kvs)) (e : valV kvs k = some v) (q : Q v H) : kDGet Q (.ref d) (kV k) H := ⟨d, v, rfl, by rw [← e]; exact DGet.k h, q⟩
theorem r_kDGetS {kvs : List (Key × V)} {z : Str} (h : H d = some (.dK kvs)) (e : valV kvs (.inr z) = some v) (q : Q v H) : kDGet Q (.ref d) (.str z) H := r_kDGetK (k := .inr z) h e q
theorem r_kDGetT {kvs : List (List Key × V)} {k : List Key} {b : Addr} (h : H d = some (.dT kvs)) (hb : H b = some (.tup (k.map kV))) (e : valV kvs k = some v) (q : Q v H) : kDGet Q (.ref d) (.ref b) H := ⟨d, v, rfl, by rw [← e]; exact DGet.t h hb, q⟩
def kDPut (D : Ends) (σ : L2.St) (x y v : V) (H : Hp) : Prop := ∃ a H4, x = .ref a ∧ DPut H a y v H4 ∧ D.nx σ H4
theorem r_dput (q : tv σ H fun v H1 => td σ H1 fun x H2 => ty σ H2 fun y H3 => kDPut D σ x y v H3) : sDPut td ty tv D σ H := q
theorem r_kDPutS {kvs : List (Key × V)} {z : Str} (h : H d = some (.dK kvs)) (l : kvs.length < sizeLine) (q : ∀ H', Sw [d] H H' → H' d = some (.dK (putK kvs (.inr z) v)) → D.nx σ H') : kDPut D σ (.ref d) (.str z) v H :=
  ⟨d, _, rfl, DPut.k (k := .inr z) h l, q _ (Sw.put1 h trivial) upd_same⟩
theorem r_kDPutT {kvs : List (List Key × V)} {k : List Key} {b : Addr} (h : H d = some (.dT kvs)) (hb : H b = some (.tup (k.map kV))) (l : kvs.length < sizeLine) (q : ∀ H', Sw [d] H H' → H' d = some (.dT (putK kvs k v)) → D.nx σ H') : kDPut D σ (.ref d) (.ref b) v H :=
  ⟨d, _, rfl, DPut.t h hb l, q _ (Sw.put1 h trivial) upd_same⟩
theorem r_newK (q : ∀ p H', H p = none → Sw [] H H' → H' p = some (.dK []) → Q (.ref p) H') : tDNewK σ H Q := fun p n => q p _ n (Sw.new n) upd_same
theorem r_newT (q : ∀ p H', H p = none → Sw [] H H' → H' p = some (.dT []) → Q (.ref p) H') : tDNewT σ H Q := fun p n => q p _ n (Sw.new n) upd_same
end
/-! what a dict holds -/
theorem valV_in {κ : Type} [DecidableEq κ] {kvs : List (κ × V)} {k : κ} (h : k ∈ kvs.map (·.1)) : ∃ v, valV kvs k = some v := by
  induction kvs with
  | nil => exact absurd h List.not_mem_nil
  | cons p r ih =>
    by_cases e : p.1 = k
    · exact ⟨p.2, valV_pos e⟩
    · rw [valV_neg e]
      rw [List.map_cons] at h
      rcases List.mem_cons.mp h with h | h
      · exact absurd h.symm e
      · exact ih h
theorem valV_out {κ : Type} [DecidableEq κ] {kvs : List (κ × V)} {k : κ} (h : k ∉ kvs.map (·.1)) : valV kvs k = none := by
  induction kvs with
  | nil => rfl
  | cons p r ih =>
    rw [List.map_cons, List.mem_cons, not_or] at h
    rw [valV_neg (fun e => h.1 e.symm)]
    exact ih h.2
theorem putK_out {κ : Type} [DecidableEq κ] {kvs : List (κ × V)} {k : κ} (v : V) (h : k ∉ kvs.map (·.1)) : putK kvs k v = kvs ++ [(k, v)] := putK_new v (valV_out h)
theorem valV_zip {κ : Type} [DecidableEq κ] : ∀ {ks : List κ} {ys : List V} {i : Nat} {k : κ} {y : V}, ks.Nodup → ks[i]? = some k → ys[i]? = some y → valV (ks.zip ys) k = some y
  | [], ys, i, k, y, nd, hk, hy => by simp at hk
  | a :: ks, [], i, k, y, nd, hk, hy => by simp at hy
  | a :: ks, b :: ys, 0, k, y, nd, hk, hy => by
    rw [List.getElem?_cons_zero] at hk hy
    rw [List.zip_cons_cons, ← Option.some.inj hy]
    exact valV_pos (p := (a, b)) (Option.some.inj hk)
  | a :: ks, b :: ys, i + 1, k, y, nd, hk, hy => by
    rw [List.getElem?_cons_succ] at hk hy
    obtain ⟨na, nd⟩ := List.nodup_cons.mp nd
    rw [List.zip_cons_cons, valV_neg (p := (a, b)) (fun e : a = k => na (by rw [e]; exact List.mem_of_getElem? hk))]
    exact valV_zip nd hk hy
/-! a dict comprehension over a list that stays -/
def CD (Pv : Nat → List (Key × V) → Hp → Prop) (D : Addr) (i : Nat) (H : Hp) : Prop := ∃ acc, H D = some (.dK acc) ∧ Pv i acc H
def kPutD (D : Addr) (Nx : Hp → Prop) (y z : V) (H5 : Hp) : Prop := ∃ kvs k, y = kV k ∧ H5 D = some (.dK kvs) ∧ kvs.length < sizeLine ∧ Nx (upd H5 D (.dK (putK kvs k z)))
theorem kPutD_of {Pv : Nat → List (Key × V) → Hp → Prop} {Dl : Addr} {i : Nat} {y z : V} {H4 : Hp} (acc : List (Key × V)) (k : Key) (e : y = kV k) (h : H4 Dl = some (.dK acc)) (l : acc.length < sizeLine) (q : ∀ H5, Sw [Dl] H4 H5 → H5 Dl = some (.dK (putK acc k z)) → Pv (i + 1) (putK acc k z) H5) :
    kPutD Dl (CD Pv Dl (i + 1)) y z H4 := ⟨acc, k, e, h, l, _, upd_same, q _ (Sw.put1 h trivial) upd_same⟩
def kDc (g : TG) (tt : TT) (tk tv : TE) (vs : List Nat) (σ : L2.St) (Q : VK) (J : It) (H1 : Hp) : Prop := ∀ D, H1 D = none → ∃ W : Nat → Nat → Hp → Prop, (∃ m, W 0 m (upd H1 D (.dK []))) ∧ ∀ i m H, W i m H →
  (J.stop i H ∧ Q (.ref D) H) ∨ (J.go i H ∧ ∃ Nx : Hp → Prop, (∀ H', Nx H' → ∃ m', m' < m ∧ W (i + 1) m' H') ∧ ∀ x H', J.yld i H x H' → g x (wipe σ vs) H' fun σ2 H2 => wipe σ2 vs = wipe σ vs ∧ tt σ2 H2 fun b H3 =>
    if b = true then tk σ2 H3 fun y H4 => tv σ2 H4 fun z H5 => ∃ kvs k, y = kV k ∧ H5 D = some (.dK kvs) ∧ kvs.length < sizeLine ∧ Nx (upd H5 D (.dK (putK kvs k z))) else Nx H3)
theorem yesD {tk tv : TE} {Dl : Addr} {N : Hp → Prop} {σ2 : L2.St} {H : Hp} (q : tk σ2 H fun y H4 => tv σ2 H4 fun z H5 => kPutD Dl N y z H5) : tYes σ2 H fun b H3 => if b = true then tk σ2 H3 fun y H4 => tv σ2 H4 fun z H5 => kPutD Dl N y z H5 else N H3 := by
  show (if true = true then tk σ2 H fun y H4 => tv σ2 H4 fun z H5 => kPutD Dl N y z H5 else N H)
  rw [if_pos rfl]
  exact q
theorem r_dcL {K : PySem.W.Frag} {tl : TE} {g : TG} {tt : TT} {tk tv : TE} {vs : List Nat} {σ : L2.St} {H : Hp} {Q : VK} (q : tl σ H (kIL K (kDc g tt tk tv vs σ Q))) : tDc (iList K tl) g tt tk tv vs σ H Q := q
theorem dc_list {K : PySem.W.Frag} {a : Addr} {xs : List V} {j : Nat} {tk tv : TE} {vs : List Nat} {σ : L2.St} {H : Hp} {Q : VK} (hx : SqL K H a xs) (Pv : Addr → Nat → List (Key × V) → Hp → Prop) (σw : V → L2.St) (hσ : ∀ x, (wipe σ vs).set j (some x) = σw x) (hw : ∀ x, wipe (σw x) vs = wipe σ vs)
    (h0 : ∀ Dl H1, H Dl = none → Sw [] H H1 → Pv Dl 0 [] H1) (hs : ∀ Dl i acc H1, H Dl = none → H1 Dl = some (.dK acc) → Pv Dl i acc H1 → SqL K H1 a xs)
    (turn : ∀ Dl i x acc H1, H Dl = none → xs[i]? = some x → H1 Dl = some (.dK acc) → Pv Dl i acc H1 → tk (σw x) H1 fun y H4 => tv (σw x) H4 fun z H5 => kPutD Dl (CD (Pv Dl) Dl (i + 1)) y z H5)
    (done : ∀ Dl acc H1, H Dl = none → H1 Dl = some (.dK acc) → Pv Dl xs.length acc H1 → Q (.ref Dl) H1) : kIL K (kDc (gName j) tYes tk tv vs σ Q) (.ref a) H := by
  refine ⟨a, rfl, ⟨xs, hx⟩, fun D hD => ?_⟩
  refine ⟨fun i m H' => m = xs.length - i ∧ i ≤ xs.length ∧ CD (Pv D) D i H', ⟨xs.length, by simp, Nat.zero_le _, [], upd_same, h0 D _ hD (Sw.new hD)⟩, ?_⟩
  rintro i m H1 ⟨rfl, hi, acc, e, p⟩
  have q := hs D i acc H1 hD e p
  by_cases hlt : i < xs.length
  · refine .inr ⟨⟨xs, xs[i], q, by simp [hlt]⟩, CD (Pv D) D (i + 1), fun H' p' => ⟨xs.length - (i + 1), by omega, rfl, hlt, p'⟩, fun x H' y => ?_⟩
    obtain ⟨e2, y⟩ := y
    subst e2
    refine ⟨by rw [hσ]; exact hw x, ?_⟩
    have t := turn D i x acc _ hD (y xs q) e p
    rw [← hσ] at t
    exact yesD t
  · have e0 : i = xs.length := by omega
    subst e0
    exact .inl ⟨⟨xs, q, Nat.le_refl _⟩, done D acc H1 hD e p⟩
/-! specs -/
def spAdd (d : Nat) : Sp := fun vs H Q _ => ∃ (v : V) (f : Fm) (t : Int) (D : Addr) (kvs : List (Key × V)), vs = [v, .int t, .ref D] ∧ IsF H f v ∧ OkF f ∧ dep f ≤ d ∧ H D = some (.dK kvs) ∧ kvs.length + (leaves f).length ≤ 100 ∧ (kvs.map Prod.fst ++ (leaves f).map Sum.inr).Nodup ∧
  ∀ (kvs' : List (Key × V)) (H' : Hp), Sw [D] H H' → H' D = some (.dK kvs') → kvs'.map Prod.fst = kvs.map Prod.fst ++ (leaves f).map Sum.inr → Q .non H'
def spSizes (d : Nat) : Sp := fun vs H Q _ => ∃ (v : V) (f : Fm) (ns : List Str), vs = [v] ∧ IsF H f v ∧ OkF f ∧ dep f ≤ d ∧ (leaves f).length ≤ 60 ∧ (leaves f).Nodup ∧ ns.Perm (leaves f) ∧ sortedS ns = true ∧
  ∀ (p : Addr) (kvs : List (Key × V)) (H' : Hp), H p = none → Sw [] H H' → H' p = some (.dK kvs) → kvs.map Prod.fst = ns.map Sum.inr → Q (.ref p) H'
def spKinds (d : Nat) : Sp := fun vs H Q _ => ∃ (v : V) (f : Fm) (ns : List Str), vs = [v] ∧ IsF H f v ∧ OkF f ∧ dep f ≤ d ∧ (leaves f).length ≤ 60 ∧ (leaves f).Nodup ∧ ns.Perm (leaves f) ∧ sortedS ns = true ∧
  ∀ (p : Addr) (H' : Hp), H p = none → Sw [] H H' → H' p = some (.tup (ns.map V.str)) → Q (.ref p) H'
end Vf
/-! VSh -/
namespace Vf
open PySem PySem.Spec PyProof.Rows L2
/-! ### shares -/
def vO : Option Int → V
  | some k => .int k
  | none => .non
def andN : List Int → Option Int
  | [] => none
  | k :: ks => if (ks.all fun x => decide (x = k)) = true then some k else none
theorem andN_yes {k : Int} {ks : List Int} (h : ∀ x ∈ ks, x = k) : andN (k :: ks) = some k := if_pos (List.all_eq_true.mpr fun x m => decide_eq_true (h x m))
theorem andN_no {k : Int} {ks : List Int} (h : ¬ ∀ x ∈ ks, x = k) : andN (k :: ks) = none := if_neg fun e => h fun x m => of_decide_eq_true (List.all_eq_true.mp e x m)
mutual
def sh (t : Str → Int) : Fm → Option Int
  | .kind z => some (t z)
  | .many n f => (sh t f).bind fun k => if k % (n : Int) = 0 then some (k / (n : Int)) else none
  | .node w fs => (shL t fs).bind fun ks => if w then andN ks else some ks.sum
def shL (t : Str → Int) : List Fm → Option (List Int)
  | [] => some []
  | f :: fs => (sh t f).bind fun k => (shL t fs).map fun ks => k :: ks
end
theorem shL_some {t : Str → Int} : ∀ {fs : List Fm} {ks : List Int}, shL t fs = some ks → fs.map (fun f => vO (sh t f)) = ks.map V.int ∧ ks.length = fs.length
  | [], ks, h => by
    unfold shL at h
    rw [← Option.some.inj h]
    exact ⟨rfl, rfl⟩
  | f :: fs, ks, h => by
    unfold shL at h
    obtain ⟨k, hk, h⟩ := Option.bind_eq_some_iff.mp h
    obtain ⟨r, hr, rfl⟩ := Option.map_eq_some_iff.mp h
    obtain ⟨i1, i2⟩ := shL_some hr
    rw [List.map_cons, List.map_cons, i1, hk, List.length_cons, List.length_cons, i2]
    exact ⟨rfl, rfl⟩
theorem shL_none {t : Str → Int} : ∀ {fs : List Fm}, shL t fs = none → ∃ f ∈ fs, sh t f = none
  | [], h => by
    unfold shL at h
    cases h
  | f :: fs, h => by
    unfold shL at h
    cases e : sh t f with
    | none => exact ⟨f, List.mem_cons_self, e⟩
    | some k =>
      rw [e] at h
      cases e2 : shL t fs with
      | none =>
        obtain ⟨g, m, x⟩ := shL_none e2
        exact ⟨g, List.mem_cons_of_mem _ m, x⟩
      | some r =>
        rw [e2] at h
        cases h
theorem shL_all {t : Str → Int} : ∀ {fs : List Fm} {ks : List Int}, shL t fs = some ks → ∀ f ∈ fs, ∃ k, sh t f = some k
  | [], ks, h, f, m => absurd m List.not_mem_nil
  | g :: fs, ks, h, f, m => by
    unfold shL at h
    obtain ⟨k, hk, h⟩ := Option.bind_eq_some_iff.mp h
    obtain ⟨r, hr, rfl⟩ := Option.map_eq_some_iff.mp h
    rcases List.mem_cons.mp m with rfl | m
    · exact ⟨k, hk⟩
    · exact shL_all hr f m
mutual
theorem OkF.pos : ∀ {f : Fm}, OkF f → 1 ≤ (leaves f).length
  | .kind z, h => by
    unfold leaves
    exact Nat.le_refl 1
  | .many n f, h => by
    unfold OkF at h
    unfold leaves
    exact OkF.pos h.2.2
  | .node w fs, h => by
    unfold OkF at h
    unfold leaves
    have := OkL.len h.2
    have : fs.length ≠ 0 := fun e => h.1 (List.length_eq_zero_iff.mp e)
    omega
theorem OkL.len : ∀ {fs : List Fm}, OkL fs → fs.length ≤ (leavesL fs).length
  | [], h => Nat.zero_le _
  | f :: fs, h => by
    unfold OkL at h
    unfold leavesL
    have a := OkF.pos h.1
    have b := OkL.len h.2
    rw [List.length_append, List.length_cons]
    omega
end
mutual
theorem sh_congr {t u : Str → Int} : ∀ {f : Fm}, (∀ z ∈ leaves f, t z = u z) → sh t f = sh u f
  | .kind z, h => by
    unfold sh
    rw [h z (by unfold leaves; exact List.mem_cons_self)]
  | .many n f, h => by
    unfold sh
    rw [sh_congr (f := f) (fun z m => h z (by unfold leaves; exact m))]
  | .node w fs, h => by
    unfold sh
    rw [shL_congr (fs := fs) (fun z m => h z (by unfold leaves; exact m))]
theorem shL_congr {t u : Str → Int} : ∀ {fs : List Fm}, (∀ z ∈ leavesL fs, t z = u z) → shL t fs = shL u fs
  | [], h => rfl
  | f :: fs, h => by
    unfold shL
    unfold leavesL at h
    rw [sh_congr (f := f) fun z m => h z (List.mem_append.mpr (.inl m)), shL_congr (fs := fs) fun z m => h z (List.mem_append.mpr (.inr m))]
end
theorem mem_leavesL {fs : List Fm} {f : Fm} (h : f ∈ fs) {z : Str} (m : z ∈ leaves f) : z ∈ leavesL fs := by
  induction fs with
  | nil => exact absurd h List.not_mem_nil
  | cons g fs ih =>
    unfold leavesL
    rcases List.mem_cons.mp h with rfl | h
    · exact List.mem_append.mpr (.inl m)
    · exact List.mem_append.mpr (.inr (ih h))
/-- the least is the greatest exactly if all are the first one -/
theorem andN_at {k : Int} {ks : List Int} {lo hi : Int} (a : lo ∈ k :: ks) (b : ∀ y, y ∈ k :: ks → lo ≤ y) (c : hi ∈ k :: ks) (d : ∀ y, y ∈ k :: ks → y ≤ hi) : andN (k :: ks) = if lo = hi then some k else none := by
  by_cases e : lo = hi
  · rw [if_pos e]
    refine andN_yes fun x hx => ?_
    have h1 := b x (List.mem_cons_of_mem _ hx)
    have h2 := d x (List.mem_cons_of_mem _ hx)
    have h3 := b k List.mem_cons_self
    have h4 := d k List.mem_cons_self
    omega
  · rw [if_neg e]
    refine andN_no fun h => ?_
    have at' : ∀ y, y ∈ k :: ks → y = k := fun y m => by
      rcases List.mem_cons.mp m with r | r
      · exact r
      · exact h y r
    exact e ((at' _ a).trans (at' _ c).symm)
theorem any_none (l : List (Option Int)) : ((l.map fun o => decide (vO o = V.non)).any id) = l.any Option.isNone := by
  induction l with
  | nil => rfl
  | cons o l ih =>
    rw [List.map_cons, List.any_cons, List.any_cons, ih]
    cases o <;> rfl
def spShare (d : Nat) : Sp := fun vs H Q _ => ∃ (v : V) (f : Fm) (D : Addr) (kvs : List (Key × V)) (t : Str → Int), vs = [v, .ref D] ∧ IsF H f v ∧ OkF f ∧ dep f ≤ d ∧ (leaves f).length ≤ 60 ∧ H D = some (.dK kvs) ∧ (∀ z ∈ leaves f, valV kvs (.inr z) = some (.int (t z))) ∧
  ∀ H', Sw [] H H' → Q (vO (sh t f)) H'
def spShareQ (d : Nat) : Sp := fun vs H Q _ => ∃ (v : V) (f : Fm) (a : Addr) (ns : List Str) (u : Str → Int), vs = [v, .ref a] ∧ IsF H f v ∧ OkF f ∧ dep f ≤ d ∧ (leaves f).length ≤ 60 ∧ (leaves f).Nodup ∧ ns.Perm (leaves f) ∧ sortedS ns = true ∧ H a = some (.tup (tv ns u)) ∧
  ∀ H', Sw [] H H' → Q (vO (sh u f)) H'
def spNum : Sp := fun vs H Q _ => ∃ n : Int, vs = [.int n] ∧ ∀ H', Sw [] H H' → Q (.bl (decide (0 ≤ n))) H'
def spNums : Sp := fun vs H Q _ => ∃ (a : Addr) (ns : List Int) (n : Int), vs = [.ref a, .int n] ∧ H a = some (.tup (ns.map V.int)) ∧ n = ns.length ∧ ns.length ≤ 60 ∧ (∀ k ∈ ns, 0 ≤ k) ∧ ∀ H', Sw [] H H' → Q (.bl true) H'
def spIsWay (d : Nat) : Sp := fun vs H Q _ => ∃ (v : V) (f : Fm) (a : Addr) (ns : List Str) (u : Str → Int), vs = [v, .ref a] ∧ IsF H f v ∧ OkF f ∧ dep f ≤ d ∧ (leaves f).length ≤ 60 ∧ (leaves f).Nodup ∧ ns.Perm (leaves f) ∧ sortedS ns = true ∧ H a = some (.tup (tv ns u)) ∧ (∀ z ∈ ns, 0 ≤ u z) ∧
  ∀ H', Sw [] H H' → Q (.bl (decide (sh u f = some 1))) H'
end Vf
namespace Vf
theorem iteF' {b : Bool} {A B : Prop} (h : b = false) (q : B) : if b = true then A else B := by
  rw [h]
  exact q
theorem iteT' {b : Bool} {A B : Prop} (h : b = true) (q : A) : if b = true then A else B := by
  rw [h]
  exact q
end Vf
namespace Vf
open PySem PySem.Spec PyProof.Rows L2
theorem mergeK_app : ∀ (more kvs : List (Key × V)), (kvs.map Prod.fst ++ more.map Prod.fst).Nodup → mergeK kvs more = kvs ++ more
  | [], kvs, h => by
    show kvs = kvs ++ []
    rw [List.append_nil]
  | p :: r, kvs, h => by
    have np : p.1 ∉ kvs.map Prod.fst := fun m => (List.nodup_append.mp h).2.2 _ m _ (List.mem_cons_self) rfl
    show mergeK (putK kvs p.1 p.2) r = _
    rw [putK_out _ np, mergeK_app r _ (by rw [List.map_append, List.append_assoc]; exact h), List.append_assoc]
    rfl
theorem merge_zip {ks : List Key} {ys : List V} (nd : ks.Nodup) (l : ks.length = ys.length) : mergeK [] (ks.zip ys) = ks.zip ys := by
  have e : (ks.zip ys).map Prod.fst = ks := List.map_fst_zip (by omega)
  rw [mergeK_app _ _ (by rw [e]; exact nd)]
  rfl
end Vf
/-! VWay -/
namespace Vf
open PySem PySem.Spec PyProof.Rows L2
/-! ### ways -/
abbrev Am := Str → Int
def addA (a b : Am) : Am := fun x => a x + b x
def zeroA : Am := fun _ => 0
def Sum2 (S R : Am → Prop) (u : Am) : Prop := ∃ a b, S a ∧ R b ∧ u = addA a b
def SumN : Nat → (Am → Prop) → Am → Prop
  | 0, _, u => u = zeroA
  | n + 1, S, u => ∃ a b, SumN n S a ∧ S b ∧ u = addA a b
theorem addA_comm (a b : Am) : addA a b = addA b a := funext fun x => Int.add_comm _ _
theorem addA_assoc (a b c : Am) : addA (addA a b) c = addA a (addA b c) := funext fun x => Int.add_assoc _ _ _
theorem addA_zero (a : Am) : addA a zeroA = a := funext fun x => Int.add_zero _
theorem zero_addA (a : Am) : addA zeroA a = a := funext fun x => Int.zero_add _
theorem addA_4 (a b c d : Am) : addA (addA a b) (addA c d) = addA (addA a c) (addA b d) := funext fun x => by
  show a x + b x + (c x + d x) = a x + c x + (b x + d x)
  omega
mutual
def Way : Fm → Am → Prop
  | .kind z, u => u = fun x => if x = z then 1 else 0
  | .many n f, u => SumN n (Way f) u
  | .node w fs, u => if w = true then WayAll fs u else WayAny fs u
def WayAll : List Fm → Am → Prop
  | [], u => u = zeroA
  | f :: fs, u => Sum2 (Way f) (WayAll fs) u
def WayAny : List Fm → Am → Prop
  | [], _ => False
  | f :: fs, u => Way f u ∨ WayAny fs u
end
theorem SumN.of {S : Am → Prop} {C : Am → Prop} (z : C zeroA) (add : ∀ a b, C a → S b → C (addA a b)) : ∀ {n : Nat} {u : Am}, SumN n S u → C u
  | 0, u, h => by
    rw [show u = zeroA from h]
    exact z
  | n + 1, u, h => by
    obtain ⟨a, b, x, y, rfl⟩ := h
    exact add a b (SumN.of z add x) y
theorem SumN.mono {S R : Am → Prop} (h : ∀ u, S u → R u) : ∀ {n : Nat} {u : Am}, SumN n S u → SumN n R u
  | 0, u, x => x
  | n + 1, u, x => by
    obtain ⟨a, b, x, y, rfl⟩ := x
    exact ⟨a, b, SumN.mono h x, h b y, rfl⟩
theorem SumN.app {S : Am → Prop} {m : Nat} {v : Am} (hv : SumN m S v) : ∀ {n : Nat} {u : Am}, SumN n S u → SumN (m + n) S (addA v u)
  | 0, u, h => by
    rw [show u = zeroA from h, addA_zero]
    exact hv
  | n + 1, u, h => by
    obtain ⟨a, b, x, y, rfl⟩ := h
    exact ⟨addA v a, b, SumN.app hv x, y, (addA_assoc _ _ _).symm⟩
theorem SumN.split {S : Am → Prop} (m : Nat) : ∀ {n : Nat} {u : Am}, SumN (m + n) S u → ∃ a b, SumN m S a ∧ SumN n S b ∧ u = addA a b
  | 0, u, h => ⟨u, zeroA, h, rfl, (addA_zero u).symm⟩
  | n + 1, u, h => by
    obtain ⟨a, b, x, y, rfl⟩ := h
    obtain ⟨c, d, p, q, rfl⟩ := SumN.split m x
    exact ⟨c, addA d b, p, ⟨d, b, q, y, rfl⟩, addA_assoc _ _ _⟩
theorem SumN.group {S : Am → Prop} (n : Nat) : ∀ {q : Nat} {u : Am}, SumN (q * n) S u → SumN q (SumN n S) u
  | 0, u, h => by
    rw [Nat.zero_mul] at h
    exact h
  | q + 1, u, h => by
    rw [Nat.succ_mul] at h
    obtain ⟨a, b, x, y, e⟩ := SumN.split _ h
    exact ⟨a, b, SumN.group n x, y, e⟩
theorem SumN.zip {S R : Am → Prop} : ∀ {n : Nat} {u v : Am}, SumN n S u → SumN n R v → SumN n (Sum2 S R) (addA u v)
  | 0, u, v, h, k => by
    rw [show u = zeroA from h, show v = zeroA from k]
    exact addA_zero _
  | n + 1, u, v, h, k => by
    obtain ⟨a, b, x, y, rfl⟩ := h
    obtain ⟨c, d, p, q, rfl⟩ := k
    exact ⟨addA a c, addA b d, SumN.zip x p, ⟨b, d, y, q, rfl⟩, addA_4 _ _ _ _⟩
theorem SumN.zeros {S : Am → Prop} (h : S zeroA) : ∀ n, SumN n S zeroA
  | 0 => rfl
  | n + 1 => ⟨zeroA, zeroA, SumN.zeros h n, h, (addA_zero _).symm⟩
theorem WayAll_snoc (f : Fm) : ∀ {fs : List Fm} {u : Am}, WayAll (fs ++ [f]) u ↔ Sum2 (WayAll fs) (Way f) u
  | [], u => by
    show WayAll [f] u ↔ _
    unfold WayAll
    constructor
    · rintro ⟨a, b, x, y, rfl⟩
      unfold WayAll at y
      subst y
      exact ⟨zeroA, a, rfl, x, by rw [zero_addA, addA_zero]⟩
    · rintro ⟨a, b, x, y, rfl⟩
      subst x
      exact ⟨b, zeroA, y, by unfold WayAll; rfl, by rw [zero_addA, addA_zero]⟩
  | g :: fs, u => by
    show WayAll (g :: (fs ++ [f])) u ↔ _
    unfold WayAll
    constructor
    · rintro ⟨a, b, x, y, rfl⟩
      obtain ⟨c, d, p, q, rfl⟩ := (WayAll_snoc f).mp y
      exact ⟨addA a c, d, ⟨a, c, x, p, rfl⟩, q, (addA_assoc _ _ _).symm⟩
    · rintro ⟨a, b, ⟨c, d, p, q, rfl⟩, y, rfl⟩
      exact ⟨c, addA d b, p, (WayAll_snoc f).mpr ⟨d, b, q, y, rfl⟩, addA_assoc _ _ _⟩
theorem WayAny_snoc (f : Fm) : ∀ {fs : List Fm} {u : Am}, WayAny (fs ++ [f]) u ↔ WayAny fs u ∨ Way f u
  | [], u => by
    show WayAny [f] u ↔ _
    unfold WayAny
    exact ⟨fun h => h.elim .inr (fun x => by unfold WayAny at x; exact x.elim), fun h => h.elim (fun x => x.elim) .inl⟩
  | g :: fs, u => by
    show WayAny (g :: (fs ++ [f])) u ↔ _
    unfold WayAny
    rw [WayAny_snoc f]
    exact or_assoc.symm
theorem WayAll_one (f : Fm) (u : Am) : WayAll [f] u ↔ Way f u := by
  unfold WayAll
  constructor
  · rintro ⟨a, b, x, y, rfl⟩
    unfold WayAll at y
    subst y
    rw [addA_zero]
    exact x
  · intro h
    exact ⟨u, zeroA, h, by unfold WayAll; rfl, (addA_zero u).symm⟩
theorem WayAny_one (f : Fm) (u : Am) : WayAny [f] u ↔ Way f u := by
  unfold WayAny
  exact ⟨fun h => h.elim id (fun x => by unfold WayAny at x; exact x.elim), .inl⟩
/-! ways have nothing of other kinds, and never less than nothing -/
mutual
theorem way_out : ∀ {f : Fm} {u : Am} {z : Str}, Way f u → z ∉ leaves f → u z = 0
  | .kind y, u, z, h, n => by
    unfold Way at h
    unfold leaves at n
    rw [h]
    show (if z = y then 1 else 0) = _
    rw [if_neg fun e => n (by rw [e]; exact List.mem_cons_self)]
  | .many m f, u, z, h, n => by
    unfold Way at h
    unfold leaves at n
    exact SumN.of (C := fun u => u z = 0) rfl (fun a b x y => by show a z + b z = 0; rw [x, way_out y n]; rfl) h
  | .node w fs, u, z, h, n => by
    unfold Way at h
    unfold leaves at n
    cases w with
    | true =>
      rw [if_pos rfl] at h
      exact wayAll_out h n
    | false =>
      rw [if_neg (by decide)] at h
      exact wayAny_out h n
theorem wayAll_out : ∀ {fs : List Fm} {u : Am} {z : Str}, WayAll fs u → z ∉ leavesL fs → u z = 0
  | [], u, z, h, n => by
    unfold WayAll at h
    rw [h]
    rfl
  | f :: fs, u, z, h, n => by
    unfold WayAll at h
    unfold leavesL at n
    rw [List.mem_append, not_or] at n
    obtain ⟨a, b, x, y, rfl⟩ := h
    show a z + b z = 0
    rw [way_out x n.1, wayAll_out y n.2]
    rfl
theorem wayAny_out : ∀ {fs : List Fm} {u : Am} {z : Str}, WayAny fs u → z ∉ leavesL fs → u z = 0
  | [], u, z, h, n => by
    unfold WayAny at h
    exact h.elim
  | f :: fs, u, z, h, n => by
    unfold WayAny at h
    unfold leavesL at n
    rw [List.mem_append, not_or] at n
    rcases h with x | y
    · exact way_out x n.1
    · exact wayAny_out y n.2
end
mutual
theorem way_pos : ∀ {f : Fm} {u : Am} (z : Str), Way f u → 0 ≤ u z
  | .kind y, u, z, h => by
    unfold Way at h
    rw [h]
    show (0 : Int) ≤ if z = y then 1 else 0
    split <;> omega
  | .many m f, u, z, h => by
    unfold Way at h
    exact SumN.of (C := fun u => 0 ≤ u z) (Int.le_refl 0) (fun a b x y => by have := way_pos z y; show 0 ≤ a z + b z; omega) h
  | .node w fs, u, z, h => by
    unfold Way at h
    cases w with
    | true =>
      rw [if_pos rfl] at h
      exact wayAll_pos z h
    | false =>
      rw [if_neg (by decide)] at h
      exact wayAny_pos z h
theorem wayAll_pos : ∀ {fs : List Fm} {u : Am} (z : Str), WayAll fs u → 0 ≤ u z
  | [], u, z, h => by
    unfold WayAll at h
    rw [h]
    exact Int.le_refl 0
  | f :: fs, u, z, h => by
    unfold WayAll at h
    obtain ⟨a, b, x, y, rfl⟩ := h
    have := way_pos z x
    have := wayAll_pos z y
    show 0 ≤ a z + b z
    omega
theorem wayAny_pos : ∀ {fs : List Fm} {u : Am} (z : Str), WayAny fs u → 0 ≤ u z
  | [], u, z, h => by
    unfold WayAny at h
    exact h.elim
  | f :: fs, u, z, h => by
    unfold WayAny at h
    rcases h with x | y
    · exact way_pos z x
    · exact wayAny_pos z y
end
/-! a way more: one share more -/
def up1 (o : Option Int) : Option Int := o.map (· + 1)
theorem disj_nodup {l m : List Str} (h : (l ++ m).Nodup) : l.Nodup ∧ m.Nodup ∧ ∀ z, z ∈ l → z ∉ m :=
  let ⟨a, b, c⟩ := List.nodup_append.mp h
  ⟨a, b, fun z x y => c z x z y rfl⟩
theorem andN_up (ks : List Int) : andN (ks.map (· + 1)) = up1 (andN ks) := by
  cases ks with
  | nil => rfl
  | cons k ks =>
    by_cases h : ∀ x ∈ ks, x = k
    · rw [andN_yes h, List.map_cons]
      exact andN_yes fun x m => by obtain ⟨y, my, rfl⟩ := List.mem_map.mp m; rw [h y my]
    · rw [andN_no h, List.map_cons]
      exact andN_no fun g => h fun x m => by have := g (x + 1) (List.mem_map.mpr ⟨x, m, rfl⟩); omega
mutual
theorem sh_way : ∀ {f : Fm} {u : Am}, (leaves f).Nodup → OkF f → Way f u → ∀ x : Am, sh (addA x u) f = up1 (sh x f)
  | .kind z, u, nd, ok, h, x => by
    unfold Way at h
    unfold sh
    rw [h]
    show some (x z + if z = z then 1 else 0) = some (x z + 1)
    rw [if_pos rfl]
  | .many n f, u, nd, ok, h, x => by
    unfold Way at h
    unfold leaves at nd
    unfold OkF at ok
    have key : ∀ m : Nat, ∀ u, SumN m (Way f) u → sh (addA x u) f = (sh x f).map (· + (m : Int)) := by
      intro m
      induction m with
      | zero =>
        intro u h
        rw [show u = zeroA from h, addA_zero]
        cases sh x f with
        | none => rfl
        | some k =>
          show some k = some (k + 0)
          rw [Int.add_zero]
      | succ m ih =>
        intro u h
        obtain ⟨a, b, p, q, rfl⟩ := h
        rw [← addA_assoc, sh_way nd ok.2.2 q, ih a p]
        cases sh x f with
        | none => rfl
        | some k =>
          show some (k + (m : Int) + 1) = some (k + ((m + 1 : Nat) : Int))
          congr 1
          omega
    unfold sh
    rw [key n u h]
    cases sh x f with
    | none => rfl
    | some k =>
      show (if (k + (n : Int)) % (n : Int) = 0 then some ((k + (n : Int)) / (n : Int)) else none) = up1 (if k % (n : Int) = 0 then some (k / (n : Int)) else none)
      rw [Int.add_emod_right]
      have hn : (n : Int) ≠ 0 := by omega
      have e : (k + (n : Int)) / (n : Int) = k / (n : Int) + 1 := by
        have := Int.add_mul_ediv_right k 1 hn
        rw [Int.one_mul] at this
        exact this
      rw [e]
      split <;> rfl
  | .node w fs, u, nd, ok, h, x => by
    unfold Way at h
    unfold leaves at nd
    unfold OkF at ok
    unfold sh
    cases w with
    | true =>
      rw [if_pos rfl] at h
      rw [shL_all_way nd ok.2 h x]
      cases shL x fs with
      | none => rfl
      | some ks => exact andN_up ks
    | false =>
      rw [if_neg (by decide)] at h
      have := shL_any_way nd ok.2 h x
      cases e : shL x fs with
      | none =>
        rw [e] at this
        cases e2 : shL (addA x u) fs with
        | none => rfl
        | some ks =>
          rw [e2] at this
          cases this
      | some ks =>
        rw [e] at this
        cases e2 : shL (addA x u) fs with
        | none =>
          rw [e2] at this
          cases this
        | some ls =>
          rw [e2] at this
          exact this
theorem shL_all_way : ∀ {fs : List Fm} {u : Am}, (leavesL fs).Nodup → OkL fs → WayAll fs u → ∀ x : Am, shL (addA x u) fs = (shL x fs).map fun ks => ks.map (· + 1)
  | [], u, nd, ok, h, x => rfl
  | f :: fs, u, nd, ok, h, x => by
    unfold WayAll at h
    unfold leavesL at nd
    unfold OkL at ok
    obtain ⟨d1, d2, d3⟩ := disj_nodup nd
    obtain ⟨a, b, p, q, rfl⟩ := h
    unfold shL
    have e1 : sh (addA x (addA a b)) f = up1 (sh x f) := by
      rw [← sh_way d1 ok.1 p x]
      refine sh_congr fun z m => ?_
      show x z + (a z + b z) = x z + a z
      rw [wayAll_out q (d3 z m)]
      omega
    have e2 : shL (addA x (addA a b)) fs = (shL x fs).map fun ks => ks.map (· + 1) := by
      rw [← shL_all_way d2 ok.2 q x]
      refine shL_congr fun z m => ?_
      show x z + (a z + b z) = x z + b z
      rw [way_out p (fun m2 => d3 z m2 m)]
      omega
    rw [e1, e2]
    cases sh x f with
    | none => rfl
    | some k =>
      cases shL x fs with
      | none => rfl
      | some ks => rfl
theorem shL_any_way : ∀ {fs : List Fm} {u : Am}, (leavesL fs).Nodup → OkL fs → WayAny fs u → ∀ x : Am, (shL (addA x u) fs).map List.sum = up1 ((shL x fs).map List.sum)
  | [], u, nd, ok, h, x => by
    unfold WayAny at h
    exact h.elim
  | f :: fs, u, nd, ok, h, x => by
    unfold WayAny at h
    unfold leavesL at nd
    unfold OkL at ok
    obtain ⟨d1, d2, d3⟩ := disj_nodup nd
    unfold shL
    rcases h with p | q
    · have e2 : shL (addA x u) fs = shL x fs := shL_congr fun z m => by
        show x z + u z = x z
        rw [way_out p (fun m2 => d3 z m2 m)]
        omega
      rw [sh_way d1 ok.1 p x, e2]
      cases sh x f with
      | none => rfl
      | some k =>
        cases shL x fs with
        | none => rfl
        | some ks =>
          show some (List.sum ((k + 1) :: ks)) = some (List.sum (k :: ks) + 1)
          rw [List.sum_cons, List.sum_cons]
          congr 1
          omega
    · have e1 : sh (addA x u) f = sh x f := sh_congr fun z m => by
        show x z + u z = x z
        rw [wayAny_out q (d3 z m)]
        omega
      have ih := shL_any_way d2 ok.2 q x
      rw [e1]
      cases sh x f with
      | none => rfl
      | some k =>
        cases e : shL x fs with
        | none =>
          rw [e] at ih
          cases e2 : shL (addA x u) fs with
          | none => rfl
          | some ls =>
            rw [e2] at ih
            cases ih
        | some ks =>
          rw [e] at ih
          cases e2 : shL (addA x u) fs with
          | none =>
            rw [e2] at ih
            cases ih
          | some ls =>
            rw [e2] at ih
            have ih : some ls.sum = some (ks.sum + 1) := ih
            show some (List.sum (k :: ls)) = some (List.sum (k :: ks) + 1)
            rw [List.sum_cons, List.sum_cons, Option.some.inj ih]
            congr 1
            omega
end
end Vf
/-! VWay2 -/
namespace Vf
open PySem PySem.Spec PyProof.Rows L2
/-! nothing has share 0 -/
mutual
theorem sh_zero : ∀ {f : Fm}, OkF f → sh zeroA f = some 0
  | .kind z, h => rfl
  | .many n f, h => by
    unfold OkF at h
    unfold sh
    rw [sh_zero h.2.2]
    show (if (0 : Int) % (n : Int) = 0 then some ((0 : Int) / (n : Int)) else none) = _
    rw [Int.zero_emod, Int.zero_ediv, if_pos rfl]
  | .node w fs, h => by
    unfold OkF at h
    unfold sh
    rw [shL_zero h.2]
    obtain ⟨n0, _⟩ := h
    cases fs with
    | nil => exact absurd rfl n0
    | cons f fs =>
      cases w with
      | true =>
        show andN (0 :: fs.map fun _ => (0 : Int)) = some 0
        refine andN_yes fun x m => ?_
        obtain ⟨_, _, rfl⟩ := List.mem_map.mp m
        rfl
      | false =>
        show some (List.sum ((f :: fs).map fun _ => (0 : Int))) = some 0
        have : ∀ l : List Fm, List.sum (l.map fun _ => (0 : Int)) = 0 := fun l => by
          induction l with
          | nil => rfl
          | cons _ _ ih => rw [List.map_cons, List.sum_cons, ih]; rfl
        rw [this]
theorem shL_zero : ∀ {fs : List Fm}, OkL fs → shL zeroA fs = some (fs.map fun _ => 0)
  | [], h => rfl
  | f :: fs, h => by
    unfold OkL at h
    unfold shL
    rw [sh_zero h.1, shL_zero h.2]
    rfl
end
theorem sh_sum {f : Fm} (nd : (leaves f).Nodup) (ok : OkF f) (x : Am) : ∀ {m : Nat} {u : Am}, SumN m (Way f) u → sh (addA x u) f = (sh x f).map (· + (m : Int))
  | 0, u, h => by
    rw [show u = zeroA from h, addA_zero]
    cases sh x f with
    | none => rfl
    | some k =>
      show some k = some (k + 0)
      rw [Int.add_zero]
  | m + 1, u, h => by
    obtain ⟨a, b, p, q, rfl⟩ := h
    rw [← addA_assoc, sh_way nd ok q, sh_sum nd ok x p]
    cases sh x f with
    | none => rfl
    | some k =>
      show some (k + (m : Int) + 1) = some (k + ((m + 1 : Nat) : Int))
      congr 1
      omega
theorem sh_sum0 {f : Fm} (nd : (leaves f).Nodup) (ok : OkF f) {m : Nat} {u : Am} (h : SumN m (Way f) u) : sh u f = some (m : Int) := by
  have := sh_sum nd ok zeroA h
  rw [zero_addA, sh_zero ok] at this
  rw [this]
  show some ((0 : Int) + m) = _
  rw [Int.zero_add]
theorem sh_one {f : Fm} (nd : (leaves f).Nodup) (ok : OkF f) {u : Am} (h : Way f u) : sh u f = some 1 := by
  have := sh_way nd ok h zeroA
  rw [zero_addA, sh_zero ok] at this
  exact this
/-! a share is of a sum of ways -/
def only (l : List Str) (x : Am) : Am := fun z => if z ∈ l then x z else 0
theorem only_split {l m : List Str} {x : Am} (d : ∀ z, z ∈ l → z ∉ m) (o : ∀ z, z ∉ l ++ m → x z = 0) : x = addA (only l x) (only m x) := funext fun z => by
  show x z = (if z ∈ l then x z else 0) + if z ∈ m then x z else 0
  by_cases a : z ∈ l
  · rw [if_pos a, if_neg (d z a), Int.add_zero]
  · rw [if_neg a, Int.zero_add]
    by_cases b : z ∈ m
    · rw [if_pos b]
    · rw [if_neg b]
      exact o z fun h => (List.mem_append.mp h).elim a b
theorem only_in {l : List Str} {x : Am} {z : Str} (h : z ∈ l) : only l x z = x z := if_pos h
theorem only_out {l : List Str} {x : Am} {z : Str} (h : z ∉ l) : only l x z = 0 := if_neg h
theorem only_pos {l : List Str} {x : Am} (h : ∀ z, 0 ≤ x z) (z : Str) : 0 ≤ only l x z := by
  show (0 : Int) ≤ if z ∈ l then x z else 0
  have := h z
  split <;> omega
theorem SumN.kinds (z : Str) : ∀ m : Nat, SumN m (Way (.kind z)) (fun x => if x = z then (m : Int) else 0)
  | 0 => funext fun x => by
    show (if x = z then ((0 : Nat) : Int) else 0) = 0
    split <;> rfl
  | m + 1 => ⟨_, _, SumN.kinds z m, by unfold Way; rfl, funext fun x => by
      show (if x = z then ((m + 1 : Nat) : Int) else 0) = (if x = z then (m : Int) else 0) + if x = z then 1 else 0
      split <;> omega⟩
mutual
theorem sum_sh : ∀ {f : Fm} {x : Am} {k : Int}, (leaves f).Nodup → OkF f → (∀ z, 0 ≤ x z) → (∀ z, z ∉ leaves f → x z = 0) → sh x f = some k → ∃ m : Nat, k = m ∧ SumN m (Way f) x
  | .kind y, x, k, nd, ok, p, o, h => by
    unfold sh at h
    unfold leaves at o
    have h := Option.some.inj h
    refine ⟨(x y).toNat, by have := p y; omega, ?_⟩
    have e : x = fun z => if z = y then ((x y).toNat : Int) else 0 := funext fun z => by
      by_cases q : z = y
      · rw [if_pos q, q]
        have := p y
        omega
      · rw [if_neg q]
        exact o z (fun m => q (List.mem_singleton.mp m))
    have t := SumN.kinds y (x y).toNat
    rw [← e] at t
    exact t
  | .many n f, x, k, nd, ok, p, o, h => by
    unfold sh at h
    unfold leaves at o nd
    unfold OkF at ok
    obtain ⟨j, hj, h⟩ := Option.bind_eq_some_iff.mp h
    obtain ⟨m, rfl, s⟩ := sum_sh nd ok.2.2 p o hj
    by_cases d : (m : Int) % (n : Int) = 0
    · rw [if_pos d] at h
      have h := Option.some.inj h
      have d2 : m % n = 0 := by omega
      refine ⟨m / n, by rw [← h]; rfl, ?_⟩
      refine SumN.mono (S := SumN n (Way f)) (fun u hu => by unfold Way; exact hu) (SumN.group n ?_)
      have : m / n * n = m := Nat.div_mul_cancel (Nat.dvd_of_mod_eq_zero d2)
      rw [this]
      exact s
    · rw [if_neg d] at h
      cases h
  | .node w fs, x, k, nd, ok, p, o, h => by
    unfold sh at h
    unfold leaves at o nd
    unfold OkF at ok
    obtain ⟨ks, hk, h⟩ := Option.bind_eq_some_iff.mp h
    cases w with
    | true =>
      obtain ⟨n0, okl⟩ := ok
      have h : andN ks = some k := h
      have al : ∀ y ∈ ks, y = k := by
        cases ks with
        | nil => cases h
        | cons j r =>
          by_cases q : ∀ y ∈ r, y = j
          · rw [andN_yes q] at h
            have := Option.some.inj h
            subst this
            intro y m
            rcases List.mem_cons.mp m with e | m
            · exact e
            · exact q y m
          · rw [andN_no q] at h
            cases h
      cases fs with
      | nil => exact absurd rfl n0
      | cons f fs =>
        have kk : ∃ m : Nat, k = m := by
          unfold shL at hk
          unfold leavesL at nd
          unfold OkL at okl
          obtain ⟨j, hj, hk⟩ := Option.bind_eq_some_iff.mp hk
          obtain ⟨r, hr, rfl⟩ := Option.map_eq_some_iff.mp hk
          obtain ⟨d1, d2, d3⟩ := disj_nodup nd
          have e : sh (only (leaves f) x) f = some j := by
            rw [← hj]
            exact sh_congr fun z m => only_in m
          obtain ⟨m, hm, _⟩ := sum_sh d1 okl.1 (only_pos p) (fun z hz => only_out hz) e
          exact ⟨m, by rw [← al j List.mem_cons_self]; exact hm⟩
        obtain ⟨m, rfl⟩ := kk
        refine ⟨m, rfl, SumN.mono (fun u hu => by unfold Way; rw [if_pos rfl]; exact hu) (sum_all nd okl p o hk al)⟩
    | false =>
      have h : some ks.sum = some k := h
      obtain ⟨m, e, s⟩ := sum_any nd ok.2 p o hk
      refine ⟨m, by rw [← Option.some.inj h]; exact e, SumN.mono (fun u hu => by unfold Way; rw [if_neg (by decide)]; exact hu) s⟩
theorem sum_all : ∀ {fs : List Fm} {x : Am} {ks : List Int} {m : Nat}, (leavesL fs).Nodup → OkL fs → (∀ z, 0 ≤ x z) → (∀ z, z ∉ leavesL fs → x z = 0) → shL x fs = some ks → (∀ y ∈ ks, y = (m : Int)) → SumN m (WayAll fs) x
  | [], x, ks, m, nd, ok, p, o, h, al => by
    have e : x = zeroA := funext fun z => o z (by unfold leavesL; exact List.not_mem_nil)
    rw [e]
    exact SumN.zeros (by unfold WayAll; rfl) m
  | f :: fs, x, ks, m, nd, ok, p, o, h, al => by
    unfold shL at h
    unfold leavesL at nd o
    unfold OkL at ok
    obtain ⟨j, hj, h⟩ := Option.bind_eq_some_iff.mp h
    obtain ⟨r, hr, rfl⟩ := Option.map_eq_some_iff.mp h
    obtain ⟨d1, d2, d3⟩ := disj_nodup nd
    have ej := al j List.mem_cons_self
    have e1 : sh (only (leaves f) x) f = some j := by
      rw [← hj]
      exact sh_congr fun z m => only_in m
    have e2 : shL (only (leavesL fs) x) fs = some r := by
      rw [← hr]
      exact shL_congr fun z m => only_in m
    obtain ⟨m1, em, s1⟩ := sum_sh d1 ok.1 (only_pos p) (fun z hz => only_out hz) e1
    have : m1 = m := by omega
    subst this
    have s2 := sum_all (m := m1) d2 ok.2 (only_pos p) (fun z hz => only_out hz) e2 fun y my => al y (List.mem_cons_of_mem _ my)
    rw [only_split d3 o]
    refine SumN.mono (fun u hu => ?_) (SumN.zip s1 s2)
    unfold WayAll
    exact hu
theorem sum_any : ∀ {fs : List Fm} {x : Am} {ks : List Int}, (leavesL fs).Nodup → OkL fs → (∀ z, 0 ≤ x z) → (∀ z, z ∉ leavesL fs → x z = 0) → shL x fs = some ks → ∃ m : Nat, ks.sum = m ∧ SumN m (WayAny fs) x
  | [], x, ks, nd, ok, p, o, h => by
    have e : x = zeroA := funext fun z => o z (by unfold leavesL; exact List.not_mem_nil)
    unfold shL at h
    rw [← Option.some.inj h]
    exact ⟨0, rfl, e⟩
  | f :: fs, x, ks, nd, ok, p, o, h => by
    unfold shL at h
    unfold leavesL at nd o
    unfold OkL at ok
    obtain ⟨j, hj, h⟩ := Option.bind_eq_some_iff.mp h
    obtain ⟨r, hr, rfl⟩ := Option.map_eq_some_iff.mp h
    obtain ⟨d1, d2, d3⟩ := disj_nodup nd
    have e1 : sh (only (leaves f) x) f = some j := by
      rw [← hj]
      exact sh_congr fun z m => only_in m
    have e2 : shL (only (leavesL fs) x) fs = some r := by
      rw [← hr]
      exact shL_congr fun z m => only_in m
    obtain ⟨m1, em, s1⟩ := sum_sh d1 ok.1 (only_pos p) (fun z hz => only_out hz) e1
    obtain ⟨m2, em2, s2⟩ := sum_any d2 ok.2 (only_pos p) (fun z hz => only_out hz) e2
    refine ⟨m1 + m2, by rw [List.sum_cons, em, em2]; omega, ?_⟩
    rw [only_split d3 o]
    exact SumN.app (SumN.mono (fun u hu => by unfold WayAny; exact .inl hu) s1) (SumN.mono (fun u hu => by unfold WayAny; exact .inr hu) s2)
end
/-! at most one more of one kind: at most one share more -/
mutual
theorem sh_step : ∀ {f : Fm} {x t : Am} {j k : Int} {y : Str}, (leaves f).Nodup → OkF f → (∀ z ∈ leaves f, t z ≤ x z + if z = y then 1 else 0) → sh x f = some j → sh t f = some k → k ≤ j + (if y ∈ leaves f then 1 else 0)
  | .kind z, x, t, j, k, y, nd, ok, b, hx, ht => by
    unfold sh at hx ht
    unfold leaves at b ⊢
    have hx := Option.some.inj hx
    have ht := Option.some.inj ht
    have := b z List.mem_cons_self
    by_cases e : z = y
    · rw [if_pos e] at this
      rw [if_pos (by rw [e]; exact List.mem_cons_self)]
      omega
    · rw [if_neg e] at this
      split <;> omega
  | .many n f, x, t, j, k, y, nd, ok, b, hx, ht => by
    unfold sh at hx ht
    unfold leaves at b nd ⊢
    unfold OkF at ok
    obtain ⟨a, ha, hx⟩ := Option.bind_eq_some_iff.mp hx
    obtain ⟨c, hc, ht⟩ := Option.bind_eq_some_iff.mp ht
    have ih := sh_step nd ok.2.2 b ha hc
    have e1 : j = a / (n : Int) := by
      split at hx
      · exact (Option.some.inj hx).symm
      · cases hx
    have e2 : k = c / (n : Int) := by
      split at ht
      · exact (Option.some.inj ht).symm
      · cases ht
    have hn : (0 : Int) < n := by omega
    subst e1
    subst e2
    by_cases e : y ∈ leaves f
    · rw [if_pos e] at ih ⊢
      have m1 : c / (n : Int) ≤ (a + 1 * (n : Int)) / (n : Int) := Int.ediv_le_ediv hn (by omega)
      rw [Int.add_mul_ediv_right _ _ (by omega)] at m1
      exact m1
    · rw [if_neg e] at ih ⊢
      have m1 : c / (n : Int) ≤ a / (n : Int) := Int.ediv_le_ediv hn (by omega)
      omega
  | .node w fs, x, t, j, k, y, nd, ok, b, hx, ht => by
    unfold sh at hx ht
    unfold leaves at b nd ⊢
    unfold OkF at ok
    obtain ⟨as, ha, hx⟩ := Option.bind_eq_some_iff.mp hx
    obtain ⟨cs, hc, ht⟩ := Option.bind_eq_some_iff.mp ht
    cases w with
    | true =>
      have hx : andN as = some j := hx
      have ht : andN cs = some k := ht
      obtain ⟨n0, okl⟩ := ok
      cases fs with
      | nil => exact absurd rfl n0
      | cons f fs =>
        unfold shL at ha hc
        unfold leavesL at b nd ⊢
        unfold OkL at okl
        obtain ⟨a, ga, ha2⟩ := Option.bind_eq_some_iff.mp ha
        obtain ⟨ar, _, rfl⟩ := Option.map_eq_some_iff.mp ha2
        obtain ⟨c, gc, hc2⟩ := Option.bind_eq_some_iff.mp hc
        obtain ⟨cr, _, rfl⟩ := Option.map_eq_some_iff.mp hc2
        have e1 : j = a := by
          by_cases q : ∀ z ∈ ar, z = a
          · rw [andN_yes q] at hx
            exact (Option.some.inj hx).symm
          · rw [andN_no q] at hx
            cases hx
        have e2 : k = c := by
          by_cases q : ∀ z ∈ cr, z = c
          · rw [andN_yes q] at ht
            exact (Option.some.inj ht).symm
          · rw [andN_no q] at ht
            cases ht
        have ih := sh_step (disj_nodup nd).1 okl.1 (fun z m => b z (List.mem_append.mpr (.inl m))) ga gc
        subst e1
        subst e2
        by_cases e : y ∈ leaves f
        · rw [if_pos e] at ih
          rw [if_pos (List.mem_append.mpr (.inl e))]
          exact ih
        · rw [if_neg e] at ih
          split <;> omega
    | false =>
      have hx : some as.sum = some j := hx
      have ht : some cs.sum = some k := ht
      have ih := shL_step nd ok.2 b ha hc
      rw [← Option.some.inj hx, ← Option.some.inj ht]
      exact ih
theorem shL_step : ∀ {fs : List Fm} {x t : Am} {as cs : List Int} {y : Str}, (leavesL fs).Nodup → OkL fs → (∀ z ∈ leavesL fs, t z ≤ x z + if z = y then 1 else 0) → shL x fs = some as → shL t fs = some cs → cs.sum ≤ as.sum + (if y ∈ leavesL fs then 1 else 0)
  | [], x, t, as, cs, y, nd, ok, b, hx, ht => by
    unfold shL at hx ht
    rw [← Option.some.inj hx, ← Option.some.inj ht]
    show (0 : Int) ≤ 0 + _
    split <;> omega
  | f :: fs, x, t, as, cs, y, nd, ok, b, hx, ht => by
    unfold shL at hx ht
    unfold leavesL at b nd ⊢
    unfold OkL at ok
    obtain ⟨a, ha, hx⟩ := Option.bind_eq_some_iff.mp hx
    obtain ⟨ar, ha2, rfl⟩ := Option.map_eq_some_iff.mp hx
    obtain ⟨c, hc, ht⟩ := Option.bind_eq_some_iff.mp ht
    obtain ⟨cr, hc2, rfl⟩ := Option.map_eq_some_iff.mp ht
    obtain ⟨d1, d2, d3⟩ := disj_nodup nd
    have i1 := sh_step d1 ok.1 (fun z m => b z (List.mem_append.mpr (.inl m))) ha hc
    have i2 := shL_step d2 ok.2 (fun z m => b z (List.mem_append.mpr (.inr m))) ha2 hc2
    rw [List.sum_cons, List.sum_cons]
    by_cases e : y ∈ leaves f
    · rw [if_pos e] at i1
      rw [if_neg (d3 y e)] at i2
      rw [if_pos (List.mem_append.mpr (.inl e))]
      omega
    · rw [if_neg e] at i1
      by_cases e2 : y ∈ leavesL fs
      · rw [if_pos e2] at i2
        rw [if_pos (List.mem_append.mpr (.inr e2))]
        omega
      · rw [if_neg e2] at i2
        split <;> omega
end
/-! how many ways there are at most -/
mutual
def cnt : Fm → Nat
  | .kind _ => 1
  | .many n f => cnt f ^ n
  | .node w fs => if w = true then cntM fs else cntA fs
def cntM : List Fm → Nat
  | [] => 1
  | f :: fs => cnt f * cntM fs
def cntA : List Fm → Nat
  | [] => 0
  | f :: fs => cnt f + cntA fs
end
end Vf
/-! VLayD -/
namespace Vf
open PySem PySem.Spec PyProof.Rows L2
/-! ### how many ways there are -/
theorem pow_add_le (a b : Nat) : ∀ r, 1 ≤ r → a ^ r + b ^ r ≤ (a + b) ^ r
  | 1, _ => by rw [Nat.pow_one, Nat.pow_one, Nat.pow_one]; exact Nat.le_refl _
  | r + 2, _ => by
    have ih := pow_add_le a b (r + 1) (by omega)
    have h1 : a ^ (r + 2) + b ^ (r + 2) ≤ (a ^ (r + 1) + b ^ (r + 1)) * (a + b) := by
      rw [Nat.pow_succ a (r + 1), Nat.pow_succ b (r + 1), Nat.add_mul, Nat.mul_add, Nat.mul_add]
      omega
    rw [Nat.pow_succ (a + b) (r + 1)]
    exact Nat.le_trans h1 (Nat.mul_le_mul_right _ ih)
mutual
theorem cnt_pos : ∀ {f : Fm}, OkF f → 1 ≤ cnt f
  | .kind z, h => Nat.le_refl 1
  | .many n f, h => by
    unfold OkF at h
    unfold cnt
    exact Nat.one_le_pow _ _ (cnt_pos h.2.2)
  | .node w fs, h => by
    unfold OkF at h
    unfold cnt
    cases w with
    | true =>
      rw [if_pos rfl]
      exact cntM_pos h.2
    | false =>
      rw [if_neg (by decide)]
      obtain ⟨n0, ok⟩ := h
      cases fs with
      | nil => exact absurd rfl n0
      | cons f fs =>
        unfold OkL at ok
        unfold cntA
        have := cnt_pos ok.1
        omega
theorem cntM_pos : ∀ {fs : List Fm}, OkL fs → 1 ≤ cntM fs
  | [], h => Nat.le_refl 1
  | f :: fs, h => by
    unfold OkL at h
    unfold cntM
    exact Nat.mul_le_mul (cnt_pos h.1) (cntM_pos h.2)
end
section
variable {g : Nat → Nat} {N : Nat} (g1 : ∀ a, 1 ≤ a → 1 ≤ g a) (ga : ∀ a b, 1 ≤ a → 1 ≤ b → a + b ≤ N → g a + g b ≤ g (a + b)) (gm : ∀ a b, 1 ≤ a → 1 ≤ b → a + b ≤ N → g a * g b ≤ g (a + b))
include g1 ga gm
mutual
theorem cnt_le : ∀ {f : Fm} {r : Nat}, 1 ≤ r → r < 2 ^ 60 → WfF r f → (leaves f).length ≤ N → cnt f ≤ g (leaves f).length ^ r
  | .kind z, r, r1, r2, h, l => by
    unfold cnt leaves
    exact Nat.one_le_pow _ _ (g1 1 (Nat.le_refl 1))
  | .many n f, r, r1, r2, h, l => by
    have ok := WfF.ok r2 h
    unfold WfF at h
    unfold leaves at l ⊢
    unfold cnt
    unfold OkF at ok
    obtain ⟨n2, nr, h⟩ := h
    have q1 : 1 ≤ r / n := (Nat.le_div_iff_mul_le (by omega)).mpr (by omega)
    have ih := cnt_le q1 (Nat.lt_of_le_of_lt (Nat.div_le_self r n) r2) h l
    have p := g1 _ (ok.2.2.pos)
    refine Nat.le_trans (Nat.pow_le_pow_left ih n) ?_
    rw [← Nat.pow_mul]
    exact Nat.pow_le_pow_right p (Nat.div_mul_le_self r n)
  | .node w fs, r, r1, r2, h, l => by
    unfold WfF at h
    unfold leaves at l ⊢
    unfold cnt
    have := cntL_le r1 r2 h.1 h.2 l
    cases w with
    | true =>
      rw [if_pos rfl]
      exact this.1
    | false =>
      rw [if_neg (by decide)]
      exact this.2
theorem cntL_le : ∀ {fs : List Fm} {r : Nat}, 1 ≤ r → r < 2 ^ 60 → fs ≠ [] → WfL r fs → (leavesL fs).length ≤ N → cntM fs ≤ g (leavesL fs).length ^ r ∧ cntA fs ≤ g (leavesL fs).length ^ r
  | [], r, r1, r2, n0, h, l => absurd rfl n0
  | [f], r, r1, r2, n0, h, l => by
    unfold WfL at h
    rw [leavesL_one] at l ⊢
    have := cnt_le r1 r2 h.1 l
    unfold cntM cntA
    constructor
    · show cnt f * 1 ≤ _
      omega
    · show cnt f + 0 ≤ _
      omega
  | f :: k :: fs, r, r1, r2, n0, h, l => by
    have ok := WfL.ok r2 h
    unfold WfL at h
    unfold OkL at ok
    unfold leavesL at l ⊢
    rw [List.length_append] at l ⊢
    have a1 := ok.1.pos
    have b1 : 1 ≤ (leavesL (k :: fs)).length := by
      have := ok.2.len
      rw [List.length_cons] at this
      omega
    have i1 := cnt_le r1 r2 h.1 (by omega)
    have i2 := cntL_le r1 r2 (List.cons_ne_nil k fs) h.2 (by omega)
    constructor
    · show cnt f * cntM (k :: fs) ≤ _
      refine Nat.le_trans (Nat.mul_le_mul i1 i2.1) ?_
      rw [← Nat.mul_pow]
      exact Nat.pow_le_pow_left (gm _ _ a1 b1 l) r
    · show cnt f + cntA (k :: fs) ≤ _
      refine Nat.le_trans (Nat.add_le_add i1 i2.2) ?_
      refine Nat.le_trans (pow_add_le _ _ r r1) ?_
      exact Nat.pow_le_pow_left (ga _ _ a1 b1 l) r
end
end
theorem small1 : ∀ a : Fin 9, ∀ b : Fin 9, 1 ≤ a.val → 1 ≤ b.val → a.val + b.val ≤ 8 → 2 ^ (a.val - 1) + 2 ^ (b.val - 1) ≤ 2 ^ (a.val + b.val - 1) ∧ 2 ^ (a.val - 1) * 2 ^ (b.val - 1) ≤ 2 ^ (a.val + b.val - 1) := by decide +kernel
theorem small3 : ∀ a : Fin 5, ∀ b : Fin 5, 1 ≤ a.val → 1 ≤ b.val → a.val + b.val ≤ 4 → a.val * b.val ≤ a.val + b.val := by decide +kernel
theorem cnt_128 {f : Fm} {n : Nat} (hn : (leaves f).length = n) (h : (n ≤ 8 ∧ WfF 1 f) ∨ (n ≤ 4 ∧ WfF 3 f)) : cnt f ≤ 128 := by
  rcases h with ⟨l, h⟩ | ⟨l, h⟩
  · have := cnt_le (g := fun n => 2 ^ (n - 1)) (N := 8) (fun a _ => Nat.one_le_two_pow) (fun a b x y z => (small1 ⟨a, by omega⟩ ⟨b, by omega⟩ x y z).1) (fun a b x y z => (small1 ⟨a, by omega⟩ ⟨b, by omega⟩ x y z).2) (Nat.le_refl 1) (by decide) h (by omega)
    refine Nat.le_trans this ?_
    rw [Nat.pow_one, hn]
    exact Nat.pow_le_pow_right (by decide) (show n - 1 ≤ 7 by omega)
  · have := cnt_le (g := fun n => n) (N := 4) (fun a h => h) (fun a b _ _ _ => Nat.le_refl _) (fun a b x y z => small3 ⟨a, by omega⟩ ⟨b, by omega⟩ x y z) (r := 3) (by decide) (by decide) h (by omega)
    refine Nat.le_trans this ?_
    rw [hn]
    exact Nat.le_trans (Nat.pow_le_pow_left l 3) (by decide)
/-! ### what is laid out: dicts whose keys are amounts -/
def kk (ns : List Str) (u : Am) : List Key := ns.map fun z => Sum.inl (u z)
theorem kk_map (ns : List Str) (u : Am) : (kk ns u).map kV = tv ns u := by
  unfold kk tv
  rw [List.map_map]
  rfl
theorem kk_congr {ns : List Str} {u v : Am} (h : ∀ z ∈ ns, u z = v z) : kk ns u = kk ns v := List.map_congr_left fun z hz => by rw [h z hz]
theorem kk_inj {ns : List Str} {u v : Am} (h : kk ns u = kk ns v) : ∀ z ∈ ns, u z = v z := fun z hz => Sum.inl.inj (List.map_inj_left.mp h z hz)
theorem kk_add {ns : List Str} {a b c d : Am} (h : kk ns a = kk ns c) (k : kk ns b = kk ns d) : kk ns (addA a b) = kk ns (addA c d) := kk_congr fun z hz => by
  show a z + b z = c z + d z
  rw [kk_inj h z hz, kk_inj k z hz]
structure Lay (ns : List Str) (S : Am → Prop) (kvs : List (List Key × V)) : Prop where
  snd : ∀ k ∈ kvs.map Prod.fst, ∃ u, S u ∧ k = kk ns u
  cpl : ∀ u, S u → kk ns u ∈ kvs.map Prod.fst
  nd : (kvs.map Prod.fst).Nodup
theorem Lay.iff {ns : List Str} {S R : Am → Prop} {kvs : List (List Key × V)} (l : Lay ns S kvs) (h : ∀ u, S u ↔ R u) : Lay ns R kvs :=
  ⟨fun k m => let ⟨u, a, b⟩ := l.snd k m; ⟨u, (h u).mp a, b⟩, fun u r => l.cpl u ((h u).mpr r), l.nd⟩
theorem keys_put {kvs : List (List Key × V)} {k : List Key} {v : V} : (k ∈ kvs.map Prod.fst ∧ (putK kvs k v).map Prod.fst = kvs.map Prod.fst) ∨ (k ∉ kvs.map Prod.fst ∧ (putK kvs k v).map Prod.fst = kvs.map Prod.fst ++ [k]) := by
  by_cases h : k ∈ kvs.map Prod.fst
  · refine .inl ⟨h, ?_⟩
    obtain ⟨y, hy⟩ := valV_in h
    unfold putK
    rw [valV_any, hy, if_pos (show (some y).isSome = true from rfl), List.map_map]
    refine List.map_congr_left fun p _ => ?_
    show (if p.1 = k then (p.1, v) else p).1 = p.1
    split <;> rfl
  · refine .inr ⟨h, ?_⟩
    rw [putK_out v h, List.map_append]
    rfl
theorem keys_put_mem {kvs : List (List Key × V)} {k j : List Key} {v : V} : j ∈ (putK kvs k v).map Prod.fst ↔ j = k ∨ j ∈ kvs.map Prod.fst := by
  rcases keys_put (kvs := kvs) (k := k) (v := v) with ⟨h, e⟩ | ⟨h, e⟩
  · rw [e]
    exact ⟨.inr, fun x => x.elim (fun e => by rw [e]; exact h) id⟩
  · rw [e, List.mem_append, List.mem_singleton]
    exact Or.comm
theorem keys_put_nd {kvs : List (List Key × V)} {k : List Key} {v : V} (nd : (kvs.map Prod.fst).Nodup) : ((putK kvs k v).map Prod.fst).Nodup := by
  rcases keys_put (kvs := kvs) (k := k) (v := v) with ⟨h, e⟩ | ⟨h, e⟩
  · rw [e]
    exact nd
  · rw [e, List.nodup_append]
    exact ⟨nd, by simp, fun a ha b hb e => h (by rw [← List.mem_singleton.mp hb, ← e]; exact ha)⟩
theorem isKeys_len {H : Hp} {kvs : List (List Key × V)} {bs : List Addr} (h : IsKeys H kvs bs) : bs.length = kvs.length := by
  unfold IsKeys at h
  induction h with
  | nil => rfl
  | @cons p b ps bs h t ih => rw [List.length_cons, List.length_cons, ih]
theorem isKeys_at {H : Hp} {kvs : List (List Key × V)} {bs : List Addr} (h : IsKeys H kvs bs) : ∀ (i : Nat) (p : List Key × V), kvs[i]? = some p → ∃ b, bs[i]? = some b ∧ H b = some (.tup (p.1.map kV)) := by
  unfold IsKeys at h
  induction h with
  | nil =>
    intro i p e
    simp at e
  | @cons p b ps bs h t ih =>
    intro i q e
    cases i with
    | zero =>
      rw [List.getElem?_cons_zero] at e
      rw [← Option.some.inj e]
      exact ⟨b, rfl, h⟩
    | succ i =>
      rw [List.getElem?_cons_succ] at e
      exact ih i q e
theorem isKeys_at' {H : Hp} {kvs : List (List Key × V)} {bs : List Addr} (h : IsKeys H kvs bs) {i : Nat} {x : V} (e : (bs.map V.ref)[i]? = some x) : ∃ (p : List Key × V) (b : Addr), kvs[i]? = some p ∧ x = .ref b ∧ H b = some (.tup (p.1.map kV)) := by
  rw [List.getElem?_map] at e
  obtain ⟨b, hb, rfl⟩ := Option.map_eq_some_iff.mp e
  have lt : i < kvs.length := by
    rw [← isKeys_len h]
    exact (List.getElem?_eq_some_iff.mp hb).1
  have hk : kvs[i]? = some kvs[i] := List.getElem?_eq_getElem lt
  obtain ⟨c, hc, t⟩ := isKeys_at h i _ hk
  rw [hb] at hc
  rw [← Option.some.inj hc] at t
  exact ⟨_, b, hk, rfl, t⟩
theorem isKeys_sw {W : List Addr} {H H' : Hp} {kvs : List (List Key × V)} {bs : List Addr} (h : IsKeys H kvs bs) (s : Sw W H H') : IsKeys H' kvs bs := by
  unfold IsKeys at h ⊢
  induction h with
  | nil => exact .nil
  | cons h t ih => exact .cons (s.tup _ _ h) ih
section
variable {H : Hp} {Q : VK} {d : Addr}
theorem r_listDT {kvs : List (List Key × V)} (h : H d = some (.dT kvs)) (q : ∀ p bs H', H p = none → Sw [] H H' → IsKeys H' kvs bs → H' p = some (.lst (bs.map V.ref)) → Q (.ref p) H') : nListT [.ref d] H Q :=
  ⟨d, kvs, rfl, .inl h, fun p bs n k => q p bs _ n (Sw.new n) (isKeys_sw k (Sw.new n (W := []))) upd_same⟩
end
def spSums : Sp := fun vs H Q _ => ∃ (d1 d2 : Addr) (ns : List Str) (S1 S2 : Am → Prop) (k1 k2 : List (List Key × V)), vs = [.ref d1, .ref d2] ∧ H d1 = some (.dT k1) ∧ H d2 = some (.dT k2) ∧ Lay ns S1 k1 ∧ Lay ns S2 k2 ∧ k1.length * k2.length ≤ 1000000 ∧ ns.length ≤ 60 ∧
  ∀ (p : Addr) (k3 : List (List Key × V)) (H' : Hp), H p = none → Sw [] H H' → H' p = some (.dT k3) → Lay ns (Sum2 S1 S2) k3 → k3.length ≤ k1.length * k2.length → Q (.ref p) H'
def spLaid (d : Nat) : Sp := fun vs H Q _ => ∃ (v : V) (f : Fm) (l : Addr) (ns : List Str), vs = [v, .ref l] ∧ IsF H f v ∧ OkF f ∧ dep f ≤ d ∧ cnt f ≤ 1000 ∧ H l = some (.lst (ns.map V.str)) ∧ ns.length ≤ 60 ∧ 0 < ns.length ∧ ns.Nodup ∧
  ∀ (p : Addr) (kvs : List (List Key × V)) (H' : Hp), H p = none → Sw [] H H' → H' p = some (.dT kvs) → Lay ns (Way f) kvs → kvs.length ≤ cnt f → Q (.ref p) H'
end Vf
namespace Vf
open PySem PySem.Spec PyProof.Rows L2
section
variable {σ : L2.St} {H : Hp} {Q : VK} {tk tv' : TE} {p a : Addr} {y : V}
def kDisp (Q : VK) (p : Addr) (x y : V) (H2 : Hp) : Prop := H2 p = some (.dT []) ∧ ∃ (a : Addr) (k : List Key), x = .ref a ∧ H2 a = some (.tup (k.map kV)) ∧ Q (.ref p) (upd H2 p (.dT [(k, y)]))
theorem r_disp (q : ∀ p H1, H p = none → Sw [] H H1 → H1 p = some (.dT []) → tk σ H1 fun x H2 => tv' σ H2 fun y H3 => kDisp Q p x y H3) : tDisp1T tk tv' σ H Q := fun p n => q p _ n (Sw.new n) upd_same
theorem r_kDisp {ns : List Str} {u : Am} (hp : H p = some (.dT [])) (ha : H a = some (.tup (tv ns u))) (q : ∀ H3, Sw [p] H H3 → H3 p = some (.dT [(kk ns u, y)]) → Q (.ref p) H3) : kDisp Q p (.ref a) y H :=
  ⟨hp, a, kk ns u, rfl, by rw [kk_map]; exact ha, q _ (Sw.put1 hp trivial) upd_same⟩
end
end Vf
namespace Vf
open PySem PySem.Spec PyProof.Rows L2
section
variable {σ : L2.St} {H : Hp} {Q : VK} {K : PySem.W.Frag} {l a : Addr}
theorem tv_zero (ns : List Str) : tv ns zeroA = (List.replicate ns.length [V.int 0]).flatten := by
  induction ns with
  | nil => rfl
  | cons z ns ih =>
    rw [List.length_cons, List.replicate_succ, List.flatten_cons, ← ih]
    rfl
theorem r_zeros {ns : List Str} (h : H l = some (.tup [.int 0])) (n0 : 0 < ns.length) (n1 : ns.length ≤ 1000) (q : ∀ p H', Sw [] H H' → H' p = some (.tup (tv ns zeroA)) → Q (.ref p) H') : rRepT1 K (.ref l) (.int (ns.length : Int)) H Q := by
  refine ⟨l, _, _, rfl, rfl, SqT.of h, List.cons_ne_nil _ _, by omega, by omega, by show 1 ≤ 1000; decide, fun e => ?_, fun _ p np => ?_⟩
  · refine q l H (Sw.refl _ _) ?_
    have e1 : ns.length = 1 := by omega
    rw [tv_zero, e1]
    exact h
  · refine q p _ (Sw.new np) ?_
    rw [upd_same, tv_zero, Int.toNat_natCast]
end
theorem mergeT_keys : ∀ (more kvs : List (List Key × V)), (kvs.map Prod.fst).Nodup → ((mergeT kvs more).map Prod.fst).Nodup ∧ ∀ k, k ∈ (mergeT kvs more).map Prod.fst ↔ k ∈ kvs.map Prod.fst ∨ k ∈ more.map Prod.fst
  | [], kvs, nd => ⟨nd, fun k => ⟨.inl, fun h => h.elim id (fun x => absurd x List.not_mem_nil)⟩⟩
  | p :: r, kvs, nd => by
    obtain ⟨a, b⟩ := mergeT_keys r (putK kvs p.1 p.2) (keys_put_nd nd)
    refine ⟨a, fun k => ?_⟩
    have e : mergeT kvs (p :: r) = mergeT (putK kvs p.1 p.2) r := rfl
    rw [e, b k, keys_put_mem, List.map_cons, List.mem_cons]
    constructor
    · rintro ((x | x) | x)
      · exact .inr (.inl x)
      · exact .inl x
      · exact .inr (.inr x)
    · rintro (x | x | x)
      · exact .inl (.inr x)
      · exact .inl (.inl x)
      · exact .inr x
theorem Lay.merge {ns : List Str} {S R : Am → Prop} {k1 k2 : List (List Key × V)} (a : Lay ns S k1) (b : Lay ns R k2) : Lay ns (fun u => S u ∨ R u) (mergeT k1 k2) := by
  obtain ⟨nd, m⟩ := mergeT_keys k2 k1 a.nd
  refine ⟨fun k h => ?_, fun u h => ?_, nd⟩
  · rcases (m k).mp h with h | h
    · obtain ⟨u, s, e⟩ := a.snd k h
      exact ⟨u, .inl s, e⟩
    · obtain ⟨u, s, e⟩ := b.snd k h
      exact ⟨u, .inr s, e⟩
  · rcases h with h | h
    · exact (m _).mpr (.inl (a.cpl u h))
    · exact (m _).mpr (.inr (b.cpl u h))
theorem Lay.one {ns : List Str} {u : Am} {y : V} : Lay ns (fun v => v = u) [(kk ns u, y)] :=
  ⟨fun k m => ⟨u, rfl, List.mem_singleton.mp m⟩, fun v h => by rw [h]; exact List.mem_cons_self, by
    show [kk ns u].Nodup
    simp⟩
end Vf
namespace Vf
open PySem PySem.Spec PyProof.Rows L2
mutual
theorem way_some : ∀ {f : Fm}, OkF f → ∃ u, Way f u
  | .kind z, h => ⟨_, by unfold Way; rfl⟩
  | .many n f, h => by
    unfold OkF at h
    obtain ⟨u, hu⟩ := way_some h.2.2
    have : ∀ m : Nat, ∃ v, SumN m (Way f) v := fun m => by
      induction m with
      | zero => exact ⟨zeroA, rfl⟩
      | succ m ih =>
        obtain ⟨v, hv⟩ := ih
        exact ⟨_, v, u, hv, hu, rfl⟩
    obtain ⟨v, hv⟩ := this n
    exact ⟨v, by unfold Way; exact hv⟩
  | .node w fs, h => by
    unfold OkF at h
    obtain ⟨n0, ok⟩ := h
    cases w with
    | true =>
      obtain ⟨u, hu⟩ := wayAll_some ok
      exact ⟨u, by unfold Way; rw [if_pos rfl]; exact hu⟩
    | false =>
      cases fs with
      | nil => exact absurd rfl n0
      | cons f fs =>
        unfold OkL at ok
        obtain ⟨u, hu⟩ := way_some ok.1
        exact ⟨u, by unfold Way; rw [if_neg (by decide)]; unfold WayAny; exact .inl hu⟩
theorem wayAll_some : ∀ {fs : List Fm}, OkL fs → ∃ u, WayAll fs u
  | [], h => ⟨zeroA, by unfold WayAll; rfl⟩
  | f :: fs, h => by
    unfold OkL at h
    obtain ⟨u, hu⟩ := way_some h.1
    obtain ⟨v, hv⟩ := wayAll_some h.2
    exact ⟨_, by unfold WayAll; exact ⟨u, v, hu, hv, rfl⟩⟩
end
theorem cntM_snoc (g : Fm) : ∀ fs : List Fm, cntM (fs ++ [g]) = cntM fs * cnt g
  | [] => by
    show cnt g * 1 = 1 * cnt g
    omega
  | f :: fs => by
    show cnt f * cntM (fs ++ [g]) = cnt f * cntM fs * cnt g
    rw [cntM_snoc g fs, Nat.mul_assoc]
theorem cntA_snoc (g : Fm) : ∀ fs : List Fm, cntA (fs ++ [g]) = cntA fs + cnt g
  | [] => by
    show cnt g + 0 = 0 + cnt g
    omega
  | f :: fs => by
    show cnt f + cntA (fs ++ [g]) = cnt f + cntA fs + cnt g
    rw [cntA_snoc g fs, Nat.add_assoc]
theorem cntM_take : ∀ {fs : List Fm} (i : Nat), OkL fs → cntM (fs.take i) ≤ cntM fs ∧ 1 ≤ cntM (fs.take i)
  | [], i, h => by
    rw [List.take_nil]
    exact ⟨Nat.le_refl _, Nat.le_refl 1⟩
  | f :: fs, 0, h => ⟨cntM_pos h, Nat.le_refl 1⟩
  | f :: fs, i + 1, h => by
    unfold OkL at h
    have a := cnt_pos h.1
    obtain ⟨b, c⟩ := cntM_take i h.2
    exact ⟨Nat.mul_le_mul_left _ b, Nat.mul_le_mul a c⟩
theorem cntA_take : ∀ {fs : List Fm} (i : Nat), cntA (fs.take i) ≤ cntA fs
  | [], i => by
    rw [List.take_nil]
    exact Nat.le_refl _
  | f :: fs, 0 => Nat.zero_le _
  | f :: fs, i + 1 => Nat.add_le_add_left (cntA_take i) _
/-- a node's ways and their number, by its parts -/
def WayW (w : Bool) (fs : List Fm) (u : Am) : Prop := if w = true then WayAll fs u else WayAny fs u
def cntW (w : Bool) (fs : List Fm) : Nat := if w = true then cntM fs else cntA fs
theorem cntW_take {w : Bool} {fs : List Fm} (i : Nat) (ok : OkL fs) : cntW w (fs.take i) ≤ cntW w fs := by
  cases w with
  | true => exact (cntM_take i ok).1
  | false => exact cntA_take i
theorem cntW_mem {w : Bool} {fs : List Fm} {i : Nat} {g : Fm} (h : fs[i]? = some g) (ok : OkL fs) : cnt g ≤ cntW w fs := by
  have t := cntW_take (w := w) (i + 1) ok
  rw [List.take_add_one, h] at t
  have t : cntW w (fs.take i ++ [g]) ≤ cntW w fs := t
  cases w with
  | true =>
    have t : cntM (fs.take i ++ [g]) ≤ cntW true fs := t
    rw [cntM_snoc] at t
    have := (cntM_take i ok).2
    have := Nat.le_mul_of_pos_left (cnt g) this
    omega
  | false =>
    have t : cntA (fs.take i ++ [g]) ≤ cntW false fs := t
    rw [cntA_snoc] at t
    omega
section
variable {H : Hp} {Q : VK} {K : PySem.W.Frag} {a : Addr}
theorem r_slA1 {y : V} {ys : List V} (h : H a = some (.tup (y :: ys))) (q : ∀ p H', H p = none → Sw [] H H' → H' p = some (.tup ys) → Q (.ref p) H') : rSlA K (.ref a) (some 1) none H Q := by
  have e : HT.sIx (y :: ys).length 0 (some ((1 : Nat) : Int)) = 1 := by
    rw [HT.sIx_nat, List.length_cons]
    omega
  refine ⟨a, _, rfl, SqT.of h, fun c => ?_, fun _ p n => q p _ n (Sw.new n) ?_⟩
  · have := c.1
    have e2 : HT.sIx (y :: ys).length 0 (some (1 : Int)) = 1 := e
    omega
  · rw [upd_same]
    exact congrArg (fun z => some (HO.tup z)) (cutV_drop (y :: ys) 1)
end
end Vf
/-! VKn -/
namespace Vf
open PySem PySem.Spec PyProof.Rows L2
/-! ### what is known of which amounts -/
structure KnM (ns : List Str) (C : Nat → Am → Prop) (kv : List (List Key × V)) : Prop where
  snd : ∀ p ∈ kv, ∃ (m : Nat) (u : Am), C m u ∧ p.1 = kk ns u ∧ p.2 = .int (m : Int)
  cpl : ∀ m u, C m u → valV kv (kk ns u) = some (.int (m : Int))
theorem KnM.iff {ns : List Str} {C D : Nat → Am → Prop} {kv : List (List Key × V)} (k : KnM ns C kv) (h : ∀ m u, C m u ↔ D m u) : KnM ns D kv :=
  ⟨fun p m => let ⟨a, u, b, c⟩ := k.snd p m; ⟨a, u, (h a u).mp b, c⟩, fun m u d => k.cpl m u ((h m u).mpr d)⟩
theorem KnM.miss {ns : List Str} {C : Nat → Am → Prop} {kv : List (List Key × V)} (k : KnM ns C kv) {u : Am} (h : ∀ m v, C m v → kk ns v ≠ kk ns u) : valV kv (kk ns u) = none := by
  refine valV_out fun m => ?_
  obtain ⟨p, hp, e⟩ := List.mem_map.mp m
  obtain ⟨m, v, c, e2, _⟩ := k.snd p hp
  exact h m v c (e2.symm.trans e)
theorem KnM.put {ns : List Str} {C : Nat → Am → Prop} {X : Am → Prop} {kv : List (List Key × V)} (k : KnM ns C kv) {u : Am} {m : Nat} (hX : X u) (h : valV kv (kk ns u) = none) : KnM ns (fun j v => C j v ∨ (j = m ∧ X v ∧ kk ns v = kk ns u)) (putK kv (kk ns u) (.int (m : Int))) := by
  refine ⟨fun p hp => ?_, fun j v hv => ?_⟩
  · rw [putK_new _ h] at hp
    rcases List.mem_append.mp hp with hp | hp
    · obtain ⟨a, w, b, c⟩ := k.snd p hp
      exact ⟨a, w, .inl b, c⟩
    · rw [List.mem_singleton.mp hp]
      exact ⟨m, u, .inr ⟨rfl, hX, rfl⟩, rfl, rfl⟩
  · rw [valV_put]
    rcases hv with hv | ⟨rfl, _, e⟩
    · have := k.cpl j v hv
      rw [if_neg]
      · exact this
      · intro e
        rw [e, h] at this
        cases this
    · rw [if_pos e]
def Sums (f : Fm) (n : Nat) (m : Nat) (u : Am) : Prop := m ≤ n ∧ SumN m (Way f) u
def spShared (d : Nat) : Sp := fun vs H Q _ => ∃ (v : V) (f : Fm) (a : Addr) (ns : List Str) (u : Str → Int), vs = [v, .ref a, vO (sh u f)] ∧ IsF H f v ∧ OkF f ∧ dep f ≤ d ∧ (leaves f).length ≤ 60 ∧ (leaves f).Nodup ∧ ns.Perm (leaves f) ∧ sortedS ns = true ∧ H a = some (.tup (tv ns u)) ∧ (∀ z ∈ ns, 0 ≤ u z) ∧
  ∀ H', Sw [] H H' → Q (.bl true) H'
def spKnown : Sp := fun vs H Q _ => ∃ (w z : Addr) (ns : List Str) (f : Fm) (kw : List (List Key × V)), vs = [.ref w, .ref z] ∧ H w = some (.dT kw) ∧ Lay ns (Way f) kw ∧ kw.length ≤ 500 ∧ H z = some (.tup (tv ns zeroA)) ∧ OkF f ∧ (leaves f).Nodup ∧ ns.Perm (leaves f) ∧ ns.length ≤ 60 ∧
  ∀ (p k : Addr) (kv : List (List Key × V)) (most : Nat) (H' : Hp), H k = none → Sw [] H H' → H' p = some (.tup [.ref k, .int (most : Int)]) → H' k = some (.dT kv) → KnM ns (Sums f most) kv → 1 ≤ most → most ≤ 3 → kv.length ≤ 2000 → Q (.ref p) H'
theorem sums_zero {f : Fm} {m : Nat} {u : Am} : Sums f 0 m u ↔ (m = 0 ∧ u = zeroA) := by
  unfold Sums
  constructor
  · rintro ⟨a, b⟩
    obtain rfl : m = 0 := by omega
    exact ⟨rfl, b⟩
  · rintro ⟨rfl, rfl⟩
    exact ⟨Nat.le_refl 0, rfl⟩
theorem kk_ne {ns : List Str} {f : Fm} (ok : OkF f) (nd : (leaves f).Nodup) (pm : ns.Perm (leaves f)) {m n : Nat} {u v : Am} (hu : SumN m (Way f) u) (hv : SumN n (Way f) v) (ne : m ≠ n) : kk ns u ≠ kk ns v := fun e => by
  have e1 : sh u f = sh v f := sh_congr fun z mz => kk_inj e z (pm.symm.subset mz)
  rw [sh_sum0 nd ok hu, sh_sum0 nd ok hv] at e1
  have := Option.some.inj e1
  omega
section
variable {σ : L2.St} {H : Hp} {Q : VK} {d b : Addr}
def kDIn (Q : VK) (x y : V) (H2 : Hp) : Prop := ∃ a o, x = .ref a ∧ DGet H2 a y o ∧ Q (.bl o.isSome) H2
theorem r_din {ty td : TE} (q : ty σ H fun y H1 => td σ H1 fun x H2 => kDIn Q x y H2) : tDIn ty td σ H Q := q
theorem r_kDInT {kvs : List (List Key × V)} {k : List Key} (h : H d = some (.dT kvs)) (hb : H b = some (.tup (k.map kV))) (q : Q (.bl (valV kvs k).isSome) H) : kDIn Q (.ref d) (.ref b) H := ⟨d, _, rfl, DGet.t h hb, q⟩
def kDGet2 (Q : VK) (a : Addr) (y z : V) (H3 : Hp) : Prop := ∃ o, DGet H3 a y o ∧ Q (o.getD z) H3
theorem r_kDGet2T {kvs : List (List Key × V)} {k : List Key} {z : V} (h : H d = some (.dT kvs)) (hb : H b = some (.tup (k.map kV))) (q : Q ((valV kvs k).getD z) H) : kDGet2 Q d (.ref b) z H := ⟨_, DGet.t h hb, q⟩
theorem r_dget2 {td ty tx : TE} (q : td σ H fun x H1 => ∃ a, x = .ref a ∧ IsD H1 a ∧ ty σ H1 fun y H2 => tx σ H2 fun z H3 => kDGet2 Q a y z H3) : tDGet2 td ty tx σ H Q := q
end
end Vf
/-! VDeep -/
namespace Vf
open PySem PySem.Spec PyProof.Rows L2
def manyIf (n : Nat) (f : Fm) : Fm := if n = 1 then f else .many n f
theorem sh_manyIf (u : Am) (n : Nat) (f : Fm) : sh u (manyIf n f) = (sh u f).bind fun k => if k % (n : Int) = 0 then some (k / (n : Int)) else none := by
  unfold manyIf
  by_cases e : n = 1
  · rw [if_pos e, e]
    cases sh u f with
    | none => rfl
    | some k =>
      show some k = if k % ((1 : Nat) : Int) = 0 then some (k / ((1 : Nat) : Int)) else none
      rw [show ((1 : Nat) : Int) = 1 from rfl, Int.emod_one, Int.ediv_one, if_pos rfl]
  · rw [if_neg e, sh]
theorem leaves_manyIf (n : Nat) (f : Fm) : leaves (manyIf n f) = leaves f := by
  unfold manyIf
  split
  · rfl
  · rw [leaves]
theorem ok_manyIf {n : Nat} {f : Fm} (h : 1 ≤ n) (h2 : n < 2 ^ 60) (ok : OkF f) : OkF (manyIf n f) := by
  unfold manyIf
  split
  · exact ok
  · unfold OkF
    exact ⟨h, h2, ok⟩
theorem dep_manyIf (n : Nat) (f : Fm) : dep (manyIf n f) ≤ dep f + 1 := by
  unfold manyIf
  split
  · omega
  · rw [dep]
    exact Nat.le_refl _
def deepF (a b c : Nat) (k0 k1 k2 k3 : Str) : Fm :=
  .many a (.node true [manyIf b (.node false [.kind k1, manyIf c (.node true [.kind k2, .kind k3])]), .kind k0])
theorem deep_leaves (a b c : Nat) (k0 k1 k2 k3 : Str) : leaves (deepF a b c k0 k1 k2 k3) = [k1, k2, k3, k0] := by
  unfold deepF
  simp [leaves, leavesL, leaves_manyIf]
theorem deep_ok {a b c : Nat} (k0 k1 k2 k3 : Str) (ha : 1 ≤ a ∧ a < 2 ^ 60) (hb : 1 ≤ b ∧ b < 2 ^ 60) (hc : 1 ≤ c ∧ c < 2 ^ 60) : OkF (deepF a b c k0 k1 k2 k3) := by
  have o1 : OkF (manyIf c (.node true [.kind k2, .kind k3])) := ok_manyIf hc.1 hc.2 (by simp [OkF, OkL])
  have o2 : OkF (manyIf b (.node false [.kind k1, manyIf c (.node true [.kind k2, .kind k3])])) := ok_manyIf hb.1 hb.2 (by simp [OkF, OkL, o1])
  unfold deepF
  simp only [OkF, OkL]
  exact ⟨ha.1, ha.2, List.cons_ne_nil _ _, o2, trivial, trivial⟩
theorem deep_dep (a b c : Nat) (k0 k1 k2 k3 : Str) : dep (deepF a b c k0 k1 k2 k3) ≤ 10 := by
  have d1 := dep_manyIf c (.node true [.kind k2, .kind k3])
  have d2 := dep_manyIf b (.node false [.kind k1, manyIf c (.node true [.kind k2, .kind k3])])
  unfold deepF
  simp [dep, depL] at d1 d2 ⊢
  omega
theorem deep_sh {a b c : Nat} {k0 k1 k2 k3 : Str} {u : Am} (ha : 1 ≤ a) (hb : 1 ≤ b) (hc : 1 ≤ c) :
    sh u (deepF a b c k0 k1 k2 k3) = if u k0 % (a : Int) = 0 ∧ u k2 = u k3 ∧ u k2 % (c : Int) = 0 ∧ u k1 + u k2 / (c : Int) = (a : Int) * (b : Int) * (u k0 / (a : Int)) then some (u k0 / (a : Int)) else none := by
  have s0 : sh u (.node true [.kind k2, .kind k3]) = if u k2 = u k3 then some (u k2) else none := by
    have e : sh u (.node true [.kind k2, .kind k3]) = andN [u k2, u k3] := by simp [sh, shL]
    rw [e]
    by_cases q : u k2 = u k3
    · rw [if_pos q]
      exact andN_yes fun x m => by rw [List.mem_singleton.mp m]; exact q.symm
    · rw [if_neg q]
      exact andN_no fun h => q (h (u k3) List.mem_cons_self).symm
  have s1 : sh u (manyIf c (.node true [.kind k2, .kind k3])) = if u k2 = u k3 ∧ u k2 % (c : Int) = 0 then some (u k2 / (c : Int)) else none := by
    rw [sh_manyIf, s0]
    by_cases q : u k2 = u k3
    · rw [if_pos q]
      show (if u k2 % (c : Int) = 0 then some (u k2 / (c : Int)) else none) = _
      by_cases r : u k2 % (c : Int) = 0
      · rw [if_pos r, if_pos ⟨q, r⟩]
      · rw [if_neg r, if_neg fun h => r h.2]
    · rw [if_neg q, if_neg fun h => q h.1]
      rfl
  have s2 : sh u (.node false [.kind k1, manyIf c (.node true [.kind k2, .kind k3])]) = if u k2 = u k3 ∧ u k2 % (c : Int) = 0 then some (u k1 + u k2 / (c : Int)) else none := by
    rw [sh, shL, shL, s1, sh]
    split
    · simp [shL]
    · rfl
  have s3 : sh u (manyIf b (.node false [.kind k1, manyIf c (.node true [.kind k2, .kind k3])])) = if (u k2 = u k3 ∧ u k2 % (c : Int) = 0) ∧ (u k1 + u k2 / (c : Int)) % (b : Int) = 0 then some ((u k1 + u k2 / (c : Int)) / (b : Int)) else none := by
    rw [sh_manyIf, s2]
    by_cases q : u k2 = u k3 ∧ u k2 % (c : Int) = 0
    · rw [if_pos q]
      show (if (u k1 + u k2 / (c : Int)) % (b : Int) = 0 then some ((u k1 + u k2 / (c : Int)) / (b : Int)) else none) = _
      by_cases r : (u k1 + u k2 / (c : Int)) % (b : Int) = 0
      · rw [if_pos r, if_pos ⟨q, r⟩]
      · rw [if_neg r, if_neg fun h => r h.2]
    · rw [if_neg q, if_neg fun h => q h.1]
      rfl
  have s4 : sh u (.node true [manyIf b (.node false [.kind k1, manyIf c (.node true [.kind k2, .kind k3])]), .kind k0]) = if (u k2 = u k3 ∧ u k2 % (c : Int) = 0) ∧ u k1 + u k2 / (c : Int) = (b : Int) * u k0 then some (u k0) else none := by
    rw [sh, shL, shL, s3, sh, shL]
    have hb0 : (b : Int) ≠ 0 := by omega
    by_cases q : (u k2 = u k3 ∧ u k2 % (c : Int) = 0)
    · by_cases r : u k1 + u k2 / (c : Int) = (b : Int) * u k0
      · have r1 : (u k1 + u k2 / (c : Int)) % (b : Int) = 0 := by rw [r]; exact Int.mul_emod_right _ _
        have r2 : (u k1 + u k2 / (c : Int)) / (b : Int) = u k0 := by rw [r]; exact Int.mul_ediv_cancel_left _ hb0
        rw [if_pos ⟨q, r1⟩, if_pos ⟨q, r⟩, r2]
        show andN [u k0, u k0] = _
        exact andN_yes fun x m => List.mem_singleton.mp m
      · refine Eq.trans ?_ (if_neg fun h => r h.2).symm
        by_cases r1 : (u k1 + u k2 / (c : Int)) % (b : Int) = 0
        · rw [if_pos ⟨q, r1⟩]
          show andN [(u k1 + u k2 / (c : Int)) / (b : Int), u k0] = none
          refine andN_no fun h => r ?_
          have := h (u k0) List.mem_cons_self
          rw [this]
          exact (Int.mul_ediv_cancel' (Int.dvd_of_emod_eq_zero r1)).symm
        · rw [if_neg fun h => r1 h.2]
          rfl
    · rw [if_neg fun h => q h.1, if_neg fun h => q h.1]
      rfl
  unfold deepF
  rw [sh, s4]
  by_cases q : (u k2 = u k3 ∧ u k2 % (c : Int) = 0)
  · by_cases z : u k0 % (a : Int) = 0
    · have zz : (a : Int) * (u k0 / (a : Int)) = u k0 := Int.mul_ediv_cancel' (Int.dvd_of_emod_eq_zero z)
      have z2 : (a : Int) * (b : Int) * (u k0 / (a : Int)) = (b : Int) * u k0 := by
        rw [Int.mul_comm (a : Int) (b : Int), Int.mul_assoc, zz]
      rw [z2]
      by_cases r : u k1 + u k2 / (c : Int) = (b : Int) * u k0
      · rw [if_pos ⟨q, r⟩, if_pos ⟨z, q.1, q.2, r⟩]
        show (if u k0 % (a : Int) = 0 then some (u k0 / (a : Int)) else none) = _
        rw [if_pos z]
      · rw [if_neg fun h => r h.2, if_neg fun h => r h.2.2.2]
        rfl
    · refine Eq.trans ?_ (if_neg fun h => z h.1).symm
      split
      · show (if u k0 % (a : Int) = 0 then some (u k0 / (a : Int)) else none) = _
        rw [if_neg z]
      · rfl
  · rw [if_neg fun h => q h.1, if_neg fun h => q ⟨h.2.1, h.2.2.1⟩]
    rfl
theorem perm_ints {ys : List V} {l : List Nat} (h : ys.Perm (l.map fun n : Nat => V.int (n : Int))) : ∃ os : List Nat, ys = os.map (fun n : Nat => V.int (n : Int)) ∧ os.Perm l := by
  let g : V → Nat := fun v => match v with
    | .int i => i.toNat
    | _ => 0
  have gf : ∀ n : Nat, g (V.int (n : Int)) = n := fun n => Int.toNat_natCast n
  refine ⟨ys.map g, ?_, ?_⟩
  · rw [List.map_map]
    have : ∀ y ∈ ys, ((fun n : Nat => V.int (n : Int)) ∘ g) y = y := fun y m => by
      obtain ⟨n, _, rfl⟩ := List.mem_map.mp (h.subset m)
      show V.int ((g (V.int (n : Int)) : Nat) : Int) = _
      rw [gf]
    exact ((List.map_congr_left (g := id) this).trans (List.map_id ys)).symm
  · have := h.map g
    rw [List.map_map] at this
    have e : l.map (g ∘ fun n : Nat => V.int (n : Int)) = l := by
      have : (g ∘ fun n : Nat => V.int (n : Int)) = id := funext gf
      rw [this, List.map_id]
    rw [e] at this
    exact this
def spDeep : Sp := fun vs H Q _ => ∃ (h c : Addr), vs = [.ref h] ∧ DS h c H ∧ ∀ H', DS h c H' → Sw [h, c] H H' → Q (.bl true) H'
end Vf
namespace Vf
open PySem PySem.Spec PyProof.Rows L2
theorem r_via {t : TE} {σ : L2.St} {H : Hp} {Q : VK} (P : V → Hp → Prop) (step : ∀ Q' : VK, (∀ v H', P v H' → Q' v H') → t σ H Q') (key : ∀ v H', P v H' → Q v H') : t σ H Q := step Q key
theorem IsFL.four {H : Hp} {f0 f1 f2 f3 : Fm} {bs : List V} (h : IsFL H [f0, f1, f2, f3] bs) : ∃ b0 b1 b2 b3, bs = [b0, b1, b2, b3] ∧ IsF H f0 b0 ∧ IsF H f1 b1 ∧ IsF H f2 b2 ∧ IsF H f3 b3 := by
  unfold IsFL at h
  obtain ⟨b0, r0, rfl, g0, h⟩ := h
  unfold IsFL at h
  obtain ⟨b1, r1, rfl, g1, h⟩ := h
  unfold IsFL at h
  obtain ⟨b2, r2, rfl, g2, h⟩ := h
  unfold IsFL at h
  obtain ⟨b3, r3, rfl, g3, h⟩ := h
  unfold IsFL at h
  subst h
  exact ⟨b0, b1, b2, b3, rfl, g0, g1, g2, g3⟩
theorem IsF.two {H : Hp} {w : Bool} {f g : Fm} {x y : V} {p q : Addr} (hp : H p = some (.tup [x, y])) (hq : H q = some (.tup [.str (word w), .ref p])) (hx : IsF H f x) (hy : IsF H g y) : IsF H (.node w [f, g]) (.ref q) := by
  unfold IsF
  refine ⟨q, p, [x, y], rfl, hq, hp, ?_⟩
  unfold IsFL
  refine ⟨x, [y], rfl, hx, ?_⟩
  unfold IsFL
  refine ⟨y, [], rfl, hy, ?_⟩
  unfold IsFL
  rfl
theorem IsF.mk {H : Hp} {n : Nat} {f : Fm} {x : V} {q : Addr} (hq : H q = some (.tup [.str "many", .int (n : Int), x])) (hx : IsF H f x) : IsF H (.many n f) (.ref q) := by
  unfold IsF
  exact ⟨q, x, rfl, hq, hx⟩
theorem four_of {α : Type} {l : List α} (h : l.length = 4) : ∃ a b c d, l = [a, b, c, d] := by
  match l, h with
  | [a, b, c, d], _ => exact ⟨a, b, c, d, rfl⟩
end Vf
/-! VFin -/
namespace Vf
open PySem PySem.Spec PyProof.Rows L2
theorem perm_strs {ys : List V} {l : List Str} (h : ys.Perm (l.map V.str)) : ∃ os : List Str, ys = os.map V.str ∧ os.Perm l := by
  let g : V → Str := fun v => match v with
    | .str i => i
    | _ => Str.empty
  have gf : ∀ n : Str, g (V.str n) = n := fun n => rfl
  refine ⟨ys.map g, ?_, ?_⟩
  · rw [List.map_map]
    have : ∀ y ∈ ys, (V.str ∘ g) y = y := fun y m => by
      obtain ⟨n, _, rfl⟩ := List.mem_map.mp (h.subset m)
      rfl
    exact ((List.map_congr_left (g := id) this).trans (List.map_id ys)).symm
  · have := h.map g
    rw [List.map_map] at this
    have e : l.map (g ∘ V.str) = l := List.map_id l
    rw [e] at this
    exact this
theorem SumN.pos {f : Fm} {m : Nat} {u : Am} (h : SumN m (Way f) u) (z : Str) : 0 ≤ u z :=
  SumN.of (C := fun u => 0 ≤ u z) (Int.le_refl 0) (fun a b x y => by have := way_pos z y; show 0 ≤ a z + b z; omega) h
theorem SumN.out {f : Fm} {m : Nat} {u : Am} (h : SumN m (Way f) u) {z : Str} (n : z ∉ leaves f) : u z = 0 :=
  SumN.of (C := fun u => u z = 0) rfl (fun a b x y => by show a z + b z = 0; rw [x, way_out y n]; rfl) h
theorem SumN.mul {f : Fm} {w : Am} (h : Way f w) : ∀ n : Nat, SumN n (Way f) (fun z => (n : Int) * w z)
  | 0 => funext fun z => by
    show ((0 : Nat) : Int) * w z = 0
    rw [Int.natCast_zero, Int.zero_mul]
  | n + 1 => ⟨_, w, SumN.mul h n, h, funext fun z => by
    show ((n + 1 : Nat) : Int) * w z = (n : Int) * w z + w z
    rw [Int.natCast_add, Int.add_mul, Int.natCast_one, Int.one_mul]⟩
/-- so many of a way beside -/
theorem sh_beside {f : Fm} (nd : (leaves f).Nodup) (ok : OkF f) {w : Am} (h : Way f w) {g : Int} (g0 : 0 ≤ g) (x : Am) : sh (fun z => x z + g * w z) f = (sh x f).map (· + g) := by
  obtain ⟨n, rfl⟩ := Int.eq_ofNat_of_zero_le g0
  exact sh_sum nd ok x (SumN.mul h n)
theorem known_get {ns : List Str} {f : Fm} {kv : List (List Key × V)} {most m : Nat} {u0 t : Am} {z1 : Str} (K : KnM ns (Sums f most) kv) (ok : OkF f) (nd : (leaves f).Nodup) (pm : ns.Perm (leaves f))
    (h0 : SumN m (Way f) u0) (lt : m < most) (ht : ∀ z ∈ ns, 0 ≤ t z ∧ t z ≤ u0 z + if z = z1 then 1 else 0) : (valV kv (kk ns t)).getD .non = vO (sh t f) := by
  cases e : sh t f with
  | none =>
    cases e2 : valV kv (kk ns t) with
    | none => rfl
    | some v =>
      exfalso
      have mem : kk ns t ∈ kv.map Prod.fst := by
        false_or_by_contra
        rename_i h
        rw [valV_out h] at e2
        cases e2
      obtain ⟨p, hp, ep⟩ := List.mem_map.mp mem
      obtain ⟨j, u, hu, ek, _⟩ := K.snd p hp
      have : sh t f = sh u f := sh_congr fun z mz => kk_inj (ep.symm.trans ek) z (pm.symm.subset mz)
      rw [e, sh_sum0 nd ok hu.2] at this
      cases this
  | some k =>
    have st := sh_step nd ok (fun z mz => (ht z (pm.symm.subset mz)).2) (sh_sum0 nd ok h0) e
    have e1 : sh (only ns t) f = some k := by
      rw [← e]
      exact sh_congr fun z mz => only_in (pm.symm.subset mz)
    have p1 : ∀ z, 0 ≤ only ns t z := fun z => by
      by_cases q : z ∈ ns
      · rw [only_in q]
        exact (ht z q).1
      · rw [only_out q]
        exact Int.le_refl 0
    obtain ⟨j, rfl, sj⟩ := sum_sh nd ok p1 (fun z hz => only_out fun mz => hz (pm.subset mz)) e1
    have jm : j ≤ most := by
      have : (if z1 ∈ leaves f then (1 : Int) else 0) ≤ 1 := by split <;> omega
      omega
    have := K.cpl j _ ⟨jm, sj⟩
    have ek : kk ns (only ns t) = kk ns t := kk_congr fun z hz => only_in hz
    rw [ek] at this
    rw [this]
    rfl
def gKB : List Value → List Value → List Value
  | [], [a, f] => [f, a]
  | _, _ => []
def gKBV : List V → List V → List V
  | [], [a, f] => [f, a]
  | _, _ => []
theorem gKB_rel {vs : List V} {us : List Value} {zs : List V} {ws : List Value} (a : Vals vs us) (b : Vals zs ws) : Vals (gKBV vs zs) (gKB us ws) := by
  cases a with
  | cons _ _ => exact .nil
  | nil =>
    cases b with
    | nil => exact .nil
    | cons x xs =>
      cases xs with
      | nil => exact .nil
      | cons y ys =>
        cases ys with
        | nil => exact .cons y (.cons x .nil)
        | cons _ _ => exact .nil
theorem gKB_two {us ws : List Value} (h : (gKB us ws).length = 2) : ∃ a f, us = [] ∧ ws = [a, f] := by
  match us, ws, h with
  | [], [a, f], _ => exact ⟨a, f, rfl, rfl⟩
  | [], [], h => cases h
  | [], [_], h => cases h
  | [], _ :: _ :: _ :: _, h => cases h
  | _ :: _, _, h => cases h
end Vf
namespace Vf
open PySem PySem.Spec PyProof.Rows L2
theorem r_sortKeys {K : PySem.W.Frag} {H : Hp} {Q : VK} {lk : Addr} {kvs : List (List Key × V)} {bs : List Addr} {ns : List Str} (ik : IsKeys H kvs bs) (e : H lk = some (.lst (bs.map V.ref))) (hk : ∀ k ∈ kvs.map Prod.fst, ∃ u, k = kk ns u) (n0 : 0 < ns.length)
    (q : ∀ (p : Addr) (ys : List V) (H' : Hp), H p = none → Sw [] H H' → H' p = some (.lst ys) → ys.length = kvs.length → (∀ y ∈ ys, ∃ pr ∈ kvs, ∃ t, y = V.ref t ∧ H' t = some (.tup (pr.1.map kV))) → (∀ pr ∈ kvs, ∃ y ∈ ys, ∃ t, y = V.ref t ∧ H' t = some (.tup (pr.1.map kV))) → Q (.ref p) H') : rSortTT K [.ref lk] H Q := by
  have at1 : ∀ x ∈ bs.map V.ref, ∃ pr ∈ kvs, ∃ t, x = V.ref t ∧ H t = some (.tup (pr.1.map kV)) := fun x m => by
    obtain ⟨i, hi⟩ := List.mem_iff_getElem?.mp m
    obtain ⟨pr, t, hp, ex, ht⟩ := isKeys_at' ik hi
    exact ⟨pr, List.mem_of_getElem? hp, t, ex, ht⟩
  refine ⟨lk, _, rfl, SqL.of e, fun x m => ?_, fun ys p pm np => ?_⟩
  · obtain ⟨pr, hp, t, ex, ht⟩ := at1 x m
    obtain ⟨u, eu⟩ := hk pr.1 (List.mem_map.mpr ⟨pr, hp, rfl⟩)
    refine ⟨t, ns.map u, ex, ?_, fun z => ?_⟩
    · rw [ht, eu, kk_map]
      unfold tv
      rw [List.map_map]
      rfl
    · have : (ns.map u).length = 0 := by rw [z]; rfl
      rw [List.length_map] at this
      omega
  · have s : Sw [] H (upd H p (.lst ys)) := Sw.new np
    refine q p ys _ np s upd_same (by rw [pm.length_eq, List.length_map, isKeys_len ik]) (fun y m => ?_) (fun pr hp => ?_)
    · obtain ⟨pr, hp, t, ex, ht⟩ := at1 y (pm.subset m)
      exact ⟨pr, hp, t, ex, s.tup _ _ ht⟩
    · obtain ⟨i, hi⟩ := List.mem_iff_getElem?.mp hp
      obtain ⟨b, hb, ht⟩ := isKeys_at ik i pr hi
      exact ⟨.ref b, pm.symm.subset (List.mem_map.mpr ⟨b, List.mem_of_getElem? hb, rfl⟩), b, rfl, s.tup _ _ ht⟩
end Vf
namespace Vf
open PySem PySem.Spec PyProof.Rows L2
theorem r_callK0 {σ : L2.St} {H : Hp} {Q : VK} {sp : Sp} {gV : List V → List V → List V} {E : XK} {tk : TA} (q : tk σ H fun zs H1 => sp (gV [] zs) H1 Q E) : tCallK0 sp gV E tk σ H Q := q
end Vf
/-! K14Text -/
namespace K14
open PySem PySem.Spec PyProof.Rows L2
def topS (i : Nat) : Stmt := PySem.Challenge.pw_asmany_k14_whole_shares_of_sums_of_ways.main.body.getD i (.Pass ⟨0, 0, 0, 0⟩)
abbrev s_q_is_number : Stmt := topS 1
abbrev N_q_is_number : List Str := ["value"]
theorem sc_q_is_number : FnScope ["value"] ["value"] (defScope s_q_is_number) := ⟨rfl, rfl, rfl, by decide +kernel, rfl, by decide +kernel, by decide +kernel⟩
abbrev s_q_are_numbers : Stmt := topS 2
abbrev N_q_are_numbers : List Str := ["value", "count", "item"]
theorem sc_q_are_numbers : FnScope ["value", "count", "item"] ["value", "count"] (defScope s_q_are_numbers) := ⟨rfl, rfl, rfl, by decide +kernel, rfl, by decide +kernel, by decide +kernel⟩
abbrev s_q_kinds_of : Stmt := topS 4
abbrev N_q_kinds_of : List Str := ["formula"]
theorem sc_q_kinds_of : FnScope ["formula"] ["formula"] (defScope s_q_kinds_of) := ⟨rfl, rfl, rfl, by decide +kernel, rfl, by decide +kernel, by decide +kernel⟩
abbrev s_q_sizes_of : Stmt := topS 5
abbrev N_q_sizes_of : List Str := ["formula", "sizes", "kind"]
theorem sc_q_sizes_of : FnScope ["formula", "sizes", "kind"] ["formula"] (defScope s_q_sizes_of) := ⟨rfl, rfl, rfl, by decide +kernel, rfl, by decide +kernel, by decide +kernel⟩
abbrev s_u_add_sizes : Stmt := topS 6
abbrev N_u_add_sizes : List Str := ["formula", "times", "sizes", "part"]
theorem sc_u_add_sizes : FnScope ["formula", "times", "sizes", "part"] ["formula", "times", "sizes"] (defScope s_u_add_sizes) := ⟨rfl, rfl, rfl, by decide +kernel, rfl, by decide +kernel, by decide +kernel⟩
abbrev s_q_share : Stmt := topS 8
abbrev N_q_share : List Str := ["formula", "amounts"]
theorem sc_q_share : FnScope ["formula", "amounts"] ["formula", "amounts"] (defScope s_q_share) := ⟨rfl, rfl, rfl, by decide +kernel, rfl, by decide +kernel, by decide +kernel⟩
abbrev s_q_is_way : Stmt := topS 9
abbrev N_q_is_way : List Str := ["formula", "value"]
theorem sc_q_is_way : FnScope ["formula", "value"] ["formula", "value"] (defScope s_q_is_way) := ⟨rfl, rfl, rfl, by decide +kernel, rfl, by decide +kernel, by decide +kernel⟩
abbrev s_u_share : Stmt := topS 10
abbrev N_u_share : List Str := ["formula", "table", "number", "numbers", "part"]
theorem sc_u_share : FnScope ["formula", "table", "number", "numbers", "part"] ["formula", "table"] (defScope s_u_share) := ⟨rfl, rfl, rfl, by decide +kernel, rfl, by decide +kernel, by decide +kernel⟩
abbrev s_l_heap : Stmt := topS 12
abbrev N_l_heap : List Str := ["script", "cell", "cells", "stir"]
theorem sc_l_heap : FnScope ["script", "cell", "cells", "stir"] ["script"] (defScope s_l_heap) := ⟨rfl, rfl, rfl, by decide +kernel, rfl, by decide +kernel, by decide +kernel⟩
abbrev s_l_draw : Stmt := topS 13
abbrev N_l_draw : List Str := ["heap", "many", "rest"]
theorem sc_l_draw : FnScope ["heap", "many", "rest"] ["heap", "many"] (defScope s_l_draw) := ⟨rfl, rfl, rfl, by decide +kernel, rfl, by decide +kernel, by decide +kernel⟩
abbrev s_l_pick : Stmt := topS 14
abbrev N_l_pick : List Str := ["heap", "some"]
theorem sc_l_pick : FnScope ["heap", "some"] ["heap", "some"] (defScope s_l_pick) := ⟨rfl, rfl, rfl, by decide +kernel, rfl, by decide +kernel, by decide +kernel⟩
abbrev s_l_names : Stmt := topS 15
abbrev N_l_names : List Str := ["heap", "many", "letters", "found", "front", "turn", "place", "word"]
theorem sc_l_names : FnScope ["heap", "many", "letters", "found", "front", "turn", "place", "word"] ["heap", "many"] (defScope s_l_names) := ⟨rfl, rfl, rfl, by decide +kernel, rfl, by decide +kernel, by decide +kernel⟩
abbrev s_l_mixed : Stmt := topS 16
abbrev N_l_mixed : List Str := ["heap", "some", "rest", "found", "turn"]
theorem sc_l_mixed : FnScope ["heap", "some", "rest", "found", "turn"] ["heap", "some"] (defScope s_l_mixed) := ⟨rfl, rfl, rfl, by decide +kernel, rfl, by decide +kernel, by decide +kernel⟩
abbrev s_l_formula : Stmt := topS 17
abbrev N_l_formula : List Str := ["heap", "names", "room", "number", "word", "parts", "rest", "turn", "cut"]
theorem sc_l_formula : FnScope ["heap", "names", "room", "number", "word", "parts", "rest", "turn", "cut"] ["heap", "names", "room"] (defScope s_l_formula) := ⟨rfl, rfl, rfl, by decide +kernel, rfl, by decide +kernel, by decide +kernel⟩
abbrev s_l_sums : Stmt := topS 18
abbrev N_l_sums : List Str := ["some", "more", "found", "one", "other", "k"]
theorem sc_l_sums : FnScope ["some", "more", "found", "one", "other", "k"] ["some", "more"] (defScope s_l_sums) := ⟨rfl, rfl, rfl, by decide +kernel, rfl, by decide +kernel, by decide +kernel⟩
abbrev s_l_laid : Stmt := topS 19
abbrev N_l_laid : List Str := ["formula", "names", "part", "found", "turn", "name"]
theorem sc_l_laid : FnScope ["formula", "names", "part", "found", "turn", "name"] ["formula", "names"] (defScope s_l_laid) := ⟨rfl, rfl, rfl, by decide +kernel, rfl, by decide +kernel, by decide +kernel⟩
abbrev s_l_known : Stmt := topS 20
abbrev N_l_known : List Str := ["ways", "zero", "known", "last", "most", "many", "item"]
theorem sc_l_known : FnScope ["ways", "zero", "known", "last", "most", "many", "item"] ["ways", "zero"] (defScope s_l_known) := ⟨rfl, rfl, rfl, by decide +kernel, rfl, by decide +kernel, by decide +kernel⟩
abbrev s_l_shared : Stmt := topS 21
abbrev N_l_shared : List Str := ["formula", "amounts", "due", "told"]
theorem sc_l_shared : FnScope ["formula", "amounts", "due", "told"] ["formula", "amounts", "due"] (defScope s_l_shared) := ⟨rfl, rfl, rfl, by decide +kernel, rfl, by decide +kernel, by decide +kernel⟩
abbrev s_l_turned : Stmt := topS 22
abbrev N_l_turned : List Str := ["heap", "amounts", "turned", "up", "down", "kind"]
theorem sc_l_turned : FnScope ["heap", "amounts", "turned", "up", "down", "kind"] ["heap", "amounts"] (defScope s_l_turned) := ⟨rfl, rfl, rfl, by decide +kernel, rfl, by decide +kernel, by decide +kernel⟩
abbrev s_l_beside : Stmt := topS 23
abbrev N_l_beside : List Str := ["one", "other", "many", "k"]
theorem sc_l_beside : FnScope ["one", "other", "many", "k"] ["one", "other", "many"] (defScope s_l_beside) := ⟨rfl, rfl, rfl, by decide +kernel, rfl, by decide +kernel, by decide +kernel⟩
abbrev s_l_deep_right : Stmt := topS 24
abbrev N_l_deep_right : List Str := ["heap", "first", "second", "third", "names", "order", "at", "kinds", "inner", "formula", "many", "units", "row", "turn", "due", "good", "amounts"]
theorem sc_l_deep_right : FnScope ["heap", "first", "second", "third", "names", "order", "at", "kinds", "inner", "formula", "many", "units", "row", "turn", "due", "good", "amounts"] ["heap"] (defScope s_l_deep_right) := ⟨rfl, rfl, rfl, by decide +kernel, rfl, by decide +kernel, by decide +kernel⟩
abbrev s_law : Stmt := topS 25
abbrev N_law : List Str := ["script", "heap", "names", "formula", "zero", "ways", "known", "most", "rows", "low", "turn", "near", "due", "way", "great", "other", "item"]
theorem sc_law : FnScope ["script", "heap", "names", "formula", "zero", "ways", "known", "most", "rows", "low", "turn", "near", "due", "way", "great", "other", "item"] ["script"] (defScope s_law) := ⟨rfl, rfl, rfl, by decide +kernel, rfl, by decide +kernel, by decide +kernel⟩
open Vf
structure Tx (K : PySem.W.Frag) (mg : Str → Option Value) where
  f_q_is_number : Addr
  d_q_is_number : FuncData
  F_q_is_number : Fun K "is_number" "is_number" s_q_is_number f_q_is_number d_q_is_number
  g_q_is_number : mg "is_number" = some (.ref f_q_is_number)
  b_q_is_number : Binds K d_q_is_number ["value"] []
  f_q_are_numbers : Addr
  d_q_are_numbers : FuncData
  F_q_are_numbers : Fun K "are_numbers" "are_numbers" s_q_are_numbers f_q_are_numbers d_q_are_numbers
  g_q_are_numbers : mg "are_numbers" = some (.ref f_q_are_numbers)
  b_q_are_numbers : Binds K d_q_are_numbers ["value", "count"] []
  f_q_kinds_of : Addr
  d_q_kinds_of : FuncData
  F_q_kinds_of : Fun K "kinds_of" "kinds_of" s_q_kinds_of f_q_kinds_of d_q_kinds_of
  g_q_kinds_of : mg "kinds_of" = some (.ref f_q_kinds_of)
  b_q_kinds_of : Binds K d_q_kinds_of ["formula"] []
  f_q_sizes_of : Addr
  d_q_sizes_of : FuncData
  F_q_sizes_of : Fun K "sizes_of" "sizes_of" s_q_sizes_of f_q_sizes_of d_q_sizes_of
  g_q_sizes_of : mg "sizes_of" = some (.ref f_q_sizes_of)
  b_q_sizes_of : Binds K d_q_sizes_of ["formula"] []
  f_u_add_sizes : Addr
  d_u_add_sizes : FuncData
  F_u_add_sizes : Fun K "_add_sizes" "_add_sizes" s_u_add_sizes f_u_add_sizes d_u_add_sizes
  g_u_add_sizes : mg "_add_sizes" = some (.ref f_u_add_sizes)
  b_u_add_sizes : Binds K d_u_add_sizes ["formula", "times", "sizes"] []
  f_q_share : Addr
  d_q_share : FuncData
  F_q_share : Fun K "share" "share" s_q_share f_q_share d_q_share
  g_q_share : mg "share" = some (.ref f_q_share)
  b_q_share : Binds K d_q_share ["formula", "amounts"] []
  f_q_is_way : Addr
  d_q_is_way : FuncData
  F_q_is_way : Fun K "is_way" "is_way" s_q_is_way f_q_is_way d_q_is_way
  g_q_is_way : mg "is_way" = some (.ref f_q_is_way)
  b_q_is_way : Binds K d_q_is_way ["formula", "value"] []
  f_u_share : Addr
  d_u_share : FuncData
  F_u_share : Fun K "_share" "_share" s_u_share f_u_share d_u_share
  g_u_share : mg "_share" = some (.ref f_u_share)
  b_u_share : Binds K d_u_share ["formula", "table"] []
  f_l_heap : Addr
  d_l_heap : FuncData
  F_l_heap : Fun K "_law_heap" "_law_heap" s_l_heap f_l_heap d_l_heap
  g_l_heap : mg "_law_heap" = some (.ref f_l_heap)
  b_l_heap : Binds K d_l_heap ["script"] []
  f_l_draw : Addr
  d_l_draw : FuncData
  F_l_draw : Fun K "_law_draw" "_law_draw" s_l_draw f_l_draw d_l_draw
  g_l_draw : mg "_law_draw" = some (.ref f_l_draw)
  b_l_draw : Binds K d_l_draw ["heap", "many"] []
  f_l_pick : Addr
  d_l_pick : FuncData
  F_l_pick : Fun K "_law_pick" "_law_pick" s_l_pick f_l_pick d_l_pick
  g_l_pick : mg "_law_pick" = some (.ref f_l_pick)
  b_l_pick : Binds K d_l_pick ["heap", "some"] []
  f_l_names : Addr
  d_l_names : FuncData
  F_l_names : Fun K "_law_names" "_law_names" s_l_names f_l_names d_l_names
  g_l_names : mg "_law_names" = some (.ref f_l_names)
  b_l_names : Binds K d_l_names ["heap", "many"] []
  f_l_mixed : Addr
  d_l_mixed : FuncData
  F_l_mixed : Fun K "_law_mixed" "_law_mixed" s_l_mixed f_l_mixed d_l_mixed
  g_l_mixed : mg "_law_mixed" = some (.ref f_l_mixed)
  b_l_mixed : Binds K d_l_mixed ["heap", "some"] []
  f_l_formula : Addr
  d_l_formula : FuncData
  F_l_formula : Fun K "_law_formula" "_law_formula" s_l_formula f_l_formula d_l_formula
  g_l_formula : mg "_law_formula" = some (.ref f_l_formula)
  b_l_formula : Binds K d_l_formula ["heap", "names", "room"] []
  f_l_sums : Addr
  d_l_sums : FuncData
  F_l_sums : Fun K "_law_sums" "_law_sums" s_l_sums f_l_sums d_l_sums
  g_l_sums : mg "_law_sums" = some (.ref f_l_sums)
  b_l_sums : Binds K d_l_sums ["some", "more"] []
  f_l_laid : Addr
  d_l_laid : FuncData
  F_l_laid : Fun K "_law_laid" "_law_laid" s_l_laid f_l_laid d_l_laid
  g_l_laid : mg "_law_laid" = some (.ref f_l_laid)
  b_l_laid : Binds K d_l_laid ["formula", "names"] []
  f_l_known : Addr
  d_l_known : FuncData
  F_l_known : Fun K "_law_known" "_law_known" s_l_known f_l_known d_l_known
  g_l_known : mg "_law_known" = some (.ref f_l_known)
  b_l_known : Binds K d_l_known ["ways", "zero"] []
  f_l_shared : Addr
  d_l_shared : FuncData
  F_l_shared : Fun K "_law_shared" "_law_shared" s_l_shared f_l_shared d_l_shared
  g_l_shared : mg "_law_shared" = some (.ref f_l_shared)
  b_l_shared : Binds K d_l_shared ["formula", "amounts", "due"] []
  f_l_turned : Addr
  d_l_turned : FuncData
  F_l_turned : Fun K "_law_turned" "_law_turned" s_l_turned f_l_turned d_l_turned
  g_l_turned : mg "_law_turned" = some (.ref f_l_turned)
  b_l_turned : Binds K d_l_turned ["heap", "amounts"] []
  f_l_beside : Addr
  d_l_beside : FuncData
  F_l_beside : Fun K "_law_beside" "_law_beside" s_l_beside f_l_beside d_l_beside
  g_l_beside : mg "_law_beside" = some (.ref f_l_beside)
  b_l_beside : Binds K d_l_beside ["one", "other", "many"] []
  f_l_deep_right : Addr
  d_l_deep_right : FuncData
  F_l_deep_right : Fun K "_law_deep_right" "_law_deep_right" s_l_deep_right f_l_deep_right d_l_deep_right
  g_l_deep_right : mg "_law_deep_right" = some (.ref f_l_deep_right)
  b_l_deep_right : Binds K d_l_deep_right ["heap"] []
  f_law : Addr
  d_law : FuncData
  F_law : Fun K "law" "law" s_law f_law d_law
  g_law : mg "law" = some (.ref f_law)
  b_law : Binds K d_law ["script"] []
  n_abs : mg "abs" = none
  n_all : mg "all" = none
  n_any : mg "any" = none
  n_bool : mg "bool" = none
  n_dict : mg "dict" = none
  n_int : mg "int" = none
  n_isinstance : mg "isinstance" = none
  n_len : mg "len" = none
  n_list : mg "list" = none
  n_max : mg "max" = none
  n_min : mg "min" = none
  n_range : mg "range" = none
  n_sorted : mg "sorted" = none
  n_sum : mg "sum" = none
  n_tuple : mg "tuple" = none
  n_zip : mg "zip" = none
end K14
/-! D1 -/
local macro_rules | `(tactic| walk_at "ne") => `(tactic| first | assumption | exact Ne.symm (by assumption))
local macro_rules | `(tactic| walk_at "nm") => `(tactic| first | exact Vf.not0 | exact Vf.not1 (by walk_at "ne") | exact Vf.not2 (by walk_at "ne") (by walk_at "ne") | exact Vf.not3 (by walk_at "ne") (by walk_at "ne") (by walk_at "ne"))
local macro_rules | `(tactic| walk_at "up") => `(tactic| first | assumption | (refine Vf.Sw.tup (by assumption) _ _ ?_; walk_at "up") | (refine Vf.Sw.keep (by assumption) _ _ (by walk_at "nm") ?_; walk_at "up"))
/-- one reading's steps that nothing is asked for -/
local macro_rules | `(tactic| walk_at "rd1") => `(tactic| with_reducible first
  | refine Vf.r_v0 ?_ | refine Vf.r_vs ?_ | refine Vf.r_c ?_ | refine Vf.r_op ?_ | refine Vf.r_un ?_ | refine Vf.r_I0 ?_ | refine Vf.r_cons ?_ | refine Vf.r_nil ?_ | refine Vf.r_CB ?_ | refine Vf.r_call ?_
  | refine Vf.r_BM ?_ | refine Vf.r_BM0 ?_ | refine Vf.r_tup ?_ | refine Vf.r_lst ?_ | refine Vf.r_test ?_ | refine Vf.r_tB ?_ | refine Vf.r_bl ?_ | refine Vf.r_and ?_ | refine Vf.r_or ?_ | refine Vf.r_not ?_ | refine Vf.r_notV ?_
  | refine Vf.r_andV ?_ | refine Vf.r_orV ?_ | refine Vf.r_ifE ?_ | refine Vf.r_seq ?_ | refine Vf.r_set ?_ | refine Vf.r_drop ?_ | refine Vf.r_ret ?_ | refine Vf.r_ifS ?_ | refine Vf.r_next ?_ | refine Vf.r_par ?_ | refine Vf.r_two ?_ | refine Vf.r_par3 ?_ | refine Vf.r_three ?_ | refine Vf.r_dget ?_ | refine Vf.r_dput ?_ | refine Vf.r_dcL ?_ | refine Vf.r_din ?_ | refine Vf.r_dget2 ?_ | refine Vf.r_callK0 ?_
  | refine Vf.r_sl ?_ | refine Vf.r_noPart ?_ | refine Vf.r_part ?_ | refine Vf.r_exI ?_ | refine Vf.r_m1 ?_ | refine Vf.r_exS ?_ | refine Vf.r_intI ?_ | refine Vf.r_intB ?_ | refine Vf.r_abs ?_ | refine Vf.r_max2 ?_ | refine Vf.r_min2 ?_ | refine Vf.r_isN ?_ | refine Vf.r_notN ?_ | refine Vf.r_revL ?_ | refine Vf.r_lcL ?_ | refine Vf.r_lcT ?_ | refine Vf.r_lcR ?_ | refine Vf.r_forL ?_ | refine Vf.r_forT ?_ | refine Vf.r_forR ?_ | refine Vf.r_forR2 ?_ | refine Vf.r_yes ?_ | refine Vf.r_gCons ?_ | refine Vf.r_gNil ?_
  | refine Vf.r_gName ?_ | refine Vf.r_asg ?_ | refine Vf.r_sub ?_ | refine Vf.r_eqI ?_ | refine Vf.r_neI ?_ | refine Vf.r_eqS ?_ | refine Vf.r_neg ?_)
local macro_rules | `(tactic| walk_at "rd") => `(tactic| repeat (first | walk_at "rd1" | dsimp only [List.set_cons_zero, List.set_cons_succ, List.append_nil, List.cons_append, List.nil_append]))
local macro_rules | `(tactic| walk_at "re1") => `(tactic| with_reducible first
  | refine Vf.r_v0 ?_ | refine Vf.r_vs ?_ | refine Vf.r_c ?_ | refine Vf.r_op ?_ | refine Vf.r_un ?_ | refine Vf.r_I0 ?_ | refine Vf.r_cons ?_ | refine Vf.r_nil ?_ | refine Vf.r_CB ?_ | refine Vf.r_call ?_
  | refine Vf.r_BM ?_ | refine Vf.r_BM0 ?_ | refine Vf.r_tup ?_ | refine Vf.r_lst ?_ | refine Vf.r_test ?_ | refine Vf.r_tB ?_ | refine Vf.r_bl ?_ | refine Vf.r_and ?_ | refine Vf.r_or ?_ | refine Vf.r_not ?_ | refine Vf.r_notV ?_
  | refine Vf.r_orV ?_ | refine Vf.r_seq ?_ | refine Vf.r_set ?_ | refine Vf.r_drop ?_ | refine Vf.r_ret ?_ | refine Vf.r_ifS ?_ | refine Vf.r_next ?_ | refine Vf.r_par ?_ | refine Vf.r_two ?_ | refine Vf.r_par3 ?_ | refine Vf.r_three ?_ | refine Vf.r_dget ?_ | refine Vf.r_dput ?_ | refine Vf.r_dcL ?_ | refine Vf.r_din ?_ | refine Vf.r_dget2 ?_ | refine Vf.r_callK0 ?_
  | refine Vf.r_sl ?_ | refine Vf.r_noPart ?_ | refine Vf.r_part ?_ | refine Vf.r_exI ?_ | refine Vf.r_m1 ?_ | refine Vf.r_exS ?_ | refine Vf.r_intI ?_ | refine Vf.r_intB ?_ | refine Vf.r_abs ?_ | refine Vf.r_max2 ?_ | refine Vf.r_min2 ?_ | refine Vf.r_isN ?_ | refine Vf.r_notN ?_ | refine Vf.r_revL ?_ | refine Vf.r_lcL ?_ | refine Vf.r_lcT ?_ | refine Vf.r_lcR ?_ | refine Vf.r_forL ?_ | refine Vf.r_forT ?_ | refine Vf.r_forR ?_ | refine Vf.r_forR2 ?_ | refine Vf.r_yes ?_ | refine Vf.r_gCons ?_ | refine Vf.r_gNil ?_
  | refine Vf.r_gName ?_ | refine Vf.r_asg ?_ | refine Vf.r_sub ?_ | refine Vf.r_eqI ?_ | refine Vf.r_neI ?_ | refine Vf.r_eqS ?_ | refine Vf.r_neg ?_)
local macro_rules | `(tactic| walk_at "re") => `(tactic| repeat (first | walk_at "re1" | dsimp only [List.set_cons_zero, List.set_cons_succ, List.append_nil, List.cons_append, List.nil_append]))

namespace K14
open PySem PySem.Spec PyProof.Rows L2 Vf
section
variable {P : Program} {w : World} {K : PySem.W.Frag} {mg : Str → Option Value} {base : Heap}
theorem ok_l_draw (T : Tx K mg) : FnOk P w K mg base CX0 1 T.f_l_draw T.d_l_draw ["heap", "many"] spDraw := by
  refine T.F_l_draw.ok sc_l_draw (fun vs H Q E h => ?_) (fun cdv A outer s H vs Q E hr h => ?_)
  · obtain ⟨h, c, n, rfl, _⟩ := h
    rfl
  obtain ⟨h, c, n, rfl, ds, n0, n1, q⟩ := h
  refine ⟨_, (Evl.pss_cut (ps_while PassesOwn.never (PW.pt (pw_and (pt_cmpR (op_neD hr.units) (pe_ix ix_list (pv 0) pe_int (fun _ _ => rfl)) (pe_lst pa_nil) (nomark _)) (pw_and1 (pt_cmpR op_eq (pe_ix ix_list (pe_ix ix_list (pv 0) pe_int (fun _ _ => rfl)) (pe_un un_neg pe_int) (fun _ _ => rfl)) pe_int (nomark _)))))
    (pss_one (ps_expr (pe_bm0 PySem.F.plainAttrs_list PySem.F.slot_list_pop PySem.F.type_list_pop mt_pop (pe_ix ix_list (pv 0) pe_int (fun _ _ => rfl))))))
    (pss_cons (ps_if (pt_cmpR (op_neD hr.units) (pe_ix ix_list (pv 0) pe_int (fun _ _ => rfl)) (pe_lst pa_nil) (nomark _))
    (pss_cons (ps_set (i := 2) sc_l_draw.nd rfl (.inl rfl) (pe_bm0 PySem.F.plainAttrs_list PySem.F.slot_list_pop PySem.F.type_list_pop mt_pop (pe_ix ix_list (pv 0) pe_int (fun _ _ => rfl))))
    (pss_cons (ps_expr (pe_bm PySem.F.plainAttrs_list PySem.F.slot_list_append PySem.F.type_list_append mt_append (pe_ix ix_list (pv 0) pe_int (fun _ _ => rfl)) (pa_cons (pe_op op_fdivW (pv 2) (pv 1)) pa_nil)))
    (pss_one (ps_ret (pe_op op_modN (pe_callTy cn_int (by rfl) T.n_int (by decide +kernel) (pa_cons (pv 2) pa_nil)) (pv 1))))))
    pss_nil)
    (pss_cons (ps_asg (pe_op op_modN (pe_callTy cn_int (by rfl) T.n_int (by decide +kernel) (pa_cons (pe_op op_add (pe_op op_mul (pe_ix ix_list (pv 0) pe_int (fun _ _ => rfl)) pe_int) pe_int) pa_nil)) pe_int) (pg_sub (pv 0) pe_int set_list))
    (pss_one (ps_ret (pe_op op_modN (pe_callTy cn_int (by rfl) T.n_int (by decide +kernel) (pa_cons (pe_op op_fdivW (pe_ix ix_list (pv 0) pe_int (fun _ _ => rfl)) pe_int) pa_nil)) (pv 1))))))), ?_⟩
  obtain ⟨cs0, st0, d0⟩ := ds
  have hcn : h ≠ c := d0.ne
  have wc : ∀ x ∈ [c], x ∈ [h, c] := fun x hx => List.mem_cons_of_mem _ hx
  have wh : ∀ x ∈ [h], x ∈ [h, c] := fun x hx => by rw [List.mem_singleton.mp hx]; exact List.mem_cons_self
  refine r_cut (M := fun σ H' => σ = [some (.ref h), some (.int n), none] ∧ ∃ cs st, DSn h c cs st H' ∧ Sw [h, c] H H') ?_ ?_
  · refine ⟨fun m σ H' => ∃ cs st, σ = [some (.ref h), some (.int n), none] ∧ DSn h c cs st H' ∧ cs.length = m ∧ Sw [h, c] H H', ⟨_, cs0, st0, rfl, d0, rfl, Sw.refl _ _⟩, fun m σ H1 hW => ?_⟩
    obtain ⟨cs, st, rfl, d, rfl, s1⟩ := hW
    walk_at "rd"
    refine r_ixL' d.hh rfl ?_
    walk_at "rd"
    refine r_kLst (by decide) fun p H2 np s2 f1 => ?_
    have d2 := d.sw0 s2
    refine r_neNil d2.hc f1 ?_
    walk_at "rd"
    cases cs with
    | nil =>
      refine iteF (iteF ?_)
      exact ⟨rfl, [], st, d2, s1.trans s2.any⟩
    | cons a b =>
      obtain ⟨ms, z, hz, hl⟩ := map_last (ns := a :: b) (List.cons_ne_nil a b)
      refine iteT ?_
      walk_at "rd"
      refine r_ixL' d2.hh rfl ?_
      walk_at "rd"
      refine r_ixL' d2.hc (v := .int z) (by rw [hz, List.map_append]; exact atI_last _ _) ?_
      walk_at "rd"
      refine ite2 (fun ez => ?_) (fun ez => ?_)
      · refine ⟨fun σ' H' => ∃ cs st, σ' = [some (.ref h), some (.int n), none] ∧ DSn h c cs st H' ∧ cs.length = ms.length ∧ Sw [h, c] H H', fun σ' H' hN => ?_, ?_⟩
        · obtain ⟨cs, st, e, d', e', s'⟩ := hN
          exact ⟨ms.length, by omega, cs, st, e, d', e', s'⟩
        walk_at "rd"
        refine r_ixL' d2.hh rfl ?_
        walk_at "rd"
        refine r_ty d2.hc ?_
        refine r_pop (xs := ms.map V.int) (y := .int z) (by rw [d2.hc, hz, List.map_append]; rfl) fun H3 s3 f3 => ?_
        refine ⟨ms, st, rfl, ⟨hcn, s3.keep _ _ (not1 hcn) d2.hh, f3, ?_, d.lo, d.hi⟩, rfl, (s1.trans s2.any).trans (s3.wide wc)⟩
        have := d.len
        omega
      · exact ⟨rfl, a :: b, st, d2, s1.trans s2.any⟩
  · rintro σ H1 ⟨rfl, cs, st, d, s1⟩
    walk_at "rd"
    refine r_ixL' d.hh rfl ?_
    walk_at "rd"
    refine r_kLst (by decide) fun p H2 np s2 f1 => ?_
    have d2 := d.sw0 s2
    have s12 : Sw [h, c] H H2 := s1.trans s2.any
    have lo := d.lo
    have hi := d.hi
    have len := d.len
    refine r_neNil d2.hc f1 ?_
    walk_at "rd"
    cases cs with
    | nil =>
      refine iteF ?_
      walk_at "rd"
      refine r_ixL' d2.hh rfl ?_
      walk_at "rd"
      refine r_I (.inl ⟨by omega, by omega⟩) ?_
      walk_at "rd"
      refine r_I (by decide) ?_
      walk_at "rd"
      refine r_setL (k := 1) d2.hh (by show 1 < 2; decide) fun H3 s3 f3 => ?_
      have bd := fmod_bd (st * 48271 + 11) (n := 2147483647) (by decide)
      have d3 : DSn h c [] (Int.fmod (st * 48271 + 11) 2147483647) H3 := ⟨hcn, f3, s3.keep _ _ (not1 (Ne.symm hcn)) d2.hc, by decide, bd.1, bd.2⟩
      have s13 : Sw [h, c] H H3 := s12.trans (s3.wide wh)
      walk_at "rd"
      refine r_ixL' d3.hh rfl ?_
      walk_at "rd"
      refine r_I (by exact ⟨by decide, by decide⟩) ?_
      walk_at "rd"
      refine r_I (by omega) ?_
      have bd2 := fmod_bd (Int.fmod (st * 48271 + 11) 2147483647 / 64) n0
      exact q _ H3 bd2.1 bd2.2 ⟨_, _, d3⟩ s13
    | cons a b =>
      obtain ⟨ms, z, hz, hl⟩ := map_last (ns := a :: b) (List.cons_ne_nil a b)
      refine iteT ?_
      walk_at "rd"
      refine r_ixL' d2.hh rfl ?_
      walk_at "rd"
      refine r_ty d2.hc ?_
      refine r_pop (xs := ms.map V.int) (y := .int z) (by rw [d2.hc, hz, List.map_append]; rfl) fun H3 s3 f3 => ?_
      have g3 := s3.keep _ _ (not1 hcn) d2.hh
      walk_at "rd"
      refine r_ixL' g3 rfl ?_
      walk_at "rd"
      refine r_ty f3 ?_
      walk_at "rd"
      refine r_I ⟨n0, small_log n1 n0⟩ ?_
      walk_at "rd"
      refine r_append f3 (by rw [List.length_map, sizeLine_eq]; omega) fun H4 s4 f4 => ?_
      walk_at "rd"
      refine r_I (by omega) ?_
      have bd := fmod_bd z n0
      refine q _ H4 bd.1 bd.2 ⟨ms ++ [z / n], st, hcn, s4.keep _ _ (not1 hcn) g3, by rw [f4, List.map_append]; rfl, ?_, lo, hi⟩ ((s12.trans (s3.wide wc)).trans (s4.wide wc))
      rw [List.length_append, List.length_singleton]
      omega
end
end K14
/-! D2 -/


namespace K14
open PySem PySem.Spec PyProof.Rows L2 Vf
section
variable {P : Program} {w : World} {K : PySem.W.Frag} {mg : Str → Option Value} {base : Heap}
theorem ok_l_pick (T : Tx K mg) : FnOk P w K mg base CX0 2 T.f_l_pick T.d_l_pick ["heap", "some"] spPick := by
  have G_l_draw := ok_l_draw (P := P) (w := w) (base := base) T
  refine T.F_l_pick.ok sc_l_pick (fun vs H Q E h => ?_) (fun cdv A outer s H vs Q E hr h => ?_)
  · obtain ⟨h, c, l, xs, rfl, _⟩ := h
    rfl
  obtain ⟨h, c, l, xs, rfl, ds, hl, n1, n2, z0, z1, q⟩ := h
  have hr_l_draw := hr
  refine ⟨_, (pss_one (ps_ret (pe_ix ix_list (pv 1) (pe_call G_l_draw hr_l_draw (by rfl) T.g_l_draw T.F_l_draw.kp T.b_l_draw .nil pass0 (pa_cons (pv 0) (pa_cons (pe_callB cn_len (by rfl) T.n_len (by decide +kernel) (pa_cons (pv 1) pa_nil)) pa_nil))) (fun _ _ => rfl)))), ?_⟩
  refine start_is (σ' := [some (.ref h), some (.ref l)]) rfl ?_
  walk_at "rd"
  refine r_lenL hl ?_
  walk_at "rd"
  refine ⟨h, c, _, rfl, ds, by omega, by omega, fun r H1 r0 r1 d1 s1 => ?_⟩
  obtain ⟨i, rfl⟩ := Int.eq_ofNat_of_zero_le r0
  have hi : i < xs.length := by omega
  refine r_ixL (s1.keep _ _ (not2 n1 n2) hl) (List.getElem?_eq_getElem hi) ?_
  exact q i _ H1 (List.getElem?_eq_getElem hi) d1 s1
theorem ok_l_heap (T : Tx K mg) : FnOk P w K mg base CX0 1 T.f_l_heap T.d_l_heap ["script"] (spHeap K) := by
  refine T.F_l_heap.ok sc_l_heap (fun vs H Q E h => ?_) (fun cdv A outer s H vs Q E hr h => ?_)
  · obtain ⟨a, ns, rfl, _⟩ := h
    rfl
  obtain ⟨a, ns, rfl, hS, hz, q⟩ := h
  refine ⟨_, (pss_cons (ps_par (by rfl) sc_l_heap.nd (i := 2) (j := 3) rfl rfl (by decide) rfl rfl (pa_cons (pe_lc (own := [("cell", 1)]) (g := gName 1) (by rfl) sc_l_heap.nd (pi_list (pe_slice sl_list (pv 0) po_none (po_some pe_int))) (blkOk_by (N := N_l_heap) (sc := defScope s_l_heap) (by decide +kernel)) (fun _ _ _ _ _ => (pg_name (i := 1) sc_l_heap.nd rfl (.inl rfl))) (fun _ _ _ _ _ => pts_nil) (fun _ _ _ _ _ => (pe_callB cn_abs (by rfl) T.n_abs (by decide +kernel) (pa_cons (pv 1) pa_nil)))) (pa_cons pe_int pa_nil)) (by rfl))
    (pss_cons (ps_for PassesOwn.never rfl (pi_list (pv 2)) (pg_name (i := 1) sc_l_heap.nd rfl (.inl rfl))
    (pss_one (ps_set (i := 3) sc_l_heap.nd rfl (.inl rfl) (pe_op op_modN (pe_callTy cn_int (by rfl) T.n_int (by decide +kernel) (pa_cons (pe_op op_add (pe_op op_add (pe_op op_mul (pv 3) pe_int) (pe_op op_modN (pe_callTy cn_int (by rfl) T.n_int (by decide +kernel) (pa_cons (pv 1) pa_nil)) pe_int)) pe_int) pa_nil)) pe_int))))
    (pss_one (ps_ret (pe_lst (pa_cons (pe_revL (pe_lc (own := [("cell", 1)]) (g := gName 1) (by rfl) sc_l_heap.nd (pi_list (pv 2)) (blkOk_by (N := N_l_heap) (sc := defScope s_l_heap) (by decide +kernel)) (fun _ _ _ _ _ => (pg_name (i := 1) sc_l_heap.nd rfl (.inl rfl))) (fun _ _ _ _ _ => (pts_one (pt_cmpR op_ge (pv 1) (pe_op op_pow pe_int pe_int) (nomark _)))) (fun _ _ _ _ _ => (pv 1)))) (pa_cons (pv 3) pa_nil))))))), ?_⟩
  refine start_is (σ' := [some (.ref a), none, none, none]) rfl ?_
  walk_at "rd"
  obtain ⟨ms, em, lm⟩ := cut60 (ns := ns)
  refine r_slL hS fun l H1 nl s1 e1 => ?_
  rw [em] at e1
  walk_at "rd"
  refine r_kILc (SqL.of e1) (fun Dl i acc H2 => Sw [] H1 H2 ∧ ∃ ks : List Int, acc = ks.map V.int ∧ ks.length = i) (fun x => [some (.ref a), some x, none, none]) (fun x => rfl) (fun x => rfl) ?_ ?_ ?_ ?_
  · intro Dl H2 nD s2
    exact ⟨s2, [], rfl, rfl⟩
  · intro Dl i acc H2 nD eD p
    exact SqL.of (p.1.keep _ _ not0 e1)
  · intro Dl i x acc H2 nD hx eD p
    obtain ⟨s2, ks, rfl, hk⟩ := p
    rw [List.getElem?_map] at hx
    obtain ⟨m, hm, rfl⟩ := Option.map_eq_some_iff.mp hx
    have lt : i < ms.length := (List.getElem?_eq_some_iff.mp hm).1
    walk_at "rd"
    refine kPut_of _ eD (by rw [List.length_map, sizeLine_eq]; omega) fun H3 s3 e3 => ?_
    refine ⟨s2.over1 s3 nD, ks ++ [if m < 0 then -m else m], by rw [List.map_append]; rfl, by rw [List.length_append, hk]; rfl⟩
  · intro Dl acc H2 nD eD p
    obtain ⟨s2, ks, rfl, hk⟩ := p
    walk_at "rd"
    have e2 : H2 l = some (.lst (ms.map V.int)) := s2.keep _ _ not0 e1
    refine r_kFL (SqL.of eD) (fun i σ' H' => H' = H2 ∧ ∃ y st, σ' = [some (.ref a), y, some (.ref Dl), some (.int st)] ∧ 0 ≤ st ∧ st < 2147483647) ⟨rfl, _, _, rfl, by decide, by decide⟩ ?_ ?_ ?_
    · rintro i σ' H' _ ⟨rfl, _⟩
      exact SqL.of eD
    · rintro i x σ' H' hx ⟨rfl, y, st, rfl, lo, hi⟩
      rw [List.getElem?_map] at hx
      obtain ⟨m, hm, rfl⟩ := Option.map_eq_some_iff.mp hx
      walk_at "rd"
      refine r_I (.inl ⟨by omega, by omega⟩) ?_
      walk_at "rd"
      refine r_I (by decide) ?_
      walk_at "rd"
      refine r_I (by decide) ?_
      walk_at "rd"
      have bd := fmod_bd (st * 69621 + m.fmod 2147483543 + 31) (n := 2147483647) (by decide)
      exact ⟨rfl, _, _, rfl, bd.1, bd.2⟩
    · rintro σ' H' ⟨rfl, y, st, rfl, lo, hi⟩
      walk_at "rd"
      refine r_kILc (SqL.of eD) (fun D3 i acc H3 => Sw [] H' H3 ∧ ∃ cs : List Int, acc = cs.map V.int ∧ cs.length ≤ i) (fun x => [some (.ref a), some x, some (.ref Dl), some (.int st)]) (fun x => rfl) (fun x => rfl) ?_ ?_ ?_ ?_
      · intro D3 H3 nD3 s3
        exact ⟨s3, [], rfl, Nat.le_refl _⟩
      · intro D3 i acc H3 nD3 eD3 p
        exact SqL.of (p.1.keep _ _ not0 eD)
      · intro D3 i x acc H3 nD3 hx eD3 p
        obtain ⟨s3, cs, rfl, hc⟩ := p
        rw [List.getElem?_map] at hx
        obtain ⟨m, hm, rfl⟩ := Option.map_eq_some_iff.mp hx
        have lt : i < ks.length := (List.getElem?_eq_some_iff.mp hm).1
        rw [List.length_map] at hk
        walk_at "rd"
        refine r_I (show CPow 10 18 from ⟨by decide, by decide, by decide⟩) ?_
        walk_at "rd"
        refine r_turn (fun _ => ?_) (fun _ => ⟨_, eD3, s3, cs, rfl, by omega⟩)
        walk_at "rd"
        refine kPut_of _ eD3 (by rw [List.length_map, sizeLine_eq]; omega) fun H4 s4 e4 => ?_
        exact ⟨s3.over1 s4 nD3, cs ++ [m], by rw [List.map_append]; rfl, by rw [List.length_append, List.length_singleton]; omega⟩
      · intro D3 acc H3 nD3 eD3 p
        obtain ⟨s3, cs, rfl, hc⟩ := p
        refine r_kRev eD3 fun c H4 nc s4 e4 => ?_
        walk_at "rd"
        refine r_kLst (by show 2 ≤ sizeLine; decide) fun h H5 nh s5 e5 => ?_
        rw [← List.map_reverse] at e4
        rw [List.length_map] at hc hk
        have big : Sw [] H H5 := s1.trans (s2.trans (s3.trans (s4.trans s5)))
        have e4' := s5.keep _ _ not0 e4
        refine q h c H5 ?_ ?_ big ⟨cs.reverse, st, ⟨Ne.symm (ne_of_none e4 nh), e5, e4', ?_, lo, hi⟩⟩
        · exact (s1.trans (s2.trans (s3.trans s4))).neu _ nh
        · exact (s1.trans (s2.trans s3)).neu _ nc
        · rw [List.length_reverse]
          omega
end
end K14
/-! D3 -/


namespace K14
open PySem PySem.Spec PyProof.Rows L2 Vf
section
variable {P : Program} {w : World} {K : PySem.W.Frag} {mg : Str → Option Value} {base : Heap}
theorem ok_l_names (T : Tx K mg) : FnOk P w K mg base CX0 3 T.f_l_names T.d_l_names ["heap", "many"] spNames := by
  have G_l_draw := ok_l_draw (P := P) (w := w) (base := base) T
  have G_l_pick := ok_l_pick (P := P) (w := w) (base := base) T
  refine T.F_l_names.ok sc_l_names (fun vs H Q E h => ?_) (fun cdv A outer s H vs Q E hr h => ?_)
  · obtain ⟨h, c, n, rfl, _⟩ := h
    rfl
  obtain ⟨h, c, n, rfl, ds, n1, n60, q⟩ := h
  have hr_l_draw := hr.mono (show 1 ≤ 2 by decide)
  have hr_l_pick := hr
  refine ⟨_, (pss_cons (ps_asg (pe_tup (pa_cons pe_str (pa_cons (pe_lst pa_nil) pa_nil))) (pg_tup rfl (pgs_cons (pg_name (i := 2) sc_l_names.nd rfl (.inr rfl)) (pgs_cons (pg_name (i := 3) sc_l_names.nd rfl (.inl rfl)) pgs_nil))))
    (pss_cons (ps_set (i := 4) sc_l_names.nd rfl (.inl rfl) (pe_call G_l_pick hr_l_pick (by rfl) T.g_l_pick T.F_l_pick.kp T.b_l_pick .nil pass0 (pa_cons (pv 0) (pa_cons (pe_lst (pa_cons pe_str (pa_cons pe_str (pa_cons (pe_ix ix_str (pv 2) (pe_call G_l_draw hr_l_draw (by rfl) T.g_l_draw T.F_l_draw.kp T.b_l_draw .nil pass0 (pa_cons (pv 0) (pa_cons pe_int pa_nil))) (fun _ _ => rfl)) (pa_cons (pe_op op_repS (pe_ix ix_str (pv 2) (pe_call G_l_draw hr_l_draw (by rfl) T.g_l_draw T.F_l_draw.kp T.b_l_draw .nil pass0 (pa_cons (pv 0) (pa_cons pe_int pa_nil))) (fun _ _ => rfl)) pe_int) pa_nil))))) pa_nil))))
    (pss_cons (ps_for PassesOwn.never rfl (pi_range1 (by rfl) T.n_range (pa_cons (pv 1) pa_nil)) (pg_name (i := 5) sc_l_names.nd rfl (.inl rfl))
    (pss_cons (ps_set (i := 7) sc_l_names.nd rfl (.inl rfl) (pe_op on_addS (pv 4) (pe_join pe_str (pe_lc (own := [("place", 6)]) (g := gName 6) (by rfl) sc_l_names.nd (pi_range1 (by rfl) T.n_range (pa_cons (pe_op op_add pe_int (pe_call G_l_draw hr_l_draw (by rfl) T.g_l_draw T.F_l_draw.kp T.b_l_draw .nil pass0 (pa_cons (pv 0) (pa_cons pe_int pa_nil)))) pa_nil)) (blkOk_by (N := N_l_names) (sc := defScope s_l_names) (by decide +kernel)) (fun _ _ _ _ _ => (pg_name (i := 6) sc_l_names.nd rfl (.inl rfl))) (fun _ _ _ _ _ => pts_nil) (fun _ _ _ _ _ => (pe_ix ix_str (pv 2) (pe_call G_l_draw hr_l_draw (by rfl) T.g_l_draw T.F_l_draw.kp T.b_l_draw .nil pass0 (pa_cons (pv 0) (pa_cons pe_int pa_nil))) (fun _ _ => rfl)))))))
    (pss_cons (ps_for PassesOwn.never rfl (pi_range1 (by rfl) T.n_range (pa_cons (pe_op op_add (pv 1) pe_int) pa_nil)) (pg_name (i := 6) sc_l_names.nd rfl (.inl rfl))
    (pss_one (ps_set (i := 7) sc_l_names.nd rfl (.inl rfl) (pe_ifExp (pt_cmpR op_in_seq (pv 7) (pv 3) (by rfl)) (pe_op on_addS (pe_op on_addS (pe_slice sl_str (pv 7) po_none (po_some pe_int)) (pe_ix ix_str (pv 2) (pe_op op_fdivW (pv 6) pe_int) (fun _ _ => rfl))) (pe_ix ix_str (pv 2) (pe_op op_modN (pe_callTy cn_int (by rfl) T.n_int (by decide +kernel) (pa_cons (pv 6) pa_nil)) pe_int) (fun _ _ => rfl))) (pv 7)))))
    (pss_one (ps_expr (pe_bm PySem.F.plainAttrs_list PySem.F.slot_list_append PySem.F.type_list_append mt_append (pv 3) (pa_cons (pv 7) pa_nil)))))))
    (pss_one (ps_ret (pe_callB cr_sortedS (by rfl) T.n_sorted (by decide +kernel) (pa_cons (pv 3) pa_nil))))))), ?_⟩
  refine start_is (σ' := [some (.ref h), some (.int n), none, none, none, none, none, none]) rfl ?_
  have zabc : abc.length ≤ sizeLine := by rw [codes_len, abc_codes, List.length_map, List.length_range, sizeLine_eq]; decide
  walk_at "rd"
  refine r_kLst (by decide) fun pf H1 np s1 e1 => ?_
  walk_at "rd"
  refine r_kTup (by show 2 ≤ sizeLine; decide) fun t H2 nt s2 e2 => ?_
  refine r_gTup e2 rfl ?_
  walk_at "rd"
  have d2 := (ds.sw0 s1).sw0 s2
  have eh := ds.newH np
  have ec := ds.newC np
  have f2 : H2 pf = some (.lst []) := s2.keep _ _ not0 e1
  have S2 : Sw [h, c] H H2 := (s1.trans s2).any
  refine use_draw d2 (by decide) (by decide) fun r3 H3 l3 d3 s3 => ?_
  refine r_ixS zabc (atI_abc (by omega) l3) ?_
  walk_at "rd"
  refine use_draw d3 (by decide) (by decide) fun r4 H4 l4 d4 s4 => ?_
  refine r_ixS zabc (atI_abc (by omega) l4) ?_
  walk_at "rd"
  refine ⟨_, 2, rfl, rfl, by decide, by decide, by show (1 : Nat) ≤ 1000; decide, ?_⟩
  walk_at "rd"
  refine r_kLst (by show 4 ≤ sizeLine; decide) fun pl H5 nl s5 e5 => ?_
  walk_at "rd"
  have d5 := d4.sw0 s5
  refine use_pick d5 e5 (d4.newH nl) (d4.newC nl) (by show 0 < 4; decide) (by show 4 < 2 ^ 60; decide) fun ip fv H6 hf d6 s6 => ?_
  have FR : ∃ fr : Str, fv = .str fr ∧ (codes fr).length ≤ 2 ∧ Small (codes fr) := by
    match ip, hf with
    | 0, hf => exact ⟨_, (Option.some.inj hf).symm, by decide, fun x m => absurd m List.not_mem_nil⟩
    | 1, hf => exact ⟨_, (Option.some.inj hf).symm, by decide, fun x m => absurd m List.not_mem_nil⟩
    | 2, hf => exact ⟨_, (Option.some.inj hf).symm, by show 1 ≤ 2; decide, Small.one (by omega)⟩
    | 3, hf => exact ⟨_, (Option.some.inj hf).symm, by show 2 ≤ 2; decide, (Small.one (c := (↑r4 : Int).toNat + 97) (by omega)).app (Small.one (c := (↑r4 : Int).toNat + 97) (by omega))⟩
  obtain ⟨fr, rfl, fl, fs⟩ := FR
  walk_at "rd"
  have f6 : H6 pf = some (.lst []) := s6.keep _ _ (not2 eh ec) (s5.keep _ _ not0 (s4.keep _ _ (not2 eh ec) (s3.keep _ _ (not2 eh ec) f2)))
  have S6 : Sw [h, c] H H6 := ((S2.trans s3).trans s4).trans (s5.any.trans s6)
  refine r_kFR ⟨by omega, by omega⟩ (fun i σ' H' => ∃ (fd : List Str) (a5 a6 a7 : Option V), σ' = [some (.ref h), some (.int n), some (.str abc), some (.ref pf), some (.str fr), a5, a6, a7] ∧ fd.length = i ∧ fd.Nodup ∧ (∀ z ∈ fd, IsName z) ∧ H' pf = some (.lst (fd.map V.str)) ∧ DS h c H' ∧ Sw [h, c] H H')
    ⟨[], _, _, _, rfl, rfl, List.nodup_nil, fun z m => absurd m List.not_mem_nil, f6, d6, S6⟩ ?_ ?_
  · rintro i σ' H7 hi ⟨fd, a5, a6, a7, rfl, fdl, nd, nm, e7, d7, S7⟩
    walk_at "rd"
    refine use_draw d7 (by decide) (by decide) fun r8 H8 l8 d8 s8 => ?_
    walk_at "rd"
    have S8 : Sw [h, c] H H8 := S7.trans s8
    have e8 : H8 pf = some (.lst (fd.map V.str)) := s8.keep _ _ (not2 eh ec) e7
    refine r_kIRc ⟨by omega, by omega⟩ (fun Dl i acc H' => ∃ ys : List Str, acc = ys.map V.str ∧ ys.length = i ∧ (∀ y ∈ ys, ∃ c, codes y = [c] ∧ 97 ≤ c ∧ c ≤ 122) ∧ DS h c H' ∧ Sw [h, c] H8 H') (fun x => [some (.ref h), some (.int n), some (.str abc), some (.ref pf), some (.str fr), some (.int ↑i), some x, a7]) (fun x => rfl) (fun x => rfl) ?_ ?_ ?_
    · intro Dl H9 nD s9
      exact ⟨[], rfl, rfl, fun y m => absurd m List.not_mem_nil, d8.sw0 s9, s9.any⟩
    · rintro Dl k acc H9 nD hk eD ⟨ys, rfl, yl, yc, d9, s9⟩
      refine r_yes ?_
      walk_at "rd"
      have dh := d8.newH nD
      have dc := d8.newC nD
      refine use_draw d9 (by decide) (by decide) fun r10 H10 l10 d10 s10 => ?_
      refine r_ixS zabc (atI_abc (by omega) l10) ?_
      refine kPut_of _ (s10.keep _ _ (not2 dh dc) eD) (by rw [List.length_map, sizeLine_eq]; omega) fun H11 s11 e11 => ?_
      refine ⟨ys ++ [⟨#[(↑r10 : Int).toNat + 97]⟩], by rw [List.map_append]; rfl, by rw [List.length_append, yl]; rfl, fun y m => ?_, d10.sw s11 (not1 (Ne.symm dh)) (not1 (Ne.symm dc)), (s9.trans s10).over1 s11 nD⟩
      rcases List.mem_append.mp m with m | m
      · exact yc y m
      · rw [List.mem_singleton.mp m]
        exact ⟨_, codes_one _, by omega, by omega⟩
    · rintro Dl acc H9 nD eD ⟨ys, rfl, yl, yc, d9, s9⟩
      obtain ⟨fl1, fl2, fl3⟩ := flat_ones yc
      have ee : Str.length (Str.ofString "") = 0 := rfl
      refine ⟨_, Dl, ys, rfl, rfl, .inl (SqL.of eD), by rw [ee, fl3]; omega, ?_⟩
      have cw : codes (fr ++ Txt.join (Str.ofString "") ys) = codes fr ++ (ys.map codes).flatten := by
        rw [codes_app]
        exact congrArg _ (codes_join ys)
      have jl : (Txt.join (Str.ofString "") ys).length = (ys.map codes).flatten.length := by
        rw [codes_len]
        exact congrArg _ (codes_join ys)
      refine r_addS (by rw [jl, codes_len, sizeLine_eq]; omega) ?_
      walk_at "rd"
      have e9 : H9 pf = some (.lst (fd.map V.str)) := s9.keep _ _ (not2 eh ec) e8
      have wn : 1 ≤ (codes (fr ++ Txt.join (Str.ofString "") ys)).length ∧ (codes (fr ++ Txt.join (Str.ofString "") ys)).length ≤ 5 ∧ Small (codes (fr ++ Txt.join (Str.ofString "") ys)) := by
        rw [cw, List.length_append]
        exact ⟨by omega, by omega, fs.app fl2⟩
      generalize fr ++ Txt.join (Str.ofString "") ys = w0 at wn cw ⊢
      refine r_kFR ⟨by omega, by omega⟩ (fun j σ' H' => ∃ (z : Str) (a6 : Option V), σ' = [some (.ref h), some (.int n), some (.str abc), some (.ref pf), some (.str fr), some (.int ↑i), a6, some (.str z)] ∧ H' = H9 ∧ ∃ k, k ≤ j ∧ codes z = tried (codes w0) k ∧ (∀ q, q < k → tried (codes w0) q ∈ fd.map codes) ∧ (k = j ∨ z ∉ fd))
        ⟨w0, _, rfl, rfl, 0, Nat.le_refl _, rfl, fun q h => absurd h (Nat.not_lt_zero q), .inl rfl⟩ ?_ ?_
      · rintro j σ' H10 hj ⟨z, a6', rfl, rfl, k, kj, zc, kb, ko⟩
        walk_at "rd"
        refine r_inL e9 rfl (flat_strs fd) ?_
        walk_at "rd"
        have inE : (if false = true then !inV (V.str z) (fd.map V.str) else inV (V.str z) (fd.map V.str)) = decide (z ∈ fd) := inV_strs z fd
        rw [inE]
        have zw := tried_name wn (k := k) (by omega)
        rw [← zc] at zw
        by_cases zm : z ∈ fd
        · obtain rfl : k = j := ko.resolve_right fun f => f zm
          rw [decide_eq_true zm]
          refine iteT ?_
          walk_at "rd"
          refine r_slS (by rw [codes_len, sizeLine_eq]; omega) ?_
          walk_at "rd"
          refine r_I (by exact ⟨by decide, by decide⟩) ?_
          refine r_ixS zabc (atI_abc (by omega) (by omega)) ?_
          have c1 : codes (cutS z none (some 3)) = (codes z).take 3 := codes_cut z 3
          have k1 : (codes (cutS z none (some 3))).length ≤ 3 := by rw [c1, List.length_take]; omega
          refine r_addS (by rw [codes_len, sizeLine_eq]; show (codes (cutS z none (some 3))).length + 1 ≤ 16777216; omega) ?_
          walk_at "rd"
          refine r_I (by decide) ?_
          have fm : Int.fmod (k : Int) 26 = (k : Int) % 26 := fmod_emod _ (by decide)
          rw [fm]
          refine r_ixS zabc (atI_abc (by omega) (by omega)) ?_
          refine r_addS (by rw [codes_len, codes_app, List.length_append, sizeLine_eq]; show (codes (cutS z none (some 3))).length + 1 + 1 ≤ 16777216; omega) ?_
          walk_at "rd"
          refine ⟨_, _, rfl, rfl, k + 1, Nat.le_refl _, ?_, fun q hq => ?_, .inl rfl⟩
          · rw [codes_app, codes_app, c1, codes_one, codes_one, List.append_assoc, zc]
            have a1 : ((k : Int) / 26).toNat = k / 26 := by omega
            have a2 : ((k : Int) % 26).toNat = k % 26 := by omega
            rw [a1, a2]
            rfl
          · rcases Nat.lt_or_eq_of_le (Nat.le_of_lt_succ hq) with hq | rfl
            · exact kb q hq
            · rw [← zc]
              exact List.mem_map.mpr ⟨z, zm, rfl⟩
        · rw [decide_eq_false zm]
          refine iteF ?_
          walk_at "rd"
          exact ⟨z, _, rfl, rfl, k, by omega, zc, kb, .inr zm⟩
      · rintro σ' H10 ⟨z, a6', rfl, rfl, k, kj, zc, kb, ko⟩
        have zn : IsName z := by
          unfold IsName
          rw [zc]
          exact tried_name wn (by omega)
        have zf : z ∉ fd := by
          rcases ko with rfl | ko
          · intro zm
            refine tried_new wn.1 (found := fd.map codes) (n := (n + 1).toNat) (by rw [List.length_map]; omega) fun q hq => ?_
            rcases Nat.lt_or_eq_of_le hq with hq | rfl
            · exact kb q hq
            · rw [← zc]
              exact List.mem_map.mpr ⟨z, zm, rfl⟩
          · exact ko
        walk_at "rd"
        refine r_ty e9 ?_
        walk_at "rd"
        refine r_append e9 (by rw [List.length_map, sizeLine_eq]; omega) fun H11 s11 e11 => ?_
        walk_at "rd"
        refine ⟨fd ++ [z], _, _, _, rfl, by rw [List.length_append, fdl]; rfl, ?_, fun x m => ?_, by rw [e11, List.map_append]; rfl, d9.sw s11 (not1 (Ne.symm eh)) (not1 (Ne.symm ec)), (S8.trans s9).over1 s11 np⟩
        · rw [List.nodup_append]
          exact ⟨nd, by simp, fun a ha b hb e => zf (by rw [← List.mem_singleton.mp hb, ← e]; exact ha)⟩
        · rcases List.mem_append.mp m with m | m
          · exact nm x m
          · rw [List.mem_singleton.mp m]
            exact zn
  · rintro σ' H7 ⟨fd, a5, a6, a7, rfl, fdl, nd, nm, e7, d7, S7⟩
    walk_at "rd"
    refine ⟨pf, fd, rfl, SqL.of e7, by omega, fun ys p pm so np => ?_⟩
    refine q p ys _ (S7.neu _ np) (S7.trans (Sw.new np)) (d7.sw0 (Sw.new np)) upd_same (by rw [pm.length_eq, fdl]; omega) ⟨pm.symm.nodup nd, fun z m => nm z (pm.subset m), so⟩ (d7.newH np) (d7.newC np)
end
end K14
/-! D4 -/


namespace K14
open PySem PySem.Spec PyProof.Rows L2 Vf
section
variable {P : Program} {w : World} {K : PySem.W.Frag} {mg : Str → Option Value} {base : Heap}
theorem ok_l_mixed (T : Tx K mg) : FnOk P w K mg base CX0 2 T.f_l_mixed T.d_l_mixed ["heap", "some"] spMixed := by
  have G_l_draw := ok_l_draw (P := P) (w := w) (base := base) T
  refine T.F_l_mixed.ok sc_l_mixed (fun vs H Q E h => ?_) (fun cdv A outer s H vs Q E hr h => ?_)
  · obtain ⟨h, c, l, xs, rfl, _⟩ := h
    rfl
  obtain ⟨h, c, l, xs, rfl, ds, hl, n1, n2, z, q⟩ := h
  have hr_l_draw := hr
  refine ⟨_, (pss_cons (ps_par (by rfl) sc_l_mixed.nd (i := 2) (j := 3) rfl rfl (by decide) rfl rfl (pa_cons (pe_callTy cn_list (by rfl) T.n_list (by decide +kernel) (pa_cons (pv 1) pa_nil)) (pa_cons (pe_lst pa_nil) pa_nil)) (by rfl))
    (pss_cons (ps_for PassesOwn.never rfl (pi_range1 (by rfl) T.n_range (pa_cons (pe_callB cn_len (by rfl) T.n_len (by decide +kernel) (pa_cons (pv 1) pa_nil)) pa_nil)) (pg_name (i := 4) sc_l_mixed.nd rfl (.inl rfl))
    (pss_one (ps_expr (pe_bm PySem.F.plainAttrs_list PySem.F.slot_list_append PySem.F.type_list_append mt_append (pv 3) (pa_cons (pe_bm PySem.F.plainAttrs_list PySem.F.slot_list_pop PySem.F.type_list_pop mt_popAt (pv 2) (pa_cons (pe_call G_l_draw hr_l_draw (by rfl) T.g_l_draw T.F_l_draw.kp T.b_l_draw .nil pass0 (pa_cons (pv 0) (pa_cons (pe_callB cn_len (by rfl) T.n_len (by decide +kernel) (pa_cons (pv 2) pa_nil)) pa_nil))) pa_nil)) pa_nil)))))
    (pss_one (ps_ret (pv 3))))), ?_⟩
  refine start_is (σ' := [some (.ref h), some (.ref l), none, none, none]) rfl ?_
  walk_at "rd"
  refine r_listL hl fun r H1 nr s1 e1 => ?_
  walk_at "rd"
  refine r_kLst (by decide) fun f H2 nf s2 e2 => ?_
  walk_at "rd"
  have hl2 : H2 l = some (.lst xs) := s2.keep _ _ not0 (s1.keep _ _ not0 hl)
  refine r_lenL hl2 ?_
  walk_at "rd"
  have d2 := (ds.sw0 s1).sw0 s2
  have rh := ds.newH nr
  have rc := ds.newC nr
  have nf0 : H f = none := s1.neu _ nf
  have fh := ds.newH nf0
  have fc := ds.newC nf0
  have fr : f ≠ r := Ne.symm (ne_of_none e1 nf)
  have e1' : H2 r = some (.lst xs) := s2.keep _ _ not0 e1
  refine r_kFR ⟨by omega, by omega⟩ (fun i σ' H' => ∃ (ac re : List V) (a4 : Option V), σ' = [some (.ref h), some (.ref l), some (.ref r), some (.ref f), a4] ∧ H' f = some (.lst ac) ∧ H' r = some (.lst re) ∧ (ac ++ re).Perm xs ∧ ac.length = i ∧ DS h c H' ∧ Sw [h, c] H H')
    ⟨[], xs, _, rfl, e2, e1', List.Perm.refl _, rfl, d2, (s1.trans s2).any⟩ ?_ ?_
  · rintro i σ' H3 hi ⟨ac, re, a4, rfl, e3, g3, pm, al, d3, s3⟩
    have len : ac.length + re.length = xs.length := by rw [← List.length_append]; exact pm.length_eq
    walk_at "rd"
    refine r_ty e3 ?_
    walk_at "rd"
    refine r_ty g3 ?_
    walk_at "rd"
    refine r_lenL g3 ?_
    walk_at "rd"
    refine use_draw d3 (by omega) (by omega) fun j H4 lj d4 s4 => ?_
    walk_at "rd"
    have hj : re[j]? = some (re[j]'(by omega)) := List.getElem?_eq_getElem (by omega)
    refine r_popAt (s4.keep _ _ (not2 rh rc) g3) hj (by omega) fun H5 s5 e5 => ?_
    walk_at "rd"
    refine r_append (s5.keep _ _ (not1 fr) (s4.keep _ _ (not2 fh fc) e3)) (by rw [sizeLine_eq]; omega) fun H6 s6 e6 => ?_
    walk_at "rd"
    refine ⟨ac ++ [re[j]'(by omega)], re.eraseIdx j, _, rfl, e6, s6.keep _ _ (not1 (Ne.symm fr)) e5, ?_, by rw [List.length_append, al]; rfl, ?_, ?_⟩
    · rw [List.append_assoc]
      exact ((perm_eraseIdx re j _ hj).append_left ac).trans pm
    · exact (d4.sw s5 (not1 (Ne.symm rh)) (not1 (Ne.symm rc))).sw s6 (not1 (Ne.symm fh)) (not1 (Ne.symm fc))
    · exact ((s3.trans s4).over1 s5 nr).over1 s6 nf0
  · rintro σ' H3 ⟨ac, re, a4, rfl, e3, g3, pm, al, d3, s3⟩
    walk_at "rd"
    have len : ac.length + re.length = xs.length := by rw [← List.length_append]; exact pm.length_eq
    have re0 : re = [] := List.length_eq_zero_iff.mp (by omega)
    subst re0
    rw [List.append_nil] at pm
    exact q f ac H3 nf0 s3 d3 e3 pm
theorem ok_l_beside (T : Tx K mg) : FnOk P w K mg base CX0 1 T.f_l_beside T.d_l_beside ["one", "other", "many"] spBeside := by
  refine T.F_l_beside.ok sc_l_beside (fun vs H Q E h => ?_) (fun cdv A outer s H vs Q E hr h => ?_)
  · obtain ⟨a, b, ns, u, v, m, rfl, _⟩ := h
    rfl
  obtain ⟨a, b, ns, u, v, m, rfl, ha, hb, nl, m0, m1, q⟩ := h
  refine ⟨_, (pss_one (ps_ret (pe_callTy cn_tuple (by rfl) T.n_tuple (by decide +kernel) (pa_cons (pe_lc (own := [("k", 3)]) (g := gName 3) (by rfl) sc_l_beside.nd (pi_range1 (by rfl) T.n_range (pa_cons (pe_callB cn_len (by rfl) T.n_len (by decide +kernel) (pa_cons (pv 0) pa_nil)) pa_nil)) (blkOk_by (N := N_l_beside) (sc := defScope s_l_beside) (by decide +kernel)) (fun _ _ _ _ _ => (pg_name (i := 3) sc_l_beside.nd rfl (.inl rfl))) (fun _ _ _ _ _ => pts_nil) (fun _ _ _ _ _ => (pe_op op_add (pe_ix (ix_tupK (K := K) rfl) (pv 0) (pv 3) (fun _ _ => rfl)) (pe_op op_mul (pv 2) (pe_ix (ix_tupK (K := K) rfl) (pv 1) (pv 3) (fun _ _ => rfl)))))) pa_nil)))), ?_⟩
  refine start_is (σ' := [some (.ref a), some (.ref b), some (.int m), none]) rfl ?_
  walk_at "rd"
  refine r_lenT ha ?_
  walk_at "rd"
  rw [tv_len]
  refine r_kIRc ⟨by omega, by omega⟩ (fun Dl i acc H' => Sw [] H H' ∧ acc = tv (ns.take i) fun z => u z + m * v z) (fun x => [some (.ref a), some (.ref b), some (.int m), some x]) (fun x => rfl) (fun x => rfl) ?_ ?_ ?_
  · intro Dl H1 nD s1
    exact ⟨s1, rfl⟩
  · rintro Dl i acc H1 nD hi eD ⟨s1, rfl⟩
    have hz : ns[i]? = some (ns[i]'(by omega)) := List.getElem?_eq_getElem (by omega)
    refine r_yes ?_
    walk_at "rd"
    refine r_ixT (s1.keep _ _ not0 ha) (atI_nat (tv_get hz)) ?_
    walk_at "rd"
    refine r_ixT (s1.keep _ _ not0 hb) (atI_nat (tv_get hz)) ?_
    refine r_I (.inl ⟨m0, m1⟩) ?_
    walk_at "rd"
    refine kPut_of _ eD (by rw [tv_len, List.length_take, sizeLine_eq]; omega) fun H2 s2 e2 => ?_
    refine ⟨s1.over1 s2 nD, ?_⟩
    unfold tv
    rw [List.take_add_one, List.map_append, hz]
    rfl
  · rintro Dl acc H1 nD eD ⟨s1, rfl⟩
    walk_at "rd"
    refine r_tupL eD fun p H2 np s2 e2 => ?_
    have et : ns.take (ns.length : Int).toNat = ns := by rw [Int.toNat_natCast, List.take_length]
    rw [et] at e2
    exact q p H2 (s1.neu _ np) (s1.trans s2) e2
theorem ok_l_turned (T : Tx K mg) : FnOk P w K mg base CX0 2 T.f_l_turned T.d_l_turned ["heap", "amounts"] spTurned := by
  have G_l_draw := ok_l_draw (P := P) (w := w) (base := base) T
  refine T.F_l_turned.ok sc_l_turned (fun vs H Q E h => ?_) (fun cdv A outer s H vs Q E hr h => ?_)
  · obtain ⟨h, c, a, ns, u, rfl, _⟩ := h
    rfl
  obtain ⟨h, c, a, ns, u, rfl, ds, ha, nd, n0, n60, up, q⟩ := h
  have hr_l_draw := hr
  refine ⟨_, (pss_cons (ps_set (i := 2) sc_l_turned.nd rfl (.inl rfl) (pe_callTy cn_list (by rfl) T.n_list (by decide +kernel) (pa_cons (pv 1) pa_nil)))
    (pss_cons (ps_par3 (by rfl) sc_l_turned.nd (i := 3) (j := 4) (l := 5) rfl rfl rfl (by decide) (by decide) (by decide) rfl rfl rfl (pa_cons (pe_call G_l_draw hr_l_draw (by rfl) T.g_l_draw T.F_l_draw.kp T.b_l_draw .nil pass0 (pa_cons (pv 0) (pa_cons (pe_callB cn_len (by rfl) T.n_len (by decide +kernel) (pa_cons (pv 2) pa_nil)) pa_nil))) (pa_cons (pe_call G_l_draw hr_l_draw (by rfl) T.g_l_draw T.F_l_draw.kp T.b_l_draw .nil pass0 (pa_cons (pv 0) (pa_cons (pe_callB cn_len (by rfl) T.n_len (by decide +kernel) (pa_cons (pv 2) pa_nil)) pa_nil))) (pa_cons (pe_call G_l_draw hr_l_draw (by rfl) T.g_l_draw T.F_l_draw.kp T.b_l_draw .nil pass0 (pa_cons (pv 0) (pa_cons pe_int pa_nil))) pa_nil))) (by rfl))
    (Evl.pss_cut (ps_if (pt_cmpR op_lt (pv 5) pe_int (nomark _))
    (pss_one (ps_asg (pe_op op_add (pe_ix ix_list (pv 2) (pv 3) (fun _ _ => rfl)) pe_int) (pg_sub (pv 2) (pv 3) set_list)))
    pss_nil)
    (Evl.pss_cut (ps_if (PW.pt (pw_and (pt_cmpR op_gt (pv 5) pe_int (nomark _)) (pw_and1 (pt_cmpR op_gt (pe_ix ix_list (pv 2) (pv 4) (fun _ _ => rfl)) pe_int (nomark _)))))
    (pss_one (ps_asg (pe_op op_sub (pe_ix ix_list (pv 2) (pv 4) (fun _ _ => rfl)) pe_int) (pg_sub (pv 2) (pv 4) set_list)))
    pss_nil)
    (pss_one (ps_ret (pe_callTy cn_tuple (by rfl) T.n_tuple (by decide +kernel) (pa_cons (pv 2) pa_nil)))))))), ?_⟩
  refine start_is (σ' := [some (.ref h), some (.ref a), none, none, none, none]) rfl ?_
  walk_at "rd"
  refine r_listT ha fun t H1 nt s1 e1 => ?_
  have d1 := ds.sw0 s1
  have th := ds.newH nt
  have tc := ds.newC nt
  walk_at "rd"
  refine r_lenL e1 ?_
  walk_at "rd"
  rw [tv_len]
  refine use_draw d1 (by omega) (by omega) fun j H2 lj d2 s2 => ?_
  have e2 := s2.keep _ _ (not2 th tc) e1
  walk_at "rd"
  refine r_lenL e2 ?_
  walk_at "rd"
  rw [tv_len]
  refine use_draw d2 (by omega) (by omega) fun k H3 lk d3 s3 => ?_
  have e3 := s3.keep _ _ (not2 th tc) e2
  walk_at "rd"
  refine use_draw d3 (by omega) (by omega) fun d H4 ld d4 s4 => ?_
  have e4 := s4.keep _ _ (not2 th tc) e3
  have S4 : Sw [h, c] H H4 := ((s1.any.trans s2).trans s3).trans s4
  have hj : ns[j]? = some (ns[j]'(by omega)) := List.getElem?_eq_getElem (by omega)
  have hk : ns[k]? = some (ns[k]'(by omega)) := List.getElem?_eq_getElem (by omega)
  have mj := List.mem_of_getElem? hj
  have mk := List.mem_of_getElem? hk
  generalize ns[j]'(by omega) = zj at hj mj
  generalize ns[k]'(by omega) = zk at hk mk
  walk_at "rd"
  refine r_cut (M := fun σ H' => σ = [some (.ref h), some (.ref a), some (.ref t), some (.int j), some (.int k), some (.int d)] ∧ ∃ u1 : Str → Int, H' t = some (.lst (tv ns u1)) ∧ DS h c H' ∧ Sw [h, c] H H' ∧ ∀ z ∈ ns, 0 ≤ u1 z ∧ u1 z ≤ u z + if z = zj then 1 else 0) ?_ ?_
  · walk_at "rd"
    refine ite2 (fun _ => ?_) (fun _ => ?_)
    · walk_at "rd"
      refine r_ixL e4 (tv_get hj) ?_
      walk_at "rd"
      refine r_setL e4 (by rw [tv_len]; omega) fun H5 s5 e5 => ?_
      rw [tv_set nd hj] at e5
      refine ⟨rfl, _, e5, d4.sw s5 (not1 (Ne.symm th)) (not1 (Ne.symm tc)), S4.over1 s5 nt, fun z hz => ?_⟩
      have := up z hz
      by_cases e : z = zj
      · subst e
        rw [if_pos rfl, if_pos rfl]
        omega
      · rw [if_neg e, if_neg e]
        omega
    · walk_at "rd"
      refine ⟨rfl, u, e4, d4, S4, fun z hz => ?_⟩
      have := up z hz
      split <;> omega
  · rintro σ H5 ⟨rfl, u1, e5, d5, S5, b5⟩
    refine r_cut (M := fun σ H' => σ = [some (.ref h), some (.ref a), some (.ref t), some (.int j), some (.int k), some (.int d)] ∧ ∃ u1 : Str → Int, H' t = some (.lst (tv ns u1)) ∧ DS h c H' ∧ Sw [h, c] H H' ∧ ∀ z ∈ ns, 0 ≤ u1 z ∧ u1 z ≤ u z + if z = zj then 1 else 0) ?_ ?_
    · walk_at "rd"
      refine ite2 (fun _ => ?_) (fun _ => ?_)
      · walk_at "rd"
        refine r_ixL e5 (tv_get hk) ?_
        walk_at "rd"
        refine ite2 (fun hp => ?_) (fun _ => ?_)
        · have hp := of_decide_eq_true hp
          walk_at "rd"
          refine r_ixL e5 (tv_get hk) ?_
          walk_at "rd"
          refine r_setL e5 (by rw [tv_len]; omega) fun H6 s6 e6 => ?_
          rw [tv_set nd hk] at e6
          refine ⟨rfl, _, e6, d5.sw s6 (not1 (Ne.symm th)) (not1 (Ne.symm tc)), S5.over1 s6 nt, fun z hz => ?_⟩
          have b := b5 z hz
          by_cases e : z = zk
          · subst e
            rw [if_pos rfl]
            exact ⟨by omega, by omega⟩
          · rw [if_neg e]
            exact b
        · walk_at "rd"
          exact ⟨rfl, u1, e5, d5, S5, b5⟩
      · walk_at "rd"
        refine iteF ?_
        walk_at "rd"
        exact ⟨rfl, u1, e5, d5, S5, b5⟩
    · rintro σ H6 ⟨rfl, u2, e6, d6, S6, b6⟩
      walk_at "rd"
      refine r_tupL e6 fun p H7 np s7 e7 => ?_
      exact q p u2 zj H7 (S6.neu _ np) (S6.trans s7.any) (d6.sw0 s7) e7 mj b6
end
end K14
/-! D5 -/


namespace K14
open PySem PySem.Spec PyProof.Rows L2 Vf
section
variable {P : Program} {w : World} {K : PySem.W.Frag} {mg : Str → Option Value} {base : Heap}
theorem ok_l_formula0 (T : Tx K mg) : FnOk P w K mg base CX0 3 T.f_l_formula T.d_l_formula ["heap", "names", "room"] (spForm 0) := by
  refine T.F_l_formula.ok sc_l_formula (fun vs H Q E h => ?_) (fun cdv A outer s H vs Q E hr h => ?_)
  · obtain ⟨h, c, l, ns, r, rfl, _⟩ := h
    rfl
  obtain ⟨h, c, l, ns, r, rfl, ds, hl, n1, n2, z0, z, r60, mu, q⟩ := h
  omega
theorem ok_l_formulaS (T : Tx K mg) (μ : Nat) (G_l_formula : FnOk P w K mg base CX0 (3 + μ) T.f_l_formula T.d_l_formula ["heap", "names", "room"] (spForm μ)) : FnOk P w K mg base CX0 (3 + μ + 1) T.f_l_formula T.d_l_formula ["heap", "names", "room"] (spForm (μ + 1)) := by
  have G_l_draw := ok_l_draw (P := P) (w := w) (base := base) T
  have G_l_pick := ok_l_pick (P := P) (w := w) (base := base) T
  refine T.F_l_formula.ok sc_l_formula (fun vs H Q E h => ?_) (fun cdv A outer s H vs Q E hr h => ?_)
  · obtain ⟨h, c, l, ns, r, rfl, _⟩ := h
    rfl
  obtain ⟨h, c, l, ns, r, rfl, ds, hl, n1, n2, z0, z, r60, mu, q⟩ := h
  have hr_l_formula := hr
  have hr_l_draw := hr.mono (show 1 ≤ 3 + μ by omega)
  have hr_l_pick := hr.mono (show 2 ≤ 3 + μ by omega)
  refine ⟨_, (Evl.pss_cut (ps_if (PW.pt (pw_and (pt_cmpR op_gt (pv 2) pe_int (nomark _)) (pw_and1 (pt_cmpR op_eq (pe_call G_l_draw hr_l_draw (by rfl) T.g_l_draw T.F_l_draw.kp T.b_l_draw .nil pass0 (pa_cons (pv 0) (pa_cons pe_int pa_nil))) pe_int (nomark _)))))
    (pss_cons (ps_set (i := 3) sc_l_formula.nd rfl (.inl rfl) (pe_op op_add pe_int (pe_call G_l_draw hr_l_draw (by rfl) T.g_l_draw T.F_l_draw.kp T.b_l_draw .nil pass0 (pa_cons (pv 0) (pa_cons (pe_op op_sub (pv 2) pe_int) pa_nil)))))
    (pss_one (ps_ret (pe_tup (pa_cons pe_str (pa_cons (pv 3) (pa_cons (pe_call G_l_formula hr_l_formula (by rfl) T.g_l_formula T.F_l_formula.kp T.b_l_formula .nil pass0 (pa_cons (pv 0) (pa_cons (pv 1) (pa_cons (pe_op op_fdivW (pv 2) (pv 3)) pa_nil)))) pa_nil)))))))
    pss_nil)
    (pss_cons (ps_if (pt_cmpR op_eq (pe_callB cn_len (by rfl) T.n_len (by decide +kernel) (pa_cons (pv 1) pa_nil)) pe_int (nomark _))
    (pss_one (ps_ret (pe_tup (pa_cons pe_str (pa_cons (pe_ix ix_list (pv 1) pe_int (fun _ _ => rfl)) pa_nil)))))
    pss_nil)
    (pss_cons (ps_par3 (by rfl) sc_l_formula.nd (i := 4) (j := 5) (l := 6) rfl rfl rfl (by decide) (by decide) (by decide) rfl rfl rfl (pa_cons (pe_call G_l_pick hr_l_pick (by rfl) T.g_l_pick T.F_l_pick.kp T.b_l_pick .nil pass0 (pa_cons (pv 0) (pa_cons (pe_lst (pa_cons pe_str (pa_cons pe_str pa_nil))) pa_nil))) (pa_cons (pe_lst pa_nil) (pa_cons (pv 1) pa_nil))) (by rfl))
    (pss_cons (ps_for PassesOwn.never rfl (pi_range1 (by rfl) T.n_range (pa_cons (pe_callB cn_len (by rfl) T.n_len (by decide +kernel) (pa_cons (pv 1) pa_nil)) pa_nil)) (pg_name (i := 7) sc_l_formula.nd rfl (.inl rfl))
    (pss_one (ps_if (pt_cmpR op_gt (pe_callB cn_len (by rfl) T.n_len (by decide +kernel) (pa_cons (pv 6) pa_nil)) pe_int (nomark _))
    (pss_cons (ps_set (i := 8) sc_l_formula.nd rfl (.inl rfl) (pe_op op_add pe_int (pe_call G_l_draw hr_l_draw (by rfl) T.g_l_draw T.F_l_draw.kp T.b_l_draw .nil pass0 (pa_cons (pv 0) (pa_cons (pe_op op_sub (pe_callB cn_len (by rfl) T.n_len (by decide +kernel) (pa_cons (pv 6) pa_nil)) (pe_callTy cn_int (by rfl) T.n_int (by decide +kernel) (pa_cons (pe_cmpR op_eq (pv 7) pe_int (nomark _)) pa_nil))) pa_nil)))))
    (pss_cons (ps_expr (pe_bm PySem.F.plainAttrs_list PySem.F.slot_list_append PySem.F.type_list_append mt_append (pv 5) (pa_cons (pe_call G_l_formula hr_l_formula (by rfl) T.g_l_formula T.F_l_formula.kp T.b_l_formula .nil pass0 (pa_cons (pv 0) (pa_cons (pe_slice sl_list (pv 6) po_none (po_some (pv 8))) (pa_cons (pv 2) pa_nil)))) pa_nil)))
    (pss_one (ps_set (i := 6) sc_l_formula.nd rfl (.inl rfl) (pe_slice sl_list (pv 6) (po_some (pv 8)) po_none)))))
    pss_nil)))
    (pss_one (ps_ret (pe_tup (pa_cons (pv 4) (pa_cons (pe_callTy cn_tuple (by rfl) T.n_tuple (by decide +kernel) (pa_cons (pv 5) pa_nil)) pa_nil))))))))), ?_⟩
  refine start_is (σ' := [some (.ref h), some (.ref l), some (.int r), none, none, none, none, none, none]) rfl ?_
  refine r_cut (M := fun σ H' => σ = [some (.ref h), some (.ref l), some (.int r), none, none, none, none, none, none] ∧ DS h c H' ∧ Sw [h, c] H H') ?_ ?_
  · walk_at "rd"
    refine ite2 (fun hr1 => ?_) (fun _ => ?_)
    · have hr1 := of_decide_eq_true hr1
      walk_at "rd"
      refine use_draw ds (by omega) (by omega) fun d H1 ld d1 s1 => ?_
      walk_at "rd"
      refine ite2 (fun _ => ?_) (fun _ => ?_)
      · walk_at "rd"
        refine use_draw d1 (by omega) (by omega) fun e H2 le d2 s2 => ?_
        walk_at "rd"
        refine r_I (by exact ⟨by omega, small_log (by omega) (by omega)⟩) ?_
        have l2 : H2 l = some (.lst (ns.map V.str)) := s2.keep _ _ (not2 n1 n2) (s1.keep _ _ (not2 n1 n2) hl)
        have dv : (r : Int) / (2 + (e : Int)) = ((r / (2 + e) : Nat) : Int) := rfl
        rw [dv]
        have dr : r / (2 + e) < r := Nat.div_lt_self (by omega) (by omega)
        refine ⟨h, c, l, ns, r / (2 + e), rfl, d2, l2, n1, n2, z0, z, by omega, by omega, fun v f H3 s3 d3 f3 fl fw fd => ?_⟩
        walk_at "rd"
        refine r_kTup (by show 3 ≤ sizeLine; decide) fun p H4 np s4 e4 => ?_
        refine q (.ref p) (.many (2 + e) f) H4 (((s1.trans s2).trans s3).trans s4.any) (d3.sw0 s4) ?_ ?_ ?_ ?_
        · unfold IsF
          exact ⟨p, v, rfl, e4, f3.sw s4⟩
        · unfold leaves
          exact fl
        · unfold WfF
          exact ⟨by omega, by omega, fw⟩
        · unfold dep
          omega
      · walk_at "rd"
        exact ⟨rfl, d1, s1⟩
    · walk_at "rd"
      refine iteF ?_
      exact ⟨rfl, ds, Sw.refl _ _⟩
  · rintro σ H1 ⟨rfl, d1, s1⟩
    have l1 : H1 l = some (.lst (ns.map V.str)) := s1.keep _ _ (not2 n1 n2) hl
    walk_at "rd"
    refine r_lenL l1 ?_
    walk_at "rd"
    refine ite2 (fun h1 => ?_) (fun h1 => ?_)
    · have h1 := of_decide_eq_true h1
      walk_at "rd"
      match ns, h1, l1, q with
      | [z], h1, l1, q =>
        refine r_ixL' l1 (v := .str z) rfl ?_
        walk_at "rd"
        refine r_kTup (by show 2 ≤ sizeLine; decide) fun p H2 np s2 e2 => ?_
        refine q (.ref p) (.kind z) H2 (s1.trans s2.any) (d1.sw0 s2) ?_ ?_ ?_ ?_
        · unfold IsF
          exact ⟨p, rfl, e2⟩
        · unfold leaves
          rfl
        · unfold WfF
          trivial
        · unfold dep
          omega
    · have h1 : ¬ ((ns.map V.str).length : Int) = 1 := fun e => h1 (decide_eq_true e)
      rw [List.length_map] at h1
      walk_at "rd"
      refine r_kLst (by show 2 ≤ sizeLine; decide) fun a H2 na s2 e2 => ?_
      walk_at "rd"
      have d2 := d1.sw0 s2
      refine use_pick d2 e2 (d1.newH na) (d1.newC na) (by show 0 < 2; decide) (by show 2 < 2 ^ 60; decide) fun ip fv H3 hf d3 s3 => ?_
      have FR : ∃ w : Bool, fv = .str (word w) := by
        match ip, hf with
        | 0, hf => exact ⟨true, (Option.some.inj hf).symm⟩
        | 1, hf => exact ⟨false, (Option.some.inj hf).symm⟩
      obtain ⟨w, rfl⟩ := FR
      walk_at "rd"
      refine r_kLst (by decide) fun b H4 nb s4 e4 => ?_
      walk_at "rd"
      have d4 := d3.sw0 s4
      have bh := d3.newH nb
      have bc := d3.newC nb
      have S4 : Sw [h, c] H H4 := (s1.trans (s2.any.trans s3)).trans s4.any
      have nb0 : H b = none := (s1.trans (s2.any.trans s3)).neu _ nb
      have l4 := S4.keep _ _ (not2 n1 n2) hl
      have bl : b ≠ l := Ne.symm (ne_of_none hl nb0)
      refine r_lenL l4 ?_
      walk_at "rd"
      rw [List.length_map]
      refine r_kFR ⟨by omega, by omega⟩ (fun i σ' H' => ∃ (fs : List Fm) (bs : List V) (re : List Str) (lr : Addr) (a7 a8 : Option V), σ' = [some (.ref h), some (.ref l), some (.int r), none, some (.str (word w)), some (.ref b), some (.ref lr), a7, a8] ∧ H' b = some (.lst bs) ∧ IsFL H' fs bs ∧ H' lr = some (.lst (re.map V.str)) ∧ leavesL fs ++ re = ns ∧ re.length + i ≤ ns.length ∧ fs.length ≤ i ∧ WfL r fs ∧ depL fs ≤ μ ∧ (lr ≠ h ∧ lr ≠ c ∧ lr ≠ b) ∧ DS h c H' ∧ Sw [h, c] H H')
        ⟨[], [], ns, l, _, _, rfl, e4, by unfold IsFL; rfl, l4, rfl, Nat.le_refl _, Nat.le_refl _, trivial, Nat.zero_le _, ⟨n1, n2, Ne.symm bl⟩, d4, S4⟩ ?_ ?_
      · rintro i σ' H5 hi ⟨fs, bs, re, lr, a7, a8, rfl, e5, f5, g5, lv, il, fl, wf, dp, ⟨lh, lc, lb⟩, d5, s5⟩
        walk_at "rd"
        refine r_lenL g5 ?_
        walk_at "rd"
        rw [List.length_map]
        refine ite2 (fun h2 => ?_) (fun h2 => ?_)
        · have h2 := of_decide_eq_true h2
          walk_at "rd"
          refine r_lenL g5 ?_
          walk_at "rd"
          rw [List.length_map]
          have i0 : (0 : Int) < (re.length : Int) - (if decide ((i : Int) = 0) = true then 1 else 0) ∧ (re.length : Int) - (if decide ((i : Int) = 0) = true then 1 else 0) < ns.length ∧ (re.length : Int) - (if decide ((i : Int) = 0) = true then 1 else 0) ≤ re.length := by
            by_cases hi0 : (i : Int) = 0
            · rw [if_pos (decide_eq_true hi0)]
              have : i = 0 := by omega
              subst this
              have fs0 : fs = [] := List.length_eq_zero_iff.mp (by omega)
              subst fs0
              have : re = ns := lv
              subst this
              omega
            · rw [if_neg (by rw [decide_eq_false hi0]; decide)]
              omega
          generalize (if decide ((i : Int) = 0) = true then (1 : Int) else 0) = tz at i0 ⊢
          have tz0 : True := trivial
          refine use_draw d5 i0.1 (by omega) fun x H6 lx d6 s6 => ?_
          have e6 := s6.keep _ _ (not2 bh bc) e5
          have g6 := s6.keep _ _ (not2 lh lc) g5
          have cx : (1 : Int) + (x : Int) = ((1 + x : Nat) : Int) := by omega
          walk_at "rd"
          refine r_ty e6 ?_
          walk_at "rd"
          rw [cx]
          refine r_slL (SqL.of g6) fun k H7 nk s7 e7 => ?_
          rw [cutV_take, ← List.map_take] at e7
          walk_at "rd"
          have d7 := d6.sw0 s7
          have tl : (re.take (1 + x)).length = 1 + x := by rw [List.length_take]; omega
          refine ⟨h, c, k, re.take (1 + x), r, rfl, d7, e7, d6.newH nk, d6.newC nk, by omega, by omega, by omega, by omega, fun v f H8 s8 d8 f8 lf wff df => ?_⟩
          have e8 := s8.keep _ _ (not2 bh bc) (s7.keep _ _ not0 e6)
          have g8 := s8.keep _ _ (not2 lh lc) (s7.keep _ _ not0 g6)
          have bl5 : bs.length = fs.length := f5.len
          walk_at "rd"
          refine r_append e8 (by rw [sizeLine_eq]; omega) fun H9 s9 e9 => ?_
          have g9 := s9.keep _ _ (not1 lb) g8
          walk_at "rd"
          refine r_slL (SqL.of g9) fun m H10 nm s10 e10 => ?_
          rw [cutV_drop, ← List.map_drop] at e10
          have d9 := d8.sw s9 (not1 (Ne.symm bh)) (not1 (Ne.symm bc))
          have S8 : Sw [h, c] H H8 := ((s5.trans s6).trans s7.any).trans s8
          refine ⟨fs ++ [f], bs ++ [v], re.drop (1 + x), m, _, _, rfl, s10.keep _ _ not0 e9, ((((((f5.sw s6).sw s7).sw s8).add f8).sw s9).sw s10), e10, ?_, ?_, ?_, WfL_add wf wff, ?_, ⟨d9.newH nm, d9.newC nm, Ne.symm (ne_of_none e9 nm)⟩, d9.sw0 s10, (S8.over1 s9 nb0).trans s10.any⟩
          · rw [leavesL_add, leavesL_one, lf, List.append_assoc, List.take_append_drop]
            exact lv
          · rw [List.length_drop]
            omega
          · rw [List.length_append, List.length_singleton]
            omega
          · rw [depL_add]
            omega
        · walk_at "rd"
          refine ⟨fs, bs, re, lr, _, _, rfl, e5, f5, g5, lv, ?_, by omega, wf, dp, ⟨lh, lc, lb⟩, d5, s5⟩
          have h2 : ¬ (0 : Int) < (re.length : Int) := fun e => h2 (decide_eq_true e)
          omega
      · rintro σ' H5 ⟨fs, bs, re, lr, a7, a8, rfl, e5, f5, g5, lv, il, fl, wf, dp, ⟨lh, lc, lb⟩, d5, s5⟩
        walk_at "rd"
        refine r_tupL e5 fun t H6 nt s6 e6 => ?_
        walk_at "rd"
        refine r_kTup (by show 2 ≤ sizeLine; decide) fun p H7 np s7 e7 => ?_
        have re0 : re = [] := List.length_eq_zero_iff.mp (by omega)
        subst re0
        rw [List.append_nil] at lv
        refine q (.ref p) (.node w fs) H7 ((s5.trans s6.any).trans s7.any) ((d5.sw0 s6).sw0 s7) ?_ ?_ ?_ ?_
        · unfold IsF
          exact ⟨p, t, bs, rfl, e7, s7.keep _ _ not0 e6, (f5.sw s6).sw s7⟩
        · unfold leaves
          exact lv
        · unfold WfF
          refine ⟨fun e => ?_, wf⟩
          subst e
          rw [← lv] at z0
          exact absurd z0 (by show ¬ 0 < 0; decide)
        · unfold dep
          omega
theorem ok_l_formula (T : Tx K mg) : ∀ μ, FnOk P w K mg base CX0 (3 + μ) T.f_l_formula T.d_l_formula ["heap", "names", "room"] (spForm μ)
  | 0 => ok_l_formula0 T
  | μ + 1 => ok_l_formulaS T μ (ok_l_formula T μ)
end
end K14
/-! D6 -/


namespace K14
open PySem PySem.Spec PyProof.Rows L2 Vf
section
variable {P : Program} {w : World} {K : PySem.W.Frag} {mg : Str → Option Value} {base : Heap}
theorem ok_u_add_sizes0 (T : Tx K mg) : FnOk P w K mg base CX0 1 T.f_u_add_sizes T.d_u_add_sizes ["formula", "times", "sizes"] (spAdd 0) := by
  refine T.F_u_add_sizes.ok sc_u_add_sizes (fun vs H Q E h => ?_) (fun cdv A outer s H vs Q E hr h => ?_)
  · obtain ⟨v, f, t, D, kvs, rfl, _⟩ := h
    rfl
  obtain ⟨v, f, t, D, kvs, rfl, hf, okf, hd, _⟩ := h
  cases f <;> simp [dep] at hd
theorem ok_u_add_sizesS (T : Tx K mg) (d : Nat) (G_u_add_sizes : FnOk P w K mg base CX0 (1 + d) T.f_u_add_sizes T.d_u_add_sizes ["formula", "times", "sizes"] (spAdd d)) : FnOk P w K mg base CX0 (1 + d + 1) T.f_u_add_sizes T.d_u_add_sizes ["formula", "times", "sizes"] (spAdd (d + 1)) := by
  refine T.F_u_add_sizes.ok sc_u_add_sizes (fun vs H Q E h => ?_) (fun cdv A outer s H vs Q E hr h => ?_)
  · obtain ⟨v, f, t, D, kvs, rfl, _⟩ := h
    rfl
  obtain ⟨v, f, t, D, kvs, rfl, hf, okf, hd, hD, hz, nd, q⟩ := h
  have hr_u_add_sizes := hr
  cases f with
  | kind z =>
    unfold IsF at hf
    obtain ⟨a, rfl, ha⟩ := hf
    refine ⟨_, (pss_one (ps_if (pt_cmpR op_eq (pe_ix ix_tup (pv 0) pe_int (fun _ _ => rfl)) pe_str (nomark _))
    (pss_one (ps_dput (hu_of hr) (pv 2) (pe_ix ix_tup (pv 0) pe_int (fun _ _ => rfl)) (pv 1) rfl))
    (pss_one (ps_if (pt_cmpR op_eq (pe_ix ix_tup (pv 0) pe_int (fun _ _ => rfl)) pe_str (nomark _))
    (pss_one (ps_expr (pe_call G_u_add_sizes hr_u_add_sizes (by rfl) T.g_u_add_sizes T.F_u_add_sizes.kp T.b_u_add_sizes .nil pass0 (pa_cons (pe_ix ix_tup (pv 0) pe_int (fun _ _ => rfl)) (pa_cons (pe_op op_mul (pv 1) (pe_ix ix_tup (pv 0) pe_int (fun _ _ => rfl))) (pa_cons (pv 2) pa_nil))))))
    (pss_one (ps_for PassesOwn.never rfl (pi_tup (pe_ix ix_tup (pv 0) pe_int (fun _ _ => rfl))) (pg_name (i := 3) sc_u_add_sizes.nd rfl (.inl rfl))
    (pss_one (ps_expr (pe_call G_u_add_sizes hr_u_add_sizes (by rfl) T.g_u_add_sizes T.F_u_add_sizes.kp T.b_u_add_sizes .nil pass0 (pa_cons (pv 3) (pa_cons (pv 1) (pa_cons (pv 2) pa_nil)))))))))))), ?_⟩
    refine start_is (σ' := [some (.ref a), some (.int t), some (.ref D), none]) rfl ?_
    walk_at "rd"
    refine r_ixT ha rfl ?_
    walk_at "rd"
    refine iteT ?_
    walk_at "rd"
    refine r_ixT ha rfl ?_
    unfold leaves at nd hz q
    rw [List.map_cons, List.map_nil] at nd q
    have nz : (Sum.inr z : Key) ∉ kvs.map Prod.fst := fun m => (List.nodup_append.mp nd).2.2 _ m _ (List.mem_singleton.mpr rfl) rfl
    refine r_kDPutS hD (by rw [sizeLine_eq]; omega) fun H1 s1 e1 => ?_
    rw [putK_out _ nz] at e1
    exact q _ H1 s1 e1 (by rw [List.map_append]; rfl)
  | many n f =>
    unfold IsF at hf
    obtain ⟨a, b, rfl, ha, hb⟩ := hf
    unfold OkF at okf
    unfold dep at hd
    unfold leaves at nd hz q
    refine ⟨_, (pss_one (ps_if (pt_cmpR op_eq (pe_ix ix_tup (pv 0) pe_int (fun _ _ => rfl)) pe_str (nomark _))
    (pss_one (ps_dput (hu_of hr) (pv 2) (pe_ix ix_tup (pv 0) pe_int (fun _ _ => rfl)) (pv 1) rfl))
    (pss_one (ps_if (pt_cmpR op_eq (pe_ix ix_tup (pv 0) pe_int (fun _ _ => rfl)) pe_str (nomark _))
    (pss_one (ps_expr (pe_call G_u_add_sizes hr_u_add_sizes (by rfl) T.g_u_add_sizes T.F_u_add_sizes.kp T.b_u_add_sizes .nil pass0 (pa_cons (pe_ix ix_tup (pv 0) pe_int (fun _ _ => rfl)) (pa_cons (pe_op op_mul (pv 1) (pe_ix ix_tup (pv 0) pe_int (fun _ _ => rfl))) (pa_cons (pv 2) pa_nil))))))
    (pss_one (ps_for PassesOwn.never rfl (pi_tup (pe_ix ix_tup (pv 0) pe_int (fun _ _ => rfl))) (pg_name (i := 3) sc_u_add_sizes.nd rfl (.inl rfl))
    (pss_one (ps_expr (pe_call G_u_add_sizes hr_u_add_sizes (by rfl) T.g_u_add_sizes T.F_u_add_sizes.kp T.b_u_add_sizes .nil pass0 (pa_cons (pv 3) (pa_cons (pv 1) (pa_cons (pv 2) pa_nil)))))))))))), ?_⟩
    refine start_is (σ' := [some (.ref a), some (.int t), some (.ref D), none]) rfl ?_
    walk_at "rd"
    refine r_ixT ha rfl ?_
    walk_at "rd"
    refine iteF ?_
    walk_at "rd"
    refine r_ixT ha rfl ?_
    walk_at "rd"
    refine iteT ?_
    walk_at "rd"
    refine r_ixT ha rfl ?_
    walk_at "rd"
    refine r_ixT ha rfl ?_
    refine r_I (.inr ⟨by omega, by omega⟩) ?_
    walk_at "rd"
    exact ⟨b, f, _, D, kvs, rfl, hb, okf.2.2, by omega, hD, hz, nd, fun kvs' H1 s1 e1 k1 => q kvs' H1 s1 e1 k1⟩
  | node wd fs =>
    unfold IsF at hf
    obtain ⟨a, b, bs, rfl, ha, hb, hbs⟩ := hf
    unfold OkF at okf
    unfold dep at hd
    unfold leaves at nd hz q
    refine ⟨_, (pss_one (ps_if (pt_cmpR op_eq (pe_ix ix_tup (pv 0) pe_int (fun _ _ => rfl)) pe_str (nomark _))
    (pss_one (ps_dput (hu_of hr) (pv 2) (pe_ix ix_tup (pv 0) pe_int (fun _ _ => rfl)) (pv 1) rfl))
    (pss_one (ps_if (pt_cmpR op_eq (pe_ix ix_tup (pv 0) pe_int (fun _ _ => rfl)) pe_str (nomark _))
    (pss_one (ps_expr (pe_call G_u_add_sizes hr_u_add_sizes (by rfl) T.g_u_add_sizes T.F_u_add_sizes.kp T.b_u_add_sizes .nil pass0 (pa_cons (pe_ix ix_tup (pv 0) pe_int (fun _ _ => rfl)) (pa_cons (pe_op op_mul (pv 1) (pe_ix ix_tup (pv 0) pe_int (fun _ _ => rfl))) (pa_cons (pv 2) pa_nil))))))
    (pss_one (ps_for PassesOwn.never rfl (pi_tup (pe_ix ix_tup (pv 0) pe_int (fun _ _ => rfl))) (pg_name (i := 3) sc_u_add_sizes.nd rfl (.inl rfl))
    (pss_one (ps_expr (pe_call G_u_add_sizes hr_u_add_sizes (by rfl) T.g_u_add_sizes T.F_u_add_sizes.kp T.b_u_add_sizes .nil pass0 (pa_cons (pv 3) (pa_cons (pv 1) (pa_cons (pv 2) pa_nil)))))))))))), ?_⟩
    refine start_is (σ' := [some (.ref a), some (.int t), some (.ref D), none]) rfl ?_
    walk_at "rd"
    refine r_ixT ha rfl ?_
    walk_at "rd"
    refine ite2 (fun e => absurd (of_decide_eq_true e) (word_kind wd)) (fun _ => ?_)
    walk_at "rd"
    refine r_ixT ha rfl ?_
    walk_at "rd"
    refine ite2 (fun e => absurd (of_decide_eq_true e) (word_many wd)) (fun _ => ?_)
    walk_at "rd"
    refine r_ixT ha rfl ?_
    have bl : bs.length = fs.length := hbs.len
    have bD : b ≠ D := neAt hb hD (fun z => nomatch z)
    refine r_kFT (SqT.of hb) (fun i σ' H' => ∃ (kv : List (Key × V)) (a3 : Option V), σ' = [some (.ref a), some (.int t), some (.ref D), a3] ∧ H' D = some (.dK kv) ∧ kv.map Prod.fst = kvs.map Prod.fst ++ (leavesL (fs.take i)).map Sum.inr ∧ Sw [D] H H')
      ⟨kvs, _, rfl, hD, by rw [List.take_zero]; unfold leavesL; rw [List.map_nil, List.append_nil], Sw.refl _ _⟩ ?_ ?_ ?_
    · rintro i σ' H1 _ ⟨kv, a3, rfl, e1, k1, s1⟩
      exact SqT.of (s1.tup _ _ hb)
    · rintro i x σ' H1 hx ⟨kv, a3, rfl, e1, k1, s1⟩
      obtain ⟨f, hf, hfx⟩ := hbs.at hx
      have mf := List.mem_of_getElem? hf
      walk_at "rd"
      obtain ⟨r, hr'⟩ := leavesL_pre fs (i + 1)
      rw [leavesL_take hf] at hr'
      have nd2 : (kv.map Prod.fst ++ (leaves f).map Sum.inr).Nodup := by
        rw [k1, List.append_assoc, ← List.map_append]
        rw [hr', List.map_append, ← List.append_assoc] at nd
        exact (List.nodup_append.mp nd).1
      have ln2 : kv.length + (leaves f).length ≤ 100 := by
        have e2 : kv.length = (kv.map Prod.fst).length := (List.length_map ..).symm
        rw [e2, k1, List.length_append, List.length_map, List.length_map]
        rw [hr', List.length_append, List.length_append] at hz
        omega
      refine ⟨x, f, t, D, kv, rfl, hfx.sw s1, okf.2.mem mf, by have := depL_mem mf; omega, e1, ln2, nd2, fun kv' H2 s2 e2 k2 => ?_⟩
      walk_at "rd"
      refine ⟨kv', _, rfl, e2, ?_, s1.trans s2⟩
      rw [k2, k1, leavesL_take hf, List.append_assoc, ← List.map_append]
    · rintro σ' H1 ⟨kv, a3, rfl, e1, k1, s1⟩
      rw [bl, List.take_length] at k1
      exact q kv H1 s1 e1 k1
theorem ok_u_add_sizes (T : Tx K mg) : ∀ d, FnOk P w K mg base CX0 (1 + d) T.f_u_add_sizes T.d_u_add_sizes ["formula", "times", "sizes"] (spAdd d)
  | 0 => ok_u_add_sizes0 T
  | d + 1 => ok_u_add_sizesS T d (ok_u_add_sizes T d)
theorem ok_q_sizes_of (T : Tx K mg) (d : Nat) : FnOk P w K mg base CX0 (2 + d) T.f_q_sizes_of T.d_q_sizes_of ["formula"] (spSizes d) := by
  have G_u_add_sizes := ok_u_add_sizes (P := P) (w := w) (base := base) T d
  rw [show 2 + d = 1 + d + 1 by omega]
  refine T.F_q_sizes_of.ok sc_q_sizes_of (fun vs H Q E h => ?_) (fun cdv A outer s H vs Q E hr h => ?_)
  · obtain ⟨v, f, ns, rfl, _⟩ := h
    rfl
  obtain ⟨v, f, ns, rfl, hf, okf, hd, hz, nd, pm, so, q⟩ := h
  have hr_u_add_sizes := hr
  refine ⟨_, (pss_cons (ps_set (i := 1) sc_q_sizes_of.nd rfl (.inr rfl) pe_dnewK)
    (pss_cons (ps_expr (pe_call G_u_add_sizes hr_u_add_sizes (by rfl) T.g_u_add_sizes T.F_u_add_sizes.kp T.b_u_add_sizes .nil pass0 (pa_cons (pv 0) (pa_cons pe_int (pa_cons (pv 1) pa_nil)))))
    (pss_one (ps_ret (pe_dc (own := [("kind", 2)]) (g := gName 2) (by rfl) sc_q_sizes_of.nd (pi_list (pe_callB (cn_sortD rfl) (by rfl) T.n_sorted (by decide +kernel) (pa_cons (pv 1) pa_nil))) (blkOk_by (N := N_q_sizes_of) (sc := defScope s_q_sizes_of) (by decide +kernel)) (fun _ _ _ _ _ => (pg_name (i := 2) sc_q_sizes_of.nd rfl (.inl rfl))) (fun _ _ _ _ _ => pts_nil) (fun _ _ _ _ _ => (pv 2)) (fun _ _ _ _ _ => (pe_dget (hu_of hr) (pv 1) (pv 2) (fun _ _ => rfl)))))))), ?_⟩
  refine start_is (σ' := [some (v), none, none]) rfl ?_
  walk_at "rd"
  refine r_newK fun D H1 nD s1 e1 => ?_
  walk_at "rd"
  refine ⟨v, f, 1, D, [], rfl, hf.sw s1, okf, hd, e1, by show 0 + _ ≤ 100; omega, ?_, fun kvs H2 s2 e2 k2 => ?_⟩
  · show ((leaves f).map (Sum.inr : Str → Key)).Nodup
    exact Vf.nodup_map_on (fun a _ b _ e => Sum.inr.inj e) nd
  have k2' : kvs.map Prod.fst = (leaves f).map Sum.inr := k2
  walk_at "rd"
  refine ⟨D, kvs, leaves f, rfl, .inl e2, k2', by omega, fun ys p pm2 so2 np => ?_⟩
  obtain rfl : ys = ns := sorted_uniq (pm2.trans pm.symm) so2 so
  have s3 : Sw [] H2 (upd H2 p (.lst (ys.map V.str))) := Sw.new np
  have e3 : upd H2 p (.lst (ys.map V.str)) p = some (.lst (ys.map V.str)) := upd_same
  generalize upd H2 p (.lst (ys.map V.str)) = H3 at s3 e3 ⊢
  have S3 : Sw [] H H3 := (s1.over1 s2 nD).trans s3
  have e2' := s3.keep _ _ not0 e2
  refine dc_list (SqL.of e3) (fun Dl i acc H' => Sw [] H3 H' ∧ acc.map Prod.fst = (ys.take i).map Sum.inr) (fun x => [some v, some (.ref D), some x]) (fun x => rfl) (fun x => rfl) ?_ ?_ ?_ ?_
  · intro Dl H4 n4 s4
    exact ⟨s4, rfl⟩
  · rintro Dl i acc H4 n4 e4 ⟨s4, k4⟩
    exact SqL.of (s4.keep _ _ not0 e3)
  · rintro Dl i x acc H4 n4 hx e4 ⟨s4, k4⟩
    rw [List.getElem?_map] at hx
    obtain ⟨z, hz2, rfl⟩ := Option.map_eq_some_iff.mp hx
    have zl : z ∈ leaves f := pm.subset (List.mem_of_getElem? hz2)
    obtain ⟨y, hy⟩ := valV_in (kvs := kvs) (k := (.inr z : Key)) (by rw [k2']; exact List.mem_map.mpr ⟨z, zl, rfl⟩)
    walk_at "rd"
    refine r_kDGetS (s4.keep _ _ not0 e2') hy ?_
    have al : acc.length ≤ 60 := by
      have e5 : acc.length = (acc.map Prod.fst).length := (List.length_map ..).symm
      rw [e5, k4, List.length_map, List.length_take, pm.length_eq]
      omega
    refine kPutD_of acc (.inr z) rfl e4 (by rw [sizeLine_eq]; omega) fun H5 s5 e5 => ⟨s4.over1 s5 n4, ?_⟩
    have nz : (Sum.inr z : Key) ∉ acc.map Prod.fst := by
      rw [k4]
      intro m
      obtain ⟨z2, m2, e6⟩ := List.mem_map.mp m
      cases Sum.inr.inj e6
      have nd3 := pm.symm.nodup nd
      obtain ⟨i2, hi2, e7⟩ := List.getElem_of_mem m2
      rw [List.length_take] at hi2
      rw [List.getElem_take] at e7
      have li := (List.getElem?_eq_some_iff.mp hz2)
      have := (List.getElem_inj nd3).mp (e7.trans li.2.symm)
      omega
    rw [putK_out _ nz, List.map_append, k4, List.take_add_one, hz2, List.map_append]
    rfl
  · rintro Dl acc H4 n4 e4 ⟨s4, k4⟩
    rw [List.length_map, List.take_length] at k4
    exact q Dl acc H4 (S3.neu _ n4) (S3.trans s4) e4 k4
theorem ok_q_kinds_of (T : Tx K mg) (d : Nat) : FnOk P w K mg base CX0 (3 + d) T.f_q_kinds_of T.d_q_kinds_of ["formula"] (spKinds d) := by
  have G_q_sizes_of := ok_q_sizes_of (P := P) (w := w) (base := base) T d
  rw [show 3 + d = 2 + d + 1 by omega]
  refine T.F_q_kinds_of.ok sc_q_kinds_of (fun vs H Q E h => ?_) (fun cdv A outer s H vs Q E hr h => ?_)
  · obtain ⟨v, f, ns, rfl, _⟩ := h
    rfl
  obtain ⟨v, f, ns, rfl, hf, okf, hd, hz, nd, pm, so, q⟩ := h
  have hr_q_sizes_of := hr
  refine ⟨_, (pss_one (ps_ret (pe_callTy (call_tuple_dK rfl) (by rfl) T.n_tuple (by decide +kernel) (pa_cons (pe_call G_q_sizes_of hr_q_sizes_of (by rfl) T.g_q_sizes_of T.F_q_sizes_of.kp T.b_q_sizes_of .nil pass0 (pa_cons (pv 0) pa_nil)) pa_nil)))), ?_⟩
  refine start_is (σ' := [some (v)]) rfl ?_
  walk_at "rd"
  refine ⟨v, f, ns, rfl, hf, okf, hd, hz, nd, pm, so, fun p kvs H1 np s1 e1 k1 => ?_⟩
  walk_at "rd"
  refine ⟨p, kvs, rfl, e1, fun t nt => ?_⟩
  refine q t _ (s1.neu _ nt) (s1.trans (Sw.new nt)) ?_
  rw [upd_same]
  have e3 : (kvs.map fun kv => kV kv.1) = (kvs.map Prod.fst).map kV := by rw [List.map_map]; rfl
  rw [e3, k1, List.map_map]
  rfl
end
end K14
/-! D7 -/


namespace K14
open PySem PySem.Spec PyProof.Rows L2 Vf
section
variable {P : Program} {w : World} {K : PySem.W.Frag} {mg : Str → Option Value} {base : Heap}
theorem ok_u_share0 (T : Tx K mg) : FnOk P w K mg base CX0 1 T.f_u_share T.d_u_share ["formula", "table"] (spShare 0) := by
  refine T.F_u_share.ok sc_u_share (fun vs H Q E h => ?_) (fun cdv A outer s H vs Q E hr h => ?_)
  · obtain ⟨v, f, D, kvs, t, rfl, _⟩ := h
    rfl
  obtain ⟨v, f, D, kvs, t, rfl, hf, okf, hd, _⟩ := h
  cases f <;> simp [dep] at hd
theorem ok_u_shareS (T : Tx K mg) (d : Nat) (G_u_share : FnOk P w K mg base CX0 (1 + d) T.f_u_share T.d_u_share ["formula", "table"] (spShare d)) : FnOk P w K mg base CX0 (1 + d + 1) T.f_u_share T.d_u_share ["formula", "table"] (spShare (d + 1)) := by
  refine T.F_u_share.ok sc_u_share (fun vs H Q E h => ?_) (fun cdv A outer s H vs Q E hr h => ?_)
  · obtain ⟨v, f, D, kvs, t, rfl, _⟩ := h
    rfl
  obtain ⟨v, f, D, kvs, t, rfl, hf, okf, hd, hz, hD, ht, q⟩ := h
  have hr_u_share := hr
  cases f with
  | kind z =>
    unfold IsF at hf
    obtain ⟨a, rfl, ha⟩ := hf
    refine ⟨_, (pss_cons (ps_if (pt_cmpR op_eq (pe_ix ix_tup (pv 0) pe_int (fun _ _ => rfl)) pe_str (nomark _))
    (pss_one (ps_ret (pe_dget (hu_of hr) (pv 1) (pe_ix ix_tup (pv 0) pe_int (fun _ _ => rfl)) (fun _ _ => rfl))))
    pss_nil)
    (pss_cons (ps_if (pt_cmpR op_eq (pe_ix ix_tup (pv 0) pe_int (fun _ _ => rfl)) pe_str (nomark _))
    (pss_cons (ps_set (i := 2) sc_u_share.nd rfl (.inl rfl) (pe_call G_u_share hr_u_share (by rfl) T.g_u_share T.F_u_share.kp T.b_u_share .nil pass0 (pa_cons (pe_ix ix_tup (pv 0) pe_int (fun _ _ => rfl)) (pa_cons (pv 1) pa_nil))))
    (Evl.pss_cut (ps_if (PW.pt (pw_or (pt_cmpR on_isN (pv 2) pe_non (nomark _)) (pw_or1 (pt_cmpR op_gt (pe_op op_modN (pv 2) (pe_ix ix_tup (pv 0) pe_int (fun _ _ => rfl))) pe_int (nomark _)))))
    (pss_one (ps_ret pe_non))
    pss_nil)
    (pss_one (ps_ret (pe_op op_fdivW (pv 2) (pe_ix ix_tup (pv 0) pe_int (fun _ _ => rfl)))))))
    pss_nil)
    (pss_cons (ps_setLc (i := 3) (own := [("part", 4)]) (g := gName 4) (by rfl) sc_u_share.nd rfl rfl (sw_true rfl rfl rfl (by decide +kernel)) (pi_tup (pe_ix ix_tup (pv 0) pe_int (fun _ _ => rfl))) (blkOk_by (N := N_u_share) (sc := defScope s_u_share) (by decide +kernel)) (fun _ _ _ _ _ => (pg_name (i := 4) sc_u_share.nd rfl (.inl rfl))) (fun _ _ _ _ _ => pts_nil) (fun _ _ _ _ _ => (pe_call G_u_share hr_u_share (by rfl) T.g_u_share T.F_u_share.kp T.b_u_share .nil pass0 (pa_cons (pv 4) (pa_cons (pv 1) pa_nil)))))
    (pss_cons (ps_if (pt_val (pe_callB (cr_any rfl) (by rfl) T.n_any (by decide +kernel) (pa_cons (pe_lc (own := [("number", 2)]) (g := gName 2) (by rfl) sc_u_share.nd (pi_list (pv 3)) (blkOk_by (N := N_u_share) (sc := defScope s_u_share) (by decide +kernel)) (fun _ _ _ _ _ => (pg_name (i := 2) sc_u_share.nd rfl (.inl rfl))) (fun _ _ _ _ _ => pts_nil) (fun _ _ _ _ _ => (pe_cmpR on_isN (pv 2) pe_non (nomark _)))) pa_nil)))
    (pss_one (ps_ret pe_non))
    pss_nil)
    (pss_cons (ps_if (pt_cmpR op_eq (pe_ix ix_tup (pv 0) pe_int (fun _ _ => rfl)) pe_str (nomark _))
    (pss_one (ps_ret (pe_callB (cr_sum rfl) (by rfl) T.n_sum (by decide +kernel) (pa_cons (pv 3) pa_nil))))
    pss_nil)
    (pss_one (ps_ret (pe_ifExp (pt_cmpR op_eq (pe_callB (cr_min rfl) (by rfl) T.n_min (by decide +kernel) (pa_cons (pv 3) pa_nil)) (pe_callB (cr_max rfl) (by rfl) T.n_max (by decide +kernel) (pa_cons (pv 3) pa_nil)) (nomark _)) (pe_ix ix_list (pv 3) pe_int (fun _ _ => rfl)) pe_non)))))))), ?_⟩
    refine start_is (σ' := [some (.ref a), some (.ref D), none, none, none]) rfl ?_
    walk_at "rd"
    refine r_ixT ha rfl ?_
    walk_at "rd"
    refine iteT ?_
    walk_at "rd"
    refine r_ixT ha rfl ?_
    unfold sh at q
    exact r_kDGetS hD (ht z (by unfold leaves; exact List.mem_cons_self)) (q H (Sw.refl _ _))
  | many n f =>
    unfold IsF at hf
    obtain ⟨a, b, rfl, ha, hb⟩ := hf
    unfold OkF at okf
    unfold dep at hd
    unfold leaves at ht hz
    unfold sh at q
    refine ⟨_, (pss_cons (ps_if (pt_cmpR op_eq (pe_ix ix_tup (pv 0) pe_int (fun _ _ => rfl)) pe_str (nomark _))
    (pss_one (ps_ret (pe_dget (hu_of hr) (pv 1) (pe_ix ix_tup (pv 0) pe_int (fun _ _ => rfl)) (fun _ _ => rfl))))
    pss_nil)
    (pss_cons (ps_if (pt_cmpR op_eq (pe_ix ix_tup (pv 0) pe_int (fun _ _ => rfl)) pe_str (nomark _))
    (pss_cons (ps_set (i := 2) sc_u_share.nd rfl (.inl rfl) (pe_call G_u_share hr_u_share (by rfl) T.g_u_share T.F_u_share.kp T.b_u_share .nil pass0 (pa_cons (pe_ix ix_tup (pv 0) pe_int (fun _ _ => rfl)) (pa_cons (pv 1) pa_nil))))
    (Evl.pss_cut (ps_if (PW.pt (pw_or (pt_cmpR on_isN (pv 2) pe_non (nomark _)) (pw_or1 (pt_cmpR op_gt (pe_op op_modN (pv 2) (pe_ix ix_tup (pv 0) pe_int (fun _ _ => rfl))) pe_int (nomark _)))))
    (pss_one (ps_ret pe_non))
    pss_nil)
    (pss_one (ps_ret (pe_op op_fdivW (pv 2) (pe_ix ix_tup (pv 0) pe_int (fun _ _ => rfl)))))))
    pss_nil)
    (pss_cons (ps_setLc (i := 3) (own := [("part", 4)]) (g := gName 4) (by rfl) sc_u_share.nd rfl rfl (sw_true rfl rfl rfl (by decide +kernel)) (pi_tup (pe_ix ix_tup (pv 0) pe_int (fun _ _ => rfl))) (blkOk_by (N := N_u_share) (sc := defScope s_u_share) (by decide +kernel)) (fun _ _ _ _ _ => (pg_name (i := 4) sc_u_share.nd rfl (.inl rfl))) (fun _ _ _ _ _ => pts_nil) (fun _ _ _ _ _ => (pe_call G_u_share hr_u_share (by rfl) T.g_u_share T.F_u_share.kp T.b_u_share .nil pass0 (pa_cons (pv 4) (pa_cons (pv 1) pa_nil)))))
    (pss_cons (ps_if (pt_val (pe_callB (cr_any rfl) (by rfl) T.n_any (by decide +kernel) (pa_cons (pe_lc (own := [("number", 2)]) (g := gName 2) (by rfl) sc_u_share.nd (pi_list (pv 3)) (blkOk_by (N := N_u_share) (sc := defScope s_u_share) (by decide +kernel)) (fun _ _ _ _ _ => (pg_name (i := 2) sc_u_share.nd rfl (.inl rfl))) (fun _ _ _ _ _ => pts_nil) (fun _ _ _ _ _ => (pe_cmpR on_isN (pv 2) pe_non (nomark _)))) pa_nil)))
    (pss_one (ps_ret pe_non))
    pss_nil)
    (pss_cons (ps_if (pt_cmpR op_eq (pe_ix ix_tup (pv 0) pe_int (fun _ _ => rfl)) pe_str (nomark _))
    (pss_one (ps_ret (pe_callB (cr_sum rfl) (by rfl) T.n_sum (by decide +kernel) (pa_cons (pv 3) pa_nil))))
    pss_nil)
    (pss_one (ps_ret (pe_ifExp (pt_cmpR op_eq (pe_callB (cr_min rfl) (by rfl) T.n_min (by decide +kernel) (pa_cons (pv 3) pa_nil)) (pe_callB (cr_max rfl) (by rfl) T.n_max (by decide +kernel) (pa_cons (pv 3) pa_nil)) (nomark _)) (pe_ix ix_list (pv 3) pe_int (fun _ _ => rfl)) pe_non)))))))), ?_⟩
    refine start_is (σ' := [some (.ref a), some (.ref D), none, none, none]) rfl ?_
    walk_at "rd"
    refine r_ixT ha rfl ?_
    walk_at "rd"
    refine iteF ?_
    walk_at "rd"
    refine r_ixT ha rfl ?_
    walk_at "rd"
    refine iteT ?_
    walk_at "rd"
    refine r_ixT ha rfl ?_
    walk_at "rd"
    refine ⟨b, f, D, kvs, t, rfl, hb, okf.2.2, by omega, hz, hD, ht, fun H1 s1 => ?_⟩
    walk_at "rd"
    have ha1 := s1.tup _ _ ha
    have fm : ∀ k : Int, Int.fmod k (n : Int) = k % (n : Int) := fun k => fmod_emod k (by omega)
    cases e : sh t f with
    | none =>
      rw [e] at q
      refine r_cut (M := fun _ _ => False) ?_ (fun _ _ h => h.elim)
      walk_at "rd"
      refine iteT (iteT ?_)
      exact q H1 s1
    | some k =>
      rw [e] at q
      have q' : ∀ H', Sw [] H H' → Q (vO (if k % (n : Int) = 0 then some (k / (n : Int)) else none)) H' := q
      refine r_cut (M := fun σ H' => σ = [some (.ref a), some (.ref D), some (.int k), none, none] ∧ H' = H1 ∧ k % (n : Int) = 0) ?_ ?_
      · walk_at "rd"
        refine iteF ?_
        walk_at "rd"
        refine r_ixT ha1 rfl ?_
        refine r_I (by omega) ?_
        walk_at "rd"
        rw [fm]
        have nn := Int.emod_nonneg k (show (n : Int) ≠ 0 by omega)
        by_cases z : k % (n : Int) = 0
        · refine iteF' ?_ ?_
          · rw [z]
            decide
          · exact ⟨rfl, rfl, z⟩
        · refine iteT' ?_ ?_
          · exact decide_eq_true (by omega)
          · walk_at "rd"
            rw [if_neg z] at q'
            exact q' H1 s1
      · rintro σ H2 ⟨rfl, rfl, z⟩
        walk_at "rd"
        refine r_ixT ha1 rfl ?_
        refine r_I (by exact ⟨by omega, small_log (by omega) (by omega)⟩) ?_
        rw [if_pos z] at q'
        exact q' _ s1
  | node wd fs =>
    unfold IsF at hf
    obtain ⟨a, b, bs, rfl, ha, hb, hbs⟩ := hf
    unfold OkF at okf
    unfold dep at hd
    unfold leaves at ht hz
    unfold sh at q
    refine ⟨_, (pss_cons (ps_if (pt_cmpR op_eq (pe_ix ix_tup (pv 0) pe_int (fun _ _ => rfl)) pe_str (nomark _))
    (pss_one (ps_ret (pe_dget (hu_of hr) (pv 1) (pe_ix ix_tup (pv 0) pe_int (fun _ _ => rfl)) (fun _ _ => rfl))))
    pss_nil)
    (pss_cons (ps_if (pt_cmpR op_eq (pe_ix ix_tup (pv 0) pe_int (fun _ _ => rfl)) pe_str (nomark _))
    (pss_cons (ps_set (i := 2) sc_u_share.nd rfl (.inl rfl) (pe_call G_u_share hr_u_share (by rfl) T.g_u_share T.F_u_share.kp T.b_u_share .nil pass0 (pa_cons (pe_ix ix_tup (pv 0) pe_int (fun _ _ => rfl)) (pa_cons (pv 1) pa_nil))))
    (Evl.pss_cut (ps_if (PW.pt (pw_or (pt_cmpR on_isN (pv 2) pe_non (nomark _)) (pw_or1 (pt_cmpR op_gt (pe_op op_modN (pv 2) (pe_ix ix_tup (pv 0) pe_int (fun _ _ => rfl))) pe_int (nomark _)))))
    (pss_one (ps_ret pe_non))
    pss_nil)
    (pss_one (ps_ret (pe_op op_fdivW (pv 2) (pe_ix ix_tup (pv 0) pe_int (fun _ _ => rfl)))))))
    pss_nil)
    (pss_cons (ps_setLc (i := 3) (own := [("part", 4)]) (g := gName 4) (by rfl) sc_u_share.nd rfl rfl (sw_true rfl rfl rfl (by decide +kernel)) (pi_tup (pe_ix ix_tup (pv 0) pe_int (fun _ _ => rfl))) (blkOk_by (N := N_u_share) (sc := defScope s_u_share) (by decide +kernel)) (fun _ _ _ _ _ => (pg_name (i := 4) sc_u_share.nd rfl (.inl rfl))) (fun _ _ _ _ _ => pts_nil) (fun _ _ _ _ _ => (pe_call G_u_share hr_u_share (by rfl) T.g_u_share T.F_u_share.kp T.b_u_share .nil pass0 (pa_cons (pv 4) (pa_cons (pv 1) pa_nil)))))
    (pss_cons (ps_if (pt_val (pe_callB (cr_any rfl) (by rfl) T.n_any (by decide +kernel) (pa_cons (pe_lc (own := [("number", 2)]) (g := gName 2) (by rfl) sc_u_share.nd (pi_list (pv 3)) (blkOk_by (N := N_u_share) (sc := defScope s_u_share) (by decide +kernel)) (fun _ _ _ _ _ => (pg_name (i := 2) sc_u_share.nd rfl (.inl rfl))) (fun _ _ _ _ _ => pts_nil) (fun _ _ _ _ _ => (pe_cmpR on_isN (pv 2) pe_non (nomark _)))) pa_nil)))
    (pss_one (ps_ret pe_non))
    pss_nil)
    (pss_cons (ps_if (pt_cmpR op_eq (pe_ix ix_tup (pv 0) pe_int (fun _ _ => rfl)) pe_str (nomark _))
    (pss_one (ps_ret (pe_callB (cr_sum rfl) (by rfl) T.n_sum (by decide +kernel) (pa_cons (pv 3) pa_nil))))
    pss_nil)
    (pss_one (ps_ret (pe_ifExp (pt_cmpR op_eq (pe_callB (cr_min rfl) (by rfl) T.n_min (by decide +kernel) (pa_cons (pv 3) pa_nil)) (pe_callB (cr_max rfl) (by rfl) T.n_max (by decide +kernel) (pa_cons (pv 3) pa_nil)) (nomark _)) (pe_ix ix_list (pv 3) pe_int (fun _ _ => rfl)) pe_non)))))))), ?_⟩
    refine start_is (σ' := [some (.ref a), some (.ref D), none, none, none]) rfl ?_
    walk_at "rd"
    refine r_ixT ha rfl ?_
    walk_at "rd"
    refine ite2 (fun e => absurd (of_decide_eq_true e) (word_kind wd)) (fun _ => ?_)
    walk_at "rd"
    refine r_ixT ha rfl ?_
    walk_at "rd"
    refine ite2 (fun e => absurd (of_decide_eq_true e) (word_many wd)) (fun _ => ?_)
    walk_at "rd"
    have bl : bs.length = fs.length := hbs.len
    have fl := okf.2.len
    refine r_ixT ha rfl ?_
    refine r_kITc (SqT.of hb) (fun Dl i acc H' => Sw [] H H' ∧ acc = (fs.take i).map fun f => vO (sh t f)) (fun x => [some (.ref a), some (.ref D), none, none, some x]) (fun x => rfl) (fun x => rfl) ?_ ?_ ?_ ?_
    · intro Dl H1 n1 s1
      exact ⟨s1, rfl⟩
    · rintro Dl i acc H1 n1 e1 ⟨s1, _⟩
      exact SqT.of (s1.tup _ _ hb)
    · rintro Dl i x acc H1 n1 hx e1 ⟨s1, rfl⟩
      obtain ⟨f, hfi, hfx⟩ := hbs.at hx
      have mf := List.mem_of_getElem? hfi
      have il : i < fs.length := (List.getElem?_eq_some_iff.mp hfi).1
      refine r_yes ?_
      walk_at "rd"
      have lf : (leaves f).length ≤ 60 := by
        obtain ⟨r, hr'⟩ := leavesL_pre fs (i + 1)
        rw [leavesL_take hfi] at hr'
        rw [hr', List.length_append, List.length_append] at hz
        omega
      refine ⟨x, f, D, kvs, t, rfl, hfx.sw s1, okf.2.mem mf, by have := depL_mem mf; omega, lf, s1.keep _ _ not0 hD, fun z m => ht z (mem_leavesL mf m), fun H2 s2 => ?_⟩
      refine kPut_of _ (s2.keep _ _ not0 e1) (by rw [List.length_map, List.length_take, sizeLine_eq]; omega) fun H3 s3 e3 => ⟨(s1.trans s2).over1 s3 n1, ?_⟩
      rw [List.take_add_one, hfi, List.map_append]
      rfl
    · rintro Dl acc H1 n1 e1 ⟨s1, rfl⟩
      rw [bl, List.take_length] at e1
      walk_at "rd"
      have ha1 := s1.tup _ _ ha
      refine r_kILc (SqL.of e1) (fun Dm i acc H' => Sw [] H1 H' ∧ acc = ((fs.take i).map fun f => decide (vO (sh t f) = V.non)).map V.bl) (fun x => [some (.ref a), some (.ref D), some x, some (.ref Dl), none]) (fun x => rfl) (fun x => rfl) ?_ ?_ ?_ ?_
      · intro Dm H2 n2 s2
        exact ⟨s2, rfl⟩
      · rintro Dm i acc H2 n2 e2 ⟨s2, _⟩
        exact SqL.of (s2.keep _ _ not0 e1)
      · rintro Dm i x acc H2 n2 hx e2 ⟨s2, rfl⟩
        rw [List.getElem?_map] at hx
        obtain ⟨f, hfi, rfl⟩ := Option.map_eq_some_iff.mp hx
        have il : i < fs.length := (List.getElem?_eq_some_iff.mp hfi).1
        refine r_yes ?_
        walk_at "rd"
        refine kPut_of _ e2 (by rw [List.length_map, List.length_map, List.length_take, sizeLine_eq]; omega) fun H3 s3 e3 => ⟨s2.over1 s3 n2, ?_⟩
        rw [List.take_add_one, hfi, List.map_append, List.map_append]
        rfl
      · rintro Dm acc H2 n2 e2 ⟨s2, rfl⟩
        rw [List.length_map, List.take_length] at e2
        walk_at "rd"
        refine r_any e2 ?_
        walk_at "rd"
        have S2 := s1.trans s2
        cases es : shL t fs with
        | none =>
          obtain ⟨f, mf, ef⟩ := shL_none es
          rw [es] at q
          refine iteT' ?_ ?_
          · rw [List.any_eq_true]
            exact ⟨true, List.mem_map.mpr ⟨f, mf, by rw [ef]; rfl⟩, rfl⟩
          · walk_at "rd"
            exact q H2 S2
        | some ks =>
          obtain ⟨m1, m2⟩ := shL_some es
          rw [es] at q
          have q' : ∀ H', Sw [] H H' → Q (vO (if wd = true then andN ks else some ks.sum)) H' := q
          have k0 : ks.length ≠ 0 := fun e => okf.1 (List.length_eq_zero_iff.mp (by omega))
          refine iteF' ?_ ?_
          · rw [List.any_eq_false]
            intro bb mb
            obtain ⟨f, mf, rfl⟩ := List.mem_map.mp mb
            obtain ⟨k, hk⟩ := shL_all es f mf
            rw [hk]
            exact fun x => Bool.noConfusion x
          · walk_at "rd"
            refine r_ixT (s2.tup _ _ ha1) rfl ?_
            walk_at "rd"
            have e3 : H2 Dl = some (.lst (ks.map V.int)) := by rw [s2.keep _ _ not0 e1, m1]
            refine ite2 (fun ew => ?_) (fun ew => ?_)
            · have ew := word_or wd (of_decide_eq_true ew)
              subst ew
              walk_at "rd"
              refine r_sum e3 ?_
              exact q' H2 S2
            · have ew := word_nor wd (fun e => ew (decide_eq_true e))
              subst ew
              rw [if_pos rfl] at q'
              walk_at "rd"
              refine r_min e3 (by omega) fun lo lm ll => ?_
              walk_at "rd"
              refine r_max e3 (by omega) fun hi hm hl => ?_
              walk_at "rd"
              cases ks with
              | nil => exact absurd rfl k0
              | cons k r =>
                rw [andN_at lm ll hm hl] at q'
                refine ite2 (fun e => ?_) (fun e => ?_)
                · rw [if_pos (of_decide_eq_true e)] at q'
                  walk_at "rd"
                  exact r_ixL' (v := .int k) e3 (show atI _ ((0 : Nat) : Int) = _ from atI_nat rfl) (q' H2 S2)
                · rw [if_neg (fun x => e (decide_eq_true x))] at q'
                  walk_at "rd"
                  exact q' H2 S2
theorem ok_u_share (T : Tx K mg) : ∀ d, FnOk P w K mg base CX0 (1 + d) T.f_u_share T.d_u_share ["formula", "table"] (spShare d)
  | 0 => ok_u_share0 T
  | d + 1 => ok_u_shareS T d (ok_u_share T d)
theorem ok_q_share (T : Tx K mg) (d : Nat) : FnOk P w K mg base CX0 (4 + d) T.f_q_share T.d_q_share ["formula", "amounts"] (spShareQ d) := by
  have G_q_kinds_of := ok_q_kinds_of (P := P) (w := w) (base := base) T d
  have G_u_share := ok_u_share (P := P) (w := w) (base := base) T d
  rw [show 4 + d = 3 + d + 1 by omega]
  refine T.F_q_share.ok sc_q_share (fun vs H Q E h => ?_) (fun cdv A outer s H vs Q E hr h => ?_)
  · obtain ⟨v, f, a, ns, u, rfl, _⟩ := h
    rfl
  obtain ⟨v, f, a, ns, u, rfl, hf, okf, hd, hz, nd, pm, so, ha, q⟩ := h
  have hr_q_kinds_of := hr
  have hr_u_share := hr.mono (show 1 + d ≤ 3 + d by omega)
  refine ⟨_, (pss_one (ps_ret (pe_call G_u_share hr_u_share (by rfl) T.g_u_share T.F_u_share.kp T.b_u_share .nil pass0 (pa_cons (pv 0) (pa_cons (pe_dictzip (by rfl) (by rfl) T.n_dict (by rfl) T.n_zip (pa_cons (pe_call G_q_kinds_of hr_q_kinds_of (by rfl) T.g_q_kinds_of T.F_q_kinds_of.kp T.b_q_kinds_of .nil pass0 (pa_cons (pv 0) pa_nil)) (pa_cons (pv 1) pa_nil))) pa_nil))))), ?_⟩
  refine start_is (σ' := [some (v), some (.ref a)]) rfl ?_
  walk_at "rd"
  refine ⟨v, f, ns, rfl, hf, okf, hd, hz, nd, pm, so, fun p H1 np s1 e1 => ?_⟩
  walk_at "rd"
  have ea : H1 p = some (.tup ((ns.map (Sum.inr : Str → Key)).map kV)) := by
    rw [e1, List.map_map]
    rfl
  refine ⟨p, a, ns.map Sum.inr, tv ns u, rfl, ea, s1.keep _ _ not0 ha, by rw [List.length_map, tv_len], fun D nD => ?_⟩
  have s2 : Sw [] H1 (upd H1 D (.dK (mergeK [] ((ns.map (Sum.inr : Str → Key)).zip (tv ns u))))) := Sw.new nD
  have e2 : upd H1 D (.dK (mergeK [] ((ns.map (Sum.inr : Str → Key)).zip (tv ns u)))) D = some (.dK (mergeK [] ((ns.map (Sum.inr : Str → Key)).zip (tv ns u)))) := upd_same
  generalize upd H1 D (.dK (mergeK [] ((ns.map (Sum.inr : Str → Key)).zip (tv ns u)))) = H2 at s2 e2 ⊢
  walk_at "rd"
  have ndi : (ns.map (Sum.inr : Str → Key)).Nodup := Vf.nodup_map_on (fun a _ b _ e => Sum.inr.inj e) (pm.symm.nodup nd)
  rw [merge_zip ndi (by rw [List.length_map, tv_len])] at e2
  refine ⟨v, f, D, _, u, rfl, (hf.sw s1).sw s2, okf, hd, hz, e2, fun z m => ?_, fun H3 s3 => q H3 ((s1.trans s2).trans s3)⟩
  have mz := pm.symm.subset m
  obtain ⟨i, hi⟩ := List.mem_iff_getElem?.mp mz
  exact valV_zip (i := i) ndi (by rw [List.getElem?_map, hi]; rfl) (tv_get hi)
theorem ok_q_is_number (T : Tx K mg) : FnOk P w K mg base CX0 1 T.f_q_is_number T.d_q_is_number ["value"] spNum := by
  refine T.F_q_is_number.ok sc_q_is_number (fun vs H Q E h => ?_) (fun cdv A outer s H vs Q E hr h => ?_)
  · obtain ⟨n, rfl, _⟩ := h
    rfl
  obtain ⟨n, rfl, q⟩ := h
  refine ⟨_, (pss_one (ps_ret (pe_and (pe_callB call_isi (by rfl) T.n_isinstance (by decide +kernel) (pa_cons (pv 0) (pa_cons (pe_bltn (v := .ty "int") (u := .type "int") (by rfl) T.n_int (by decide +kernel) rfl) pa_nil))) (pe_and (pe_not (pe_callB call_isi (by rfl) T.n_isinstance (by decide +kernel) (pa_cons (pv 0) (pa_cons (pe_bltn (v := .ty "bool") (u := .type "bool") (by rfl) T.n_bool (by decide +kernel) rfl) pa_nil)))) (pe_one (pe_cmpR op_ge (pv 0) pe_int (nomark _))))))), ?_⟩
  refine start_is (σ' := [some (.int n)]) rfl ?_
  walk_at "rd"
  refine r_isi (T := "int") (b := true) (.base (.int n)) (by decide +kernel) ?_
  walk_at "rd"
  refine iteT ?_
  walk_at "rd"
  refine r_isi (T := "int") (b := false) (.base (.int n)) (by decide +kernel) ?_
  walk_at "rd"
  refine iteT ?_
  walk_at "rd"
  exact q H (Sw.refl _ _)
theorem ok_q_are_numbers (T : Tx K mg) : FnOk P w K mg base CX0 2 T.f_q_are_numbers T.d_q_are_numbers ["value", "count"] spNums := by
  have G_q_is_number := ok_q_is_number (P := P) (w := w) (base := base) T
  refine T.F_q_are_numbers.ok sc_q_are_numbers (fun vs H Q E h => ?_) (fun cdv A outer s H vs Q E hr h => ?_)
  · obtain ⟨a, ns, n, rfl, _⟩ := h
    rfl
  obtain ⟨a, ns, n, rfl, ha, hn, hz, hp, q⟩ := h
  have hr_q_is_number := hr
  refine ⟨_, (Evl.pss_cut (ps_if (PW.pt (pw_or (pt_not (pt_val (pe_callB call_isi (by rfl) T.n_isinstance (by decide +kernel) (pa_cons (pv 0) (pa_cons (pe_bltn (v := .ty "tuple") (u := .type "tuple") (by rfl) T.n_tuple (by decide +kernel) rfl) pa_nil))))) (pw_or1 (pt_cmpR op_ne (pe_callB cn_len (by rfl) T.n_len (by decide +kernel) (pa_cons (pv 0) pa_nil)) (pv 1) (nomark _)))))
    (pss_one (ps_ret pe_bl))
    pss_nil)
    (pss_one (ps_ret (pe_callB (cr_all rfl) (by rfl) T.n_all (by decide +kernel) (pa_cons (pe_lc (own := [("item", 2)]) (g := gName 2) (by rfl) sc_q_are_numbers.nd (pi_tup (pv 0)) (blkOk_by (N := N_q_are_numbers) (sc := defScope s_q_are_numbers) (by decide +kernel)) (fun _ _ _ _ _ => (pg_name (i := 2) sc_q_are_numbers.nd rfl (.inl rfl))) (fun _ _ _ _ _ => pts_nil) (fun _ _ _ _ _ => (pe_call G_q_is_number hr_q_is_number (by rfl) T.g_q_is_number T.F_q_is_number.kp T.b_q_is_number .nil pass0 (pa_cons (pv 2) pa_nil)))) pa_nil))))), ?_⟩
  refine start_is (σ' := [some (.ref a), some (.int n), none]) rfl ?_
  refine r_cut (M := fun σ H' => σ = [some (.ref a), some (.int n), none] ∧ H' = H) ?_ ?_
  · walk_at "rd"
    refine r_isi (T := "tuple") (b := true) (.base (.tup ha)) (by decide +kernel) ?_
    walk_at "rd"
    refine iteF ?_
    walk_at "rd"
    refine r_lenT ha ?_
    walk_at "rd"
    refine iteF' (by rw [List.length_map, hn, decide_eq_true rfl]; rfl) ?_
    walk_at "rd"
    exact ⟨rfl, rfl⟩
  · rintro σ H1 ⟨rfl, rfl⟩
    walk_at "rd"
    refine r_kITc (SqT.of ha) (fun Dl i acc H' => Sw [] H1 H' ∧ acc = ((ns.take i).map fun k => decide (0 ≤ k)).map V.bl) (fun x => [some (.ref a), some (.int n), some x]) (fun x => rfl) (fun x => rfl) ?_ ?_ ?_ ?_
    · intro Dl H2 n2 s2
      exact ⟨s2, rfl⟩
    · rintro Dl i acc H2 n2 e2 ⟨s2, _⟩
      exact SqT.of (s2.keep _ _ not0 ha)
    · rintro Dl i x acc H2 n2 hx e2 ⟨s2, rfl⟩
      rw [List.getElem?_map] at hx
      obtain ⟨k, hk, rfl⟩ := Option.map_eq_some_iff.mp hx
      refine r_yes ?_
      walk_at "rd"
      refine ⟨k, rfl, fun H3 s3 => ?_⟩
      refine kPut_of _ (s3.keep _ _ not0 e2) (by rw [List.length_map, List.length_map, List.length_take, sizeLine_eq]; omega) fun H4 s4 e4 => ⟨(s2.trans s3).over1 s4 n2, ?_⟩
      rw [List.take_add_one, hk, List.map_append, List.map_append]
      rfl
    · rintro Dl acc H2 n2 e2 ⟨s2, rfl⟩
      rw [List.length_map, List.take_length] at e2
      walk_at "rd"
      refine r_all e2 ?_
      have e3 : ((ns.map fun k => decide (0 ≤ k)).all id) = true := by
        rw [List.all_eq_true]
        intro b mb
        obtain ⟨k, mk, rfl⟩ := List.mem_map.mp mb
        exact decide_eq_true (hp k mk)
      rw [e3]
      exact q H2 s2
theorem ok_q_is_way (T : Tx K mg) (d : Nat) : FnOk P w K mg base CX0 (5 + d) T.f_q_is_way T.d_q_is_way ["formula", "value"] (spIsWay d) := by
  have G_q_kinds_of := ok_q_kinds_of (P := P) (w := w) (base := base) T d
  have G_q_share := ok_q_share (P := P) (w := w) (base := base) T d
  have G_q_are_numbers := ok_q_are_numbers (P := P) (w := w) (base := base) T
  rw [show 5 + d = 4 + d + 1 by omega]
  refine T.F_q_is_way.ok sc_q_is_way (fun vs H Q E h => ?_) (fun cdv A outer s H vs Q E hr h => ?_)
  · obtain ⟨v, f, a, ns, u, rfl, _⟩ := h
    rfl
  obtain ⟨v, f, a, ns, u, rfl, hf, okf, hd, hz, nd, pm, so, ha, hp, q⟩ := h
  have hr_q_kinds_of := hr.mono (show 3 + d ≤ 4 + d by omega)
  have hr_q_share := hr
  have hr_q_are_numbers := hr.mono (show 2 ≤ 4 + d by omega)
  refine ⟨_, (pss_one (ps_ret (pe_and (pe_call G_q_are_numbers hr_q_are_numbers (by rfl) T.g_q_are_numbers T.F_q_are_numbers.kp T.b_q_are_numbers .nil pass0 (pa_cons (pv 1) (pa_cons (pe_callB cn_len (by rfl) T.n_len (by decide +kernel) (pa_cons (pe_call G_q_kinds_of hr_q_kinds_of (by rfl) T.g_q_kinds_of T.F_q_kinds_of.kp T.b_q_kinds_of .nil pass0 (pa_cons (pv 0) pa_nil)) pa_nil)) pa_nil))) (pe_one (pe_cmpR op_eq (pe_call G_q_share hr_q_share (by rfl) T.g_q_share T.F_q_share.kp T.b_q_share .nil pass0 (pa_cons (pv 0) (pa_cons (pv 1) pa_nil))) pe_int (nomark _)))))), ?_⟩
  refine start_is (σ' := [some (v), some (.ref a)]) rfl ?_
  walk_at "rd"
  refine ⟨v, f, ns, rfl, hf, okf, hd, hz, nd, pm, so, fun p H1 np s1 e1 => ?_⟩
  walk_at "rd"
  refine r_lenT e1 ?_
  walk_at "rd"
  have ea : H1 a = some (.tup ((ns.map u).map V.int)) := by
    rw [s1.keep _ _ not0 ha]
    unfold tv
    rw [List.map_map]
    rfl
  refine ⟨a, ns.map u, _, rfl, ea, by rw [List.length_map, List.length_map], by rw [List.length_map, pm.length_eq]; exact hz, fun k mk => ?_, fun H2 s2 => ?_⟩
  · obtain ⟨z, mz, rfl⟩ := List.mem_map.mp mk
    exact hp z mz
  refine ⟨_, rfl, ?_⟩
  refine iteT ?_
  walk_at "rd"
  have S2 := s1.trans s2
  refine ⟨v, f, a, ns, u, rfl, hf.sw S2, okf, hd, hz, nd, pm, so, S2.keep _ _ not0 ha, fun H3 s3 => ?_⟩
  walk_at "rd"
  have q3 := q H3 (S2.trans s3)
  cases e : sh u f with
  | none =>
    rw [e] at q3
    exact ⟨rfl, q3⟩
  | some k =>
    rw [e] at q3
    refine r_eqI ?_
    have e2 : decide (k = 1) = decide (some k = some (1 : Int)) := decide_eq_decide.mpr ⟨fun x => by rw [x], fun x => Option.some.inj x⟩
    rw [e2]
    exact q3
end
end K14
/-! D8 -/


namespace K14
open PySem PySem.Spec PyProof.Rows L2 Vf
section
variable {P : Program} {w : World} {K : PySem.W.Frag} {mg : Str → Option Value} {base : Heap}
theorem ok_l_sums (T : Tx K mg) : FnOk P w K mg base CX0 1 T.f_l_sums T.d_l_sums ["some", "more"] spSums := by
  refine T.F_l_sums.ok sc_l_sums (fun vs H Q E h => ?_) (fun cdv A outer s H vs Q E hr h => ?_)
  · obtain ⟨d1, d2, ns, S1, S2, k1, k2, rfl, _⟩ := h
    rfl
  obtain ⟨d1, d2, ns, S1, S2, k1, k2, rfl, h1, h2, L1, L2, hz, nz, q⟩ := h
  refine ⟨_, (pss_cons (ps_set (i := 2) sc_l_sums.nd rfl (.inl rfl) pe_dnewT)
    (pss_cons (ps_for PassesOwn.never rfl (pi_list (pe_callTy (cn_listT rfl) (by rfl) T.n_list (by decide +kernel) (pa_cons (pv 0) pa_nil))) (pg_name (i := 3) sc_l_sums.nd rfl (.inr rfl))
    (pss_one (ps_for PassesOwn.never rfl (pi_list (pe_callTy (cn_listT rfl) (by rfl) T.n_list (by decide +kernel) (pa_cons (pv 1) pa_nil))) (pg_name (i := 4) sc_l_sums.nd rfl (.inr rfl))
    (pss_one (ps_dput (hu_of hr) (pv 2) (pe_callTy cn_tuple (by rfl) T.n_tuple (by decide +kernel) (pa_cons (pe_lc (own := [("k", 5)]) (g := gName 5) (by rfl) sc_l_sums.nd (pi_range1 (by rfl) T.n_range (pa_cons (pe_callB cn_len (by rfl) T.n_len (by decide +kernel) (pa_cons (pv 3) pa_nil)) pa_nil)) (blkOk_by (N := N_l_sums) (sc := defScope s_l_sums) (by decide +kernel)) (fun _ _ _ _ _ => (pg_name (i := 5) sc_l_sums.nd rfl (.inl rfl))) (fun _ _ _ _ _ => pts_nil) (fun _ _ _ _ _ => (pe_op op_add (pe_ix (ix_tupK (K := K) rfl) (pv 3) (pv 5) (fun _ _ => rfl)) (pe_ix (ix_tupK (K := K) rfl) (pv 4) (pv 5) (fun _ _ => rfl))))) pa_nil)) pe_bl rfl)))))
    (pss_one (ps_ret (pv 2))))), ?_⟩
  refine start_is (σ' := [some (.ref d1), some (.ref d2), none, none, none, none]) rfl ?_
  walk_at "rd"
  refine r_newT fun D H1 nD s1 e1 => ?_
  walk_at "rd"
  refine r_listDT (s1.keep _ _ not0 h1) fun p bs H2 np s2 ik1 e2 => ?_
  have S2' : Sw [] H H2 := s1.trans s2
  have nb1 := isKeys_len ik1
  have pD : p ≠ D := Ne.symm (ne_of_none e1 np)
  refine r_kFL (SqL.of e2) (fun i σ' H' => ∃ (kv : List (List Key × V)) (a3 a4 a5 : Option V), σ' = [some (.ref d1), some (.ref d2), some (.ref D), a3, a4, a5] ∧ H' D = some (.dT kv) ∧ Sw [D] H2 H' ∧ kv.length ≤ i * k2.length ∧
      (∀ k ∈ kv.map Prod.fst, ∃ u, Sum2 S1 S2 u ∧ k = kk ns u) ∧ (kv.map Prod.fst).Nodup ∧ (∀ j a b, j < i → (k1.map Prod.fst)[j]? = some (kk ns a) → kk ns b ∈ k2.map Prod.fst → kk ns (addA a b) ∈ kv.map Prod.fst))
    ⟨[], _, _, _, rfl, s2.keep _ _ not0 e1, Sw.refl _ _, Nat.zero_le _, fun k m => absurd m List.not_mem_nil, List.nodup_nil, fun j a b h => absurd h (Nat.not_lt_zero j)⟩ ?_ ?_ ?_
  · rintro i σ' H3 _ ⟨kv, a3, a4, a5, rfl, e3, s3, _⟩
    exact SqL.of (s3.keep _ _ (not1 pD) e2)
  · rintro i x σ' H3 hx ⟨kv, a3, a4, a5, rfl, e3, s3, lv, sn, nd, cp⟩
    obtain ⟨pa, ba, hpa, rfl, hba⟩ := isKeys_at' ik1 hx
    have ka : (k1.map Prod.fst)[i]? = some pa.1 := by rw [List.getElem?_map, hpa]; rfl
    obtain ⟨a0, sa0, ea0⟩ := L1.snd pa.1 (List.mem_of_getElem? ka)
    rw [ea0, kk_map] at hba
    rw [ea0] at ka
    have i1 : i < k1.length := (List.getElem?_eq_some_iff.mp hpa).1
    walk_at "rd"
    have h2' : H3 d2 = some (.dT k2) := s3.keep _ _ (not1 (ne_of_none h2 nD)) (S2'.keep _ _ not0 h2)
    refine r_listDT h2' fun p2 bs2 H4 np2 s4 ik2 e4 => ?_
    have nb2 := isKeys_len ik2
    have p2D : p2 ≠ D := Ne.symm (ne_of_none e3 np2)
    have S4 : Sw [D] H2 H4 := s3.trans s4.any
    refine r_kFL (SqL.of e4) (fun j σ' H' => ∃ (kv : List (List Key × V)) (a4 a5 : Option V), σ' = [some (.ref d1), some (.ref d2), some (.ref D), some (.ref ba), a4, a5] ∧ H' D = some (.dT kv) ∧ Sw [D] H4 H' ∧ kv.length ≤ i * k2.length + j ∧
        (∀ k ∈ kv.map Prod.fst, ∃ u, Sum2 S1 S2 u ∧ k = kk ns u) ∧ (kv.map Prod.fst).Nodup ∧ (∀ j a b, j < i → (k1.map Prod.fst)[j]? = some (kk ns a) → kk ns b ∈ k2.map Prod.fst → kk ns (addA a b) ∈ kv.map Prod.fst) ∧
        (∀ l a b, l < j → (k1.map Prod.fst)[i]? = some (kk ns a) → (k2.map Prod.fst)[l]? = some (kk ns b) → kk ns (addA a b) ∈ kv.map Prod.fst))
      ⟨kv, _, _, rfl, s4.keep _ _ not0 e3, Sw.refl _ _, lv, sn, nd, cp, fun l a b h => absurd h (Nat.not_lt_zero l)⟩ ?_ ?_ ?_
    · rintro j σ' H5 _ ⟨kv, a4, a5, rfl, e5, s5, _⟩
      exact SqL.of (s5.keep _ _ (not1 p2D) e4)
    · rintro j x σ' H5 hx2 ⟨kv, a4, a5, rfl, e5, s5, lv, sn, nd, cp, cr⟩
      obtain ⟨pb, bb, hpb, rfl, hbb⟩ := isKeys_at' ik2 hx2
      have kb : (k2.map Prod.fst)[j]? = some pb.1 := by rw [List.getElem?_map, hpb]; rfl
      obtain ⟨b0, sb0, eb0⟩ := L2.snd pb.1 (List.mem_of_getElem? kb)
      rw [eb0, kk_map] at hbb
      rw [eb0] at kb
      have j1 : j < k2.length := (List.getElem?_eq_some_iff.mp hpb).1
      have hba5 := s5.tup _ _ (S4.tup _ _ hba)
      have hbb5 := s5.tup _ _ hbb
      walk_at "rd"
      refine r_lenT hba5 ?_
      walk_at "rd"
      rw [tv_len]
      refine r_kIRc ⟨by omega, by omega⟩ (fun Dl l acc H' => Sw [] H5 H' ∧ acc = tv (ns.take l) (addA a0 b0)) (fun x => [some (.ref d1), some (.ref d2), some (.ref D), some (.ref ba), some (.ref bb), some x]) (fun x => rfl) (fun x => rfl) ?_ ?_ ?_
      · intro Dl H6 n6 s6
        exact ⟨s6, rfl⟩
      · rintro Dl l acc H6 n6 hl e6 ⟨s6, rfl⟩
        have hz : ns[l]? = some (ns[l]'(by omega)) := List.getElem?_eq_getElem (by omega)
        refine r_yes ?_
        walk_at "rd"
        refine r_ixT (s6.tup _ _ hba5) (atI_nat (tv_get hz)) ?_
        walk_at "rd"
        refine r_ixT (s6.tup _ _ hbb5) (atI_nat (tv_get hz)) ?_
        walk_at "rd"
        refine kPut_of _ e6 (by rw [tv_len, List.length_take, sizeLine_eq]; omega) fun H7 s7 e7 => ?_
        refine ⟨s6.over1 s7 n6, ?_⟩
        unfold tv
        rw [List.take_add_one, List.map_append, hz]
        rfl
      · rintro Dl acc H6 n6 e6 ⟨s6, rfl⟩
        walk_at "rd"
        refine r_tupL e6 fun t H7 n7 s7 e7 => ?_
        have et : ns.take (ns.length : Int).toNat = ns := by rw [Int.toNat_natCast, List.take_length]
        rw [et, ← kk_map] at e7
        walk_at "rd"
        have e5' := s7.keep _ _ not0 (s6.keep _ _ not0 e5)
        have lk : kv.length < sizeLine := by
          have m1 : (i + 1) * k2.length ≤ k1.length * k2.length := Nat.mul_le_mul_right _ (by omega)
          rw [Nat.succ_mul] at m1
          rw [sizeLine_eq]
          omega
        refine r_kDPutT e5' e7 lk fun H8 s8 e8 => ?_
        refine ⟨_, _, _, rfl, e8, (s5.trans (s6.trans s7).any).trans s8, ?_, fun k m => ?_, keys_put_nd nd, fun l a b h x y => keys_put_mem.mpr (.inr (cp l a b h x y)), fun l a b h x y => ?_⟩
        · have := length_putK kv (kk ns (addA a0 b0)) (.bl true)
          omega
        · rcases keys_put_mem.mp m with e | m
          · exact ⟨_, ⟨a0, b0, sa0, sb0, rfl⟩, e⟩
          · exact sn k m
        · refine keys_put_mem.mpr ?_
          rcases Nat.lt_or_eq_of_le (Nat.le_of_lt_succ h) with h | rfl
          · exact .inr (cr l a b h x y)
          · refine .inl (kk_add ?_ ?_)
            · exact Option.some.inj (x.symm.trans ka)
            · exact Option.some.inj (y.symm.trans kb)
    · rintro σ' H5 ⟨kv, a4, a5, rfl, e5, s5, lv, sn, nd, cp, cr⟩
      rw [List.length_map, nb2] at lv cr
      refine ⟨kv, _, _, _, rfl, e5, S4.trans s5, by rw [Nat.succ_mul]; exact lv, sn, nd, fun j a b h x y => ?_⟩
      rcases Nat.lt_or_eq_of_le (Nat.le_of_lt_succ h) with h | rfl
      · exact cp j a b h x y
      · obtain ⟨l, hl⟩ := List.mem_iff_getElem?.mp y
        have l1 : l < k2.length := by
          have := (List.getElem?_eq_some_iff.mp hl).1
          rw [List.length_map] at this
          exact this
        exact cr l a b l1 x hl
  · rintro σ' H3 ⟨kv, a3, a4, a5, rfl, e3, s3, lv, sn, nd, cp⟩
    rw [List.length_map, nb1] at lv cp
    walk_at "rd"
    refine q D kv H3 nD (S2'.over1 s3 nD) e3 ⟨sn, fun u hu => ?_, nd⟩ lv
    obtain ⟨a, b, sa, sb, rfl⟩ := hu
    obtain ⟨l, hl⟩ := List.mem_iff_getElem?.mp (L1.cpl a sa)
    have l1 : l < k1.length := by
      have := (List.getElem?_eq_some_iff.mp hl).1
      rw [List.length_map] at this
      exact this
    exact cp l a b l1 hl (L2.cpl b sb)
end
end K14
/-! D9 -/


namespace K14
open PySem PySem.Spec PyProof.Rows L2 Vf
section
variable {P : Program} {w : World} {K : PySem.W.Frag} {mg : Str → Option Value} {base : Heap}
theorem ok_l_laid0 (T : Tx K mg) : FnOk P w K mg base CX0 2 T.f_l_laid T.d_l_laid ["formula", "names"] (spLaid 0) := by
  refine T.F_l_laid.ok sc_l_laid (fun vs H Q E h => ?_) (fun cdv A outer s H vs Q E hr h => ?_)
  · obtain ⟨v, f, l, ns, rfl, _⟩ := h
    rfl
  obtain ⟨v, f, l, ns, rfl, hf, okf, hd, _⟩ := h
  cases f <;> simp [dep] at hd
theorem ok_l_laidS (T : Tx K mg) (d : Nat) (G_l_laid : FnOk P w K mg base CX0 (2 + d) T.f_l_laid T.d_l_laid ["formula", "names"] (spLaid d)) : FnOk P w K mg base CX0 (2 + d + 1) T.f_l_laid T.d_l_laid ["formula", "names"] (spLaid (d + 1)) := by
  have G_l_sums := ok_l_sums (P := P) (w := w) (base := base) T
  refine T.F_l_laid.ok sc_l_laid (fun vs H Q E h => ?_) (fun cdv A outer s H vs Q E hr h => ?_)
  · obtain ⟨v, f, l, ns, rfl, _⟩ := h
    rfl
  obtain ⟨v, f, l, ns, rfl, hf, okf, hd, hc, hl, nz, n0, nd, q⟩ := h
  have hr_l_laid := hr
  have hr_l_sums := hr.mono (show 1 ≤ 2 + d by omega)
  cases f with
  | kind z =>
    unfold IsF at hf
    obtain ⟨a, rfl, ha⟩ := hf
    refine ⟨_, (pss_cons (ps_if (pt_cmpR op_eq (pe_ix ix_tup (pv 0) pe_int (fun _ _ => rfl)) pe_str (nomark _))
    (pss_one (ps_ret (pe_disp1T (hu_of hr) (pe_callTy cn_tuple (by rfl) T.n_tuple (by decide +kernel) (pa_cons (pe_lc (own := [("name", 5)]) (g := gName 5) (by rfl) sc_l_laid.nd (pi_list (pv 1)) (blkOk_by (N := N_l_laid) (sc := defScope s_l_laid) (by decide +kernel)) (fun _ _ _ _ _ => (pg_name (i := 5) sc_l_laid.nd rfl (.inl rfl))) (fun _ _ _ _ _ => pts_nil) (fun _ _ _ _ _ => (pe_callTy cn_int (by rfl) T.n_int (by decide +kernel) (pa_cons (pe_cmpR op_eq (pv 5) (pe_ix (ix_tupK (K := K) rfl) (pv 0) pe_int (fun _ _ => rfl)) (nomark _)) pa_nil)))) pa_nil)) pe_bl)))
    pss_nil)
    (pss_cons (ps_if (pt_cmpR op_eq (pe_ix ix_tup (pv 0) pe_int (fun _ _ => rfl)) pe_str (nomark _))
    (pss_cons (ps_par (by rfl) sc_l_laid.nd (i := 2) (j := 3) rfl rfl (by decide) rfl rfl (pa_cons (pe_call G_l_laid hr_l_laid (by rfl) T.g_l_laid T.F_l_laid.kp T.b_l_laid .nil pass0 (pa_cons (pe_ix ix_tup (pv 0) pe_int (fun _ _ => rfl)) (pa_cons (pv 1) pa_nil))) (pa_cons (pe_disp1T (hu_of hr) (pe_op op_repT1 (pe_tup (pa_cons pe_int pa_nil)) (pe_callB cn_len (by rfl) T.n_len (by decide +kernel) (pa_cons (pv 1) pa_nil))) pe_bl) pa_nil)) (by rfl))
    (pss_cons (ps_for PassesOwn.never rfl (pi_range1 (by rfl) T.n_range (pa_cons (pe_ix ix_tup (pv 0) pe_int (fun _ _ => rfl)) pa_nil)) (pg_name (i := 4) sc_l_laid.nd rfl (.inl rfl))
    (pss_one (ps_set (i := 3) sc_l_laid.nd rfl (.inl rfl) (pe_call G_l_sums hr_l_sums (by rfl) T.g_l_sums T.F_l_sums.kp T.b_l_sums .nil pass0 (pa_cons (pv 3) (pa_cons (pv 2) pa_nil))))))
    (pss_one (ps_ret (pv 3)))))
    pss_nil)
    (pss_cons (ps_set (i := 3) sc_l_laid.nd rfl (.inl rfl) (pe_call G_l_laid hr_l_laid (by rfl) T.g_l_laid T.F_l_laid.kp T.b_l_laid .nil pass0 (pa_cons (pe_ix ix_tup (pe_ix ix_tup (pv 0) pe_int (fun _ _ => rfl)) pe_int (fun _ _ => rfl)) (pa_cons (pv 1) pa_nil))))
    (pss_cons (ps_for PassesOwn.never rfl (pi_tup (pe_slice sl_tupA (pe_ix ix_tup (pv 0) pe_int (fun _ _ => rfl)) (po_some pe_int) po_none)) (pg_name (i := 2) sc_l_laid.nd rfl (.inl rfl))
    (pss_one (ps_if (pt_cmpR op_eq (pe_ix ix_tup (pv 0) pe_int (fun _ _ => rfl)) pe_str (nomark _))
    (pss_one (ps_set (i := 3) sc_l_laid.nd rfl (.inl rfl) (pe_call G_l_sums hr_l_sums (by rfl) T.g_l_sums T.F_l_sums.kp T.b_l_sums .nil pass0 (pa_cons (pv 3) (pa_cons (pe_call G_l_laid hr_l_laid (by rfl) T.g_l_laid T.F_l_laid.kp T.b_l_laid .nil pass0 (pa_cons (pv 2) (pa_cons (pv 1) pa_nil))) pa_nil)))))
    (pss_one (ps_expr (pe_bm PySem.F.plainAttrs_dict PySem.F.slot_dict_update PySem.F.type_dict_update (mt_updT (hu_of hr)) (pv 3) (pa_cons (pe_call G_l_laid hr_l_laid (by rfl) T.g_l_laid T.F_l_laid.kp T.b_l_laid .nil pass0 (pa_cons (pv 2) (pa_cons (pv 1) pa_nil))) pa_nil)))))))
    (pss_one (ps_ret (pv 3))))))), ?_⟩
    refine start_is (σ' := [some (.ref a), some (.ref l), none, none, none, none]) rfl ?_
    walk_at "rd"
    refine r_ixT ha rfl ?_
    walk_at "rd"
    refine iteT ?_
    walk_at "rd"
    refine r_disp fun p H1 np s1 e1 => ?_
    walk_at "rd"
    have hl1 := s1.keep _ _ not0 hl
    refine r_kILc (SqL.of hl1) (fun Dl i acc H' => Sw [] H1 H' ∧ acc = tv (ns.take i) (fun x => if x = z then 1 else 0)) (fun x => [some (.ref a), some (.ref l), none, none, none, some x]) (fun x => rfl) (fun x => rfl) ?_ ?_ ?_ ?_
    · intro Dl H2 n2 s2
      exact ⟨s2, rfl⟩
    · rintro Dl i acc H2 n2 e2 ⟨s2, _⟩
      exact SqL.of (s2.keep _ _ not0 hl1)
    · rintro Dl i x acc H2 n2 hx e2 ⟨s2, rfl⟩
      rw [List.getElem?_map] at hx
      obtain ⟨y, hy, rfl⟩ := Option.map_eq_some_iff.mp hx
      refine r_yes ?_
      walk_at "rd"
      refine r_ixT (s2.tup _ _ (s1.tup _ _ ha)) rfl ?_
      walk_at "rd"
      refine kPut_of _ e2 (by rw [tv_len, List.length_take, sizeLine_eq]; omega) fun H3 s3 e3 => ⟨s2.over1 s3 n2, ?_⟩
      unfold tv
      rw [List.take_add_one, hy, List.map_append]
      congr 1
      show [V.int (if decide (y = z) = true then 1 else 0)] = [V.int (if y = z then 1 else 0)]
      by_cases e : y = z
      · rw [if_pos e, if_pos (decide_eq_true e)]
      · rw [if_neg e, if_neg (by rw [decide_eq_false e]; decide)]
    · rintro Dl acc H2 n2 e2 ⟨s2, rfl⟩
      rw [List.length_map, List.take_length] at e2
      walk_at "rd"
      refine r_tupL e2 fun t H3 n3 s3 e3 => ?_
      walk_at "rd"
      refine r_kDisp (s3.keep _ _ not0 (s2.keep _ _ not0 e1)) e3 fun H4 s4 e4 => ?_
      refine q p _ H4 np (((s1.trans s2).trans s3).over1 s4 np) e4 (Lay.one.iff fun u => ?_) ?_
      · unfold Way
        exact Iff.rfl
      · unfold Vf.cnt
        exact Nat.le_refl 1
  | many n f =>
    have cp := cnt_pos okf
    unfold IsF at hf
    obtain ⟨a, b, rfl, ha, hb⟩ := hf
    unfold OkF at okf
    unfold dep at hd
    have cpf := cnt_pos okf.2.2
    have cn : Vf.cnt (.many n f) = Vf.cnt f ^ n := by
      rw [Vf.cnt]
    rw [cn] at hc q
    have cf : Vf.cnt f ≤ Vf.cnt f ^ n := by
      have := Nat.pow_le_pow_right cpf okf.1
      rw [Nat.pow_one] at this
      exact this
    refine ⟨_, (pss_cons (ps_if (pt_cmpR op_eq (pe_ix ix_tup (pv 0) pe_int (fun _ _ => rfl)) pe_str (nomark _))
    (pss_one (ps_ret (pe_disp1T (hu_of hr) (pe_callTy cn_tuple (by rfl) T.n_tuple (by decide +kernel) (pa_cons (pe_lc (own := [("name", 5)]) (g := gName 5) (by rfl) sc_l_laid.nd (pi_list (pv 1)) (blkOk_by (N := N_l_laid) (sc := defScope s_l_laid) (by decide +kernel)) (fun _ _ _ _ _ => (pg_name (i := 5) sc_l_laid.nd rfl (.inl rfl))) (fun _ _ _ _ _ => pts_nil) (fun _ _ _ _ _ => (pe_callTy cn_int (by rfl) T.n_int (by decide +kernel) (pa_cons (pe_cmpR op_eq (pv 5) (pe_ix (ix_tupK (K := K) rfl) (pv 0) pe_int (fun _ _ => rfl)) (nomark _)) pa_nil)))) pa_nil)) pe_bl)))
    pss_nil)
    (pss_cons (ps_if (pt_cmpR op_eq (pe_ix ix_tup (pv 0) pe_int (fun _ _ => rfl)) pe_str (nomark _))
    (pss_cons (ps_par (by rfl) sc_l_laid.nd (i := 2) (j := 3) rfl rfl (by decide) rfl rfl (pa_cons (pe_call G_l_laid hr_l_laid (by rfl) T.g_l_laid T.F_l_laid.kp T.b_l_laid .nil pass0 (pa_cons (pe_ix ix_tup (pv 0) pe_int (fun _ _ => rfl)) (pa_cons (pv 1) pa_nil))) (pa_cons (pe_disp1T (hu_of hr) (pe_op op_repT1 (pe_tup (pa_cons pe_int pa_nil)) (pe_callB cn_len (by rfl) T.n_len (by decide +kernel) (pa_cons (pv 1) pa_nil))) pe_bl) pa_nil)) (by rfl))
    (pss_cons (ps_for PassesOwn.never rfl (pi_range1 (by rfl) T.n_range (pa_cons (pe_ix ix_tup (pv 0) pe_int (fun _ _ => rfl)) pa_nil)) (pg_name (i := 4) sc_l_laid.nd rfl (.inl rfl))
    (pss_one (ps_set (i := 3) sc_l_laid.nd rfl (.inl rfl) (pe_call G_l_sums hr_l_sums (by rfl) T.g_l_sums T.F_l_sums.kp T.b_l_sums .nil pass0 (pa_cons (pv 3) (pa_cons (pv 2) pa_nil))))))
    (pss_one (ps_ret (pv 3)))))
    pss_nil)
    (pss_cons (ps_set (i := 3) sc_l_laid.nd rfl (.inl rfl) (pe_call G_l_laid hr_l_laid (by rfl) T.g_l_laid T.F_l_laid.kp T.b_l_laid .nil pass0 (pa_cons (pe_ix ix_tup (pe_ix ix_tup (pv 0) pe_int (fun _ _ => rfl)) pe_int (fun _ _ => rfl)) (pa_cons (pv 1) pa_nil))))
    (pss_cons (ps_for PassesOwn.never rfl (pi_tup (pe_slice sl_tupA (pe_ix ix_tup (pv 0) pe_int (fun _ _ => rfl)) (po_some pe_int) po_none)) (pg_name (i := 2) sc_l_laid.nd rfl (.inl rfl))
    (pss_one (ps_if (pt_cmpR op_eq (pe_ix ix_tup (pv 0) pe_int (fun _ _ => rfl)) pe_str (nomark _))
    (pss_one (ps_set (i := 3) sc_l_laid.nd rfl (.inl rfl) (pe_call G_l_sums hr_l_sums (by rfl) T.g_l_sums T.F_l_sums.kp T.b_l_sums .nil pass0 (pa_cons (pv 3) (pa_cons (pe_call G_l_laid hr_l_laid (by rfl) T.g_l_laid T.F_l_laid.kp T.b_l_laid .nil pass0 (pa_cons (pv 2) (pa_cons (pv 1) pa_nil))) pa_nil)))))
    (pss_one (ps_expr (pe_bm PySem.F.plainAttrs_dict PySem.F.slot_dict_update PySem.F.type_dict_update (mt_updT (hu_of hr)) (pv 3) (pa_cons (pe_call G_l_laid hr_l_laid (by rfl) T.g_l_laid T.F_l_laid.kp T.b_l_laid .nil pass0 (pa_cons (pv 2) (pa_cons (pv 1) pa_nil))) pa_nil)))))))
    (pss_one (ps_ret (pv 3))))))), ?_⟩
    refine start_is (σ' := [some (.ref a), some (.ref l), none, none, none, none]) rfl ?_
    walk_at "rd"
    refine r_ixT ha rfl ?_
    walk_at "rd"
    refine iteF ?_
    walk_at "rd"
    refine r_ixT ha rfl ?_
    walk_at "rd"
    refine iteT ?_
    walk_at "rd"
    refine r_ixT ha rfl ?_
    walk_at "rd"
    refine ⟨b, f, l, ns, rfl, hb, okf.2.2, by omega, by omega, hl, nz, n0, nd, fun pd kvs H1 np s1 e1 L1 l1 => ?_⟩
    walk_at "rd"
    refine r_disp fun p0 H2 np0 s2 e2 => ?_
    walk_at "rd"
    refine r_kTup (by show 1 ≤ sizeLine; decide) fun t H3 nt s3 e3 => ?_
    have S3 := (s1.trans s2).trans s3
    walk_at "rd"
    refine r_lenL (S3.keep _ _ not0 hl) ?_
    walk_at "rd"
    rw [List.length_map]
    refine r_zeros e3 n0 (by omega) fun z H4 s4 e4 => ?_
    walk_at "rd"
    refine r_kDisp (s4.keep _ _ not0 (s3.keep _ _ not0 e2)) e4 fun H5 s5 e5 => ?_
    walk_at "rd"
    have np0' : H p0 = none := s1.neu _ np0
    have S5 : Sw [] H H5 := (S3.trans s4).over1 s5 np0'
    have pp : pd ≠ p0 := ne_of_none e1 np0
    have e1' : H5 pd = some (.dT kvs) := s5.keep _ _ (not1 pp) (s4.keep _ _ not0 (s3.keep _ _ not0 (s2.keep _ _ not0 e1)))
    refine r_ixT (S5.tup _ _ ha) rfl ?_
    refine r_kFR ⟨by omega, by omega⟩ (fun i σ' H' => ∃ (pf : Addr) (kf : List (List Key × V)) (a4 a5 : Option V), σ' = [some (.ref a), some (.ref l), some (.ref pd), some (.ref pf), a4, a5] ∧ H pf = none ∧ H' pf = some (.dT kf) ∧ Lay ns (SumN i (Way f)) kf ∧ kf.length ≤ Vf.cnt f ^ i ∧ Sw [] H5 H')
      ⟨p0, _, _, _, rfl, np0', e5, Lay.one.iff (fun u => Iff.rfl), by rw [Nat.pow_zero]; exact Nat.le_refl 1, Sw.refl _ _⟩ ?_ ?_
    · rintro i σ' H6 hi ⟨pf, kf, a4, a5, rfl, npf, e6, Lf, lf, s6⟩
      walk_at "rd"
      have m1 : kf.length * kvs.length ≤ Vf.cnt f ^ (i + 1) := by
        rw [Nat.pow_succ]
        exact Nat.mul_le_mul lf l1
      have m2 : Vf.cnt f ^ (i + 1) ≤ Vf.cnt f ^ n := Nat.pow_le_pow_right cpf (by omega)
      refine ⟨pf, pd, ns, _, _, kf, kvs, rfl, e6, s6.keep _ _ not0 e1', Lf, L1, by omega, nz, fun p3 k3 H7 np3 s7 e7 L7 l7 => ?_⟩
      walk_at "rd"
      exact ⟨p3, k3, _, _, rfl, S5.neu _ (s6.neu _ np3), e7, L7, Nat.le_trans l7 m1, s6.trans s7⟩
    · rintro σ' H6 ⟨pf, kf, a4, a5, rfl, npf, e6, Lf, lf, s6⟩
      rw [Int.toNat_natCast] at Lf lf
      walk_at "rd"
      refine q pf kf H6 npf (S5.trans s6) e6 (Lf.iff fun u => ?_) lf
      unfold Way
      exact Iff.rfl
  | node wd fs =>
    unfold IsF at hf
    obtain ⟨a, b, bs, rfl, ha, hb, hbs⟩ := hf
    unfold OkF at okf
    unfold dep at hd
    obtain ⟨nn, okl⟩ := okf
    have bl : bs.length = fs.length := hbs.len
    cases fs with
    | nil => exact absurd rfl nn
    | cons f fs =>
      unfold IsFL at hbs
      obtain ⟨y, ys, rfl, hy, hys⟩ := hbs
      refine ⟨_, (pss_cons (ps_if (pt_cmpR op_eq (pe_ix ix_tup (pv 0) pe_int (fun _ _ => rfl)) pe_str (nomark _))
    (pss_one (ps_ret (pe_disp1T (hu_of hr) (pe_callTy cn_tuple (by rfl) T.n_tuple (by decide +kernel) (pa_cons (pe_lc (own := [("name", 5)]) (g := gName 5) (by rfl) sc_l_laid.nd (pi_list (pv 1)) (blkOk_by (N := N_l_laid) (sc := defScope s_l_laid) (by decide +kernel)) (fun _ _ _ _ _ => (pg_name (i := 5) sc_l_laid.nd rfl (.inl rfl))) (fun _ _ _ _ _ => pts_nil) (fun _ _ _ _ _ => (pe_callTy cn_int (by rfl) T.n_int (by decide +kernel) (pa_cons (pe_cmpR op_eq (pv 5) (pe_ix (ix_tupK (K := K) rfl) (pv 0) pe_int (fun _ _ => rfl)) (nomark _)) pa_nil)))) pa_nil)) pe_bl)))
    pss_nil)
    (pss_cons (ps_if (pt_cmpR op_eq (pe_ix ix_tup (pv 0) pe_int (fun _ _ => rfl)) pe_str (nomark _))
    (pss_cons (ps_par (by rfl) sc_l_laid.nd (i := 2) (j := 3) rfl rfl (by decide) rfl rfl (pa_cons (pe_call G_l_laid hr_l_laid (by rfl) T.g_l_laid T.F_l_laid.kp T.b_l_laid .nil pass0 (pa_cons (pe_ix ix_tup (pv 0) pe_int (fun _ _ => rfl)) (pa_cons (pv 1) pa_nil))) (pa_cons (pe_disp1T (hu_of hr) (pe_op op_repT1 (pe_tup (pa_cons pe_int pa_nil)) (pe_callB cn_len (by rfl) T.n_len (by decide +kernel) (pa_cons (pv 1) pa_nil))) pe_bl) pa_nil)) (by rfl))
    (pss_cons (ps_for PassesOwn.never rfl (pi_range1 (by rfl) T.n_range (pa_cons (pe_ix ix_tup (pv 0) pe_int (fun _ _ => rfl)) pa_nil)) (pg_name (i := 4) sc_l_laid.nd rfl (.inl rfl))
    (pss_one (ps_set (i := 3) sc_l_laid.nd rfl (.inl rfl) (pe_call G_l_sums hr_l_sums (by rfl) T.g_l_sums T.F_l_sums.kp T.b_l_sums .nil pass0 (pa_cons (pv 3) (pa_cons (pv 2) pa_nil))))))
    (pss_one (ps_ret (pv 3)))))
    pss_nil)
    (pss_cons (ps_set (i := 3) sc_l_laid.nd rfl (.inl rfl) (pe_call G_l_laid hr_l_laid (by rfl) T.g_l_laid T.F_l_laid.kp T.b_l_laid .nil pass0 (pa_cons (pe_ix ix_tup (pe_ix ix_tup (pv 0) pe_int (fun _ _ => rfl)) pe_int (fun _ _ => rfl)) (pa_cons (pv 1) pa_nil))))
    (pss_cons (ps_for PassesOwn.never rfl (pi_tup (pe_slice sl_tupA (pe_ix ix_tup (pv 0) pe_int (fun _ _ => rfl)) (po_some pe_int) po_none)) (pg_name (i := 2) sc_l_laid.nd rfl (.inl rfl))
    (pss_one (ps_if (pt_cmpR op_eq (pe_ix ix_tup (pv 0) pe_int (fun _ _ => rfl)) pe_str (nomark _))
    (pss_one (ps_set (i := 3) sc_l_laid.nd rfl (.inl rfl) (pe_call G_l_sums hr_l_sums (by rfl) T.g_l_sums T.F_l_sums.kp T.b_l_sums .nil pass0 (pa_cons (pv 3) (pa_cons (pe_call G_l_laid hr_l_laid (by rfl) T.g_l_laid T.F_l_laid.kp T.b_l_laid .nil pass0 (pa_cons (pv 2) (pa_cons (pv 1) pa_nil))) pa_nil)))))
    (pss_one (ps_expr (pe_bm PySem.F.plainAttrs_dict PySem.F.slot_dict_update PySem.F.type_dict_update (mt_updT (hu_of hr)) (pv 3) (pa_cons (pe_call G_l_laid hr_l_laid (by rfl) T.g_l_laid T.F_l_laid.kp T.b_l_laid .nil pass0 (pa_cons (pv 2) (pa_cons (pv 1) pa_nil))) pa_nil)))))))
    (pss_one (ps_ret (pv 3))))))), ?_⟩
      refine start_is (σ' := [some (.ref a), some (.ref l), none, none, none, none]) rfl ?_
      walk_at "rd"
      refine r_ixT ha rfl ?_
      walk_at "rd"
      refine ite2 (fun e => absurd (of_decide_eq_true e) (word_kind wd)) (fun _ => ?_)
      walk_at "rd"
      refine r_ixT ha rfl ?_
      walk_at "rd"
      refine ite2 (fun e => absurd (of_decide_eq_true e) (word_many wd)) (fun _ => ?_)
      walk_at "rd"
      refine r_ixT ha rfl ?_
      walk_at "rd"
      refine r_ixT (v := y) hb (show atI _ ((0 : Nat) : Int) = _ from atI_nat rfl) ?_
      walk_at "rd"
      have cn : Vf.cnt (.node wd (f :: fs)) = cntW wd (f :: fs) := by
        unfold Vf.cnt
        rfl
      rw [cn] at hc q
      have okl' := okl
      unfold OkL at okl
      have dp : dep f ≤ depL (f :: fs) := depL_mem List.mem_cons_self
      refine ⟨y, f, l, ns, rfl, hy, okl.1, by omega, Nat.le_trans (cntW_mem (w := wd) (i := 0) (fs := f :: fs) rfl okl') hc, hl, nz, n0, nd, fun pd kvs H1 np s1 e1 L1 l1 => ?_⟩
      walk_at "rd"
      refine r_ixT (s1.tup _ _ ha) rfl ?_
      walk_at "rd"
      refine r_slA1 (s1.tup _ _ hb) fun tq H2 nt s2 e2 => ?_
      refine r_kFT (SqT.of e2) (fun i σ' H' => ∃ (pf : Addr) (kf : List (List Key × V)) (a2 a4 a5 : Option V), σ' = [some (.ref a), some (.ref l), a2, some (.ref pf), a4, a5] ∧ H pf = none ∧ H' pf = some (.dT kf) ∧ Lay ns (WayW wd (f :: fs.take i)) kf ∧ kf.length ≤ cntW wd (f :: fs.take i) ∧ Sw [] H H' ∧ H' tq = some (.tup ys))
        ⟨pd, kvs, _, _, _, rfl, np, s2.keep _ _ not0 e1, L1.iff (fun u => ?_), ?_, s1.trans s2, e2⟩ ?_ ?_ ?_
      · rw [List.take_zero]
        cases wd with
        | true => exact (WayAll_one f u).symm
        | false => exact (WayAny_one f u).symm
      · rw [List.take_zero]
        refine Nat.le_trans l1 ?_
        cases wd with
        | true => exact Nat.le_of_eq (Nat.mul_one _).symm
        | false => exact Nat.le_refl _
      · rintro i σ' H3 _ ⟨pf, kf, a2, a4, a5, rfl, npf, e3, Lf, lf, s3, t3⟩
        exact SqT.of t3
      · rintro i x σ' H3 hx ⟨pf, kf, a2, a4, a5, rfl, npf, e3, Lf, lf, s3, t3⟩
        obtain ⟨g, hg, hgx⟩ := hys.at hx
        have mg := List.mem_of_getElem? hg
        have tk : f :: fs.take (i + 1) = (f :: fs.take i) ++ [g] := by
          rw [List.take_add_one, hg]
          rfl
        have cg : Vf.cnt g ≤ 1000 := Nat.le_trans (cntW_mem (w := wd) (i := i + 1) (fs := f :: fs) hg okl') hc
        have dg : dep g ≤ depL (f :: fs) := depL_mem (List.mem_cons_of_mem _ mg)
        have ct : cntW wd (f :: fs.take (i + 1)) ≤ 1000 := Nat.le_trans (cntW_take (w := wd) (i + 2) okl') hc
        walk_at "rd"
        refine r_ixT (s3.tup _ _ ha) rfl ?_
        walk_at "rd"
        refine ite2 (fun ew => ?_) (fun ew => ?_)
        · have ew := word_and wd (of_decide_eq_true ew)
          subst ew
          have ct : cntM (f :: fs.take (i + 1)) ≤ 1000 := ct
          have lf : kf.length ≤ cntM (f :: fs.take i) := lf
          rw [tk, cntM_snoc] at ct
          walk_at "rd"
          refine ⟨x, g, l, ns, rfl, hgx.sw s3, okl.2.mem mg, by omega, cg, s3.keep _ _ not0 hl, nz, n0, nd, fun p4 k4 H4 np4 s4 e4 L4 l4 => ?_⟩
          walk_at "rd"
          have m1 := Nat.mul_le_mul lf l4
          refine ⟨pf, p4, ns, _, _, kf, k4, rfl, s4.keep _ _ not0 e3, e4, Lf, L4, by omega, nz, fun p5 k5 H5 np5 s5 e5 L5 l5 => ?_⟩
          walk_at "rd"
          have S5 := (s3.trans s4).trans s5
          refine ⟨p5, k5, _, _, _, rfl, (s3.trans s4).neu _ np5, e5, L5.iff fun u => ?_, ?_, S5, s5.tup _ _ (s4.tup _ _ t3)⟩
          · rw [tk]
            exact (WayAll_snoc g).symm
          · rw [tk]
            show _ ≤ cntM _
            rw [cntM_snoc]
            exact Nat.le_trans l5 m1
        · have ew := word_nand wd (fun e => ew (decide_eq_true e))
          subst ew
          have ct : cntA (f :: fs.take (i + 1)) ≤ 1000 := ct
          have lf : kf.length ≤ cntA (f :: fs.take i) := lf
          rw [tk, cntA_snoc] at ct
          walk_at "rd"
          refine ⟨tyV_dT e3, ?_⟩
          walk_at "rd"
          refine ⟨x, g, l, ns, rfl, hgx.sw s3, okl.2.mem mg, by omega, cg, s3.keep _ _ not0 hl, nz, n0, nd, fun p4 k4 H4 np4 s4 e4 L4 l4 => ?_⟩
          walk_at "rd"
          have e34 := s4.keep _ _ not0 e3
          have kn : kf ≠ [] := fun e => by
            obtain ⟨u, hu⟩ := way_some okl.1
            have := Lf.cpl u (by show WayAny _ u; unfold WayAny; exact .inl hu)
            rw [e] at this
            exact absurd this List.not_mem_nil
          refine ⟨pf, p4, kf, k4, rfl, rfl, e34, e4, ne_of_none e3 np4, kn, by rw [sizeLine_eq]; omega, ?_⟩
          walk_at "rd"
          have s5 : Sw [pf] H4 (upd H4 pf (.dT (mergeT kf k4))) := Sw.put1 e34 trivial
          refine ⟨pf, mergeT kf k4, _, _, _, rfl, npf, upd_same, (Lf.merge L4).iff fun u => ?_, ?_, (s3.trans s4).over1 s5 npf, s5.tup _ _ (s4.tup _ _ t3)⟩
          · rw [tk]
            exact (WayAny_snoc g).symm
          · rw [tk]
            show _ ≤ cntA _
            rw [cntA_snoc]
            have := mergeT_len k4 kf
            omega
      · rintro σ' H3 ⟨pf, kf, a2, a4, a5, rfl, npf, e3, Lf, lf, s3, t3⟩
        have yl : ys.length = fs.length := hys.len
        rw [yl, List.take_length] at Lf lf
        walk_at "rd"
        refine q pf kf H3 npf s3 e3 (Lf.iff fun u => ?_) lf
        unfold Way
        exact Iff.rfl
theorem ok_l_laid (T : Tx K mg) : ∀ d, FnOk P w K mg base CX0 (2 + d) T.f_l_laid T.d_l_laid ["formula", "names"] (spLaid d)
  | 0 => ok_l_laid0 T
  | d + 1 => ok_l_laidS T d (ok_l_laid T d)
end
end K14
/-! D10 -/


namespace K14
open PySem PySem.Spec PyProof.Rows L2 Vf
section
variable {P : Program} {w : World} {K : PySem.W.Frag} {mg : Str → Option Value} {base : Heap}
theorem ok_l_shared (T : Tx K mg) (d : Nat) : FnOk P w K mg base CX0 (6 + d) T.f_l_shared T.d_l_shared ["formula", "amounts", "due"] (spShared d) := by
  have G_q_share := ok_q_share (P := P) (w := w) (base := base) T d
  have G_q_is_way := ok_q_is_way (P := P) (w := w) (base := base) T d
  rw [show 6 + d = 5 + d + 1 by omega]
  refine T.F_l_shared.ok sc_l_shared (fun vs H Q E h => ?_) (fun cdv A outer s H vs Q E hr h => ?_)
  · obtain ⟨v, f, a, ns, u, rfl, _⟩ := h
    rfl
  obtain ⟨v, f, a, ns, u, rfl, hf, okf, hd, hz, nd, pm, so, ha, hp, q⟩ := h
  have hr_q_is_way := hr
  have hr_q_share := hr.mono (show 4 + d ≤ 5 + d by omega)
  refine ⟨_, (pss_cons (ps_set (i := 3) sc_l_shared.nd rfl (.inl rfl) (pe_call G_q_share hr_q_share (by rfl) T.g_q_share T.F_q_share.kp T.b_q_share .nil pass0 (pa_cons (pv 0) (pa_cons (pv 1) pa_nil))))
    (pss_cons (ps_if (pt_cmpR on_isN (pv 2) pe_non (nomark _))
    (pss_one (ps_ret (pe_and (pe_cmpR on_isN (pv 3) pe_non (nomark _)) (pe_one (pe_not (pe_call G_q_is_way hr_q_is_way (by rfl) T.g_q_is_way T.F_q_is_way.kp T.b_q_is_way .nil pass0 (pa_cons (pv 0) (pa_cons (pv 1) pa_nil))))))))
    pss_nil)
    (pss_one (ps_ret (pe_and (pe_cmpR op_eq (pv 3) (pv 2) (nomark _)) (pe_and (pe_callB call_isi (by rfl) T.n_isinstance (by decide +kernel) (pa_cons (pv 3) (pa_cons (pe_bltn (v := .ty "int") (u := .type "int") (by rfl) T.n_int (by decide +kernel) rfl) pa_nil))) (pe_and (pe_not (pe_callB call_isi (by rfl) T.n_isinstance (by decide +kernel) (pa_cons (pv 3) (pa_cons (pe_bltn (v := .ty "bool") (u := .type "bool") (by rfl) T.n_bool (by decide +kernel) rfl) pa_nil)))) (pe_one (pe_cmpR op_eq (pe_call G_q_is_way hr_q_is_way (by rfl) T.g_q_is_way T.F_q_is_way.kp T.b_q_is_way .nil pass0 (pa_cons (pv 0) (pa_cons (pv 1) pa_nil))) (pe_cmpR op_eq (pv 2) pe_int (nomark _)) (nomark _)))))))))), ?_⟩
  refine start_is (σ' := [some (v), some (.ref a), some (vO (sh u f)), none]) rfl ?_
  walk_at "rd"
  refine ⟨v, f, a, ns, u, rfl, hf, okf, hd, hz, nd, pm, so, ha, fun H1 s1 => ?_⟩
  walk_at "rd"
  have ha1 := s1.keep _ _ not0 ha
  cases e : sh u f with
  | none =>
    refine iteT ?_
    walk_at "rd"
    refine iteT ?_
    walk_at "rd"
    refine ⟨v, f, a, ns, u, rfl, hf.sw s1, okf, hd, hz, nd, pm, so, ha1, hp, fun H2 s2 => ?_⟩
    rw [e]
    exact ⟨_, rfl, q H2 (s1.trans s2)⟩
  | some k =>
    refine iteF ?_
    walk_at "rd"
    refine r_eqI ?_
    walk_at "rd"
    refine iteT' (decide_eq_true rfl) ?_
    walk_at "rd"
    refine r_isi (T := "int") (b := true) (.base (.int k)) (by decide +kernel) ?_
    walk_at "rd"
    refine iteT ?_
    walk_at "rd"
    refine r_isi (T := "int") (b := false) (.base (.int k)) (by decide +kernel) ?_
    walk_at "rd"
    refine iteT ?_
    walk_at "rd"
    refine ⟨v, f, a, ns, u, rfl, hf.sw s1, okf, hd, hz, nd, pm, so, ha1, hp, fun H2 s2 => ?_⟩
    rw [e]
    walk_at "rd"
    refine r_eqI (i := k) (j := 1) ?_
    have e2 : decide (k = 1) = decide (some k = some (1 : Int)) := decide_eq_decide.mpr ⟨fun x => by rw [x], fun x => Option.some.inj x⟩
    refine ⟨rfl, ?_⟩
    rw [e2, decide_eq_true rfl]
    exact q H2 (s1.trans s2)
theorem ok_l_known (T : Tx K mg) : FnOk P w K mg base CX0 2 T.f_l_known T.d_l_known ["ways", "zero"] spKnown := by
  have G_l_sums := ok_l_sums (P := P) (w := w) (base := base) T
  refine T.F_l_known.ok sc_l_known (fun vs H Q E h => ?_) (fun cdv A outer s H vs Q E hr h => ?_)
  · obtain ⟨wd, z, ns, f, kw, rfl, _⟩ := h
    rfl
  obtain ⟨wd, z, ns, f, kw, rfl, hw, Lw, lw, hz, okf, nd, pm, nz, q⟩ := h
  have hr_l_sums := hr
  refine ⟨_, (pss_cons (ps_par3 (by rfl) sc_l_known.nd (i := 2) (j := 3) (l := 4) rfl rfl rfl (by decide) (by decide) (by decide) rfl rfl rfl (pa_cons (pe_disp1T (hu_of hr) (pv 1) pe_int) (pa_cons (pe_disp1T (hu_of hr) (pv 1) pe_bl) (pa_cons pe_int pa_nil))) (by rfl))
    (pss_cons (ps_for PassesOwn.never rfl (pi_range2 (by rfl) T.n_range (pa_cons pe_int (pa_cons pe_int pa_nil))) (pg_name (i := 5) sc_l_known.nd rfl (.inl rfl))
    (pss_one (ps_if (pt_cmpR op_le (pe_op op_mul (pe_callB call_len_dT (by rfl) T.n_len (by decide +kernel) (pa_cons (pv 3) pa_nil)) (pe_callB call_len_dT (by rfl) T.n_len (by decide +kernel) (pa_cons (pv 0) pa_nil))) pe_int (nomark _))
    (pss_cons (ps_set (i := 3) sc_l_known.nd rfl (.inl rfl) (pe_call G_l_sums hr_l_sums (by rfl) T.g_l_sums T.F_l_sums.kp T.b_l_sums .nil pass0 (pa_cons (pv 3) (pa_cons (pv 0) pa_nil))))
    (pss_cons (ps_set (i := 4) sc_l_known.nd rfl (.inl rfl) (pv 5))
    (pss_one (ps_for PassesOwn.never rfl (pi_list (pe_callTy (cn_listT rfl) (by rfl) T.n_list (by decide +kernel) (pa_cons (pv 3) pa_nil))) (pg_name (i := 6) sc_l_known.nd rfl (.inl rfl))
    (pss_cons (ps_if (pt_cmp (pc_din (hu_of hr) (pv 6) (pv 2)))
    (pss_one (ps_ret (pe_tup (pa_cons pe_non (pa_cons pe_int pa_nil)))))
    pss_nil)
    (pss_one (ps_dput (hu_of hr) (pv 2) (pv 6) (pv 5) rfl)))))))
    pss_nil)))
    (pss_one (ps_ret (pe_tup (pa_cons (pv 2) (pa_cons (pv 4) pa_nil))))))), ?_⟩
  refine start_is (σ' := [some (.ref wd), some (.ref z), none, none, none, none, none]) rfl ?_
  walk_at "rd"
  refine r_disp fun p1 H1 np1 s1 e1 => ?_
  walk_at "rd"
  refine r_kDisp e1 (s1.keep _ _ not0 hz) fun H2 s2 e2 => ?_
  have S2 : Sw [] H H2 := s1.over1 s2 np1
  walk_at "rd"
  refine r_disp fun p3 H3 np3 s3 e3 => ?_
  walk_at "rd"
  have S3 := S2.trans s3
  have np3' := S2.neu _ np3
  refine r_kDisp e3 (S3.keep _ _ not0 hz) fun H4 s4 e4 => ?_
  have S4 : Sw [] H H4 := S3.over1 s4 np3'
  have p13 : p1 ≠ p3 := ne_of_none e2 np3
  have e2' : H4 p1 = some (.dT [(kk ns zeroA, .int 0)]) := s4.keep _ _ (not1 p13) (s3.keep _ _ not0 e2)
  walk_at "rd"
  refine r_kFR2 ⟨by omega, by omega, by omega, by omega⟩ (fun i σ' H' => ∃ (pl : Addr) (kv kl : List (List Key × V)) (most : Nat) (a5 a6 : Option V), σ' = [some (.ref wd), some (.ref z), some (.ref p1), some (.ref pl), some (.int (most : Int)), a5, a6] ∧ H' p1 = some (.dT kv) ∧ H' pl = some (.dT kl) ∧ pl ≠ p1 ∧ Sw [] H H' ∧
      KnM ns (Sums f most) kv ∧ kv.length ≤ 1 + 500 * i ∧ Lay ns (SumN most (Way f)) kl ∧ kl.length ≤ 500 ∧ most ≤ i ∧ (1 ≤ i → 1 ≤ most) ∧ (most = i ∨ ¬ kl.length * kw.length ≤ 500) ∧ (most = 0 → kl.length ≤ 1))
    ⟨p3, _, _, 0, _, _, rfl, e2', e4, Ne.symm p13, S4, ?_, by show 1 ≤ _; omega, ?_, by show 1 ≤ 500; decide, Nat.le_refl 0, fun h => absurd h (by decide), .inl rfl, fun _ => Nat.le_refl 1⟩ ?_ ?_
  · refine ⟨fun p m => ?_, fun m u h => ?_⟩
    · rw [List.mem_singleton.mp m]
      exact ⟨0, zeroA, sums_zero.mpr ⟨rfl, rfl⟩, rfl, rfl⟩
    · obtain ⟨rfl, rfl⟩ := sums_zero.mp h
      exact valV_pos (p := (kk ns zeroA, V.int 0)) rfl
  · exact Lay.one.iff fun u => Iff.rfl
  · rintro i σ' H5 hi ⟨pl, kv, kl, most, a5, a6, rfl, e5, g5, lp, s5, Kn, lv, Ll, ll, mi, m1, mm, mz⟩
    walk_at "rd"
    refine r_lenDT g5 ?_
    walk_at "rd"
    refine r_lenDT (s5.keep _ _ not0 hw) ?_
    refine r_I (.inl ⟨by omega, by omega⟩) ?_
    walk_at "rd"
    refine ite2 (fun hc => ?_) (fun hc => ?_)
    · have hc : kl.length * kw.length ≤ 500 := by
        have := of_decide_eq_true hc
        exact_mod_cast this
      have mi2 : most = i := mm.resolve_right fun h => h hc
      subst mi2
      walk_at "rd"
      refine ⟨pl, wd, ns, _, _, kl, kw, rfl, g5, s5.keep _ _ not0 hw, Ll, Lw, by omega, nz, fun p6 k6 H6 np6 s6 e6 L6 l6 => ?_⟩
      walk_at "rd"
      refine r_listDT e6 fun p7 bs H7 np7 s7 ik e7 => ?_
      have l6' : k6.length ≤ 500 := by omega
      have nb := isKeys_len ik
      have e57 : H7 p1 = some (.dT kv) := s7.keep _ _ not0 (s6.keep _ _ not0 e5)
      have p61 : p6 ≠ p1 := Ne.symm (ne_of_none e5 np6)
      have p71 : p7 ≠ p1 := Ne.symm (ne_of_none (s6.keep _ _ not0 e5) np7)
      have S7 : Sw [] H H7 := (s5.trans s6).trans s7
      refine r_kFL (SqL.of e7) (fun j σ' H' => ∃ (kv' : List (List Key × V)) (a6 : Option V), σ' = [some (.ref wd), some (.ref z), some (.ref p1), some (.ref p6), some (.int (1 + (most : Int))), some (.int (1 + (most : Int))), a6] ∧ H' p1 = some (.dT kv') ∧ Sw [p1] H7 H' ∧ kv'.length ≤ kv.length + j ∧
          KnM ns (fun m u => Sums f most m u ∨ (m = most + 1 ∧ SumN (most + 1) (Way f) u ∧ ∃ l, l < j ∧ (k6.map Prod.fst)[l]? = some (kk ns u))) kv')
        ⟨kv, _, rfl, e57, Sw.refl _ _, Nat.le_refl _, Kn.iff fun m u => ⟨.inl, fun h => h.elim id fun h => absurd h.2.2.choose_spec.1 (Nat.not_lt_zero _)⟩⟩ ?_ ?_ ?_
      · rintro j σ' H8 _ ⟨kv', a6', rfl, e8, s8, _⟩
        exact SqL.of (s8.keep _ _ (not1 p71) e7)
      · rintro j x σ' H8 hx ⟨kv', a6', rfl, e8, s8, lv', Kn'⟩
        obtain ⟨pa, ba, hpa, rfl, hba⟩ := isKeys_at' ik hx
        have ka : (k6.map Prod.fst)[j]? = some pa.1 := by rw [List.getElem?_map, hpa]; rfl
        obtain ⟨u0, su0, eu0⟩ := L6.snd pa.1 (List.mem_of_getElem? ka)
        have su0 : SumN (most + 1) (Way f) u0 := su0
        rw [eu0] at hba ka
        have j6 : j < k6.length := (List.getElem?_eq_some_iff.mp hpa).1
        have hba8 := s8.tup _ _ hba
        have miss : valV kv' (kk ns u0) = none := by
          refine Kn'.miss fun m v h => ?_
          rcases h with h | ⟨rfl, hv, l, hl, hk⟩
          · exact kk_ne okf nd pm h.2 su0 (by have := h.1; omega)
          · intro e
            rw [e] at hk
            obtain ⟨b1, c1⟩ := List.getElem?_eq_some_iff.mp hk
            obtain ⟨b2, c2⟩ := List.getElem?_eq_some_iff.mp ka
            have := (List.getElem_inj L6.nd).mp (c1.trans c2.symm)
            omega
        walk_at "rd"
        refine r_kDInT e8 hba8 ?_
        rw [miss]
        walk_at "rd"
        refine iteF ?_
        walk_at "rd"
        refine r_kDPutT e8 hba8 (by rw [sizeLine_eq]; omega) fun H9 s9 e9 => ?_
        have ci : (1 : Int) + (most : Int) = ((most + 1 : Nat) : Int) := by omega
        rw [ci] at e9
        refine ⟨_, _, rfl, e9, s8.trans s9, ?_, (Kn'.put (X := fun v => SumN (most + 1) (Way f) v) (m := most + 1) su0 miss).iff fun m u => ?_⟩
        · have := length_putK kv' (kk ns u0) (.int ((most + 1 : Nat) : Int))
          omega
        · constructor
          · rintro ((h | ⟨rfl, hv, l, hl, hk⟩) | ⟨rfl, hv, e⟩)
            · exact .inl h
            · exact .inr ⟨rfl, hv, l, by omega, hk⟩
            · exact .inr ⟨rfl, hv, j, by omega, by rw [e]; exact ka⟩
          · rintro (h | ⟨rfl, hv, l, hl, hk⟩)
            · exact .inl (.inl h)
            · rcases Nat.lt_or_eq_of_le (Nat.le_of_lt_succ hl) with hl | rfl
              · exact .inl (.inr ⟨rfl, hv, l, hl, hk⟩)
              · exact .inr ⟨rfl, hv, Option.some.inj (hk.symm.trans ka)⟩
      · rintro σ' H8 ⟨kv', a6', rfl, e8, s8, lv', Kn'⟩
        rw [List.length_map, nb] at lv' Kn'
        have np1' := np1
        have ci : (1 : Int) + (most : Int) = ((most + 1 : Nat) : Int) := by omega
        refine ⟨p6, kv', k6, most + 1, _, _, by rw [ci], e8, s8.keep _ _ (not1 p61) (s7.keep _ _ not0 e6), p61, S7.over1 s8 np1, Kn'.iff fun m u => ?_, by omega, L6.iff fun u => Iff.rfl, l6', Nat.le_refl _, fun _ => by omega, .inl rfl, fun h => by omega⟩
        unfold Sums
        constructor
        · rintro (h | ⟨rfl, hv, l, hl, hk⟩)
          · exact ⟨by have := h.1; omega, h.2⟩
          · exact ⟨Nat.le_refl _, hv⟩
        · rintro ⟨h, hv⟩
          rcases Nat.lt_or_eq_of_le h with h | rfl
          · exact .inl ⟨by omega, hv⟩
          · obtain ⟨l, hl⟩ := List.mem_iff_getElem?.mp (L6.cpl u hv)
            have l1 := (List.getElem?_eq_some_iff.mp hl).1
            rw [List.length_map] at l1
            exact .inr ⟨rfl, hv, l, l1, hl⟩
    · walk_at "rd"
      have hc : ¬ kl.length * kw.length ≤ 500 := fun h => hc (decide_eq_true (by exact_mod_cast h))
      refine ⟨pl, kv, kl, most, _, _, rfl, e5, g5, lp, s5, Kn, by omega, Ll, ll, by omega, fun _ => ?_, .inr hc, mz⟩
      rcases Nat.eq_zero_or_pos most with e | e
      · exfalso
        have := Nat.mul_le_mul (mz e) lw
        omega
      · exact e
  · rintro σ' H5 ⟨pl, kv, kl, most, a5, a6, rfl, e5, g5, lp, s5, Kn, lv, Ll, ll, mi, m1, mm, mz⟩
    walk_at "rd"
    refine r_kTup (by show 2 ≤ sizeLine; decide) fun p H6 np s6 e6 => ?_
    exact q p p1 kv most H6 np1 (s5.trans s6) e6 (s6.keep _ _ not0 e5) Kn (m1 (by decide)) mi (by
      have : kv.length ≤ 1 + 500 * 3 := lv
      omega)
end
end K14
/-! D11 -/


namespace K14
open PySem PySem.Spec PyProof.Rows L2 Vf
section
variable {P : Program} {w : World} {K : PySem.W.Frag} {mg : Str → Option Value} {base : Heap}
theorem ok_l_deep_right (T : Tx K mg) : FnOk P w K mg base CX0 17 T.f_l_deep_right T.d_l_deep_right ["heap"] spDeep := by
  have G_l_draw := ok_l_draw (P := P) (w := w) (base := base) T
  have G_l_pick := ok_l_pick (P := P) (w := w) (base := base) T
  have G_l_names := ok_l_names (P := P) (w := w) (base := base) T
  have G_l_mixed := ok_l_mixed (P := P) (w := w) (base := base) T
  have G_l_shared := ok_l_shared (P := P) (w := w) (base := base) T 10
  refine T.F_l_deep_right.ok sc_l_deep_right (fun vs H Q E h => ?_) (fun cdv A outer s H vs Q E hr h => ?_)
  · obtain ⟨h, c, rfl, _⟩ := h
    rfl
  obtain ⟨h, c, rfl, ds, q⟩ := h
  have hr_l_draw := hr.mono (show 1 ≤ 16 by decide)
  have hr_l_pick := hr.mono (show 2 ≤ 16 by decide)
  have hr_l_names := hr.mono (show 3 ≤ 16 by decide)
  have hr_l_mixed := hr.mono (show 2 ≤ 16 by decide)
  have hr_l_shared := hr
  refine ⟨_, (pss_cons (ps_asg (pe_call G_l_pick hr_l_pick (by rfl) T.g_l_pick T.F_l_pick.kp T.b_l_pick .nil pass0 (pa_cons (pv 0) (pa_cons (pe_lst (pa_cons (pe_tup (pa_cons pe_int (pa_cons pe_int (pa_cons pe_int pa_nil)))) (pa_cons (pe_tup (pa_cons pe_int (pa_cons pe_int (pa_cons pe_int pa_nil)))) (pa_cons (pe_tup (pa_cons pe_int (pa_cons pe_int (pa_cons pe_int pa_nil)))) (pa_cons (pe_tup (pa_cons pe_int (pa_cons pe_int (pa_cons pe_int pa_nil)))) (pa_cons (pe_tup (pa_cons pe_int (pa_cons pe_int (pa_cons pe_int pa_nil)))) (pa_cons (pe_tup (pa_cons pe_int (pa_cons pe_int (pa_cons pe_int pa_nil)))) (pa_cons (pe_tup (pa_cons pe_int (pa_cons pe_int (pa_cons pe_int pa_nil)))) (pa_cons (pe_tup (pa_cons pe_int (pa_cons pe_int (pa_cons pe_int pa_nil)))) pa_nil))))))))) pa_nil))) (pg_tup rfl (pgs_cons (pg_name (i := 1) sc_l_deep_right.nd rfl (.inl rfl)) (pgs_cons (pg_name (i := 2) sc_l_deep_right.nd rfl (.inl rfl)) (pgs_cons (pg_name (i := 3) sc_l_deep_right.nd rfl (.inl rfl)) pgs_nil)))))
    (pss_cons (ps_set (i := 4) sc_l_deep_right.nd rfl (.inr rfl) (pe_call G_l_names hr_l_names (by rfl) T.g_l_names T.F_l_names.kp T.b_l_names .nil pass0 (pa_cons (pv 0) (pa_cons pe_int pa_nil))))
    (pss_cons (ps_set (i := 5) sc_l_deep_right.nd rfl (.inr rfl) (pe_call G_l_mixed hr_l_mixed (by rfl) T.g_l_mixed T.F_l_mixed.kp T.b_l_mixed .nil pass0 (pa_cons (pv 0) (pa_cons (pe_lst (pa_cons pe_int (pa_cons pe_int (pa_cons pe_int (pa_cons pe_int pa_nil))))) pa_nil))))
    (pss_cons (ps_setLc (i := 7) (own := [("at", 6)]) (g := gName 6) (by rfl) sc_l_deep_right.nd rfl rfl (sw_true rfl rfl rfl (by decide +kernel)) (pi_list (pv 5)) (blkOk_by (N := N_l_deep_right) (sc := defScope s_l_deep_right) (by decide +kernel)) (fun _ _ _ _ _ => (pg_name (i := 6) sc_l_deep_right.nd rfl (.inl rfl))) (fun _ _ _ _ _ => pts_nil) (fun _ _ _ _ _ => (pe_tup (pa_cons pe_str (pa_cons (pe_ix (ix_listK (K := K) rfl) (pv 4) (pv 6) (fun _ _ => rfl)) pa_nil)))))
    (pss_cons (ps_set (i := 8) sc_l_deep_right.nd rfl (.inl rfl) (pe_tup (pa_cons pe_str (pa_cons (pe_tup (pa_cons (pe_ix ix_list (pv 7) pe_int (fun _ _ => rfl)) (pa_cons (pe_ix ix_list (pv 7) pe_int (fun _ _ => rfl)) pa_nil))) pa_nil))))
    (pss_cons (ps_set (i := 8) sc_l_deep_right.nd rfl (.inl rfl) (pe_tup (pa_cons pe_str (pa_cons (pe_tup (pa_cons (pe_ix ix_list (pv 7) pe_int (fun _ _ => rfl)) (pa_cons (pe_ifExp (pt_cmpR op_eq (pv 3) pe_int (nomark _)) (pv 8) (pe_tup (pa_cons pe_str (pa_cons (pv 3) (pa_cons (pv 8) pa_nil))))) pa_nil))) pa_nil))))
    (pss_cons (ps_set (i := 9) sc_l_deep_right.nd rfl (.inl rfl) (pe_tup (pa_cons pe_str (pa_cons (pv 1) (pa_cons (pe_tup (pa_cons pe_str (pa_cons (pe_tup (pa_cons (pe_ifExp (pt_cmpR op_eq (pv 2) pe_int (nomark _)) (pv 8) (pe_tup (pa_cons pe_str (pa_cons (pv 2) (pa_cons (pv 8) pa_nil))))) (pa_cons (pe_ix ix_list (pv 7) pe_int (fun _ _ => rfl)) pa_nil))) pa_nil))) pa_nil)))))
    (pss_cons (ps_set (i := 10) sc_l_deep_right.nd rfl (.inl rfl) (pe_op op_add (pe_call G_l_pick hr_l_pick (by rfl) T.g_l_pick T.F_l_pick.kp T.b_l_pick .nil pass0 (pa_cons (pv 0) (pa_cons (pe_lst (pa_cons pe_int (pa_cons pe_int (pa_cons pe_int (pa_cons pe_int (pa_cons pe_int (pa_cons (pe_op op_pow pe_int pe_int) (pa_cons (pe_op op_pow pe_int pe_int) pa_nil)))))))) pa_nil))) (pe_call G_l_draw hr_l_draw (by rfl) T.g_l_draw T.F_l_draw.kp T.b_l_draw .nil pass0 (pa_cons (pv 0) (pa_cons pe_int pa_nil)))))
    (pss_cons (ps_set (i := 11) sc_l_deep_right.nd rfl (.inl rfl) (pe_call G_l_draw hr_l_draw (by rfl) T.g_l_draw T.F_l_draw.kp T.b_l_draw .nil pass0 (pa_cons (pv 0) (pa_cons (pe_op op_add (pe_op op_mul (pe_op op_mul (pv 1) (pv 2)) (pv 10)) pe_int) pa_nil))))
    (pss_cons (ps_set (i := 12) sc_l_deep_right.nd rfl (.inr rfl) (pe_lst (pa_cons (pe_op op_mul (pv 1) (pv 10)) (pa_cons (pe_op op_sub (pe_op op_mul (pe_op op_mul (pv 1) (pv 2)) (pv 10)) (pv 11)) (pa_cons (pe_op op_mul (pv 3) (pv 11)) (pa_cons (pe_op op_mul (pv 3) (pv 11)) pa_nil))))))
    (pss_cons (ps_for PassesOwn.never rfl (pi_range1 (by rfl) T.n_range (pa_cons pe_int pa_nil)) (pg_name (i := 13) sc_l_deep_right.nd rfl (.inl rfl))
    (pss_cons (ps_set (i := 14) sc_l_deep_right.nd rfl (.inl rfl) (pe_op op_fdivW (pe_ix ix_list (pv 12) pe_int (fun _ _ => rfl)) (pv 1)))
    (pss_cons (ps_set (i := 15) sc_l_deep_right.nd rfl (.inl rfl) (pe_and (pe_cmpR op_eq (pe_op op_modN (pe_callTy cn_int (by rfl) T.n_int (by decide +kernel) (pa_cons (pe_ix ix_list (pv 12) pe_int (fun _ _ => rfl)) pa_nil)) (pv 1)) pe_int (nomark _)) (pe_and (pe_cmpR op_eq (pe_ix ix_list (pv 12) pe_int (fun _ _ => rfl)) (pe_ix ix_list (pv 12) pe_int (fun _ _ => rfl)) (nomark _)) (pe_and (pe_cmpR op_eq (pe_op op_modN (pe_callTy cn_int (by rfl) T.n_int (by decide +kernel) (pa_cons (pe_ix ix_list (pv 12) pe_int (fun _ _ => rfl)) pa_nil)) (pv 3)) pe_int (nomark _)) (pe_one (pe_cmpR op_eq (pe_op op_add (pe_ix ix_list (pv 12) pe_int (fun _ _ => rfl)) (pe_op op_fdivW (pe_ix ix_list (pv 12) pe_int (fun _ _ => rfl)) (pv 3))) (pe_op op_mul (pe_op op_mul (pv 1) (pv 2)) (pv 14)) (nomark _)))))))
    (pss_cons (ps_set (i := 16) sc_l_deep_right.nd rfl (.inl rfl) (pe_callTy cn_tuple (by rfl) T.n_tuple (by decide +kernel) (pa_cons (pe_lc (own := [("at", 6)]) (g := gName 6) (by rfl) sc_l_deep_right.nd (pi_range1 (by rfl) T.n_range (pa_cons pe_int pa_nil)) (blkOk_by (N := N_l_deep_right) (sc := defScope s_l_deep_right) (by decide +kernel)) (fun _ _ _ _ _ => (pg_name (i := 6) sc_l_deep_right.nd rfl (.inl rfl))) (fun _ _ _ _ _ => pts_nil) (fun _ _ _ _ _ => (pe_ix (ix_listK (K := K) rfl) (pv 12) (pe_bmK (K := K) rfl (pe_bm PySem.F.plainAttrs_list PySem.F.slot_list_index PySem.F.type_list_index (mn_indexK (K := K) rfl) (pv 5) (pa_cons (pv 6) pa_nil))) (fun _ _ => rfl)))) pa_nil)))
    (pss_cons (ps_if (pt_not (pt_val (pe_call G_l_shared hr_l_shared (by rfl) T.g_l_shared T.F_l_shared.kp T.b_l_shared .nil pass0 (pa_cons (pv 9) (pa_cons (pv 16) (pa_cons (pe_ifExp (pt_val (pv 15)) (pv 14) pe_non) pa_nil))))))
    (pss_one (ps_ret pe_bl))
    pss_nil)
    (pss_cons (ps_set (i := 6) sc_l_deep_right.nd rfl (.inl rfl) (pe_call G_l_draw hr_l_draw (by rfl) T.g_l_draw T.F_l_draw.kp T.b_l_draw .nil pass0 (pa_cons (pv 0) (pa_cons pe_int pa_nil))))
    (pss_cons (ps_asg (pe_callB (cn_max2 rfl) (by rfl) T.n_max (by decide +kernel) (pa_cons pe_int (pa_cons (pe_op op_add (pe_ix ix_list (pv 12) (pv 6) (fun _ _ => rfl)) (pe_call G_l_pick hr_l_pick (by rfl) T.g_l_pick T.F_l_pick.kp T.b_l_pick .nil pass0 (pa_cons (pv 0) (pa_cons (pe_lst (pa_cons pe_int (pa_cons (pe_op op_sub pe_int pe_int) (pa_cons (pv 1) (pa_cons (pv 3) pa_nil))))) pa_nil)))) pa_nil))) (pg_sub (pv 12) (pv 6) set_list))
    (pss_one (ps_if (PW.pt (pw_and (pt_cmpR op_gt (pv 6) pe_int (nomark _)) (pw_and1 (pt_cmpR op_gt (pe_call G_l_draw hr_l_draw (by rfl) T.g_l_draw T.F_l_draw.kp T.b_l_draw .nil pass0 (pa_cons (pv 0) (pa_cons pe_int pa_nil))) pe_int (nomark _)))))
    (pss_one (ps_asg (pe_ix ix_list (pv 12) (pv 6) (fun _ _ => rfl)) (pg_sub (pv 12) (pe_op op_sub pe_int (pv 6)) set_list)))
    pss_nil)))))))))
    (pss_one (ps_ret pe_bl))))))))))))), ?_⟩
  refine start_is (σ' := [some (.ref h), none, none, none, none, none, none, none, none, none, none, none, none, none, none, none, none]) rfl ?_
  walk_at "rd"
  refine r_kTup (by show 3 ≤ sizeLine; decide) fun t1 H1 n1 s1 e1 => ?_
  walk_at "rd"
  refine r_kTup (by show 3 ≤ sizeLine; decide) fun t2 H2 n2 s2 e2 => ?_
  walk_at "rd"
  refine r_kTup (by show 3 ≤ sizeLine; decide) fun t3 H3 n3 s3 e3 => ?_
  walk_at "rd"
  refine r_kTup (by show 3 ≤ sizeLine; decide) fun t4 H4 n4 s4 e4 => ?_
  walk_at "rd"
  refine r_kTup (by show 3 ≤ sizeLine; decide) fun t5 H5 n5 s5 e5 => ?_
  walk_at "rd"
  refine r_kTup (by show 3 ≤ sizeLine; decide) fun t6 H6 n6 s6 e6 => ?_
  walk_at "rd"
  refine r_kTup (by show 3 ≤ sizeLine; decide) fun t7 H7 n7 s7 e7 => ?_
  walk_at "rd"
  refine r_kTup (by show 3 ≤ sizeLine; decide) fun t8 H8 n8 s8 e8 => ?_
  walk_at "rd"
  refine r_kLst (by show 8 ≤ sizeLine; decide) fun l9 H9 n9 s9 e9 => ?_
  walk_at "rd"
  have d8 := (((((((ds.sw0 s1).sw0 s2).sw0 s3).sw0 s4).sw0 s5).sw0 s6).sw0 s7).sw0 s8
  have d9 := d8.sw0 s9
  have S9 : Sw [] H H9 := s1.trans (s2.trans (s3.trans (s4.trans (s5.trans (s6.trans (s7.trans (s8.trans s9)))))))
  refine use_pick d9 e9 (d8.newH n9) (d8.newC n9) (by show 0 < 8; decide) (by show 8 < 2 ^ 60; decide) fun ip fv H10 hf d10 s10 => ?_
  have FR : ∃ (t : Addr) (a b cc : Nat), fv = .ref t ∧ H10 t = some (.tup [.int (a : Int), .int (b : Int), .int (cc : Int)]) ∧ 1 ≤ a ∧ a ≤ 60 ∧ 1 ≤ b ∧ b ≤ 60 ∧ 1 ≤ cc ∧ cc ≤ 60 := by
    match ip, hf with
    | 0, hf => exact ⟨t1, 2, 3, 10, (Option.some.inj hf).symm, s10.tup _ _ (s9.tup _ _ (s8.tup _ _ (s7.tup _ _ (s6.tup _ _ (s5.tup _ _ (s4.tup _ _ (s3.tup _ _ (s2.tup _ _ e1)))))))), by decide⟩
    | 1, hf => exact ⟨t2, 3, 5, 4, (Option.some.inj hf).symm, s10.tup _ _ (s9.tup _ _ (s8.tup _ _ (s7.tup _ _ (s6.tup _ _ (s5.tup _ _ (s4.tup _ _ (s3.tup _ _ e2))))))), by decide⟩
    | 2, hf => exact ⟨t3, 5, 4, 3, (Option.some.inj hf).symm, s10.tup _ _ (s9.tup _ _ (s8.tup _ _ (s7.tup _ _ (s6.tup _ _ (s5.tup _ _ (s4.tup _ _ e3)))))), by decide⟩
    | 3, hf => exact ⟨t4, 3, 2, 7, (Option.some.inj hf).symm, s10.tup _ _ (s9.tup _ _ (s8.tup _ _ (s7.tup _ _ (s6.tup _ _ (s5.tup _ _ e4))))), by decide⟩
    | 4, hf => exact ⟨t5, 2, 2, 13, (Option.some.inj hf).symm, s10.tup _ _ (s9.tup _ _ (s8.tup _ _ (s7.tup _ _ (s6.tup _ _ e5)))), by decide⟩
    | 5, hf => exact ⟨t6, 4, 15, 1, (Option.some.inj hf).symm, s10.tup _ _ (s9.tup _ _ (s8.tup _ _ (s7.tup _ _ e6))), by decide⟩
    | 6, hf => exact ⟨t7, 60, 1, 1, (Option.some.inj hf).symm, s10.tup _ _ (s9.tup _ _ (s8.tup _ _ e7)), by decide⟩
    | 7, hf => exact ⟨t8, 7, 8, 1, (Option.some.inj hf).symm, s10.tup _ _ (s9.tup _ _ e8), by decide⟩
  have S10 : Sw [h, c] H H10 := S9.any.trans s10
  clear e1 e2 e3 e4 e5 e6 e7 e8 e9 n1 n2 n3 n4 n5 n6 n7 n8 n9 s1 s2 s3 s4 s5 s6 s7 s8 s9 d8 d9 S9 s10 hf
  obtain ⟨t, a, b, cc, rfl, ht, a1, a60, b1, b60, c1, c60⟩ := FR
  refine r_gTup ht rfl ?_
  walk_at "rd"
  refine ⟨h, c, 4, rfl, d10, by decide, by decide, fun pn ns H11 npn s11 d11 e11 nl sn pnh pnc => ?_⟩
  walk_at "rd"
  refine r_kLst (by show 4 ≤ sizeLine; decide) fun lo H12 nlo s12 e12 => ?_
  walk_at "rd"
  have d12 := d11.sw0 s12
  refine ⟨h, c, lo, _, rfl, d12, e12, d11.newH nlo, d11.newC nlo, by show 4 ≤ 60; decide, fun po ys H13 npo s13 d13 e13 pm => ?_⟩
  obtain ⟨os, rfl, pmo⟩ := perm_ints (l := [0, 1, 2, 3]) pm
  have S13 : Sw [h, c] H H13 := (S10.trans s11).trans (s12.any.trans s13)
  have e11' : H13 pn = some (.lst (ns.map V.str)) := s13.keep _ _ (not2 pnh pnc) (s12.keep _ _ not0 e11)
  have poh := d12.newH npo
  have poc := d12.newC npo
  have ol : os.length = 4 := pmo.length_eq
  obtain ⟨o0, o1, o2, o3, rfl⟩ := four_of ol
  obtain ⟨z0, z1, z2, z3, rfl⟩ := four_of (show ns.length = 4 by omega)
  have od : ([o0, o1, o2, o3] : List Nat).Nodup := pmo.symm.nodup (by decide)
  have o4 : ∀ o ∈ [o0, o1, o2, o3], o < 4 := fun o m => by
    have := pmo.subset m
    simp at this
    omega
  let nm : Nat → Str := fun o => ([z0, z1, z2, z3][o]?).getD z0
  have nmx : ∀ o, o < 4 → [z0, z1, z2, z3][o]? = some (nm o) := fun o ho => by
    match o, ho with
    | 0, _ => rfl
    | 1, _ => rfl
    | 2, _ => rfl
    | 3, _ => rfl
  have pmn : [nm o0, nm o1, nm o2, nm o3].Perm [z0, z1, z2, z3] := pmo.map nm
  walk_at "rd"
  refine r_kILc (SqL.of e13) (fun Dl i acc H' => Sw [] H13 H' ∧ IsFL H' (([o0, o1, o2, o3].take i).map fun o => .kind (nm o)) acc) (fun x => [some (.ref h), some (.int a), some (.int b), some (.int cc), some (.ref pn), some (.ref po), some x, none, none, none, none, none, none, none, none, none, none]) (fun x => rfl) (fun x => rfl) ?_ ?_ ?_ ?_
  · intro Dl H14 n14 s14
    exact ⟨s14, by rw [List.take_zero, List.map_nil]; unfold IsFL; rfl⟩
  · rintro Dl i acc H14 n14 e14 ⟨s14, _⟩
    exact SqL.of (s14.keep _ _ not0 e13)
  · rintro Dl i x acc H14 n14 hx e14 ⟨s14, f14⟩
    rw [List.getElem?_map] at hx
    obtain ⟨o, ho, rfl⟩ := Option.map_eq_some_iff.mp hx
    have mo := List.mem_of_getElem? ho
    refine r_yes ?_
    walk_at "rd"
    refine r_ixL (v := .str (nm o)) (s14.keep _ _ not0 e11') (by rw [List.getElem?_map, nmx o (o4 o mo)]; rfl) ?_
    walk_at "rd"
    refine r_kTup (by show 2 ≤ sizeLine; decide) fun p H15 n15 s15 e15 => ?_
    have al : acc.length ≤ 4 := by
      rw [f14.len, List.length_map, List.length_take]
      exact Nat.min_le_right _ _
    refine kPut_of _ (s15.keep _ _ not0 e14) (by rw [sizeLine_eq]; omega) fun H16 s16 e16 => ⟨(s14.trans s15).over1 s16 n14, ?_⟩
    rw [List.take_add_one, ho, List.map_append]
    refine ((f14.sw s15).sw s16).add ?_
    unfold IsF
    exact ⟨p, rfl, s16.tup _ _ e15⟩
  · rintro lk acc H14 n14 e14 ⟨s14, f14⟩
    have f14 : IsFL H14 [.kind (nm o0), .kind (nm o1), .kind (nm o2), .kind (nm o3)] acc := f14
    obtain ⟨b0, b1', b2, b3, rfl, g0, g1, g2, g3⟩ := f14.four
    have e13' := s14.keep _ _ not0 e13
    have d14 := d13.sw0 s14
    have S14 : Sw [h, c] H H14 := S13.trans s14.any
    have lkh := d13.newH n14
    have lkc := d13.newC n14
    walk_at "re"
    refine r_ixL' e14 (v := b2) rfl ?_
    walk_at "re"
    refine r_ixL' e14 (v := b3) rfl ?_
    walk_at "re"
    refine r_kTup (by show 2 ≤ sizeLine; decide) fun p1 H15 n15 s15 e15 => ?_
    walk_at "re"
    refine r_kTup (by show 2 ≤ sizeLine; decide) fun p2 H16 n16 s16 e16 => ?_
    have s46 := s15.trans s16
    have i0 : IsF H16 (.node true [.kind (nm o2), .kind (nm o3)]) (.ref p2) := IsF.two (s16.keep _ _ not0 e15) e16 (g2.sw s46) (g3.sw s46)
    walk_at "re"
    refine r_ixL' (s46.keep _ _ not0 e14) (v := b1') rfl ?_
    walk_at "re"
    refine r_via (fun v H' => Sw [] H16 H' ∧ IsF H' (manyIf cc (.node true [.kind (nm o2), .kind (nm o3)])) v) (fun Q' kq => ?_) ?_
    · walk_at "rd"
      refine ite2 (fun e => ?_) (fun e => ?_)
      · have e := of_decide_eq_true e
        walk_at "rd"
        refine kq _ _ ⟨Sw.refl _ _, ?_⟩
        unfold manyIf
        rw [if_pos (by omega)]
        exact i0
      · have e : ¬ (cc : Int) = 1 := fun x => e (decide_eq_true x)
        walk_at "rd"
        refine r_kTup (by show 3 ≤ sizeLine; decide) fun p3 H17 n17 s17 e17 => ?_
        refine kq _ _ ⟨s17, ?_⟩
        unfold manyIf
        rw [if_neg (by omega)]
        exact IsF.mk e17 (i0.sw s17)
    rintro v1 H17 ⟨s17, i1⟩
    walk_at "re"
    refine r_kTup (by show 2 ≤ sizeLine; decide) fun p4 H18 n18 s18 e18 => ?_
    walk_at "re"
    refine r_kTup (by show 2 ≤ sizeLine; decide) fun p5 H19 n19 s19 e19 => ?_
    have s69 := (s46.trans s17).trans (s18.trans s19)
    have i2 : IsF H19 (.node false [.kind (nm o1), manyIf cc (.node true [.kind (nm o2), .kind (nm o3)])]) (.ref p5) := IsF.two (s19.keep _ _ not0 e18) e19 (g1.sw s69) ((i1.sw s18).sw s19)
    walk_at "re"
    refine r_via (fun v H' => Sw [] H19 H' ∧ IsF H' (manyIf b (.node false [.kind (nm o1), manyIf cc (.node true [.kind (nm o2), .kind (nm o3)])])) v) (fun Q' kq => ?_) ?_
    · walk_at "rd"
      refine ite2 (fun e => ?_) (fun e => ?_)
      · have e := of_decide_eq_true e
        walk_at "rd"
        refine kq _ _ ⟨Sw.refl _ _, ?_⟩
        rw [manyIf, if_pos (show b = 1 by omega)]
        exact i2
      · have e : ¬ (b : Int) = 1 := fun x => e (decide_eq_true x)
        walk_at "rd"
        refine r_kTup (by show 3 ≤ sizeLine; decide) fun p3 H17 n17 s17 e17 => ?_
        refine kq _ _ ⟨s17, ?_⟩
        rw [manyIf, if_neg (show ¬ b = 1 by omega)]
        exact IsF.mk e17 (i2.sw s17)
    rintro v2 H20 ⟨s20, i3⟩
    walk_at "re"
    refine r_ixL' (s20.keep _ _ not0 (s69.keep _ _ not0 e14)) (v := b0) rfl ?_
    walk_at "re"
    refine r_kTup (by show 2 ≤ sizeLine; decide) fun p6 H21 n21 s21 e21 => ?_
    walk_at "re"
    refine r_kTup (by show 2 ≤ sizeLine; decide) fun p7 H22 n22 s22 e22 => ?_
    walk_at "re"
    refine r_kTup (by show 3 ≤ sizeLine; decide) fun pf H23 n23 s23 e23 => ?_
    have s79 := (s69.trans s20).trans ((s21.trans s22).trans s23)
    have i5 : IsF H23 (deepF a b cc (nm o0) (nm o1) (nm o2) (nm o3)) (.ref pf) :=
      IsF.mk e23 ((IsF.two (s22.keep _ _ not0 e21) e22 (((i3.sw s21).sw s22)) (g0.sw ((s69.trans s20).trans (s21.trans s22)))).sw s23)
    have S23 : Sw [h, c] H H23 := S14.trans s79.any
    have e13'' := s79.keep _ _ not0 e13'
    have d23 := d14.sw0 s79
    walk_at "re"
    refine r_I (show CPow 10 6 from ⟨by decide, by decide, by decide⟩) ?_
    walk_at "re"
    refine r_I (show CPow 10 15 from ⟨by decide, by decide, by decide⟩) ?_
    walk_at "re"
    refine r_kLst (by show 7 ≤ sizeLine; decide) fun l4 H24 n24 s24 e24 => ?_
    walk_at "re"
    refine use_pick (d23.sw0 s24) e24 (d23.newH n24) (d23.newC n24) (by show 0 < 7; decide) (by show 7 < 2 ^ 60; decide) fun ip fv H25 hf d25 s25 => ?_
    have FM : ∃ k : Int, fv = .int k ∧ 1 ≤ k ∧ k ≤ 1000000000000000 := by
      match ip, hf with
      | 0, hf => exact ⟨_, (Option.some.inj hf).symm, by decide, by decide⟩
      | 1, hf => exact ⟨_, (Option.some.inj hf).symm, by decide, by decide⟩
      | 2, hf => exact ⟨_, (Option.some.inj hf).symm, by decide, by decide⟩
      | 3, hf => exact ⟨_, (Option.some.inj hf).symm, by decide, by decide⟩
      | 4, hf => exact ⟨_, (Option.some.inj hf).symm, by decide, by decide⟩
      | 5, hf => exact ⟨_, (Option.some.inj hf).symm, by decide, by decide⟩
      | 6, hf => exact ⟨_, (Option.some.inj hf).symm, by decide, by decide⟩
    obtain ⟨k, rfl, k1, k2⟩ := FM
    clear hf
    walk_at "re"
    refine use_draw d25 (by decide) (by decide) fun e H26 le d26 s26 => ?_
    walk_at "re"
    have S26 : Sw [h, c] H H26 := ((S23.trans s24.any).trans s25).trans s26
    have e13c := s26.keep _ _ (not2 poh poc) (s25.keep _ _ (not2 poh poc) (s24.keep _ _ not0 e13''))
    have i26 := ((i5.sw s24).sw s25).sw s26
    have M1 : 1 ≤ k + (e : Int) ∧ k + (e : Int) ≤ 1000000000000001 := by omega
    generalize k + (e : Int) = M at M1 ⊢
    have ab1 : 1 ≤ (a : Int) * (b : Int) := by
      have := Nat.mul_le_mul a1 b1
      exact_mod_cast this
    have ab2 : (a : Int) * (b : Int) ≤ 3600 := by
      have := Nat.mul_le_mul a60 b60
      exact_mod_cast this
    have abM0 : 0 ≤ (a : Int) * (b : Int) * M := Int.mul_nonneg (by omega) (by omega)
    have abM1 : (a : Int) * (b : Int) * M ≤ 3600 * 1000000000000001 := Int.mul_le_mul ab2 M1.2 (by omega) (by omega)
    refine r_I (.inl ⟨by omega, by omega⟩) ?_
    walk_at "re"
    refine r_I (.inl ⟨by omega, by omega⟩) ?_
    walk_at "re"
    refine use_draw d26 (by omega) (by omega) fun un H27 lu d27 s27 => ?_
    have S27 := S26.trans s27
    walk_at "re"
    refine r_I (.inl ⟨by omega, by omega⟩) ?_
    walk_at "re"
    refine r_I (.inl ⟨by omega, by omega⟩) ?_
    walk_at "re"
    refine r_I (.inl ⟨by omega, by omega⟩) ?_
    walk_at "re"
    refine r_I (.inl ⟨by omega, by omega⟩) ?_
    walk_at "re"
    refine r_I (.inl ⟨by omega, by omega⟩) ?_
    walk_at "re"
    have aM : 0 ≤ (a : Int) * M := Int.mul_nonneg (by omega) (by omega)
    have cU : 0 ≤ (cc : Int) * (un : Int) := Int.mul_nonneg (by omega) (by omega)
    refine r_kLst (by show 4 ≤ sizeLine; decide) fun lr H28 n28 s28 e28 => ?_
    have S28 := S27.trans s28.any
    have lrh := d27.newH n28
    have lrc := d27.newC n28
    have nlr := S27.neu _ n28
    have e13d := s28.keep _ _ not0 (s27.keep _ _ (not2 poh poc) e13c)
    have porl : po ≠ lr := ne_of_none (s27.keep _ _ (not2 poh poc) e13c) n28
    have i28 := (i26.sw s27).sw s28
    have d28 := d27.sw0 s28
    walk_at "re"
    refine r_kFR ⟨by omega, by omega⟩ (fun i σ' H' => ∃ (rs : List Int) (x6 x13 x14 x15 x16 : Option V), σ' = [some (.ref h), some (.int a), some (.int b), some (.int cc), some (.ref pn), some (.ref po), x6, some (.ref lk), some (.ref p5), some (.ref pf), some (.int M), some (.int un), some (.ref lr), x13, x14, x15, x16] ∧ rs.length = 4 ∧ (∀ r ∈ rs, 0 ≤ r) ∧ H' lr = some (.lst (rs.map V.int)) ∧ DS h c H' ∧ Sw [h, c] H H' ∧ IsF H' (deepF a b cc (nm o0) (nm o1) (nm o2) (nm o3)) (.ref pf) ∧ H' po = some (.lst ([o0, o1, o2, o3].map fun n : Nat => V.int (n : Int))))
      ⟨[(a : Int) * M, (a : Int) * (b : Int) * M - (un : Int), (cc : Int) * (un : Int), (cc : Int) * (un : Int)], _, _, _, _, _, rfl, rfl, fun r m => ?_, e28, d28, S28, i28, e13d⟩ ?_ ?_
    · simp at m
      omega
    · rintro i σ' H29 hi ⟨rs, x6, x13, x14, x15, x16, rfl, rl, r0, e29, d29, S29, i29, o29⟩
      obtain ⟨q0, q1, q2, q3, rfl⟩ := four_of rl
      have e29' : H29 lr = some (.lst [.int q0, .int q1, .int q2, .int q3]) := e29
      walk_at "re"
      refine r_ixL' e29' (v := .int q0) rfl ?_
      walk_at "re"
      refine r_I (by exact ⟨by omega, small_log (by omega) (by omega)⟩) ?_
      walk_at "re"
      have a0 : (a : Int) ≠ 0 := by omega
      have c0 : (cc : Int) ≠ 0 := by omega
      let GC : Prop := q0 % (a : Int) = 0 ∧ q2 = q3 ∧ q2 % (cc : Int) = 0 ∧ q1 + q2 / (cc : Int) = (a : Int) * (b : Int) * (q0 / (a : Int))
      refine r_via (fun v H' => H29 = H' ∧ ((v = .bl true ∧ GC) ∨ (v = .bl false ∧ ¬ GC))) (fun Q' kq => ?_) ?_
      · walk_at "rd"
        refine r_ixL' e29' (v := .int q0) rfl ?_
        walk_at "rd"
        refine r_I a0 ?_
        walk_at "rd"
        rw [fmod_emod _ (by omega)]
        refine ite2 (fun g1 => ?_) (fun g1 => ?_)
        · have g1 := of_decide_eq_true g1
          walk_at "rd"
          refine r_ixL' e29' (v := .int q2) rfl ?_
          walk_at "rd"
          refine r_ixL' e29' (v := .int q3) rfl ?_
          walk_at "rd"
          refine ite2 (fun g2 => ?_) (fun g2 => ?_)
          · have g2 := of_decide_eq_true g2
            walk_at "rd"
            refine r_ixL' e29' (v := .int q2) rfl ?_
            walk_at "rd"
            refine r_I c0 ?_
            walk_at "rd"
            rw [fmod_emod _ (by omega)]
            refine ite2 (fun g3 => ?_) (fun g3 => ?_)
            · have g3 := of_decide_eq_true g3
              walk_at "rd"
              refine r_ixL' e29' (v := .int q1) rfl ?_
              walk_at "rd"
              refine r_ixL' e29' (v := .int q2) rfl ?_
              walk_at "rd"
              refine r_I (by exact ⟨by omega, small_log (by omega) (by omega)⟩) ?_
              walk_at "rd"
              refine r_I (.inl ⟨by omega, by omega⟩) ?_
              walk_at "rd"
              refine r_I (.inl ⟨by omega, by omega⟩) ?_
              walk_at "rd"
              refine kq _ _ ⟨rfl, ?_⟩
              by_cases g4 : q1 + q2 / (cc : Int) = (a : Int) * (b : Int) * (q0 / (a : Int))
              · exact .inl ⟨by rw [decide_eq_true g4], g1, g2, g3, g4⟩
              · exact .inr ⟨by rw [decide_eq_false g4], fun x => g4 x.2.2.2⟩
            · exact kq _ _ ⟨rfl, .inr ⟨rfl, fun x => g3 (decide_eq_true x.2.2.1)⟩⟩
          · exact kq _ _ ⟨rfl, .inr ⟨rfl, fun x => g2 (decide_eq_true x.2.1)⟩⟩
        · exact kq _ _ ⟨rfl, .inr ⟨rfl, fun x => g1 (decide_eq_true x.1)⟩⟩
      rintro gv _ ⟨rfl, hg⟩
      walk_at "re"
      let u : Am := fun z => if z = nm o0 then q0 else if z = nm o1 then q1 else if z = nm o2 then q2 else q3
      have ndn : [nm o0, nm o1, nm o2, nm o3].Nodup := pmn.symm.nodup sn.1
      simp only [List.nodup_cons, List.mem_cons, not_or, List.not_mem_nil, not_false_eq_true, and_true, List.nodup_nil] at ndn
      obtain ⟨⟨m01, m02, m03⟩, ⟨m12, m13⟩, m23⟩ := ndn
      have u0 : u (nm o0) = q0 := if_pos rfl
      have u1 : u (nm o1) = q1 := by
        show (if nm o1 = nm o0 then q0 else if nm o1 = nm o1 then q1 else _) = q1
        rw [if_neg (Ne.symm m01), if_pos rfl]
      have u2 : u (nm o2) = q2 := by
        show (if nm o2 = nm o0 then q0 else if nm o2 = nm o1 then q1 else if nm o2 = nm o2 then q2 else q3) = q2
        rw [if_neg (Ne.symm m02), if_neg (Ne.symm m12), if_pos rfl]
      have u3 : u (nm o3) = q3 := by
        show (if nm o3 = nm o0 then q0 else if nm o3 = nm o1 then q1 else if nm o3 = nm o2 then q2 else q3) = q3
        rw [if_neg (Ne.symm m03), if_neg (Ne.symm m13), if_neg (Ne.symm m23)]
      have uj : ∀ (j : Nat) (o : Nat), [o0, o1, o2, o3][j]? = some o → [q0, q1, q2, q3][j]? = some (u (nm o)) := fun j o hj => by
        match j, hj with
        | 0, hj => rw [← Option.some.inj hj, u0]; rfl
        | 1, hj => rw [← Option.some.inj hj, u1]; rfl
        | 2, hj => rw [← Option.some.inj hj, u2]; rfl
        | 3, hj => rw [← Option.some.inj hj, u3]; rfl
      refine r_kIRc ⟨by omega, by omega⟩ (fun Dl l acc H' => Sw [] H29 H' ∧ acc = tv ([z0, z1, z2, z3].take l) u) (fun x => [some (.ref h), some (.int a), some (.int b), some (.int cc), some (.ref pn), some (.ref po), some x, some (.ref lk), some (.ref p5), some (.ref pf), some (.int M), some (.int un), some (.ref lr), some (.int i), some (.int (q0 / (a : Int))), some gv, x16]) (fun x => rfl) (fun x => rfl) ?_ ?_ ?_
      · intro Dl H30 n30 s30
        exact ⟨s30, rfl⟩
      · rintro Dl l acc H30 n30 hl e30 ⟨s30, rfl⟩
        have ml : l ∈ [o0, o1, o2, o3] := pmo.symm.subset (by simp; omega)
        obtain ⟨j, hj⟩ := List.mem_iff_getElem?.mp ml
        refine r_yes ?_
        walk_at "re"
        have o30 := s30.keep _ _ not0 o29
        refine r_ty o30 ?_
        walk_at "re"
        have hj' : ([o0, o1, o2, o3].map fun n : Nat => V.int (n : Int))[j]? = some (.int (l : Int)) := by rw [List.getElem?_map, hj]; rfl
        refine ⟨po, _, .int (l : Int), j, .int (l : Int), rfl, rfl, SqL.of o30, rfl, rfl, hj', beq_self_eq_true (l : Int), fun m z' hm hz' => ?_, ?_⟩
        · rw [List.getElem?_map] at hz'
          obtain ⟨om, hom, rfl⟩ := Option.map_eq_some_iff.mp hz'
          refine beq_eq_false_iff_ne.mpr fun e => ?_
          have e : om = l := by exact_mod_cast e
          subst e
          obtain ⟨y1, w1⟩ := List.getElem?_eq_some_iff.mp hom
          obtain ⟨y2, w2⟩ := List.getElem?_eq_some_iff.mp hj
          have := (List.getElem_inj od).mp (w1.trans w2.symm)
          omega
        · refine r_ixL (v := .int (u (nm l))) (s30.keep _ _ not0 e29) (by rw [List.getElem?_map, uj j l hj]; rfl) ?_
          refine kPut_of _ e30 (by rw [tv_len, List.length_take, sizeLine_eq]; omega) fun H31 s31 e31 => ⟨s30.over1 s31 n30, ?_⟩
          rw [List.take_add_one, nmx l (by omega)]
          unfold tv
          rw [List.map_append]
          rfl
      · rintro Dl acc H30 n30 e30 ⟨s30, rfl⟩
        walk_at "re"
        refine r_tupL e30 fun ta H31 n31 s31 e31 => ?_
        have et : [z0, z1, z2, z3].take (4 : Int).toNat = [z0, z1, z2, z3] := rfl
        rw [et] at e31
        have s301 := s30.trans s31
        walk_at "re"
        have dsh := deep_sh (k0 := nm o0) (k1 := nm o1) (k2 := nm o2) (k3 := nm o3) (u := u) a1 b1 c1
        rw [u0, u1, u2, u3] at dsh
        refine r_via (fun v H' => H31 = H' ∧ v = vO (sh u (deepF a b cc (nm o0) (nm o1) (nm o2) (nm o3)))) (fun Q' kq => ?_) ?_
        · walk_at "rd"
          rcases hg with ⟨rfl, g⟩ | ⟨rfl, g⟩
          · refine ⟨true, rfl, iteT ?_⟩
            walk_at "rd"
            refine kq _ _ ⟨rfl, ?_⟩
            rw [dsh, if_pos g]
            rfl
          · refine ⟨false, rfl, iteF ?_⟩
            walk_at "rd"
            refine kq _ _ ⟨rfl, ?_⟩
            rw [dsh, if_neg g]
            rfl
        rintro _ _ ⟨rfl, rfl⟩
        walk_at "rd"
        have lv : leaves (deepF a b cc (nm o0) (nm o1) (nm o2) (nm o3)) = [nm o1, nm o2, nm o3, nm o0] := deep_leaves _ _ _ _ _ _ _
        have rot : [nm o1, nm o2, nm o3, nm o0].Perm [nm o0, nm o1, nm o2, nm o3] := (List.perm_append_comm (l₁ := [nm o1, nm o2, nm o3]) (l₂ := [nm o0]))
        have pml : [z0, z1, z2, z3].Perm (leaves (deepF a b cc (nm o0) (nm o1) (nm o2) (nm o3))) := by
          rw [lv]
          exact (rot.trans pmn).symm
        refine ⟨.ref pf, deepF a b cc (nm o0) (nm o1) (nm o2) (nm o3), ta, [z0, z1, z2, z3], u, rfl, i29.sw s301, deep_ok _ _ _ _ ⟨a1, by omega⟩ ⟨b1, by omega⟩ ⟨c1, by omega⟩, deep_dep _ _ _ _ _ _ _, by rw [lv]; show 4 ≤ 60; decide, pml.nodup sn.1, pml, sn.2.2, e31, fun z _ => ?_, fun H32 s32 => ?_⟩
        · have := r0 q0 (by simp)
          have := r0 q1 (by simp)
          have := r0 q2 (by simp)
          have := r0 q3 (by simp)
          show (0 : Int) ≤ if z = nm o0 then q0 else if z = nm o1 then q1 else if z = nm o2 then q2 else q3
          repeat' split <;> omega
        refine ⟨true, rfl, iteF ?_⟩
        walk_at "rd"
        have s312 := s301.trans s32
        refine use_draw (d29.sw0 s312) (by decide) (by decide) fun at' H33 lat d33 s33 => ?_
        have e33 : H33 lr = some (.lst ([q0, q1, q2, q3].map V.int)) := s33.keep _ _ (not2 lrh lrc) (s312.keep _ _ not0 e29)
        have o33 := s33.keep _ _ (not2 poh poc) (s312.keep _ _ not0 o29)
        walk_at "rd"
        have hq : [q0, q1, q2, q3][at']? = some ([q0, q1, q2, q3][at']'(by show at' < 4; omega)) := List.getElem?_eq_getElem _
        generalize [q0, q1, q2, q3][at']'(by show at' < 4; omega) = qa at hq
        refine r_ixL (v := .int qa) e33 (by rw [List.getElem?_map, hq]; rfl) ?_
        walk_at "rd"
        refine r_kLst (by show 4 ≤ sizeLine; decide) fun lp H34 n34 s34 e34 => ?_
        walk_at "rd"
        refine use_pick (d33.sw0 s34) e34 (d33.newH n34) (d33.newC n34) (by show 0 < 4; decide) (by show 4 < 2 ^ 60; decide) fun ip fv H35 hf d35 s35 => ?_
        have FK : ∃ k : Int, fv = .int k := by
          match ip, hf with
          | 0, hf => exact ⟨_, (Option.some.inj hf).symm⟩
          | 1, hf => exact ⟨_, (Option.some.inj hf).symm⟩
          | 2, hf => exact ⟨_, (Option.some.inj hf).symm⟩
          | 3, hf => exact ⟨_, (Option.some.inj hf).symm⟩
        obtain ⟨kx, rfl⟩ := FK
        walk_at "rd"
        have e35 := s35.keep _ _ (not2 lrh lrc) (s34.keep _ _ not0 e33)
        have o35 := s35.keep _ _ (not2 poh poc) (s34.keep _ _ not0 o33)
        have S35 : Sw [h, c] H H35 := ((S29.trans s312.any).trans s33).trans (s34.any.trans s35)
        have i35 := ((i29.sw (s312.trans (Sw.refl _ _))).sw s33).sw (s34.any.trans s35)
        have nv : 0 ≤ (if qa + kx > 0 then qa + kx else 0) := by split <;> omega
        generalize (if qa + kx > 0 then qa + kx else 0) = nw at nv ⊢
        refine r_setL e35 (by rw [List.length_map]; show at' < 4; omega) fun H36 s36 e36 => ?_
        have e36 : H36 lr = some (.lst (([q0, q1, q2, q3].set at' nw).map V.int)) := by rw [e36, List.map_set]
        have S36 := S35.over1 s36 nlr
        have d36 := d35.sw s36 (not1 (Ne.symm lrh)) (not1 (Ne.symm lrc))
        have i36 := i35.sw s36
        have o36 := s36.keep _ _ (not1 porl) o35
        have r36 : ∀ r ∈ [q0, q1, q2, q3].set at' nw, 0 ≤ r := fun r m => by
          rcases List.mem_or_eq_of_mem_set m with m | rfl
          · exact r0 r m
          · exact nv
        have l36 : ([q0, q1, q2, q3].set at' nw).length = 4 := by rw [List.length_set]; rfl
        generalize [q0, q1, q2, q3].set at' nw = rs2 at e36 r36 l36
        walk_at "rd"
        refine ite2 (fun ha => ?_) (fun ha => ?_)
        · have ha := of_decide_eq_true ha
          walk_at "rd"
          refine use_draw d36 (by decide) (by decide) fun dd H37 ldd d37 s37 => ?_
          have e37 := s37.keep _ _ (not2 lrh lrc) e36
          have o37 := s37.keep _ _ (not2 poh poc) o36
          walk_at "rd"
          refine ite2 (fun hb => ?_) (fun hb => ?_)
          · walk_at "rd"
            have hq2 : rs2[at']? = some (rs2[at']'(by omega)) := List.getElem?_eq_getElem _
            generalize rs2[at']'(by omega) = qb at hq2
            refine r_ixL (v := .int qb) e37 (by rw [List.getElem?_map, hq2]; rfl) ?_
            walk_at "rd"
            have h5 : (5 : Int) - (at' : Int) = ((5 - at' : Nat) : Int) := by omega
            rw [h5]
            refine r_setL e37 (by rw [List.length_map]; omega) fun H38 s38 e38 => ?_
            refine ⟨rs2.set (5 - at') qb, _, _, _, _, _, rfl, by rw [List.length_set]; exact l36, fun r m => ?_, by rw [e38, List.map_set], d37.sw s38 (not1 (Ne.symm lrh)) (not1 (Ne.symm lrc)), (S36.trans s37).over1 s38 nlr, (i36.sw s37).sw s38, s38.keep _ _ (not1 porl) o37⟩
            rcases List.mem_or_eq_of_mem_set m with m | rfl
            · exact r36 r m
            · exact r36 _ (List.mem_of_getElem? hq2)
          · walk_at "rd"
            exact ⟨rs2, _, _, _, _, _, rfl, l36, r36, e37, d37, S36.trans s37, i36.sw s37, o37⟩
        · walk_at "rd"
          refine iteF ?_
          walk_at "rd"
          exact ⟨rs2, _, _, _, _, _, rfl, l36, r36, e36, d36, S36, i36, o36⟩
    · rintro σ' H29 ⟨rs, x6, x13, x14, x15, x16, rfl, rl, r0, e29, d29, S29, i29, o29⟩
      walk_at "re"
      exact q H29 d29 S29
end
end K14
/-! D12 -/


namespace K14
open PySem PySem.Spec PyProof.Rows L2 Vf
def sp_law (K : PySem.W.Frag) : Sp := fun vs H Q _ => ∃ (a : Addr) (ns : List Int), vs = [.ref a] ∧ SqL K H a (ns.map V.int) ∧ ns.length ≤ 63 ∧ ∀ H', Q (.bl true) H'
section
variable {P : Program} {w : World} {K : PySem.W.Frag} {mg : Str → Option Value} {base : Heap}
theorem KB_share (T : Tx K mg) : KBinds K T.d_q_share ["formula", "amounts"] ["amounts", "formula"] gKB gKBV := by
  refine ⟨fun s us ws hK hl => ?_, gKB_rel⟩
  obtain ⟨a, f, rfl, rfl⟩ := gKB_two hl
  obtain ⟨oc, od, kV, doc, pm, an, cdv, ct, osl, e, lk, hcd⟩ := T.F_q_share.ex
  rw [e]
  exact .of_eq rfl
theorem ok_law (T : Tx K mg) : FnOk P w K mg base CX0 19 T.f_law T.d_law ["script"] (sp_law K) := by
  have KB_q_share := KB_share T
  have G_l_heap := ok_l_heap (P := P) (w := w) (base := base) T
  have G_l_draw := ok_l_draw (P := P) (w := w) (base := base) T
  have G_l_pick := ok_l_pick (P := P) (w := w) (base := base) T
  have G_l_names := ok_l_names (P := P) (w := w) (base := base) T
  have G_l_mixed := ok_l_mixed (P := P) (w := w) (base := base) T
  have G_l_formula := ok_l_formula (P := P) (w := w) (base := base) T 12
  have G_l_laid := ok_l_laid (P := P) (w := w) (base := base) T 12
  have G_l_known := ok_l_known (P := P) (w := w) (base := base) T
  have G_l_shared := ok_l_shared (P := P) (w := w) (base := base) T 12
  have G_l_turned := ok_l_turned (P := P) (w := w) (base := base) T
  have G_l_beside := ok_l_beside (P := P) (w := w) (base := base) T
  have G_l_deep_right := ok_l_deep_right (P := P) (w := w) (base := base) T
  have G_q_share := ok_q_share (P := P) (w := w) (base := base) T 12
  refine T.F_law.ok sc_law (fun vs H Q E h => ?_) (fun cdv A outer s H vs Q E hr h => ?_)
  · obtain ⟨a, ns, rfl, _⟩ := h
    rfl
  obtain ⟨sa, sn0, rfl, hsq, hsl, q⟩ := h
  have hr_l_heap := hr.mono (show 1 ≤ 18 by decide)
  have hr_l_draw := hr.mono (show 1 ≤ 18 by decide)
  have hr_l_pick := hr.mono (show 2 ≤ 18 by decide)
  have hr_l_names := hr.mono (show 3 ≤ 18 by decide)
  have hr_l_mixed := hr.mono (show 2 ≤ 18 by decide)
  have hr_l_formula := hr.mono (show 3 + 12 ≤ 18 by decide)
  have hr_l_laid := hr.mono (show 2 + 12 ≤ 18 by decide)
  have hr_l_known := hr.mono (show 2 ≤ 18 by decide)
  have hr_l_shared := hr.mono (show 6 + 12 ≤ 18 by decide)
  have hr_l_turned := hr.mono (show 2 ≤ 18 by decide)
  have hr_l_beside := hr.mono (show 1 ≤ 18 by decide)
  have hr_l_deep_right := hr.mono (show 17 ≤ 18 by decide)
  have hr_q_share := hr.mono (show 4 + 12 ≤ 18 by decide)
  refine ⟨_, (pss_cons (ps_set (i := 1) sc_law.nd rfl (.inl rfl) (pe_call G_l_heap hr_l_heap (by rfl) T.g_l_heap T.F_l_heap.kp T.b_l_heap .nil pass0 (pa_cons (pv 0) pa_nil)))
    (pss_cons (ps_set (i := 2) sc_law.nd rfl (.inl rfl) (pe_call G_l_names hr_l_names (by rfl) T.g_l_names T.F_l_names.kp T.b_l_names .nil pass0 (pa_cons (pv 1) (pa_cons (pe_call G_l_pick hr_l_pick (by rfl) T.g_l_pick T.F_l_pick.kp T.b_l_pick .nil pass0 (pa_cons (pv 1) (pa_cons (pe_lst (pa_cons pe_int (pa_cons pe_int (pa_cons pe_int (pa_cons pe_int (pa_cons pe_int (pa_cons pe_int (pa_cons pe_int (pa_cons pe_int (pa_cons pe_int (pa_cons (pe_op op_add pe_int (pe_call G_l_draw hr_l_draw (by rfl) T.g_l_draw T.F_l_draw.kp T.b_l_draw .nil pass0 (pa_cons (pv 1) (pa_cons pe_int pa_nil)))) pa_nil))))))))))) pa_nil))) pa_nil))))
    (pss_cons (ps_asg (pe_tup (pa_cons (pe_call G_l_formula hr_l_formula (by rfl) T.g_l_formula T.F_l_formula.kp T.b_l_formula .nil pass0 (pa_cons (pv 1) (pa_cons (pe_call G_l_mixed hr_l_mixed (by rfl) T.g_l_mixed T.F_l_mixed.kp T.b_l_mixed .nil pass0 (pa_cons (pv 1) (pa_cons (pv 2) pa_nil))) (pa_cons (pe_ifExp (pt_cmpR op_lt (pe_callB cn_len (by rfl) T.n_len (by decide +kernel) (pa_cons (pv 2) pa_nil)) pe_int (nomark _)) pe_int pe_int) pa_nil)))) (pa_cons (pe_op op_repT1 (pe_tup (pa_cons pe_int pa_nil)) (pe_callB cn_len (by rfl) T.n_len (by decide +kernel) (pa_cons (pv 2) pa_nil))) pa_nil))) (pg_tup rfl (pgs_cons (pg_name (i := 3) sc_law.nd rfl (.inr rfl)) (pgs_cons (pg_name (i := 4) sc_law.nd rfl (.inl rfl)) pgs_nil))))
    (pss_cons (ps_set (i := 5) sc_law.nd rfl (.inl rfl) (pe_call G_l_laid hr_l_laid (by rfl) T.g_l_laid T.F_l_laid.kp T.b_l_laid .nil pass0 (pa_cons (pv 3) (pa_cons (pv 2) pa_nil))))
    (pss_cons (ps_asg (pe_call G_l_known hr_l_known (by rfl) T.g_l_known T.F_l_known.kp T.b_l_known .nil pass0 (pa_cons (pv 5) (pa_cons (pv 4) pa_nil))) (pg_tup rfl (pgs_cons (pg_name (i := 6) sc_law.nd rfl (.inr rfl)) (pgs_cons (pg_name (i := 7) sc_law.nd rfl (.inr rfl)) pgs_nil))))
    (Evl.pss_cut (ps_if (PW.pt (pw_or (pt_cmpR on_isN (pv 6) pe_non (nomark _)) (pw_or1 (pt_not (pt_val (pe_callB (cr_all rfl) (by rfl) T.n_all (by decide +kernel) (pa_cons (pe_lc (own := [("item", 16)]) (g := gName 16) (by rfl) sc_law.nd (pi_list (pe_callTy (cn_listT rfl) (by rfl) T.n_list (by decide +kernel) (pa_cons (pv 6) pa_nil))) (blkOk_by (N := N_law) (sc := defScope s_law) (by decide +kernel)) (fun _ _ _ _ _ => (pg_name (i := 16) sc_law.nd rfl (.inl rfl))) (fun _ _ _ _ _ => pts_nil) (fun _ _ _ _ _ => (pe_call G_l_shared hr_l_shared (by rfl) T.g_l_shared T.F_l_shared.kp T.b_l_shared .nil pass0 (pa_cons (pv 3) (pa_cons (pv 16) (pa_cons (pe_dget (hu_of hr) (pv 6) (pv 16) (fun _ _ => rfl)) pa_nil)))))) pa_nil)))))))
    (pss_one (ps_ret pe_bl))
    pss_nil)
    (pss_cons (ps_set (i := 8) sc_law.nd rfl (.inl rfl) (pe_callB cr_sortTT (by rfl) T.n_sorted (by decide +kernel) (pa_cons (pe_callTy (cn_listT rfl) (by rfl) T.n_list (by decide +kernel) (pa_cons (pv 5) pa_nil)) pa_nil)))
    (Evl.pss_cut (ps_if (PW.pt (pw_or (pt_cmpR op_ne (pe_callK0 G_q_share hr_q_share (by rfl) T.g_q_share T.F_q_share.kp KB_q_share pass0 (pk_cons (pe_ix ix_list (pv 8) pe_int (fun _ _ => rfl)) (pk_cons (pv 3) pk_nil))) pe_int (nomark _)) (pw_or1 (pt_cmpR op_ne (pe_call G_q_share hr_q_share (by rfl) T.g_q_share T.F_q_share.kp T.b_q_share .nil pass0 (pa_cons (pv 3) (pa_cons (pv 4) pa_nil))) pe_int (nomark _)))))
    (pss_one (ps_ret pe_bl))
    pss_nil)
    (pss_cons (ps_setLc (i := 9) (own := [("item", 16)]) (g := gName 16) (by rfl) sc_law.nd rfl rfl (sw_true rfl rfl rfl (by decide +kernel)) (pi_list (pe_callB cr_sortTT (by rfl) T.n_sorted (by decide +kernel) (pa_cons (pe_callTy (cn_listT rfl) (by rfl) T.n_list (by decide +kernel) (pa_cons (pv 6) pa_nil)) pa_nil))) (blkOk_by (N := N_law) (sc := defScope s_law) (by decide +kernel)) (fun _ _ _ _ _ => (pg_name (i := 16) sc_law.nd rfl (.inl rfl))) (fun _ _ _ _ _ => (pts_one (pt_cmpR op_lt (pe_dget (hu_of hr) (pv 6) (pv 16) (fun _ _ => rfl)) (pv 7) (nomark _)))) (fun _ _ _ _ _ => (pv 16)))
    (pss_cons (ps_for PassesOwn.never rfl (pi_range1 (by rfl) T.n_range (pa_cons pe_int pa_nil)) (pg_name (i := 10) sc_law.nd rfl (.inl rfl))
    (pss_cons (ps_set (i := 11) sc_law.nd rfl (.inl rfl) (pe_call G_l_turned hr_l_turned (by rfl) T.g_l_turned T.F_l_turned.kp T.b_l_turned .nil pass0 (pa_cons (pv 1) (pa_cons (pe_call G_l_pick hr_l_pick (by rfl) T.g_l_pick T.F_l_pick.kp T.b_l_pick .nil pass0 (pa_cons (pv 1) (pa_cons (pv 9) pa_nil))) pa_nil))))
    (pss_cons (ps_par (by rfl) sc_law.nd (i := 12) (j := 13) rfl rfl (by decide) rfl rfl (pa_cons (pe_dget2 (hu_of hr) (pv 6) (pv 11) pe_non ⟨rfl, by rfl, rfl, rfl⟩) (pa_cons (pe_call G_l_pick hr_l_pick (by rfl) T.g_l_pick T.F_l_pick.kp T.b_l_pick .nil pass0 (pa_cons (pv 1) (pa_cons (pv 8) pa_nil))) pa_nil)) (by rfl))
    (pss_cons (ps_if (pt_not (pt_val (pe_call G_l_shared hr_l_shared (by rfl) T.g_l_shared T.F_l_shared.kp T.b_l_shared .nil pass0 (pa_cons (pv 3) (pa_cons (pv 11) (pa_cons (pv 12) pa_nil))))))
    (pss_one (ps_ret pe_bl))
    pss_nil)
    (pss_cons (ps_set (i := 14) sc_law.nd rfl (.inl rfl) (pe_op op_sub (pe_call G_l_pick hr_l_pick (by rfl) T.g_l_pick T.F_l_pick.kp T.b_l_pick .nil pass0 (pa_cons (pv 1) (pa_cons (pe_lst (pa_cons pe_int (pa_cons (pe_op op_pow pe_int pe_int) (pa_cons (pe_op op_pow pe_int pe_int) (pa_cons (pe_op op_pow pe_int pe_int) pa_nil))))) pa_nil))) (pe_call G_l_draw hr_l_draw (by rfl) T.g_l_draw T.F_l_draw.kp T.b_l_draw .nil pass0 (pa_cons (pv 1) (pa_cons pe_int pa_nil)))))
    (pss_cons (ps_if (pt_not (pt_val (pe_call G_l_shared hr_l_shared (by rfl) T.g_l_shared T.F_l_shared.kp T.b_l_shared .nil pass0 (pa_cons (pv 3) (pa_cons (pe_call G_l_beside hr_l_beside (by rfl) T.g_l_beside T.F_l_beside.kp T.b_l_beside .nil pass0 (pa_cons (pv 11) (pa_cons (pv 13) (pa_cons (pv 14) pa_nil)))) (pa_cons (pe_ifExp (pt_cmpR on_isN (pv 12) pe_non (nomark _)) pe_non (pe_op op_add (pv 12) (pv 14))) pa_nil))))))
    (pss_one (ps_ret pe_bl))
    pss_nil)
    (pss_cons (ps_set (i := 15) sc_law.nd rfl (.inl rfl) (pe_call G_l_pick hr_l_pick (by rfl) T.g_l_pick T.F_l_pick.kp T.b_l_pick .nil pass0 (pa_cons (pv 1) (pa_cons (pv 8) pa_nil))))
    (pss_one (ps_if (pt_not (pt_val (pe_call G_l_shared hr_l_shared (by rfl) T.g_l_shared T.F_l_shared.kp T.b_l_shared .nil pass0 (pa_cons (pv 3) (pa_cons (pe_call G_l_beside hr_l_beside (by rfl) T.g_l_beside T.F_l_beside.kp T.b_l_beside .nil pass0 (pa_cons (pe_call G_l_beside hr_l_beside (by rfl) T.g_l_beside T.F_l_beside.kp T.b_l_beside .nil pass0 (pa_cons (pv 4) (pa_cons (pv 13) (pa_cons (pv 14) pa_nil)))) (pa_cons (pv 15) (pa_cons (pv 10) pa_nil)))) (pa_cons (pe_op op_add (pv 14) (pv 10)) pa_nil))))))
    (pss_one (ps_ret pe_bl))
    pss_nil)))))))))
    (pss_one (ps_ret (pe_call G_l_deep_right hr_l_deep_right (by rfl) T.g_l_deep_right T.F_l_deep_right.kp T.b_l_deep_right .nil pass0 (pa_cons (pv 1) pa_nil)))))))))))))), ?_⟩
  refine start_is (σ' := [some (.ref sa), none, none, none, none, none, none, none, none, none, none, none, none, none, none, none, none]) rfl ?_
  walk_at "re"
  refine ⟨sa, sn0, rfl, hsq, hsl, fun h c H1 nh nc s1 d1 => ?_⟩
  walk_at "re"
  refine use_draw d1 (by decide) (by decide) fun e0 H2 le d2 s2 => ?_
  walk_at "re"
  refine r_kLst (by show 10 ≤ sizeLine; decide) fun l3 H3 n3 s3 e3 => ?_
  walk_at "re"
  refine use_pick (d2.sw0 s3) e3 (d2.newH n3) (d2.newC n3) (by show 0 < 10; decide) (by show 10 < 2 ^ 60; decide) fun ip fv H4 hf d4 s4 => ?_
  have FN : ∃ n : Int, fv = .int n ∧ 1 ≤ n ∧ n ≤ 8 := by
    match ip, hf with
    | 0, hf => exact ⟨_, (Option.some.inj hf).symm, by decide, by decide⟩
    | 1, hf => exact ⟨_, (Option.some.inj hf).symm, by decide, by decide⟩
    | 2, hf => exact ⟨_, (Option.some.inj hf).symm, by decide, by decide⟩
    | 3, hf => exact ⟨_, (Option.some.inj hf).symm, by decide, by decide⟩
    | 4, hf => exact ⟨_, (Option.some.inj hf).symm, by decide, by decide⟩
    | 5, hf => exact ⟨_, (Option.some.inj hf).symm, by decide, by decide⟩
    | 6, hf => exact ⟨_, (Option.some.inj hf).symm, by decide, by decide⟩
    | 7, hf => exact ⟨_, (Option.some.inj hf).symm, by decide, by decide⟩
    | 8, hf => exact ⟨_, (Option.some.inj hf).symm, by decide, by decide⟩
    | 9, hf => exact ⟨6 + (e0 : Int), (Option.some.inj hf).symm, by omega, by omega⟩
  obtain ⟨n, rfl, n1, n8⟩ := FN
  walk_at "re"
  refine ⟨h, c, n, rfl, d4, n1, by omega, fun pn ns H5 npn s5 d5 e5 nl sn pnh pnc => ?_⟩
  walk_at "re"
  refine ⟨h, c, pn, ns.map V.str, rfl, d5, e5, pnh, pnc, by rw [List.length_map]; omega, fun pm ys H6 npm s6 d6 e6 ym => ?_⟩
  obtain ⟨ms, rfl, mp⟩ := perm_strs ym
  have e5' := s6.keep _ _ (not2 pnh pnc) e5
  have pmh := d5.newH npm
  have pmc := d5.newC npm
  have ml := mp.length_eq
  walk_at "re"
  refine r_via (fun v H' => H6 = H' ∧ ∃ r : Nat, v = .int (r : Int) ∧ 1 ≤ r ∧ ns.length + r ≤ 12 ∧ ((ns.length ≤ 8 ∧ r = 1) ∨ (ns.length ≤ 4 ∧ r = 3))) (fun Q' kq => ?_) ?_
  · walk_at "rd"
    refine r_lenL e5' ?_
    walk_at "rd"
    rw [List.length_map]
    refine ite2 (fun e => ?_) (fun e => ?_)
    · have e := of_decide_eq_true e
      exact kq _ _ ⟨rfl, 3, rfl, by decide, by omega, .inr ⟨by omega, rfl⟩⟩
    · exact kq _ _ ⟨rfl, 1, rfl, by decide, by omega, .inl ⟨by omega, rfl⟩⟩
  rintro _ _ ⟨rfl, r, rfl, r1, r12, rr⟩
  walk_at "re"
  refine ⟨h, c, pm, ms, r, rfl, d6, e6, pmh, pmc, by omega, by omega, by omega, by omega, fun fv f H7 s7 d7 f7 lf wf df => ?_⟩
  walk_at "re"
  have okf : OkF f := wf.ok (by omega)
  have pmf : ns.Perm (leaves f) := by rw [lf]; exact mp.symm
  have ndf : (leaves f).Nodup := pmf.nodup sn.1
  have len8 : ns.length ≤ 8 := by omega
  have lenf : (leaves f).length ≤ 60 := by rw [← pmf.length_eq]; omega
  have c128 : Vf.cnt f ≤ 128 := cnt_128 pmf.length_eq.symm (by
    rcases rr with ⟨x, rfl⟩ | ⟨x, rfl⟩
    · exact .inl ⟨x, wf⟩
    · exact .inr ⟨x, wf⟩)
  refine r_kTup (by show 1 ≤ sizeLine; decide) fun t8 H8 n8' s8 e8 => ?_
  walk_at "re"
  have e5c := s8.keep _ _ not0 (s7.keep _ _ (not2 pnh pnc) e5')
  refine r_lenL e5c ?_
  walk_at "re"
  rw [List.length_map]
  refine r_zeros e8 (by omega) (by omega) fun pz H9 s9 e9 => ?_
  walk_at "re"
  refine r_kTup (by show 2 ≤ sizeLine; decide) fun t10 H10 n10 s10 e10 => ?_
  refine r_gTup e10 rfl ?_
  walk_at "re"
  have s810 := (s8.trans s9).trans s10
  have d10 := d7.sw0 s810
  have f10 := f7.sw s810
  have e5d := (s9.trans s10).keep _ _ not0 e5c
  have z10 := s10.keep _ _ not0 e9
  refine ⟨fv, f, pn, ns, rfl, f10, okf, df, by omega, e5d, by omega, by omega, sn.1, fun pw kw H11 n11 s11 e11 Lw lw => ?_⟩
  walk_at "re"
  have z11 := s11.keep _ _ not0 z10
  refine ⟨pw, pz, ns, f, kw, rfl, e11, Lw, by omega, z11, okf, ndf, pmf, by omega, fun tk pk kv most H12 n12 s12 t12 e12 Kn mo1 mo3 k2000 => ?_⟩
  refine r_gTup t12 rfl ?_
  walk_at "re"
  have d12 := (d10.sw0 s11).sw0 s12
  have f12 := (f10.sw s11).sw s12
  have z12 := s12.keep _ _ not0 z11
  have w12 := s12.keep _ _ not0 e11
  have pwh := d10.newH n11
  have pwc := d10.newC n11
  have pkh := (d10.sw0 s11).newH n12
  have pkc := (d10.sw0 s11).newC n12
  refine r_cut (M := fun σ H' => σ = [some (.ref sa), some (.ref h), some (.ref pn), some fv, some (.ref pz), some (.ref pw), some (.ref pk), some (.int (most : Int)), none, none, none, none, none, none, none, none, none] ∧ Sw [] H12 H') ?_ ?_
  · walk_at "rd"
    refine iteF ?_
    walk_at "rd"
    refine r_listDT e12 fun lk bs H13 n13 s13 ik e13 => ?_
    have nb := isKeys_len ik
    refine r_kILc (SqL.of e13) (fun Dl i acc H' => Sw [] H13 H' ∧ acc = (List.replicate i true).map V.bl) (fun x => [some (.ref sa), some (.ref h), some (.ref pn), some fv, some (.ref pz), some (.ref pw), some (.ref pk), some (.int (most : Int)), none, none, none, none, none, none, none, none, some x]) (fun x => rfl) (fun x => rfl) ?_ ?_ ?_ ?_
    · intro Dl H14 n14 s14
      exact ⟨s14, rfl⟩
    · rintro Dl i acc H14 n14 e14 ⟨s14, _⟩
      exact SqL.of (s14.keep _ _ not0 e13)
    · rintro Dl i x acc H14 n14 hx e14 ⟨s14, rfl⟩
      obtain ⟨pr, t, hpr, rfl, ht⟩ := isKeys_at' ik hx
      obtain ⟨m, u, hu, ek, ev⟩ := Kn.snd pr (List.mem_of_getElem? hpr)
      have i1 := (List.getElem?_eq_some_iff.mp hpr).1
      have ht2 := s14.tup _ _ ht
      have kv14 := s14.keep _ _ not0 (s13.keep _ _ not0 e12)
      have shu := sh_sum0 ndf okf hu.2
      refine r_yes ?_
      walk_at "rd"
      refine r_kDGetT kv14 ht2 (by rw [ek]; exact Kn.cpl m u hu) ?_
      rw [ek, kk_map] at ht2
      have e1 : V.int (m : Int) = vO (sh u f) := by rw [shu]; rfl
      rw [e1]
      refine ⟨fv, f, t, ns, u, rfl, (f12.sw s13).sw s14, okf, df, lenf, ndf, pmf, sn.2.2, ht2, fun z _ => hu.2.pos z, fun H15 s15 => ?_⟩
      refine kPut_of _ (s15.keep _ _ not0 e14) (by rw [List.length_map, List.length_replicate, sizeLine_eq]; omega) fun H16 s16 e16 => ⟨(s14.trans s15).over1 s16 n14, ?_⟩
      rw [List.replicate_succ', List.map_append]
      rfl
    · rintro Dl acc H14 n14 e14 ⟨s14, rfl⟩
      walk_at "rd"
      refine r_all e14 ?_
      walk_at "rd"
      have ta : ((List.replicate (bs.map V.ref).length true).all id) = true := by
        rw [List.all_eq_true]
        intro b mb
        rw [(List.mem_replicate.mp mb).2]
        rfl
      rw [ta]
      refine iteF ?_
      exact ⟨rfl, s13.trans s14⟩
  · rintro σ H13 ⟨rfl, s13⟩
    walk_at "rd"
    have w13 := s13.keep _ _ not0 w12
    refine r_listDT w13 fun l14 bs H14 n14 s14 ik e14 => ?_
    walk_at "rd"
    refine r_sortKeys (ns := ns) ik e14 (fun k hk => let ⟨u, _, e⟩ := Lw.snd k hk; ⟨u, e⟩) (by omega) fun pr rows H15 n15 s15 e15 rl rs _ => ?_
    walk_at "rd"
    have S15 := (s13.trans s14).trans s15
    have rows_at : ∀ (i : Nat) (y : V), rows[i]? = some y → ∃ (t : Addr) (u : Am), y = .ref t ∧ H15 t = some (.tup (tv ns u)) ∧ Way f u := fun i y hy => by
      obtain ⟨p, hp, t, e, ht⟩ := rs y (List.mem_of_getElem? hy)
      obtain ⟨u, hu, ek⟩ := Lw.snd p.1 (List.mem_map.mpr ⟨p, hp, rfl⟩)
      rw [ek, kk_map] at ht
      exact ⟨t, u, e, ht, hu⟩
    have rows0 : 0 < rows.length := by
      obtain ⟨u, hu⟩ := way_some okf
      have := List.length_pos_of_mem (Lw.cpl u hu)
      rw [List.length_map] at this
      omega
    have d15 := d12.sw0 S15
    have f15 := f12.sw S15
    have z15 := S15.keep _ _ not0 z12
    have k15 := S15.keep _ _ not0 e12
    have prh := ((d12.sw0 s13).sw0 s14).newH n15
    have prc := ((d12.sw0 s13).sw0 s14).newC n15
    refine r_cut (M := fun σ H' => σ = [some (.ref sa), some (.ref h), some (.ref pn), some fv, some (.ref pz), some (.ref pw), some (.ref pk), some (.int (most : Int)), some (.ref pr), none, none, none, none, none, none, none, none] ∧ Sw [] H15 H') ?_ ?_
    · walk_at "rd"
      have h0 : rows[0]? = some (rows[0]'rows0) := List.getElem?_eq_getElem rows0
      obtain ⟨t0, w0, et0, ht0, hw0⟩ := rows_at 0 _ h0
      rw [et0] at h0
      refine r_ixL' (v := .ref t0) e15 (show atI _ ((0 : Nat) : Int) = _ from atI_nat h0) ?_
      walk_at "rd"
      refine ⟨fv, f, t0, ns, w0, rfl, f15, okf, df, lenf, ndf, pmf, sn.2.2, ht0, fun H16 s16 => ?_⟩
      walk_at "rd"
      rw [sh_one ndf okf hw0]
      refine r_neI (i := 1) (j := 1) ?_
      walk_at "rd"
      refine iteF ?_
      walk_at "rd"
      refine ⟨fv, f, pz, ns, zeroA, rfl, f15.sw s16, okf, df, lenf, ndf, pmf, sn.2.2, s16.keep _ _ not0 z15, fun H17 s17 => ?_⟩
      walk_at "rd"
      rw [sh_zero okf]
      refine r_neI (i := 0) (j := 0) ?_
      walk_at "rd"
      refine iteF ?_
      walk_at "rd"
      exact ⟨rfl, s16.trans s17⟩
    · rintro σ H16 ⟨rfl, s16⟩
      walk_at "rd"
      have k16 := s16.keep _ _ not0 k15
      refine r_listDT k16 fun l17 bs2 H17 n17 s17 ik2 e17 => ?_
      walk_at "rd"
      refine r_sortKeys (ns := ns) ik2 e17 (fun k hk => ?_) (by omega) fun p8 its H18 n18 s18 e18 il is' isz => ?_
      · obtain ⟨p, hp, rfl⟩ := List.mem_map.mp hk
        obtain ⟨m, u, _, ek, _⟩ := Kn.snd p hp
        exact ⟨u, ek⟩
      walk_at "rd"
      have S18 := (s16.trans s17).trans s18
      have k18 := (s17.trans s18).keep _ _ not0 k16
      have its_at : ∀ (i : Nat) (y : V), its[i]? = some y → ∃ (t : Addr) (m : Nat) (u : Am), y = .ref t ∧ H18 t = some (.tup (tv ns u)) ∧ Sums f most m u := fun i y hy => by
        obtain ⟨p, hp, t, e, ht⟩ := is' y (List.mem_of_getElem? hy)
        obtain ⟨m, u, hu, ek, _⟩ := Kn.snd p hp
        rw [ek, kk_map] at ht
        exact ⟨t, m, u, e, ht, hu⟩
      refine r_kILc (SqL.of e18) (fun Dl i acc H' => Sw [] H18 H' ∧ acc.length ≤ i ∧ (∀ y ∈ acc, ∃ (t : Addr) (m : Nat) (u : Am), y = .ref t ∧ H18 t = some (.tup (tv ns u)) ∧ SumN m (Way f) u ∧ m < most) ∧ (∀ (j : Nat) (t : Addr), j < i → its[j]? = some (.ref t) → H18 t = some (.tup (tv ns zeroA)) → acc ≠ [])) (fun x => [some (.ref sa), some (.ref h), some (.ref pn), some fv, some (.ref pz), some (.ref pw), some (.ref pk), some (.int (most : Int)), some (.ref pr), none, none, none, none, none, none, none, some x]) (fun x => rfl) (fun x => rfl) ?_ ?_ ?_ ?_
      · intro Dl H19 n19 s19
        exact ⟨s19, Nat.le_refl _, fun y m => absurd m List.not_mem_nil, fun j t hj => absurd hj (Nat.not_lt_zero j)⟩
      · rintro Dl i acc H19 n19 e19 ⟨s19, _⟩
        exact SqL.of (s19.keep _ _ not0 e18)
      · rintro Dl i x acc H19 n19 hx e19 ⟨s19, al, ag, az⟩
        obtain ⟨t, m, u, rfl, ht, hu⟩ := its_at i x hx
        have i1 := (List.getElem?_eq_some_iff.mp hx).1
        have ht9 : H19 t = some (.tup ((kk ns u).map kV)) := by rw [kk_map]; exact s19.tup _ _ ht
        walk_at "rd"
        refine r_kDGetT (s19.keep _ _ not0 k18) ht9 (Kn.cpl m u hu) ?_
        walk_at "rd"
        refine r_turn (fun hb => ?_) (fun hb => ?_)
        · have hb : (m : Int) < (most : Int) := of_decide_eq_true hb
          walk_at "rd"
          refine kPut_of _ e19 (by rw [sizeLine_eq]; omega) fun H20 s20 e20 => ⟨s19.over1 s20 n19, ?_, fun y my => ?_, fun j t' _ _ _ => ?_⟩
          · rw [List.length_append, List.length_singleton]
            omega
          · rcases List.mem_append.mp my with my | my
            · exact ag y my
            · exact ⟨t, m, u, List.mem_singleton.mp my, ht, hu.2, by omega⟩
          · intro e
            have := congrArg List.length e
            rw [List.length_append, List.length_singleton] at this
            exact absurd this (Nat.succ_ne_zero _)
        · have hb : ¬ (m : Int) < (most : Int) := of_decide_eq_false hb
          refine ⟨acc, e19, s19, by omega, ag, fun j t' hj hx' hz => ?_⟩
          rcases Nat.lt_or_eq_of_le (Nat.le_of_lt_succ hj) with hj | rfl
          · exact az j t' hj hx' hz
          · exfalso
            rw [hx] at hx'
            obtain rfl : t = t' := V.ref.inj (Option.some.inj hx')
            rw [ht] at hz
            have e3 : tv ns u = tv ns zeroA := by
              have := Option.some.inj hz
              exact HO.tup.inj this
            have e4 : sh u f = sh zeroA f := sh_congr fun z mz => tv_inj e3 z (pmf.symm.subset mz)
            rw [sh_sum0 ndf okf hu.2, sh_zero okf] at e4
            have := Option.some.inj e4
            omega
      · rintro plow low H19 n19 e19 ⟨s19, al, ag, az⟩
        have low0 : 0 < low.length := by
          have hv := Kn.cpl 0 zeroA ⟨Nat.zero_le _, rfl⟩
          have hm : kk ns zeroA ∈ kv.map Prod.fst := by
            false_or_by_contra
            rename_i hh
            rw [valV_out hh] at hv
            cases hv
          obtain ⟨p, hp, ep⟩ := List.mem_map.mp hm
          obtain ⟨y, my, t, rfl, ht⟩ := isz p hp
          rw [ep, kk_map] at ht
          obtain ⟨j, hj⟩ := List.mem_iff_getElem?.mp my
          have := az j t (List.getElem?_eq_some_iff.mp hj).1 hj ht
          exact List.length_pos_iff.mpr this
        walk_at "rd"
        have S19 := S18.trans s19
        have d16 := d15.sw0 s16
        have d19 := (d16.sw0 (s17.trans s18)).sw0 s19
        have plh := (d16.sw0 (s17.trans s18)).newH n19
        have plc := (d16.sw0 (s17.trans s18)).newC n19
        refine r_kFR ⟨by omega, by omega⟩ (fun i σ' H' => ∃ (x10 x11 x12 x13 x14 x15 : Option V), σ' = [some (.ref sa), some (.ref h), some (.ref pn), some fv, some (.ref pz), some (.ref pw), some (.ref pk), some (.int (most : Int)), some (.ref pr), some (.ref plow), x10, x11, x12, x13, x14, x15, none] ∧ DS h c H' ∧ Sw [h, c] H19 H')
          ⟨_, _, _, _, _, _, rfl, d19, Sw.refl _ _⟩ ?_ ?_
        · rintro i σ' H20 hi ⟨x10, x11, x12, x13, x14, x15, rfl, d20, s20⟩
          walk_at "re"
          have low60 : low.length < 2 ^ 60 := by omega
          have S20 : Sw [h, c] H19 H20 := s20
          refine use_pick d20 (s20.keep _ _ (not2 plh plc) e19) plh plc low0 low60 fun ip v0 H21 hv d21 s21 => ?_
          obtain ⟨t0, m0, u0, rfl, ht0, hm0, lt0⟩ := ag v0 (List.mem_of_getElem? hv)
          walk_at "re"
          have ht21 := s21.tup _ _ (s20.tup _ _ (s19.tup _ _ ht0))
          refine ⟨h, c, t0, ns, u0, rfl, d21, ht21, sn.1, by omega, by omega, fun z _ => hm0.pos z, fun pnear tt z1 H22 nnear s22 d22 e22 mz1 bt => ?_⟩
          have S22 : Sw [h, c] H15 H22 := (S19.any.trans S20).trans (s21.trans s22)
          have k22 : H22 pk = some (.dT kv) := S22.keep _ _ (not2 pkh pkc) k15
          walk_at "re"
          refine ⟨pk, rfl, .inr ⟨kv, .inl k22⟩, ?_⟩
          walk_at "re"
          refine r_kDGet2T (k := kk ns tt) k22 (by rw [kk_map]; exact e22) ?_
          rw [known_get Kn okf ndf pmf hm0 lt0 bt]
          walk_at "re"
          refine use_pick d22 (S22.keep _ _ (not2 prh prc) e15) prh prc rows0 (by omega) fun ip v1 H23 hv1 d23 s23 => ?_
          obtain ⟨t1, w1, rfl, ht1, hw1⟩ := rows_at _ v1 hv1
          have S23 := S22.trans s23
          have e23 := s23.tup _ _ e22
          have ht23 := S23.tup _ _ ht1
          walk_at "re"
          refine ⟨fv, f, pnear, ns, tt, rfl, f15.sw S23, okf, df, lenf, ndf, pmf, sn.2.2, e23, fun z hz => (bt z hz).1, fun H24 s24 => ?_⟩
          refine ⟨true, rfl, iteF ?_⟩
          walk_at "re"
          refine r_I (show CPow 10 6 from ⟨by decide, by decide, by decide⟩) ?_
          walk_at "re"
          refine r_I (show CPow 10 12 from ⟨by decide, by decide, by decide⟩) ?_
          walk_at "re"
          refine r_I (show CPow 10 17 from ⟨by decide, by decide, by decide⟩) ?_
          walk_at "re"
          refine r_kLst (by show 4 ≤ sizeLine; decide) fun l25 H25 n25 s25 e25 => ?_
          walk_at "re"
          have d24 := d23.sw0 s24
          refine use_pick (d24.sw0 s25) e25 (d24.newH n25) (d24.newC n25) (by show 0 < 4; decide) (by show 4 < 2 ^ 60; decide) fun ip v2 H26 hv2 d26 s26 => ?_
          have FG : ∃ k : Int, v2 = .int k ∧ 60 ≤ k ∧ k ≤ 100000000000000000 := by
            match ip, hv2 with
            | 0, hf => exact ⟨_, (Option.some.inj hf).symm, by decide, by decide⟩
            | 1, hf => exact ⟨_, (Option.some.inj hf).symm, by decide, by decide⟩
            | 2, hf => exact ⟨_, (Option.some.inj hf).symm, by decide, by decide⟩
            | 3, hf => exact ⟨_, (Option.some.inj hf).symm, by decide, by decide⟩
          obtain ⟨gk, rfl, gk1, gk2⟩ := FG
          walk_at "re"
          refine use_draw d26 (by decide) (by decide) fun gd H27 lgd d27 s27 => ?_
          walk_at "re"
          have g01 : 2 ≤ gk - (gd : Int) ∧ gk - (gd : Int) ≤ 100000000000000000 := by omega
          generalize gk - (gd : Int) = g at g01 ⊢
          have S27 : Sw [h, c] H23 H27 := (s24.any.trans s25.any).trans (s26.trans s27)
          refine ⟨pnear, t1, ns, tt, w1, g, rfl, S27.tup _ _ e23, S27.tup _ _ ht23, by omega, by omega, by omega, fun pb H28 n28 s28 e28 => ?_⟩
          have sb := sh_beside ndf okf hw1 (show 0 ≤ g by omega) tt
          walk_at "re"
          refine r_via (fun v H' => H28 = H' ∧ v = vO (sh (fun z => tt z + g * w1 z) f)) (fun Q' kq => ?_) ?_
          · walk_at "rd"
            cases e : sh tt f with
            | none =>
              refine iteT ?_
              walk_at "rd"
              exact kq _ _ ⟨rfl, by rw [sb, e]; rfl⟩
            | some k =>
              refine iteF ?_
              walk_at "rd"
              refine r_I0 (i := k) (j := g) ?_
              exact kq _ _ ⟨rfl, by rw [sb, e]; rfl⟩
          rintro _ _ ⟨rfl, rfl⟩
          walk_at "re"
          have S28 := (S23.trans S27).trans s28.any
          refine ⟨fv, f, pb, ns, _, rfl, f15.sw S28, okf, df, lenf, ndf, pmf, sn.2.2, e28, fun z hz => ?_, fun H29 s29 => ?_⟩
          · have := Int.mul_nonneg (show 0 ≤ g by omega) (way_pos z hw1)
            have := (bt z hz).1
            show 0 ≤ tt z + g * w1 z
            omega
          refine ⟨true, rfl, iteF ?_⟩
          walk_at "re"
          have S29 := S28.trans s29.any
          have d29 := (d27.sw0 s28).sw0 s29
          refine use_pick d29 (S29.keep _ _ (not2 prh prc) e15) prh prc rows0 (by omega) fun ip v3 H30 hv3 d30 s30 => ?_
          obtain ⟨t3, w3, rfl, ht3, hw3⟩ := rows_at _ v3 hv3
          have S30 := S29.trans s30
          walk_at "re"
          refine ⟨pz, t1, ns, zeroA, w1, g, rfl, S30.tup _ _ z15, S30.tup _ _ ht1, by omega, by omega, by omega, fun pc H31 n31 s31 e31 => ?_⟩
          walk_at "re"
          refine ⟨pc, t3, ns, _, w3, (i : Int), rfl, e31, s31.tup _ _ (S30.tup _ _ ht3), by omega, by omega, by omega, fun pe H32 n32 s32 e32 => ?_⟩
          walk_at "re"
          have sc : sh (fun z => (zeroA z + g * w1 z) + (i : Int) * w3 z) f = some (g + (i : Int)) := by
            rw [sh_beside ndf okf hw3 (show (0 : Int) ≤ (i : Int) by omega) (fun z => zeroA z + g * w1 z), sh_beside ndf okf hw1 (show 0 ≤ g by omega) zeroA, sh_zero okf]
            show some ((0 : Int) + g + (i : Int)) = _
            rw [Int.zero_add]
          have S32 := (S30.trans s31.any).trans s32.any
          refine ⟨fv, f, pe, ns, _, by rw [sc]; rfl, f15.sw S32, okf, df, lenf, ndf, pmf, sn.2.2, e32, fun z hz => ?_, fun H33 s33 => ?_⟩
          · have := Int.mul_nonneg (show 0 ≤ g by omega) (way_pos z hw1)
            have := Int.mul_nonneg (show (0 : Int) ≤ (i : Int) by omega) (way_pos z hw3)
            show (0 : Int) ≤ 0 + g * w1 z + (i : Int) * w3 z
            omega
          refine ⟨true, rfl, iteF ?_⟩
          walk_at "re"
          have d31 := ((d30.sw0 s31).sw0 s32).sw0 s33
          refine ⟨_, _, _, _, _, _, rfl, d31, ?_⟩
          exact ((((((s20.trans s21).trans s22).trans s23).trans S27).trans (s28.any.trans s29.any)).trans s30).trans ((s31.any.trans s32.any).trans s33.any)
        · rintro σ' H20 ⟨x10, x11, x12, x13, x14, x15, rfl, d20, s20⟩
          walk_at "re"
          exact ⟨h, c, rfl, d20, fun H21 d21 s21 => q H21⟩
end
end K14
/-! K14Fin -/
namespace K14
open PySem PySem.Spec PyProof.Rows L2 Vf
section
theorem all_mk {l : PySem.W.OpenLaw} {w : World} {K : PySem.W.Frag} {h : Heap} {mg : Str → Option Value} {fa f0 f1 f2 f3 f4 f5 f6 f7 f8 f9 f10 f11 f12 f13 f14 f15 f16 f17 f18 f19 f20 f21 : Addr} (X : K.In h) (G : h.Ns mainGlobals mg) (hfa : mg "law" = some (.ref fa))
    {od0 an0 od1 an1 od2 an2 od3 an3 od4 an4 od5 an5 od6 an6 od7 an7 od8 an8 od9 an9 od10 an10 od11 an11 od12 an12 od13 an13 od14 an14 od15 an15 od16 an16 od17 an17 od18 an18 od19 an19 od20 an20 od21 an21 : Option Addr} {sl0 sl1 sl2 sl3 sl4 sl5 sl6 sl7 sl8 sl9 sl10 sl11 sl12 sl13 sl14 sl15 sl16 sl17 sl18 sl19 sl20 sl21 : Array (Option Value)} {oc0 kV0 dc0 pm0 cd0 ct0 oc1 kV1 dc1 pm1 cd1 ct1 oc2 kV2 dc2 pm2 cd2 ct2 oc3 kV3 dc3 pm3 cd3 ct3 oc4 kV4 dc4 pm4 cd4 ct4 oc5 kV5 dc5 pm5 cd5 ct5 oc6 kV6 dc6 pm6 cd6 ct6 oc7 kV7 dc7 pm7 cd7 ct7 oc8 kV8 dc8 pm8 cd8 ct8 oc9 kV9 dc9 pm9 cd9 ct9 oc10 kV10 dc10 pm10 cd10 ct10 oc11 kV11 dc11 pm11 cd11 ct11 oc12 kV12 dc12 pm12 cd12 ct12 oc13 kV13 dc13 pm13 cd13 ct13 oc14 kV14 dc14 pm14 cd14 ct14 oc15 kV15 dc15 pm15 cd15 ct15 oc16 kV16 dc16 pm16 cd16 ct16 oc17 kV17 dc17 pm17 cd17 ct17 oc18 kV18 dc18 pm18 cd18 ct18 oc19 kV19 dc19 pm19 cd19 ct19 oc20 kV20 dc20 pm20 cd20 ct20 oc21 kV21 dc21 pm21 cd21 ct21 : Value}
    (a0 : PySem.W.nsIn K mainGlobals "is_number" = some (some (.ref f0))) (l0 : K.lookup f0 = some ⟨oc0, od0, .func (PySem.W.fnOf "is_number" "is_number" (defArgs s_q_is_number) (defBody s_q_is_number) (defScope s_q_is_number) .none kV0 dc0 pm0 an0 cd0 ct0), sl0⟩) (c0 : PySem.W.codeIn K cd0 "is_number" = true) (k0 : PySem.W.keepIn K (.ref f0) = true)
    (a1 : PySem.W.nsIn K mainGlobals "are_numbers" = some (some (.ref f1))) (l1 : K.lookup f1 = some ⟨oc1, od1, .func (PySem.W.fnOf "are_numbers" "are_numbers" (defArgs s_q_are_numbers) (defBody s_q_are_numbers) (defScope s_q_are_numbers) .none kV1 dc1 pm1 an1 cd1 ct1), sl1⟩) (c1 : PySem.W.codeIn K cd1 "are_numbers" = true) (k1 : PySem.W.keepIn K (.ref f1) = true)
    (a2 : PySem.W.nsIn K mainGlobals "kinds_of" = some (some (.ref f2))) (l2 : K.lookup f2 = some ⟨oc2, od2, .func (PySem.W.fnOf "kinds_of" "kinds_of" (defArgs s_q_kinds_of) (defBody s_q_kinds_of) (defScope s_q_kinds_of) .none kV2 dc2 pm2 an2 cd2 ct2), sl2⟩) (c2 : PySem.W.codeIn K cd2 "kinds_of" = true) (k2 : PySem.W.keepIn K (.ref f2) = true)
    (a3 : PySem.W.nsIn K mainGlobals "sizes_of" = some (some (.ref f3))) (l3 : K.lookup f3 = some ⟨oc3, od3, .func (PySem.W.fnOf "sizes_of" "sizes_of" (defArgs s_q_sizes_of) (defBody s_q_sizes_of) (defScope s_q_sizes_of) .none kV3 dc3 pm3 an3 cd3 ct3), sl3⟩) (c3 : PySem.W.codeIn K cd3 "sizes_of" = true) (k3 : PySem.W.keepIn K (.ref f3) = true)
    (a4 : PySem.W.nsIn K mainGlobals "_add_sizes" = some (some (.ref f4))) (l4 : K.lookup f4 = some ⟨oc4, od4, .func (PySem.W.fnOf "_add_sizes" "_add_sizes" (defArgs s_u_add_sizes) (defBody s_u_add_sizes) (defScope s_u_add_sizes) .none kV4 dc4 pm4 an4 cd4 ct4), sl4⟩) (c4 : PySem.W.codeIn K cd4 "_add_sizes" = true) (k4 : PySem.W.keepIn K (.ref f4) = true)
    (a5 : PySem.W.nsIn K mainGlobals "share" = some (some (.ref f5))) (l5 : K.lookup f5 = some ⟨oc5, od5, .func (PySem.W.fnOf "share" "share" (defArgs s_q_share) (defBody s_q_share) (defScope s_q_share) .none kV5 dc5 pm5 an5 cd5 ct5), sl5⟩) (c5 : PySem.W.codeIn K cd5 "share" = true) (k5 : PySem.W.keepIn K (.ref f5) = true)
    (a6 : PySem.W.nsIn K mainGlobals "is_way" = some (some (.ref f6))) (l6 : K.lookup f6 = some ⟨oc6, od6, .func (PySem.W.fnOf "is_way" "is_way" (defArgs s_q_is_way) (defBody s_q_is_way) (defScope s_q_is_way) .none kV6 dc6 pm6 an6 cd6 ct6), sl6⟩) (c6 : PySem.W.codeIn K cd6 "is_way" = true) (k6 : PySem.W.keepIn K (.ref f6) = true)
    (a7 : PySem.W.nsIn K mainGlobals "_share" = some (some (.ref f7))) (l7 : K.lookup f7 = some ⟨oc7, od7, .func (PySem.W.fnOf "_share" "_share" (defArgs s_u_share) (defBody s_u_share) (defScope s_u_share) .none kV7 dc7 pm7 an7 cd7 ct7), sl7⟩) (c7 : PySem.W.codeIn K cd7 "_share" = true) (k7 : PySem.W.keepIn K (.ref f7) = true)
    (a8 : PySem.W.nsIn K mainGlobals "_law_heap" = some (some (.ref f8))) (l8 : K.lookup f8 = some ⟨oc8, od8, .func (PySem.W.fnOf "_law_heap" "_law_heap" (defArgs s_l_heap) (defBody s_l_heap) (defScope s_l_heap) .none kV8 dc8 pm8 an8 cd8 ct8), sl8⟩) (c8 : PySem.W.codeIn K cd8 "_law_heap" = true) (k8 : PySem.W.keepIn K (.ref f8) = true)
    (a9 : PySem.W.nsIn K mainGlobals "_law_draw" = some (some (.ref f9))) (l9 : K.lookup f9 = some ⟨oc9, od9, .func (PySem.W.fnOf "_law_draw" "_law_draw" (defArgs s_l_draw) (defBody s_l_draw) (defScope s_l_draw) .none kV9 dc9 pm9 an9 cd9 ct9), sl9⟩) (c9 : PySem.W.codeIn K cd9 "_law_draw" = true) (k9 : PySem.W.keepIn K (.ref f9) = true)
    (a10 : PySem.W.nsIn K mainGlobals "_law_pick" = some (some (.ref f10))) (l10 : K.lookup f10 = some ⟨oc10, od10, .func (PySem.W.fnOf "_law_pick" "_law_pick" (defArgs s_l_pick) (defBody s_l_pick) (defScope s_l_pick) .none kV10 dc10 pm10 an10 cd10 ct10), sl10⟩) (c10 : PySem.W.codeIn K cd10 "_law_pick" = true) (k10 : PySem.W.keepIn K (.ref f10) = true)
    (a11 : PySem.W.nsIn K mainGlobals "_law_names" = some (some (.ref f11))) (l11 : K.lookup f11 = some ⟨oc11, od11, .func (PySem.W.fnOf "_law_names" "_law_names" (defArgs s_l_names) (defBody s_l_names) (defScope s_l_names) .none kV11 dc11 pm11 an11 cd11 ct11), sl11⟩) (c11 : PySem.W.codeIn K cd11 "_law_names" = true) (k11 : PySem.W.keepIn K (.ref f11) = true)
    (a12 : PySem.W.nsIn K mainGlobals "_law_mixed" = some (some (.ref f12))) (l12 : K.lookup f12 = some ⟨oc12, od12, .func (PySem.W.fnOf "_law_mixed" "_law_mixed" (defArgs s_l_mixed) (defBody s_l_mixed) (defScope s_l_mixed) .none kV12 dc12 pm12 an12 cd12 ct12), sl12⟩) (c12 : PySem.W.codeIn K cd12 "_law_mixed" = true) (k12 : PySem.W.keepIn K (.ref f12) = true)
    (a13 : PySem.W.nsIn K mainGlobals "_law_formula" = some (some (.ref f13))) (l13 : K.lookup f13 = some ⟨oc13, od13, .func (PySem.W.fnOf "_law_formula" "_law_formula" (defArgs s_l_formula) (defBody s_l_formula) (defScope s_l_formula) .none kV13 dc13 pm13 an13 cd13 ct13), sl13⟩) (c13 : PySem.W.codeIn K cd13 "_law_formula" = true) (k13 : PySem.W.keepIn K (.ref f13) = true)
    (a14 : PySem.W.nsIn K mainGlobals "_law_sums" = some (some (.ref f14))) (l14 : K.lookup f14 = some ⟨oc14, od14, .func (PySem.W.fnOf "_law_sums" "_law_sums" (defArgs s_l_sums) (defBody s_l_sums) (defScope s_l_sums) .none kV14 dc14 pm14 an14 cd14 ct14), sl14⟩) (c14 : PySem.W.codeIn K cd14 "_law_sums" = true) (k14 : PySem.W.keepIn K (.ref f14) = true)
    (a15 : PySem.W.nsIn K mainGlobals "_law_laid" = some (some (.ref f15))) (l15 : K.lookup f15 = some ⟨oc15, od15, .func (PySem.W.fnOf "_law_laid" "_law_laid" (defArgs s_l_laid) (defBody s_l_laid) (defScope s_l_laid) .none kV15 dc15 pm15 an15 cd15 ct15), sl15⟩) (c15 : PySem.W.codeIn K cd15 "_law_laid" = true) (k15 : PySem.W.keepIn K (.ref f15) = true)
    (a16 : PySem.W.nsIn K mainGlobals "_law_known" = some (some (.ref f16))) (l16 : K.lookup f16 = some ⟨oc16, od16, .func (PySem.W.fnOf "_law_known" "_law_known" (defArgs s_l_known) (defBody s_l_known) (defScope s_l_known) .none kV16 dc16 pm16 an16 cd16 ct16), sl16⟩) (c16 : PySem.W.codeIn K cd16 "_law_known" = true) (k16 : PySem.W.keepIn K (.ref f16) = true)
    (a17 : PySem.W.nsIn K mainGlobals "_law_shared" = some (some (.ref f17))) (l17 : K.lookup f17 = some ⟨oc17, od17, .func (PySem.W.fnOf "_law_shared" "_law_shared" (defArgs s_l_shared) (defBody s_l_shared) (defScope s_l_shared) .none kV17 dc17 pm17 an17 cd17 ct17), sl17⟩) (c17 : PySem.W.codeIn K cd17 "_law_shared" = true) (k17 : PySem.W.keepIn K (.ref f17) = true)
    (a18 : PySem.W.nsIn K mainGlobals "_law_turned" = some (some (.ref f18))) (l18 : K.lookup f18 = some ⟨oc18, od18, .func (PySem.W.fnOf "_law_turned" "_law_turned" (defArgs s_l_turned) (defBody s_l_turned) (defScope s_l_turned) .none kV18 dc18 pm18 an18 cd18 ct18), sl18⟩) (c18 : PySem.W.codeIn K cd18 "_law_turned" = true) (k18 : PySem.W.keepIn K (.ref f18) = true)
    (a19 : PySem.W.nsIn K mainGlobals "_law_beside" = some (some (.ref f19))) (l19 : K.lookup f19 = some ⟨oc19, od19, .func (PySem.W.fnOf "_law_beside" "_law_beside" (defArgs s_l_beside) (defBody s_l_beside) (defScope s_l_beside) .none kV19 dc19 pm19 an19 cd19 ct19), sl19⟩) (c19 : PySem.W.codeIn K cd19 "_law_beside" = true) (k19 : PySem.W.keepIn K (.ref f19) = true)
    (a20 : PySem.W.nsIn K mainGlobals "_law_deep_right" = some (some (.ref f20))) (l20 : K.lookup f20 = some ⟨oc20, od20, .func (PySem.W.fnOf "_law_deep_right" "_law_deep_right" (defArgs s_l_deep_right) (defBody s_l_deep_right) (defScope s_l_deep_right) .none kV20 dc20 pm20 an20 cd20 ct20), sl20⟩) (c20 : PySem.W.codeIn K cd20 "_law_deep_right" = true) (k20 : PySem.W.keepIn K (.ref f20) = true)
    (a21 : PySem.W.nsIn K mainGlobals "law" = some (some (.ref f21))) (l21 : K.lookup f21 = some ⟨oc21, od21, .func (PySem.W.fnOf "law" "law" (defArgs s_law) (defBody s_law) (defScope s_law) .none kV21 dc21 pm21 an21 cd21 ct21), sl21⟩) (c21 : PySem.W.codeIn K cd21 "law" = true) (k21 : PySem.W.keepIn K (.ref f21) = true)
    (z_abs : PySem.W.nsIn K mainGlobals "abs" = some none)
    (z_all : PySem.W.nsIn K mainGlobals "all" = some none)
    (z_any : PySem.W.nsIn K mainGlobals "any" = some none)
    (z_bool : PySem.W.nsIn K mainGlobals "bool" = some none)
    (z_dict : PySem.W.nsIn K mainGlobals "dict" = some none)
    (z_int : PySem.W.nsIn K mainGlobals "int" = some none)
    (z_isinstance : PySem.W.nsIn K mainGlobals "isinstance" = some none)
    (z_len : PySem.W.nsIn K mainGlobals "len" = some none)
    (z_list : PySem.W.nsIn K mainGlobals "list" = some none)
    (z_max : PySem.W.nsIn K mainGlobals "max" = some none)
    (z_min : PySem.W.nsIn K mainGlobals "min" = some none)
    (z_range : PySem.W.nsIn K mainGlobals "range" = some none)
    (z_sorted : PySem.W.nsIn K mainGlobals "sorted" = some none)
    (z_sum : PySem.W.nsIn K mainGlobals "sum" = some none)
    (z_tuple : PySem.W.nsIn K mainGlobals "tuple" = some none)
    (z_zip : PySem.W.nsIn K mainGlobals "zip" = some none)
    : ∃ fd : FuncData, (∀ (s : Shared) (v : Value), BindsTo s fd ⟨[v], []⟩ [("script", v)]) ∧ ∀ base : Heap, K.In base → base.Ns mainGlobals mg → FnOk l.prog w K mg base CX0 19 fa fd ["script"] (sp_law K) := by
  have e := hfa.symm.trans (PySem.W.mg_of X G a21)
  cases e
  have F0 := fun_mk (st := s_q_is_number) l0 c0 k0
  have F1 := fun_mk (st := s_q_are_numbers) l1 c1 k1
  have F2 := fun_mk (st := s_q_kinds_of) l2 c2 k2
  have F3 := fun_mk (st := s_q_sizes_of) l3 c3 k3
  have F4 := fun_mk (st := s_u_add_sizes) l4 c4 k4
  have F5 := fun_mk (st := s_q_share) l5 c5 k5
  have F6 := fun_mk (st := s_q_is_way) l6 c6 k6
  have F7 := fun_mk (st := s_u_share) l7 c7 k7
  have F8 := fun_mk (st := s_l_heap) l8 c8 k8
  have F9 := fun_mk (st := s_l_draw) l9 c9 k9
  have F10 := fun_mk (st := s_l_pick) l10 c10 k10
  have F11 := fun_mk (st := s_l_names) l11 c11 k11
  have F12 := fun_mk (st := s_l_mixed) l12 c12 k12
  have F13 := fun_mk (st := s_l_formula) l13 c13 k13
  have F14 := fun_mk (st := s_l_sums) l14 c14 k14
  have F15 := fun_mk (st := s_l_laid) l15 c15 k15
  have F16 := fun_mk (st := s_l_known) l16 c16 k16
  have F17 := fun_mk (st := s_l_shared) l17 c17 k17
  have F18 := fun_mk (st := s_l_turned) l18 c18 k18
  have F19 := fun_mk (st := s_l_beside) l19 c19 k19
  have F20 := fun_mk (st := s_l_deep_right) l20 c20 k20
  have F21 := fun_mk (st := s_law) l21 c21 k21
  let T : Tx K mg := {
    f_q_is_number := f0, d_q_is_number := _, F_q_is_number := F0, g_q_is_number := PySem.W.mg_of X G a0, b_q_is_number := F0.binds (ps := ["value"]) (fun _ _ _ _ _ _ us hl => match us, hl with | [_], _ => rfl),
    f_q_are_numbers := f1, d_q_are_numbers := _, F_q_are_numbers := F1, g_q_are_numbers := PySem.W.mg_of X G a1, b_q_are_numbers := F1.binds (ps := ["value", "count"]) (fun _ _ _ _ _ _ us hl => match us, hl with | [_, _], _ => rfl),
    f_q_kinds_of := f2, d_q_kinds_of := _, F_q_kinds_of := F2, g_q_kinds_of := PySem.W.mg_of X G a2, b_q_kinds_of := F2.binds (ps := ["formula"]) (fun _ _ _ _ _ _ us hl => match us, hl with | [_], _ => rfl),
    f_q_sizes_of := f3, d_q_sizes_of := _, F_q_sizes_of := F3, g_q_sizes_of := PySem.W.mg_of X G a3, b_q_sizes_of := F3.binds (ps := ["formula"]) (fun _ _ _ _ _ _ us hl => match us, hl with | [_], _ => rfl),
    f_u_add_sizes := f4, d_u_add_sizes := _, F_u_add_sizes := F4, g_u_add_sizes := PySem.W.mg_of X G a4, b_u_add_sizes := F4.binds (ps := ["formula", "times", "sizes"]) (fun _ _ _ _ _ _ us hl => match us, hl with | [_, _, _], _ => rfl),
    f_q_share := f5, d_q_share := _, F_q_share := F5, g_q_share := PySem.W.mg_of X G a5, b_q_share := F5.binds (ps := ["formula", "amounts"]) (fun _ _ _ _ _ _ us hl => match us, hl with | [_, _], _ => rfl),
    f_q_is_way := f6, d_q_is_way := _, F_q_is_way := F6, g_q_is_way := PySem.W.mg_of X G a6, b_q_is_way := F6.binds (ps := ["formula", "value"]) (fun _ _ _ _ _ _ us hl => match us, hl with | [_, _], _ => rfl),
    f_u_share := f7, d_u_share := _, F_u_share := F7, g_u_share := PySem.W.mg_of X G a7, b_u_share := F7.binds (ps := ["formula", "table"]) (fun _ _ _ _ _ _ us hl => match us, hl with | [_, _], _ => rfl),
    f_l_heap := f8, d_l_heap := _, F_l_heap := F8, g_l_heap := PySem.W.mg_of X G a8, b_l_heap := F8.binds (ps := ["script"]) (fun _ _ _ _ _ _ us hl => match us, hl with | [_], _ => rfl),
    f_l_draw := f9, d_l_draw := _, F_l_draw := F9, g_l_draw := PySem.W.mg_of X G a9, b_l_draw := F9.binds (ps := ["heap", "many"]) (fun _ _ _ _ _ _ us hl => match us, hl with | [_, _], _ => rfl),
    f_l_pick := f10, d_l_pick := _, F_l_pick := F10, g_l_pick := PySem.W.mg_of X G a10, b_l_pick := F10.binds (ps := ["heap", "some"]) (fun _ _ _ _ _ _ us hl => match us, hl with | [_, _], _ => rfl),
    f_l_names := f11, d_l_names := _, F_l_names := F11, g_l_names := PySem.W.mg_of X G a11, b_l_names := F11.binds (ps := ["heap", "many"]) (fun _ _ _ _ _ _ us hl => match us, hl with | [_, _], _ => rfl),
    f_l_mixed := f12, d_l_mixed := _, F_l_mixed := F12, g_l_mixed := PySem.W.mg_of X G a12, b_l_mixed := F12.binds (ps := ["heap", "some"]) (fun _ _ _ _ _ _ us hl => match us, hl with | [_, _], _ => rfl),
    f_l_formula := f13, d_l_formula := _, F_l_formula := F13, g_l_formula := PySem.W.mg_of X G a13, b_l_formula := F13.binds (ps := ["heap", "names", "room"]) (fun _ _ _ _ _ _ us hl => match us, hl with | [_, _, _], _ => rfl),
    f_l_sums := f14, d_l_sums := _, F_l_sums := F14, g_l_sums := PySem.W.mg_of X G a14, b_l_sums := F14.binds (ps := ["some", "more"]) (fun _ _ _ _ _ _ us hl => match us, hl with | [_, _], _ => rfl),
    f_l_laid := f15, d_l_laid := _, F_l_laid := F15, g_l_laid := PySem.W.mg_of X G a15, b_l_laid := F15.binds (ps := ["formula", "names"]) (fun _ _ _ _ _ _ us hl => match us, hl with | [_, _], _ => rfl),
    f_l_known := f16, d_l_known := _, F_l_known := F16, g_l_known := PySem.W.mg_of X G a16, b_l_known := F16.binds (ps := ["ways", "zero"]) (fun _ _ _ _ _ _ us hl => match us, hl with | [_, _], _ => rfl),
    f_l_shared := f17, d_l_shared := _, F_l_shared := F17, g_l_shared := PySem.W.mg_of X G a17, b_l_shared := F17.binds (ps := ["formula", "amounts", "due"]) (fun _ _ _ _ _ _ us hl => match us, hl with | [_, _, _], _ => rfl),
    f_l_turned := f18, d_l_turned := _, F_l_turned := F18, g_l_turned := PySem.W.mg_of X G a18, b_l_turned := F18.binds (ps := ["heap", "amounts"]) (fun _ _ _ _ _ _ us hl => match us, hl with | [_, _], _ => rfl),
    f_l_beside := f19, d_l_beside := _, F_l_beside := F19, g_l_beside := PySem.W.mg_of X G a19, b_l_beside := F19.binds (ps := ["one", "other", "many"]) (fun _ _ _ _ _ _ us hl => match us, hl with | [_, _, _], _ => rfl),
    f_l_deep_right := f20, d_l_deep_right := _, F_l_deep_right := F20, g_l_deep_right := PySem.W.mg_of X G a20, b_l_deep_right := F20.binds (ps := ["heap"]) (fun _ _ _ _ _ _ us hl => match us, hl with | [_], _ => rfl),
    f_law := fa, d_law := _, F_law := F21, g_law := PySem.W.mg_of X G a21, b_law := F21.binds (ps := ["script"]) (fun _ _ _ _ _ _ us hl => match us, hl with | [_], _ => rfl),
    n_abs := PySem.W.mg_none_of X G z_abs,
    n_all := PySem.W.mg_none_of X G z_all,
    n_any := PySem.W.mg_none_of X G z_any,
    n_bool := PySem.W.mg_none_of X G z_bool,
    n_dict := PySem.W.mg_none_of X G z_dict,
    n_int := PySem.W.mg_none_of X G z_int,
    n_isinstance := PySem.W.mg_none_of X G z_isinstance,
    n_len := PySem.W.mg_none_of X G z_len,
    n_list := PySem.W.mg_none_of X G z_list,
    n_max := PySem.W.mg_none_of X G z_max,
    n_min := PySem.W.mg_none_of X G z_min,
    n_range := PySem.W.mg_none_of X G z_range,
    n_sorted := PySem.W.mg_none_of X G z_sorted,
    n_sum := PySem.W.mg_none_of X G z_sum,
    n_tuple := PySem.W.mg_none_of X G z_tuple,
    n_zip := PySem.W.mg_none_of X G z_zip }
  exact ⟨T.d_law, fun s v => .of_eq (by rfl), fun base _ _ => ok_law (P := l.prog) (w := w) (base := base) T⟩
end
end K14
open PySem PySem.W PyProof.Rows
set_option maxRecDepth 100000 in
set_option maxHeartbeats 0 in
theorem PySem.Challenge.cw_asmany_k14_whole_shares_of_sums_of_ways_holds : PySem.Challenge.rw_asmany_k14_whole_shares_of_sums_of_ways.Holds := by
  w_on; o_law; k_head; (case hw => w_witness2)
  k_fill
  refine L2.walk_of (l := PySem.Challenge.rw_asmany_k14_whole_shares_of_sums_of_ways) (n := 63) (k := 19) (x := "script") (CX := fun _ => L2.CX0) (sp := fun w => K14.sp_law _) rfl (by decide) rfl ⟨rfl, by decide, by decide⟩ (fun w h Y => PySem.W.kIn_of Y) ?F (fun _ _ a ns hl _ hS => ⟨a, ns, rfl, hS, hl, fun _ => rfl⟩) (fun _ _ _ _ _ h => h)
  case F =>
    intro w mg fa h KX G hmg
    refine' K14.all_mk KX G hmg ?a0 ?l0 ?c0 ?k0 ?a1 ?l1 ?c1 ?k1 ?a2 ?l2 ?c2 ?k2 ?a3 ?l3 ?c3 ?k3 ?a4 ?l4 ?c4 ?k4 ?a5 ?l5 ?c5 ?k5 ?a6 ?l6 ?c6 ?k6 ?a7 ?l7 ?c7 ?k7 ?a8 ?l8 ?c8 ?k8 ?a9 ?l9 ?c9 ?k9 ?a10 ?l10 ?c10 ?k10 ?a11 ?l11 ?c11 ?k11 ?a12 ?l12 ?c12 ?k12 ?a13 ?l13 ?c13 ?k13 ?a14 ?l14 ?c14 ?k14 ?a15 ?l15 ?c15 ?k15 ?a16 ?l16 ?c16 ?k16 ?a17 ?l17 ?c17 ?k17 ?a18 ?l18 ?c18 ?k18 ?a19 ?l19 ?c19 ?k19 ?a20 ?l20 ?c20 ?k20 ?a21 ?l21 ?c21 ?k21 ?z_abs ?z_all ?z_any ?z_bool ?z_dict ?z_int ?z_isinstance ?z_len ?z_list ?z_max ?z_min ?z_range ?z_sorted ?z_sum ?z_tuple ?z_zip
    (case a0 => k_is); (case l0 => k_is); (case c0 => k_is); (case k0 => k_is); (case a1 => k_is); (case l1 => k_is); (case c1 => k_is); (case k1 => k_is); (case a2 => k_is); (case l2 => k_is); (case c2 => k_is); (case k2 => k_is); (case a3 => k_is); (case l3 => k_is); (case c3 => k_is); (case k3 => k_is); (case a4 => k_is); (case l4 => k_is); (case c4 => k_is); (case k4 => k_is); (case a5 => k_is); (case l5 => k_is); (case c5 => k_is); (case k5 => k_is); (case a6 => k_is); (case l6 => k_is); (case c6 => k_is); (case k6 => k_is); (case a7 => k_is); (case l7 => k_is); (case c7 => k_is); (case k7 => k_is); (case a8 => k_is); (case l8 => k_is); (case c8 => k_is); (case k8 => k_is); (case a9 => k_is); (case l9 => k_is); (case c9 => k_is); (case k9 => k_is); (case a10 => k_is); (case l10 => k_is); (case c10 => k_is); (case k10 => k_is); (case a11 => k_is); (case l11 => k_is); (case c11 => k_is); (case k11 => k_is); (case a12 => k_is); (case l12 => k_is); (case c12 => k_is); (case k12 => k_is); (case a13 => k_is); (case l13 => k_is); (case c13 => k_is); (case k13 => k_is); (case a14 => k_is); (case l14 => k_is); (case c14 => k_is); (case k14 => k_is); (case a15 => k_is); (case l15 => k_is); (case c15 => k_is); (case k15 => k_is); (case a16 => k_is); (case l16 => k_is); (case c16 => k_is); (case k16 => k_is); (case a17 => k_is); (case l17 => k_is); (case c17 => k_is); (case k17 => k_is); (case a18 => k_is); (case l18 => k_is); (case c18 => k_is); (case k18 => k_is); (case a19 => k_is); (case l19 => k_is); (case c19 => k_is); (case k19 => k_is); (case a20 => k_is); (case l20 => k_is); (case c20 => k_is); (case k20 => k_is); (case a21 => k_is); (case l21 => k_is); (case c21 => k_is); (case k21 => k_is); (case z_abs => k_is); (case z_all => k_is); (case z_any => k_is); (case z_bool => k_is); (case z_dict => k_is); (case z_int => k_is); (case z_isinstance => k_is); (case z_len => k_is); (case z_list => k_is); (case z_max => k_is); (case z_min => k_is); (case z_range => k_is); (case z_sorted => k_is); (case z_sum => k_is); (case z_tuple => k_is); (case z_zip => k_is)
